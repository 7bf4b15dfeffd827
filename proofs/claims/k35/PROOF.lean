import PyProof.Rows.All
import Wide.All
import OpenK.AllK
import Wide.FinOn
import PyProof.EqAt
import PyProof.EqKinds
import PyProof.NeKinds
import KE.KOpsOwn
import HandS.ForMost
import HandS.Wide
import HandS.Gcd
import HandS.IsInst
import HandS.Defaults
import HandS.OwnEq
import HandS.SlotsOwn
import PySem.Challenge.RW_whoseuse_k35_rules_read
import HandS.Codes
import HandS.Words
import PyProof.StrLawsIn
import PyProof.StrBlockL
import PyProof.Rows.StrNews2
import KE.IntTextLaws
import KE.KIntText
import PyProof.StrLawsRepr
import PyProof.Rows.StrDigitsNeg
import PyProof.Rows.ReprOcc
import HandS.StrMore
import HandS.Walk
import HandS.Text
import HandS.More
import HandS.SortKw
import KE.GoesEnumKw
import KE.GoesNew
import HandS.Property
import HandS.Dict
set_option Elab.async false
set_option linter.all false
set_option maxRecDepth 100000
set_option maxHeartbeats 8000000
/-! operators of an own class: library level -/
namespace AmL
open PySem PySem.SeqAt PySem.Calls PyProof.Rows
open AutoSeq1 (wpAny_loadPart')
open MeetsSeq

section
variable {prog : Program} {w : World} {A : Around} {E : Value → Shared → Prop} {s : Shared} {K : PySem.W.Frag} {C : Addr}

theorem refl_inst {x : Addr} {v : Value} {T id : String} {f : Addr} {op : CmpOp} {ox : Obj} {od : Option Obj} {Q : Value → Shared → Prop} (hu : A.units < cLine)
    (X : K.In s.heap) (I : PySem.W.InstAt s.heap x ox C od) (hT : s.TypeIs v T) (slot : Slot T (cmpInfo op).2.1 id)
    (dec : ∀ Q' : Value → Shared → Prop, Q' .notImplemented s → wpAny (model prog w) A (call (.builtin id) [v, .ref x]) Q' E s)
    (hsub : PySem.W.subIn K (.ref C) (.type T) = some false)
    (hs : PySem.W.findIn K (.ref C) (cmpInfo op).2.2 = some (some (.ref f))) (hf : PySem.W.isFn K (.ref f) = true)
    (h : wpAny (model prog w) A (call (.ref f) [.ref x, v]) (PySem.W.CmpBack Q) E s) : wpAny (model prog w) A (richCompare op v (.ref x)) Q E s := by
  have one : wpAny (model prog w) A (tryCompare (.ref x) (cmpInfo op).2.2 v) (fun r s' => ∃ v, r = some v ∧ Q v s') E s := by
    unfold tryCompare
    refine wpAny_bind (PySem.W.ifBound_K X I hs hf (wpAny_mono h (fun v s' hv => ?_) fun _ _ e => e))
    cases v <;> first | exact hv.elim | exact wpAny_pure ⟨_, rfl, hv⟩
  have hne : (Value.type T != Value.ref C) = true := by
    rw [bne, beq_eq_false_iff_ne.mpr (fun q => by cases q)]; rfl
  rcases hi : cmpInfo op with ⟨sym, f', r'⟩
  rw [hi] at slot one
  simp only [richCompare, hi, hT.oneThing_none]
  refine wpAny_holding ?_
  refine wpAny_bind (wpAny_cRoomFor hu ?_)
  refine wpAny_bind (wpAny_typeOf hT (wpAny_bind (I.type.here ?_)))
  simp only [hne, if_true]
  refine wpAny_bind ((PySem.W.looks_subIn X hsub).here ?_)
  simp only [Bool.false_eq_true, if_false]
  refine wpAny_bind (m := tryCompare v _ (.ref x)) (wpAny_tryCompare_declines hT slot (dec _ ⟨rfl, ?_⟩))
  simp only [Bool.not_false, if_true]
  refine wpAny_bind (wpAny_mono one (fun r s' z => ?_) fun _ _ e => e)
  obtain ⟨u, rfl, hq⟩ := z
  exact wpAny_pure hq


/-- the != that object gives: not (x == b) -/
theorem try_ne {x : Addr} {b : Value} {f : Addr} {ox : Obj} {od : Option Obj} {Q : Option Value → Shared → Prop} (hu : A.units + 1 < cLine)
    (X : K.In s.heap) (I : PySem.W.InstAt s.heap x ox C od)
    (hs : PySem.W.findIn K (.ref C) "__ne__" = some (some (.builtin "object.__ne__"))) (hobj : PySem.W.mroIn K C (.type "object") = some true)
    (he : PySem.W.findIn K (.ref C) "__eq__" = some (some (.ref f))) (hf : PySem.W.isFn K (.ref f) = true)
    (h : wpAny (model prog w) A.in1 (call (.ref f) [.ref x, b]) (fun v s' => ∃ k, v = .bool k ∧ Q (some (.bool (!k))) s') E s) : wpAny (model prog w) A (tryCompare (.ref x) "__ne__" b) Q E s := by
  have sub : PySem.W.Looks (model prog w) s.heap (isInstance (.ref x) (.type "object")) true := I.type.andThen (PySem.W.looks_mroIn X hobj)
  have main : wpAny (model prog w) A (call (.builtin "object.__ne__") [.ref x, b]) (fun v s' => ∃ k, v = .bool k ∧ Q (some (.bool k)) s') E s := by
    refine wpAny_call (codeAny_call_builtin F.slot_object_ne.plain F.entry_object_ne (@PySem.W.check_slot (model prog w) _ _ s "object.__ne__" "object" "__ne__" (.ref x) [b] [] _ F.cmpKind_ne F.cmpSplit_ne sub (F.cmpArgs_ne _ _) ?_))
    unfold Builtin.«object.__ne__»
    refine wpAny_bind (m := slotArgs _ _ _) (wpAny_pure ?_)
    refine wpAny_bind (wpAny_cRoomFor hu ?_)
    refine wpAny_bind (m := callSpecialIfBound? (.ref x) _ _) (PySem.W.ifBound_K X I he hf (wpAny_mono h (fun v s' hv => ?_) fun _ _ e => e))
    obtain ⟨k, rfl, q⟩ := hv
    refine wpAny_bind (wpAny_truthy_bool ?_)
    exact wpAny_pure ⟨_, rfl, q⟩
  unfold tryCompare
  refine wpAny_bind (m := callSpecialIfBound? (.ref x) _ _) ?_
  simp only [callSpecialIfBound?, bindSpecialIfBound?]
  refine wpAny_holding (wpAny_bind (wpAny_bind (wpAny_bind (I.type.here ((PySem.W.looks_findIn X hs).here ?_)))))
  refine wpAny_bind (wpAny_askSetting (wpAny_ite ?_))
  have bd : PySem.W.Looks (model prog w) s.heap (bindSpecial (.builtin "object.__ne__") (.ref x)) (.builtin "object.__ne__", [.ref x]) := PySem.W.Looks.of_pure (F.slot_object_ne.bind _)
  have fin : wpAny (model prog w) A (call (.builtin "object.__ne__") ([.ref x] ++ [b]) >>= fun v => pure (some v)) (fun r s' => wpAny (model prog w) A (match r with | some .notImplemented | none => pure none | some v => pure (some v)) Q E s') E s := by
    refine wpAny_bind (wpAny_mono main (fun v s' h' => ?_) fun _ _ h' => h')
    obtain ⟨k, rfl, q⟩ := h'
    exact wpAny_pure (wpAny_pure q)
  split
  · exact wpAny_bind (bd.here (wpAny_pure (by exact fin)))
  · exact wpAny_tryCatch (wpAny_bind (bd.here (wpAny_pure (by exact fin))))

/-- x != b, x an instance with an own == and no own != -/
theorem ne_inst {x : Addr} {b tb : Value} {f : Addr} {ox : Obj} {od : Option Obj} {Q : Value → Shared → Prop} (hu : A.units + 1 < cLine)
    (X : K.In s.heap) (I : PySem.W.InstAt s.heap x ox C od) (hb : PySem.W.Looks (model prog w) s.heap (typeOf b) tb) (hn : PySem.W.notFirst K C tb = true)
    (hs : PySem.W.findIn K (.ref C) "__ne__" = some (some (.builtin "object.__ne__"))) (hobj : PySem.W.mroIn K C (.type "object") = some true)
    (he : PySem.W.findIn K (.ref C) "__eq__" = some (some (.ref f))) (hf : PySem.W.isFn K (.ref f) = true)
    (h : wpAny (model prog w) A.in1 (call (.ref f) [.ref x, b]) (fun v s' => ∃ k, v = .bool k ∧ Q (.bool (!k)) s') E s) : wpAny (model prog w) A (richCompare .NotEq (.ref x) b) Q E s := by
  have one : wpAny (model prog w) A (tryCompare (.ref x) "__ne__" b) (fun r s' => ∃ v, r = some v ∧ Q v s') E s :=
    try_ne hu X I hs hobj he hf (wpAny_mono h (fun v s' ⟨k, e, q⟩ => ⟨k, e, _, rfl, q⟩) fun _ _ e => e)
  unfold richCompare
  simp only [oneThing_ref]
  refine wpAny_holding (wpAny_bind (wpAny_cRoomFor (by omega) ?_))
  refine wpAny_bind (I.type.here (wpAny_bind (hb.here ?_)))
  split
  · rename_i q
    have e : PySem.W.subIn K tb (.ref C) = some false := by
      rcases Bool.or_eq_true_iff.mp hn with e | e
      · rw [beq_iff_eq.mp e] at q; simp at q
      · exact beq_iff_eq.mp e
    refine wpAny_bind ((PySem.W.looks_subIn X e).here ?_)
    simp only [Bool.false_eq_true, if_false]
    refine wpAny_bind (wpAny_mono one (fun r s' z => ?_) fun _ _ e => e)
    obtain ⟨v, rfl, hq⟩ := z
    exact wpAny_pure hq
  · refine wpAny_bind (wpAny_pure ?_)
    simp only [Bool.false_eq_true, if_false]
    refine wpAny_bind (wpAny_mono one (fun r s' z => ?_) fun _ _ e => e)
    obtain ⟨v, rfl, hq⟩ := z
    exact wpAny_pure hq

/-- v != x, v of a built-in type that declines, x an instance -/
theorem ne_refl {x : Addr} {v : Value} {T id : String} {f : Addr} {ox : Obj} {od : Option Obj} {Q : Value → Shared → Prop} (hu : A.units + 1 < cLine)
    (X : K.In s.heap) (I : PySem.W.InstAt s.heap x ox C od) (hT : s.TypeIs v T) (slot : Slot T (cmpInfo .NotEq).2.1 id)
    (dec : ∀ Q' : Value → Shared → Prop, Q' .notImplemented s → wpAny (model prog w) A (call (.builtin id) [v, .ref x]) Q' E s)
    (hsub : PySem.W.subIn K (.ref C) (.type T) = some false)
    (hs : PySem.W.findIn K (.ref C) "__ne__" = some (some (.builtin "object.__ne__"))) (hobj : PySem.W.mroIn K C (.type "object") = some true)
    (he : PySem.W.findIn K (.ref C) "__eq__" = some (some (.ref f))) (hf : PySem.W.isFn K (.ref f) = true)
    (h : wpAny (model prog w) A.in1 (call (.ref f) [.ref x, v]) (fun v s' => ∃ k, v = .bool k ∧ Q (.bool (!k)) s') E s) : wpAny (model prog w) A (richCompare .NotEq v (.ref x)) Q E s := by
  have one : wpAny (model prog w) A (tryCompare (.ref x) (cmpInfo .NotEq).2.2 v) (fun r s' => ∃ v, r = some v ∧ Q v s') E s :=
    try_ne hu X I hs hobj he hf (wpAny_mono h (fun v s' ⟨k, e, q⟩ => ⟨k, e, _, rfl, q⟩) fun _ _ e => e)
  have hne : (Value.type T != Value.ref C) = true := by
    rw [bne, beq_eq_false_iff_ne.mpr (fun q => by cases q)]; rfl
  rcases hi : cmpInfo CmpOp.NotEq with ⟨sym, f', r'⟩
  rw [hi] at slot one
  simp only [richCompare, hi, hT.oneThing_none]
  refine wpAny_holding ?_
  refine wpAny_bind (wpAny_cRoomFor (by omega) ?_)
  refine wpAny_bind (wpAny_typeOf hT (wpAny_bind (I.type.here ?_)))
  simp only [hne, if_true]
  refine wpAny_bind ((PySem.W.looks_subIn X hsub).here ?_)
  simp only [Bool.false_eq_true, if_false]
  refine wpAny_bind (m := tryCompare v _ (.ref x)) (wpAny_tryCompare_declines hT slot (dec _ ⟨rfl, ?_⟩))
  simp only [Bool.not_false, if_true]
  refine wpAny_bind (wpAny_mono one (fun r s' z => ?_) fun _ _ e => e)
  obtain ⟨u, rfl, hq⟩ := z
  exact wpAny_pure hq

/-! ### what declines beside an instance -/
section
variable {a : Addr}
abbrev PlainAt (s : Shared) (a C : Addr) : Prop := ∃ dd sl, s.heap.get? a = some { cls := .ref C, dict := dd, data := .plain, slots := sl }
theorem dec_int_eq (b : Int) (u : Tok) (C : Addr) : Meets (Builtin.«int.__eq__» ⟨[.int b u, .ref a], []⟩) (fun _ R s => PlainAt s a C ∧ R (.ok (.ret .notImplemented)) s) :=
  .of_wp fun prog w A R s h => by obtain ⟨hp, g, d, tk, os⟩ := s; obtain ⟨⟨dd, sl, hl⟩, h⟩ := h; wp_walk using wpAny_loadPart' hl, wpAny_load hl; exact ⟨_, rfl, h⟩
theorem dec_int_ne (b : Int) (u : Tok) (C : Addr) : Meets (Builtin.«int.__ne__» ⟨[.int b u, .ref a], []⟩) (fun _ R s => PlainAt s a C ∧ R (.ok (.ret .notImplemented)) s) :=
  .of_wp fun prog w A R s h => by obtain ⟨hp, g, d, tk, os⟩ := s; obtain ⟨⟨dd, sl, hl⟩, h⟩ := h; wp_walk using wpAny_loadPart' hl, wpAny_load hl; exact ⟨_, rfl, h⟩
theorem dec_int_lt (b : Int) (u : Tok) (C : Addr) : Meets (Builtin.«int.__lt__» ⟨[.int b u, .ref a], []⟩) (fun _ R s => PlainAt s a C ∧ R (.ok (.ret .notImplemented)) s) :=
  .of_wp fun prog w A R s h => by obtain ⟨hp, g, d, tk, os⟩ := s; obtain ⟨⟨dd, sl, hl⟩, h⟩ := h; wp_walk using wpAny_loadPart' hl, wpAny_load hl; exact ⟨_, rfl, h⟩
theorem dec_int_le (b : Int) (u : Tok) (C : Addr) : Meets (Builtin.«int.__le__» ⟨[.int b u, .ref a], []⟩) (fun _ R s => PlainAt s a C ∧ R (.ok (.ret .notImplemented)) s) :=
  .of_wp fun prog w A R s h => by obtain ⟨hp, g, d, tk, os⟩ := s; obtain ⟨⟨dd, sl, hl⟩, h⟩ := h; wp_walk using wpAny_loadPart' hl, wpAny_load hl; exact ⟨_, rfl, h⟩
theorem dec_int_gt (b : Int) (u : Tok) (C : Addr) : Meets (Builtin.«int.__gt__» ⟨[.int b u, .ref a], []⟩) (fun _ R s => PlainAt s a C ∧ R (.ok (.ret .notImplemented)) s) :=
  .of_wp fun prog w A R s h => by obtain ⟨hp, g, d, tk, os⟩ := s; obtain ⟨⟨dd, sl, hl⟩, h⟩ := h; wp_walk using wpAny_loadPart' hl, wpAny_load hl; exact ⟨_, rfl, h⟩
theorem dec_int_ge (b : Int) (u : Tok) (C : Addr) : Meets (Builtin.«int.__ge__» ⟨[.int b u, .ref a], []⟩) (fun _ R s => PlainAt s a C ∧ R (.ok (.ret .notImplemented)) s) :=
  .of_wp fun prog w A R s h => by obtain ⟨hp, g, d, tk, os⟩ := s; obtain ⟨⟨dd, sl, hl⟩, h⟩ := h; wp_walk using wpAny_loadPart' hl, wpAny_load hl; exact ⟨_, rfl, h⟩
theorem dec_bool_eq (b : Bool) (C : Addr) : Meets (Builtin.«int.__eq__» ⟨[.bool b, .ref a], []⟩) (fun _ R s => PlainAt s a C ∧ R (.ok (.ret .notImplemented)) s) :=
  .of_wp fun prog w A R s h => by obtain ⟨hp, g, d, tk, os⟩ := s; obtain ⟨⟨dd, sl, hl⟩, h⟩ := h; wp_walk using wpAny_loadPart' hl, wpAny_load hl; exact ⟨_, rfl, h⟩
theorem dec_none_eq : Gives (Builtin.«NoneType.__eq__» ⟨[.none, .ref a], []⟩) (.val (Value.notImplemented)) :=
  .of_wp fun M A E s Q h => by obtain ⟨hp, g, d, tk, os⟩ := s; wp_walk; exact ⟨_, rfl, h⟩
theorem dec_str_eq (b : Str) (u : Tok) (C : Addr) : Meets (Builtin.«str.__eq__» ⟨[.str b u, .ref a], []⟩) (fun _ R s => PlainAt s a C ∧ R (.ok (.ret .notImplemented)) s) :=
  .of_wp fun prog w A R s h => by obtain ⟨hp, g, d, tk, os⟩ := s; obtain ⟨⟨dd, sl, hl⟩, h⟩ := h; wp_walk using wpAny_loadPart' hl, wpAny_load hl; exact ⟨_, rfl, h⟩
theorem dec_list_eq {l : Addr} {R : Result → Shared → Prop} (sub : PySem.W.Looks (model prog w) s.heap (isInstance (.ref a) (.type "list")) false) (h : R (.ok (.ret .notImplemented)) s) :
    wpAny (model prog w) A.in1 (Builtin.«list.__eq__» ⟨[.ref l, .ref a], []⟩) (fun fin s' => match fin with | .done f => R (.ok f) s' | .again c' => c'.quiet = true ∧ codeAny (model prog w) A c' R s') (fun e s' => R (.error e) s') s := by
  refine wpAny_bind (m := slotArgs _ _ _) (wpAny_pure ?_)
  refine wpAny_bind (m := isInstance _ _) (sub.here ?_)
  wp_walk
  exact h
theorem dec_tuple_eq {l : Addr} {R : Result → Shared → Prop} (sub : PySem.W.Looks (model prog w) s.heap (isInstance (.ref a) (.type "tuple")) false) (h : R (.ok (.ret .notImplemented)) s) :
    wpAny (model prog w) A.in1 (Builtin.«tuple.__eq__» ⟨[.ref l, .ref a], []⟩) (fun fin s' => match fin with | .done f => R (.ok f) s' | .again c' => c'.quiet = true ∧ codeAny (model prog w) A c' R s') (fun e s' => R (.error e) s') s := by
  refine wpAny_bind (m := slotArgs _ _ _) (wpAny_pure ?_)
  refine wpAny_bind (m := isInstance _ _) (sub.here ?_)
  wp_walk
  exact h
theorem dec_dict_eq {l : Addr} {R : Result → Shared → Prop} (sub : PySem.W.Looks (model prog w) s.heap (isInstance (.ref a) (.type "dict")) false) (h : R (.ok (.ret .notImplemented)) s) :
    wpAny (model prog w) A.in1 (Builtin.«dict.__eq__» ⟨[.ref l, .ref a], []⟩) (fun fin s' => match fin with | .done f => R (.ok f) s' | .again c' => c'.quiet = true ∧ codeAny (model prog w) A c' R s') (fun e s' => R (.error e) s') s := by
  have e : Builtin.Dict.dictSlotArgs "__eq__" ⟨[.ref l, .ref a], []⟩ = pure (.ref l, .ref a) := by kernel_rfl
  refine wpAny_bind (m := Builtin.Dict.dictSlotArgs _ _) ?_
  rw [e]
  refine wpAny_pure ?_
  refine wpAny_bind (m := isInstance _ _) (sub.here ?_)
  wp_walk
  exact h
theorem dec_bool_ne (b : Bool) (C : Addr) : Meets (Builtin.«int.__ne__» ⟨[.bool b, .ref a], []⟩) (fun _ R s => PlainAt s a C ∧ R (.ok (.ret .notImplemented)) s) :=
  .of_wp fun prog w A R s h => by obtain ⟨hp, g, d, tk, os⟩ := s; obtain ⟨⟨dd, sl, hl⟩, h⟩ := h; wp_walk using wpAny_loadPart' hl, wpAny_load hl; exact ⟨_, rfl, h⟩
theorem dec_none_ne : Gives (Builtin.«NoneType.__ne__» ⟨[.none, .ref a], []⟩) (.val (Value.notImplemented)) :=
  .of_wp fun M A E s Q h => by obtain ⟨hp, g, d, tk, os⟩ := s; wp_walk; exact ⟨_, rfl, h⟩
theorem dec_str_ne (b : Str) (u : Tok) (C : Addr) : Meets (Builtin.«str.__ne__» ⟨[.str b u, .ref a], []⟩) (fun _ R s => PlainAt s a C ∧ R (.ok (.ret .notImplemented)) s) :=
  .of_wp fun prog w A R s h => by obtain ⟨hp, g, d, tk, os⟩ := s; obtain ⟨⟨dd, sl, hl⟩, h⟩ := h; wp_walk using wpAny_loadPart' hl, wpAny_load hl; exact ⟨_, rfl, h⟩
theorem dec_list_ne {l : Addr} {R : Result → Shared → Prop} (sub : PySem.W.Looks (model prog w) s.heap (isInstance (.ref a) (.type "list")) false) (h : R (.ok (.ret .notImplemented)) s) :
    wpAny (model prog w) A.in1 (Builtin.«list.__ne__» ⟨[.ref l, .ref a], []⟩) (fun fin s' => match fin with | .done f => R (.ok f) s' | .again c' => c'.quiet = true ∧ codeAny (model prog w) A c' R s') (fun e s' => R (.error e) s') s := by
  refine wpAny_bind (m := slotArgs _ _ _) (wpAny_pure ?_)
  refine wpAny_bind (m := isInstance _ _) (sub.here ?_)
  wp_walk
  exact h
theorem dec_tuple_ne {l : Addr} {R : Result → Shared → Prop} (sub : PySem.W.Looks (model prog w) s.heap (isInstance (.ref a) (.type "tuple")) false) (h : R (.ok (.ret .notImplemented)) s) :
    wpAny (model prog w) A.in1 (Builtin.«tuple.__ne__» ⟨[.ref l, .ref a], []⟩) (fun fin s' => match fin with | .done f => R (.ok f) s' | .again c' => c'.quiet = true ∧ codeAny (model prog w) A c' R s') (fun e s' => R (.error e) s') s := by
  refine wpAny_bind (m := slotArgs _ _ _) (wpAny_pure ?_)
  refine wpAny_bind (m := isInstance _ _) (sub.here ?_)
  wp_walk
  exact h
theorem dec_dict_ne {l : Addr} {R : Result → Shared → Prop} (sub : PySem.W.Looks (model prog w) s.heap (isInstance (.ref a) (.type "dict")) false) (h : R (.ok (.ret .notImplemented)) s) :
    wpAny (model prog w) A.in1 (Builtin.«dict.__ne__» ⟨[.ref l, .ref a], []⟩) (fun fin s' => match fin with | .done f => R (.ok f) s' | .again c' => c'.quiet = true ∧ codeAny (model prog w) A c' R s') (fun e s' => R (.error e) s') s := by
  have e : Builtin.Dict.dictSlotArgs "__ne__" ⟨[.ref l, .ref a], []⟩ = pure (.ref l, .ref a) := by kernel_rfl
  refine wpAny_bind (m := Builtin.Dict.dictSlotArgs _ _) ?_
  rw [e]
  refine wpAny_pure ?_
  refine wpAny_bind (m := isInstance _ _) (sub.here ?_)
  wp_walk
  exact h
end
end
end AmL
/-! rules over the hand layer: operators of an own class, beside built-in values too -/
namespace Am
open PySem PySem.Spec PyProof.Rows L2

/-- values of built-in types -/
inductive Bk (H : Hp) : V → String → Prop where
  | non : Bk H .non "NoneType"
  | bl (b : Bool) : Bk H (.bl b) "bool"
  | int (i : Int) : Bk H (.int i) "int"
  | str (z : Str) : Bk H (.str z) "str"
  | lst {a : Addr} {xs : List V} (h : H a = some (.lst xs)) : Bk H (.ref a) "list"
  | tup {a : Addr} {xs : List V} (h : H a = some (.tup xs)) : Bk H (.ref a) "tuple"
  | dK {a : Addr} {kvs : List (Key × V)} (h : H a = some (.dK kvs)) : Bk H (.ref a) "dict"
def isI : V → Bool
  | .int _ => true
  | _ => false
theorem Bk.same {H H' : Hp} (e : Same H H') {x : V} {T : String} (b : Bk H x T) : Bk H' x T := by
  cases b with
  | non => exact .non
  | bl b => exact .bl b
  | int i => exact .int i
  | str z => exact .str z
  | lst h => exact .lst (e _ _ h)
  | tup h => exact .tup (e _ _ h)
  | dK h => exact .dK (e _ _ h)
theorem Bk.tyOf {K : PySem.W.Frag} {H : Hp} {x : V} {T : String} (b : Bk H x T) : TyOf K H x (.type T) := by
  cases b with
  | non => exact .non
  | bl b => exact .bl b
  | int i => exact .int i
  | str z => exact .str z
  | lst h => exact .lst h
  | tup h => exact .tup h
  | dK h => exact .dK h
section
variable {X : Cx} {pins : List (Addr × Obj)} {σ : L2.St} {H : Hp} {s : Shared}
theorem Bk.typeIs {x : V} {T : String} {u : Value} (b : Bk H x T) (I : Inv X pins σ H s) (r : RelV x u) : s.TypeIs u T := by
  cases b with
  | non => cases (show u = Value.none from r); rfl
  | bl b => cases (show u = Value.bool b from r); rfl
  | int i => obtain ⟨t, q⟩ := (show ∃ t, u = Value.int i t from r); cases q; rfl
  | str z => obtain ⟨t, q⟩ := (show ∃ t, u = Value.str z t from r); cases q; rfl
  | @lst a xs ea =>
    cases (show u = Value.ref a from r)
    obtain ⟨_, _, n, _, h1⟩ := (show ObjOk X.prog X.w H s.heap a (.lst xs) from I.hok a _ ea)
    exact ⟨_, h1, rfl⟩
  | @tup a xs ea =>
    cases (show u = Value.ref a from r)
    obtain ⟨_, _, _, o, h1, h2, _⟩ := (show ObjOk X.prog X.w H s.heap a (.tup xs) from I.hok a _ ea)
    exact ⟨o, h1, h2⟩
  | @dK a kvs ea =>
    cases (show u = Value.ref a from r)
    obtain ⟨_, _, vs, _, o, es, ep, h1, h2, _⟩ := (show ObjOk X.prog X.w H s.heap a (.dK kvs) from I.hok a _ ea)
    exact ⟨o, h1, h2.1⟩
theorem looks_typeIs {M : Model} {u : Value} {T : String} (h : s.TypeIs u T) : PySem.W.Looks M s.heap (typeOf u) (.type T) := by
  intro A Q E s' k q
  have h' : s'.TypeIs u T := by
    cases u with
    | ref a => obtain ⟨o, ho, hc⟩ := h; exact ⟨o, k _ _ ho, hc⟩
    | _ => exact h
  exact wpAny_typeOf h' q
end

/-- what the operators ask of the class -/
structure OpC (K : PySem.W.Frag) (C : Addr) : Prop where
  sf : PySem.W.selfFirst K C = true
  ne : PySem.W.findIn K (.ref C) "__ne__" = some (some (.builtin "object.__ne__"))
  ob : PySem.W.mroIn K C (.type "object") = some true
  s1 : PySem.W.subIn K (.ref C) (.type "int") = some false
  s2 : PySem.W.subIn K (.ref C) (.type "bool") = some false
  s3 : PySem.W.subIn K (.ref C) (.type "NoneType") = some false
  s4 : PySem.W.subIn K (.ref C) (.type "str") = some false
  s5 : PySem.W.subIn K (.ref C) (.type "list") = some false
  s6 : PySem.W.subIn K (.ref C) (.type "tuple") = some false
  s7 : PySem.W.subIn K (.ref C) (.type "dict") = some false
  r1 : PySem.W.subIn K (.type "int") (.ref C) = some false
  r2 : PySem.W.subIn K (.type "bool") (.ref C) = some false
  r3 : PySem.W.subIn K (.type "NoneType") (.ref C) = some false
  r4 : PySem.W.subIn K (.type "str") (.ref C) = some false
  r5 : PySem.W.subIn K (.type "list") (.ref C) = some false
  r6 : PySem.W.subIn K (.type "tuple") (.ref C) = some false
  r7 : PySem.W.subIn K (.type "dict") (.ref C) = some false
theorem OpC.sub {K : PySem.W.Frag} {C : Addr} {H : Hp} {x : V} {T : String} (c : OpC K C) (b : Bk H x T) : PySem.W.subIn K (.ref C) (.type T) = some false := by
  cases b <;> first | exact c.s1 | exact c.s2 | exact c.s3 | exact c.s4 | exact c.s5 | exact c.s6 | exact c.s7
theorem OpC.rev {K : PySem.W.Frag} {C : Addr} {H : Hp} {x : V} {T : String} (c : OpC K C) (b : Bk H x T) : PySem.W.subIn K (.type T) (.ref C) = some false := by
  cases b <;> first | exact c.r1 | exact c.r2 | exact c.r3 | exact c.r4 | exact c.r5 | exact c.r6 | exact c.r7
theorem OpC.nf {K : PySem.W.Frag} {C : Addr} {H : Hp} {x : V} {T : String} (c : OpC K C) (b : Bk H x T) : PySem.W.notFirst K C (.type T) = true := by
  unfold PySem.W.notFirst
  rw [c.rev b]
  simp
theorem nf_self {K : PySem.W.Frag} {C : Addr} : PySem.W.notFirst K C (.ref C) = true := by
  unfold PySem.W.notFirst
  simp

/-- a method that an operator calls -/
structure Om (X : Cx) (C : Addr) (name : Str) (g : Addr) : Prop where
  hs : PySem.W.findIn X.K (.ref C) name = some (some (.ref g))
  hf : PySem.W.isFn X.K (.ref g) = true
/-- an instance of C, or a value of a built-in type -/
def OrB (C : Addr) (H : Hp) (y : V) : Prop := (∃ b dy gs, y = .ref b ∧ H b = some (.ins C dy gs)) ∨ ∃ T, Bk H y T
section
variable {X : Cx} {C g : Addr} {k : Nat} {fd : FuncData} {ps : List Str} {sp : Sp} {CX : CXT} {E : XK} {pins : List (Addr × Obj)} {σ : L2.St} {H : Hp} {s : Shared}
theorem inst_of {a dx : Addr} {fs : List (Str × V)} (I : Inv X pins σ H s) (ha : H a = some (.ins C dx fs)) : ∃ od, PySem.W.InstAt s.heap a (PySem.W.instObj C dx) C (some od) := by
  obtain ⟨mA, J, _⟩ := ins_get I.hok ha
  obtain ⟨od, J, _⟩ := J.look
  exact ⟨od, J⟩
theorem plain_of {a dx : Addr} {fs : List (Str × V)} (I : Inv X pins σ H s) (ha : H a = some (.ins C dx fs)) : AmL.PlainAt s a C := by
  obtain ⟨_, _, _, h, _⟩ := (show ObjOk X.prog X.w H s.heap a (.ins C dx fs) from I.hok a _ ha)
  exact ⟨_, _, h⟩
theorem orB_type {y : V} {u : Value} (c : OpC X.K C) (I : Inv X pins σ H s) (ry : RelV y u) (h : OrB C H y) : ∃ tb, PySem.W.Looks (model X.prog X.w) s.heap (typeOf u) tb ∧ PySem.W.notFirst X.K C tb = true := by
  rcases h with ⟨b, dy, gs, rfl, hb⟩ | ⟨T, b⟩
  · cases (show u = Value.ref b from ry)
    obtain ⟨od, J⟩ := inst_of I hb
    exact ⟨.ref C, J.type, nf_self⟩
  · exact ⟨.type T, looks_typeIs (b.typeIs I ry), c.nf b⟩

/-- x op y: x an instance -/
def rCmp (C : Addr) (sp : Sp) (E : XK) : R2 := fun x y H Q => (∃ a dx fs, x = .ref a ∧ H a = some (.ins C dx fs)) ∧ OrB C H y ∧ sp [x, y] H Q E
theorem op_cmpC {op : CmpOp} (hop : ∀ a b, compareOp op a b = richCompare op a b) (c : OpC X.K C) (m : Om X C (cmpInfo op).2.1 g) (F : FnOk X.prog X.w X.K X.mg X.base CX k g fd ps sp) (hr : Room k X.A) (hb : Binds X.K fd ps [])
    (hx : Passes CX X E) : OpR X (compareOp op) (rCmp C sp E) := by
  intro pins s σ H x y v u Q I rx ry h
  obtain ⟨⟨a, dx, fs, rfl, ha⟩, hy, q⟩ := h
  cases (show v = Value.ref a from rx)
  obtain ⟨od, J⟩ := inst_of I ha
  obtain ⟨tb, ht, hn⟩ := orB_type c I ry hy
  obtain ⟨mm, hF⟩ := I.fr
  rw [hop]
  refine PySem.W.cmp_K (op := op) hr.units0 hF I.ok.mod.kin J ht hn m.hs m.hf ?_
  refine wpAny_mono (run_fn (us := [.ref a, u]) (vs := [.ref a, y]) (dvs := []) F hr hb .nil hx I (.cons rfl (.cons ry .nil)) q) (fun w s' z => ?_) fun _ _ x => x
  obtain ⟨z', H', I', rz, qz⟩ := z
  exact SlX.cmpback rz ⟨z', H', I', rz, qz⟩

theorem room_in1 {A : Around} (hr : Room (k + 1) A) : Room k A.in1 := hr.in1
/-- the callee runs one builtin below -/
theorem run_in1 {Q : VK} {us : List Value} {vs : List V} (F : FnOk X.prog X.w X.K X.mg X.base CX k g fd ps sp) (hr : Room (k + 1) X.A) (hb : Binds X.K fd ps []) (hx : Passes CX X E)
    (I : Inv X pins σ H s) (r : Vals vs us) (h : sp vs H Q E) : wpAny (model X.prog X.w) X.A.in1 (call (.ref g) us) (EP X pins σ Q) X.xe s := by
  have hl : us.length = ps.length := by rw [← r.length]; exact F.len _ _ _ _ h
  refine wpAny_call (codeAny_mono (F.run X.A.in1 X.stack s H ⟨us, []⟩ us vs Q E hr.in1 I.env0.in1 (by
    have := hb s us I.kIn (by simpa using hl)
    simpa using this) r h) fun r s' hq => ?_)
  cases r with
  | error e => exact hx pins σ H s e s' I hq
  | ok fl =>
    cases fl with
    | ret u => exact I.after hq
    | next => exact False.elim hq
    | brk => exact False.elim hq
    | cont => exact False.elim hq

/-- x != y: x an instance whose class has an own ==, that hands back a truth value -/
def rNeC (C : Addr) (sp : Sp) (E : XK) : R2 := fun x y H Q => (∃ a dx fs, x = .ref a ∧ H a = some (.ins C dx fs)) ∧ OrB C H y ∧ sp [x, y] H (fun v H' => ∃ b, v = .bl b ∧ Q (.bl (!b)) H') E
theorem op_neC (c : OpC X.K C) (m : Om X C "__eq__" g) (F : FnOk X.prog X.w X.K X.mg X.base CX k g fd ps sp) (hr : Room (k + 1) X.A) (hb : Binds X.K fd ps [])
    (hx : Passes CX X E) : OpR X (compareOp .NotEq) (rNeC C sp E) := by
  intro pins s σ H x y v u Q I rx ry h
  obtain ⟨⟨a, dx, fs, rfl, ha⟩, hy, q⟩ := h
  cases (show v = Value.ref a from rx)
  obtain ⟨od, J⟩ := inst_of I ha
  obtain ⟨tb, ht, hn⟩ := orB_type c I ry hy
  show wpAny (model X.prog X.w) X.A (richCompare .NotEq _ _) (EP X pins σ Q) X.xe s
  refine AmL.ne_inst (by have := hr.units; omega) I.kIn J ht hn c.ne c.ob m.hs m.hf ?_
  refine wpAny_mono (run_in1 (us := [.ref a, u]) (vs := [.ref a, y]) F hr hb hx I (.cons rfl (.cons ry .nil)) q) (fun w s' z => ?_) fun _ _ x => x
  obtain ⟨z', H', I', rz, b, rfl, qz⟩ := z
  cases (show w = Value.bool b from rz)
  exact ⟨b, rfl, .bl (!b), H', I', rfl, qz⟩

theorem insub {a dx : Addr} {fs : List (Str × V)} {T : String} (I : Inv X pins σ H s) (ha : H a = some (.ins C dx fs)) (h : PySem.W.subIn X.K (.ref C) (.type T) = some false) :
    PySem.W.Looks (model X.prog X.w) s.heap (isInstance (.ref a) (.type T)) false := by
  obtain ⟨od, J⟩ := inst_of I ha
  exact J.type.andThen (PySem.W.looks_subIn I.kIn h)

/-- what declines -/
structure Dec (X : Cx) (op : CmpOp) (P : Hp → V → Prop) : Prop where
  run : ∀ (pins : List (Addr × Obj)) (σ : L2.St) (H : Hp) (s : Shared) (C a dx : Addr) (fs : List (Str × V)) (x : V) (v : Value), OpC X.K C → Inv X pins σ H s → RelV x v → P H x → H a = some (.ins C dx fs) →
    ∃ T id, Bk H x T ∧ Slot T (cmpInfo op).2.1 id ∧ ∀ (E : Value → Shared → Prop) (Q' : Value → Shared → Prop), Q' .notImplemented s → wpAny (model X.prog X.w) X.A (call (.builtin id) [v, .ref a]) Q' E s

/-- x op y: x a value that declines, y an instance -/
def rRef (C : Addr) (P : Hp → V → Prop) (sp : Sp) (E : XK) : R2 := fun x y H Q => P H x ∧ (∃ a dx fs, y = .ref a ∧ H a = some (.ins C dx fs)) ∧ sp [y, x] H Q E
theorem op_refC {op : CmpOp} {P : Hp → V → Prop} (hop : ∀ a b, compareOp op a b = richCompare op a b) (d : Dec X op P) (c : OpC X.K C) (m : Om X C (cmpInfo op).2.2 g) (F : FnOk X.prog X.w X.K X.mg X.base CX k g fd ps sp) (hr : Room k X.A)
    (hb : Binds X.K fd ps []) (hx : Passes CX X E) : OpR X (compareOp op) (rRef C P sp E) := by
  intro pins s σ H x y v u Q I rx ry h
  obtain ⟨hp, ⟨a, dx, fs, rfl, ha⟩, q⟩ := h
  cases (show u = Value.ref a from ry)
  obtain ⟨od, J⟩ := inst_of I ha
  obtain ⟨T, id, bk, slot, dec⟩ := d.run pins σ H s C a dx fs x v c I rx hp ha
  rw [hop]
  refine AmL.refl_inst (op := op) hr.units0 I.kIn J (bk.typeIs I rx) slot (fun Q' q' => dec _ Q' q') (c.sub bk) m.hs m.hf ?_
  refine wpAny_mono (run_fn (us := [.ref a, v]) (vs := [.ref a, x]) (dvs := []) F hr hb .nil hx I (.cons rfl (.cons rx .nil)) q) (fun w s' z => ?_) fun _ _ x => x
  obtain ⟨z', H', I', rz, qz⟩ := z
  exact SlX.cmpback rz ⟨z', H', I', rz, qz⟩
def rRefN (C : Addr) (P : Hp → V → Prop) (sp : Sp) (E : XK) : R2 := fun x y H Q => P H x ∧ (∃ a dx fs, y = .ref a ∧ H a = some (.ins C dx fs)) ∧ sp [y, x] H (fun v H' => ∃ b, v = .bl b ∧ Q (.bl (!b)) H') E
theorem op_refN {P : Hp → V → Prop} (d : Dec X .NotEq P) (c : OpC X.K C) (m : Om X C "__eq__" g) (F : FnOk X.prog X.w X.K X.mg X.base CX k g fd ps sp) (hr : Room (k + 1) X.A)
    (hb : Binds X.K fd ps []) (hx : Passes CX X E) : OpR X (compareOp .NotEq) (rRefN C P sp E) := by
  intro pins s σ H x y v u Q I rx ry h
  obtain ⟨hp, ⟨a, dx, fs, rfl, ha⟩, q⟩ := h
  cases (show u = Value.ref a from ry)
  obtain ⟨od, J⟩ := inst_of I ha
  obtain ⟨T, id, bk, slot, dec⟩ := d.run pins σ H s C a dx fs x v c I rx hp ha
  show wpAny (model X.prog X.w) X.A (richCompare .NotEq _ _) (EP X pins σ Q) X.xe s
  refine AmL.ne_refl (by have := hr.units; omega) I.kIn J (bk.typeIs I rx) slot (fun Q' q' => dec _ Q' q') (c.sub bk) c.ne c.ob m.hs m.hf ?_
  refine wpAny_mono (run_in1 (us := [.ref a, v]) (vs := [.ref a, x]) F hr hb hx I (.cons rfl (.cons rx .nil)) q) (fun w s' z => ?_) fun _ _ x => x
  obtain ⟨z', H', I', rz, b, rfl, qz⟩ := z
  cases (show w = Value.bool b from rz)
  exact ⟨b, rfl, .bl (!b), H', I', rfl, qz⟩
end
section
variable {X : Cx}
theorem meets_call {T : String} {name : Str} {id : String} {B : Builtin} {v : Value} {rest : List Value} {A : Around} {E : Value → Shared → Prop} {s : Shared} {prog : Program} {w : World} (slot : Slot T name id) (hT : s.TypeIs v T) (entry : entryFor table id = some B) (args : argsOk id ⟨v :: rest, []⟩)
    {P : Shared → Prop} (g : PySem.Meets (B ⟨v :: rest, []⟩) (fun _ R s => P s ∧ R (.ok (.ret .notImplemented)) s)) (hp : P s) (Q' : Value → Shared → Prop) (q : Q' .notImplemented s) : wpAny (model prog w) A (call (.builtin id) (v :: rest)) Q' E s :=
  wpAny_call (codeAny_call_builtin slot.plain entry (slot.check _ _ _ _ _ _ _ _ hT args (g prog w A (wants Q' E) s ⟨hp, q⟩)))
def PInt : Hp → V → Prop := fun _ x => ∃ i, x = .int i
theorem dec_intEq : Dec X .Eq PInt := ⟨fun pins σ H s C a dx fs x v c I r hp ha => by
  obtain ⟨i, rfl⟩ := hp
  obtain ⟨t, rfl⟩ := (show ∃ t, v = Value.int i t from r)
  exact ⟨"int", _, .int i, PySem.F.slot_int_eq, fun E Q' q => meets_call PySem.F.slot_int_eq (typeIs_int s i t) PySem.F.entry_int_eq (PySem.F.args_int_eq_2 _ _) (AmL.dec_int_eq i t C) (plain_of I ha) Q' q⟩⟩
theorem dec_intNotEq : Dec X .NotEq PInt := ⟨fun pins σ H s C a dx fs x v c I r hp ha => by
  obtain ⟨i, rfl⟩ := hp
  obtain ⟨t, rfl⟩ := (show ∃ t, v = Value.int i t from r)
  exact ⟨"int", _, .int i, PySem.F.slot_int_ne, fun E Q' q => meets_call PySem.F.slot_int_ne (typeIs_int s i t) PySem.F.entry_int_ne (PySem.F.args_int_ne_2 _ _) (AmL.dec_int_ne i t C) (plain_of I ha) Q' q⟩⟩
theorem dec_intLt : Dec X .Lt PInt := ⟨fun pins σ H s C a dx fs x v c I r hp ha => by
  obtain ⟨i, rfl⟩ := hp
  obtain ⟨t, rfl⟩ := (show ∃ t, v = Value.int i t from r)
  exact ⟨"int", _, .int i, PySem.F.slot_int_lt, fun E Q' q => meets_call PySem.F.slot_int_lt (typeIs_int s i t) PySem.F.entry_int_lt (PySem.F.args_int_lt_2 _ _) (AmL.dec_int_lt i t C) (plain_of I ha) Q' q⟩⟩
theorem dec_intLtE : Dec X .LtE PInt := ⟨fun pins σ H s C a dx fs x v c I r hp ha => by
  obtain ⟨i, rfl⟩ := hp
  obtain ⟨t, rfl⟩ := (show ∃ t, v = Value.int i t from r)
  exact ⟨"int", _, .int i, PySem.F.slot_int_le, fun E Q' q => meets_call PySem.F.slot_int_le (typeIs_int s i t) PySem.F.entry_int_le (PySem.F.args_int_le_2 _ _) (AmL.dec_int_le i t C) (plain_of I ha) Q' q⟩⟩
theorem dec_intGt : Dec X .Gt PInt := ⟨fun pins σ H s C a dx fs x v c I r hp ha => by
  obtain ⟨i, rfl⟩ := hp
  obtain ⟨t, rfl⟩ := (show ∃ t, v = Value.int i t from r)
  exact ⟨"int", _, .int i, PySem.F.slot_int_gt, fun E Q' q => meets_call PySem.F.slot_int_gt (typeIs_int s i t) PySem.F.entry_int_gt (PySem.F.args_int_gt_2 _ _) (AmL.dec_int_gt i t C) (plain_of I ha) Q' q⟩⟩
theorem dec_intGtE : Dec X .GtE PInt := ⟨fun pins σ H s C a dx fs x v c I r hp ha => by
  obtain ⟨i, rfl⟩ := hp
  obtain ⟨t, rfl⟩ := (show ∃ t, v = Value.int i t from r)
  exact ⟨"int", _, .int i, PySem.F.slot_int_ge, fun E Q' q => meets_call PySem.F.slot_int_ge (typeIs_int s i t) PySem.F.entry_int_ge (PySem.F.args_int_ge_2 _ _) (AmL.dec_int_ge i t C) (plain_of I ha) Q' q⟩⟩
def PBk : Hp → V → Prop := fun H x => ∃ T, Bk H x T
theorem dec_bkEq : Dec X .Eq PBk := ⟨fun pins σ H s C a dx fs x v c I r hp ha => by
  obtain ⟨T, b⟩ := hp
  refine ⟨T, ?_⟩
  have hT := b.typeIs I r
  cases b with
  | non =>
    cases (show v = Value.none from r)
    exact ⟨_, .non, PySem.F.slot_NoneType_eq, fun E Q' q => call_gives PySem.F.slot_NoneType_eq hT PySem.F.entry_NoneType_eq (PySem.F.args_NoneType_eq_2 _ _) AmL.dec_none_eq q⟩
  | bl k =>
    cases (show v = Value.bool k from r)
    exact ⟨_, .bl k, PySem.F.slot_bool_eq, fun E Q' q => meets_call PySem.F.slot_bool_eq hT PySem.F.entry_int_eq (PySem.F.args_int_eq_2 _ _) (AmL.dec_bool_eq k C) (plain_of I ha) Q' q⟩
  | int i =>
    obtain ⟨t, rfl⟩ := (show ∃ t, v = Value.int i t from r)
    exact ⟨_, .int i, PySem.F.slot_int_eq, fun E Q' q => meets_call PySem.F.slot_int_eq hT PySem.F.entry_int_eq (PySem.F.args_int_eq_2 _ _) (AmL.dec_int_eq i t C) (plain_of I ha) Q' q⟩
  | str z =>
    obtain ⟨t, rfl⟩ := (show ∃ t, v = Value.str z t from r)
    exact ⟨_, .str z, PySem.F.slot_str_eq, fun E Q' q => meets_call PySem.F.slot_str_eq hT PySem.F.entry_str_eq (PySem.F.args_str_eq_2 _ _) (AmL.dec_str_eq z t C) (plain_of I ha) Q' q⟩
  | @lst l xs ea =>
    cases (show v = Value.ref l from r)
    exact ⟨_, .lst ea, PySem.F.slot_list_eq, fun E Q' q => GQ.call_here PySem.F.slot_list_eq hT PySem.F.entry_list_eq (PySem.F.args_list_eq_2 _ _) (AmL.dec_list_eq (R := wants Q' E) (insub I ha c.s5) q)⟩
  | @tup l xs ea =>
    cases (show v = Value.ref l from r)
    exact ⟨_, .tup ea, PySem.F.slot_tuple_eq, fun E Q' q => GQ.call_here PySem.F.slot_tuple_eq hT PySem.F.entry_tuple_eq (PySem.F.args_tuple_eq_2 _ _) (AmL.dec_tuple_eq (R := wants Q' E) (insub I ha c.s6) q)⟩
  | @dK l kvs ea =>
    cases (show v = Value.ref l from r)
    exact ⟨_, .dK ea, PySem.F.slot_dict_eq, fun E Q' q => GQ.call_here PySem.F.slot_dict_eq hT PySem.F.entry_dict_eq (PySem.F.args_dict_eq_2 _ _) (AmL.dec_dict_eq (R := wants Q' E) (insub I ha c.s7) q)⟩⟩
theorem dec_bkNotEq : Dec X .NotEq PBk := ⟨fun pins σ H s C a dx fs x v c I r hp ha => by
  obtain ⟨T, b⟩ := hp
  refine ⟨T, ?_⟩
  have hT := b.typeIs I r
  cases b with
  | non =>
    cases (show v = Value.none from r)
    exact ⟨_, .non, PySem.F.slot_NoneType_ne, fun E Q' q => call_gives PySem.F.slot_NoneType_ne hT PySem.F.entry_NoneType_ne (PySem.F.args_NoneType_ne_2 _ _) AmL.dec_none_ne q⟩
  | bl k =>
    cases (show v = Value.bool k from r)
    exact ⟨_, .bl k, PySem.F.slot_bool_ne, fun E Q' q => meets_call PySem.F.slot_bool_ne hT PySem.F.entry_int_ne (PySem.F.args_int_ne_2 _ _) (AmL.dec_bool_ne k C) (plain_of I ha) Q' q⟩
  | int i =>
    obtain ⟨t, rfl⟩ := (show ∃ t, v = Value.int i t from r)
    exact ⟨_, .int i, PySem.F.slot_int_ne, fun E Q' q => meets_call PySem.F.slot_int_ne hT PySem.F.entry_int_ne (PySem.F.args_int_ne_2 _ _) (AmL.dec_int_ne i t C) (plain_of I ha) Q' q⟩
  | str z =>
    obtain ⟨t, rfl⟩ := (show ∃ t, v = Value.str z t from r)
    exact ⟨_, .str z, PySem.F.slot_str_ne, fun E Q' q => meets_call PySem.F.slot_str_ne hT PySem.F.entry_str_ne (PySem.F.args_str_ne_2 _ _) (AmL.dec_str_ne z t C) (plain_of I ha) Q' q⟩
  | @lst l xs ea =>
    cases (show v = Value.ref l from r)
    exact ⟨_, .lst ea, PySem.F.slot_list_ne, fun E Q' q => GQ.call_here PySem.F.slot_list_ne hT PySem.F.entry_list_ne (PySem.F.args_list_ne_2 _ _) (AmL.dec_list_ne (R := wants Q' E) (insub I ha c.s5) q)⟩
  | @tup l xs ea =>
    cases (show v = Value.ref l from r)
    exact ⟨_, .tup ea, PySem.F.slot_tuple_ne, fun E Q' q => GQ.call_here PySem.F.slot_tuple_ne hT PySem.F.entry_tuple_ne (PySem.F.args_tuple_ne_2 _ _) (AmL.dec_tuple_ne (R := wants Q' E) (insub I ha c.s6) q)⟩
  | @dK l kvs ea =>
    cases (show v = Value.ref l from r)
    exact ⟨_, .dK ea, PySem.F.slot_dict_ne, fun E Q' q => GQ.call_here PySem.F.slot_dict_ne hT PySem.F.entry_dict_ne (PySem.F.args_dict_ne_2 _ _) (AmL.dec_dict_ne (R := wants Q' E) (insub I ha c.s7) q)⟩⟩
end
section
variable {X : Cx} {C g : Addr} {k : Nat} {fd : FuncData} {ps : List Str} {sp : Sp} {CX : CXT} {E : XK}
/-- what an arithmetic operator asks of the type int -/
structure OpI (X : Cx) (C : Addr) (nm : String) : Prop where
  h1 : ∃ fo, PySem.W.findIn X.K (.type "int") (PySem.dunder nm) = some fo
  h2 : ∃ ro, PySem.W.findIn X.K (.type "int") (PySem.dunderR nm) = some ro
  hr : ∃ g : Addr, PySem.W.findIn X.K (.ref C) (PySem.dunderR nm) = some (some (.ref g))
/-- x op y: x an instance, y an instance or an int -/
def OrI (C : Addr) (H : Hp) (y : V) : Prop := (∃ b dy gs, y = .ref b ∧ H b = some (.ins C dy gs)) ∨ ∃ i, y = .int i
def rBin (C : Addr) (sp : Sp) (E : XK) : R2 := fun x y H Q => (∃ a dx fs, x = .ref a ∧ H a = some (.ins C dx fs)) ∧ OrI C H y ∧ sp [x, y] H Q E
theorem op_binC {op : Operator} (c : OpC X.K C) (ci : OpI X C op.info.2) (m : Om X C (PySem.dunder op.info.2) g) (F : FnOk X.prog X.w X.K X.mg X.base CX k g fd ps sp) (hr : Room k X.A) (hb : Binds X.K fd ps [])
    (hx : Passes CX X E) : OpR X (binaryOp op) (rBin C sp E) := by
  intro pins s σ H x y v u Q I rx ry h
  obtain ⟨⟨a, dx, fs, rfl, ha⟩, hy, q⟩ := h
  cases (show v = Value.ref a from rx)
  obtain ⟨od, J⟩ := inst_of I ha
  obtain ⟨mm, hF⟩ := I.fr
  have fin : wpAny (model X.prog X.w) X.A (call (.ref g) [.ref a, u]) (PySem.W.CmpBack (EP X pins σ Q)) X.xe s := by
    refine wpAny_mono (run_fn (us := [.ref a, u]) (vs := [.ref a, y]) (dvs := []) F hr hb .nil hx I (.cons rfl (.cons ry .nil)) q) (fun w s' z => ?_) fun _ _ x => x
    obtain ⟨z', H', I', rz, qz⟩ := z
    exact SlX.cmpback rz ⟨z', H', I', rz, qz⟩
  rcases hy with ⟨b, dy, gs, rfl, hb'⟩ | ⟨i, rfl⟩
  · cases (show u = Value.ref b from ry)
    obtain ⟨od', J'⟩ := inst_of I hb'
    exact PySem.W.binop_K hF I.ok.mod.kin J J'.type c.sf m.hs m.hf fin
  · obtain ⟨t, rfl⟩ := (show ∃ t, u = Value.int i t from ry)
    obtain ⟨fo, h1⟩ := ci.h1
    obtain ⟨ro, h2⟩ := ci.h2
    obtain ⟨g', h3⟩ := ci.hr
    exact PySem.W.ksp_binT hF I.ok.mod.kin J rfl c.sf m.hs m.hf h3 (.inr ⟨g', rfl⟩) h1 h2 c.r1 fin
/-- -x -/
def rNegC (C : Addr) (sp : Sp) (E : XK) : V → Hp → VK → Prop := fun x H Q => (∃ a dx fs, x = .ref a ∧ H a = some (.ins C dx fs)) ∧ sp [x] H Q E
theorem un_negC (m : Om X C "__neg__" g) (F : FnOk X.prog X.w X.K X.mg X.base CX k g fd ps sp) (hr : Room k X.A) (hb : Binds X.K fd ps [])
    (hx : Passes CX X E) : UnR X (unaryOp .USub) (rNegC C sp E) := by
  intro pins s σ H x v Q I rx h
  obtain ⟨⟨a, dx, fs, rfl, ha⟩, q⟩ := h
  cases (show v = Value.ref a from rx)
  obtain ⟨od, J⟩ := inst_of I ha
  obtain ⟨mm, hF⟩ := I.fr
  exact PySem.W.ksp_neg hF I.ok.mod.kin J m.hs m.hf (run_fn (us := [.ref a]) (vs := [.ref a]) (dvs := []) F hr hb .nil hx I (.cons rfl .nil) q)
theorem UnR.or {f : Value → Sem Value} {r r' : V → Hp → VK → Prop} (h : UnR X f r) (h' : UnR X f r') : UnR X f (fun x H Q => r x H Q ∨ r' x H Q) := by
  intro pins s σ H x v Q I rx q
  rcases q with q | q
  · exact h pins s σ H x v Q I rx q
  · exact h' pins s σ H x v Q I rx q
end
end Am
namespace Am
/-! fractions in least terms -/
def gc (n u : Int) : Int := ((Nat.gcd n.natAbs u.natAbs : Nat) : Int)
def sg (n u : Int) : Int := if u < 0 then -gc n u else gc n u
def fr (n u : Int) : Int × Int := (n.fdiv (sg n u), u.fdiv (sg n u))
def Low (n u : Int) : Prop := 0 < u ∧ Nat.gcd n.natAbs u.natAbs = 1

theorem gc_pos {n u : Int} (hu : u ≠ 0) : 0 < gc n u := by
  unfold gc
  have : 0 < Nat.gcd n.natAbs u.natAbs := Nat.gcd_pos_of_pos_right _ (by omega)
  omega
theorem gc_dvd_l (n u : Int) : gc n u ∣ n := by
  unfold gc
  exact Int.ofNat_dvd_left.mpr (Nat.gcd_dvd_left _ _)
theorem gc_dvd_r (n u : Int) : gc n u ∣ u := by
  unfold gc
  exact Int.ofNat_dvd_left.mpr (Nat.gcd_dvd_right _ _)
theorem sg_ne {n u : Int} (hu : u ≠ 0) : sg n u ≠ 0 := by
  have := gc_pos (n := n) hu
  unfold sg
  split <;> omega
theorem sg_dvd_l (n u : Int) : sg n u ∣ n := by
  unfold sg
  split
  · exact Int.neg_dvd.mpr (gc_dvd_l n u)
  · exact gc_dvd_l n u
theorem sg_dvd_r (n u : Int) : sg n u ∣ u := by
  unfold sg
  split
  · exact Int.neg_dvd.mpr (gc_dvd_r n u)
  · exact gc_dvd_r n u
theorem fdiv_mul {a b : Int} (h : b ∣ a) : a.fdiv b * b = a := by
  obtain ⟨c, rfl⟩ := h
  by_cases hb : b = 0
  · subst hb; simp
  · rw [Int.mul_fdiv_cancel_left _ hb, Int.mul_comm]
theorem fr_l {n u : Int} : (fr n u).1 * sg n u = n := fdiv_mul (sg_dvd_l n u)
theorem fr_r {n u : Int} : (fr n u).2 * sg n u = u := fdiv_mul (sg_dvd_r n u)
theorem natAbs_sg (n u : Int) : (sg n u).natAbs = Nat.gcd n.natAbs u.natAbs := by
  unfold sg gc
  split <;> omega
theorem fr_low {n u : Int} (hu : u ≠ 0) : Low (fr n u).1 (fr n u).2 := by
  have hg := gc_pos (n := n) hu
  have h1 := fr_l (n := n) (u := u)
  have h2 := fr_r (n := n) (u := u)
  have a1 : (fr n u).1.natAbs * Nat.gcd n.natAbs u.natAbs = n.natAbs := by
    rw [← natAbs_sg, ← Int.natAbs_mul, h1]
  have a2 : (fr n u).2.natAbs * Nat.gcd n.natAbs u.natAbs = u.natAbs := by
    rw [← natAbs_sg, ← Int.natAbs_mul, h2]
  have gp : 0 < Nat.gcd n.natAbs u.natAbs := Nat.gcd_pos_of_pos_right _ (by omega)
  refine ⟨?_, ?_⟩
  · by_cases c : u < 0
    · have e : sg n u = -gc n u := if_pos c
      rw [e] at h2
      refine Int.lt_of_not_ge fun q => ?_
      have : 0 ≤ (fr n u).2 * -gc n u := by
        have := Int.mul_nonneg (a := -(fr n u).2) (b := gc n u) (by omega) (by omega)
        rw [Int.neg_mul] at this
        rw [Int.mul_neg]
        exact this
      omega
    · have e : sg n u = gc n u := if_neg c
      rw [e] at h2
      refine Int.lt_of_not_ge fun q => ?_
      have : 0 ≤ -((fr n u).2 * gc n u) := by
        have := Int.mul_nonneg (a := -(fr n u).2) (b := gc n u) (by omega) (by omega)
        rw [Int.neg_mul] at this
        exact this
      omega
  · have k : Nat.gcd ((fr n u).1.natAbs * Nat.gcd n.natAbs u.natAbs) ((fr n u).2.natAbs * Nat.gcd n.natAbs u.natAbs) = Nat.gcd n.natAbs u.natAbs := by
      rw [a1, a2]
    rw [Nat.gcd_mul_right] at k
    have k' : Nat.gcd (fr n u).1.natAbs (fr n u).2.natAbs * Nat.gcd n.natAbs u.natAbs = 1 * Nat.gcd n.natAbs u.natAbs := by rw [k, Nat.one_mul]
    exact Nat.eq_of_mul_eq_mul_right gp k'
theorem Low.ne {n u : Int} (h : Low n u) : u ≠ 0 := by have := h.1; omega
theorem low_one (n : Int) : Low n 1 := ⟨by decide, by simp⟩
theorem Low.neg {n u : Int} (h : Low n u) : Low (-n) u := ⟨h.1, by rw [Int.natAbs_neg]; exact h.2⟩
theorem fr_of_low {n u : Int} (h : Low n u) : fr n u = (n, u) := by
  have e : sg n u = 1 := by
    unfold sg gc
    rw [h.2, if_neg (by have := h.1; omega)]
    rfl
  unfold fr
  rw [e, Int.fdiv_one, Int.fdiv_one]
theorem fr_pos_lt {n u : Int} (hu : 0 < u) : decide ((fr n u).1 < 0) = decide (n < 0) := by
  have e : sg n u = gc n u := if_neg (by omega)
  have hg := gc_pos (n := n) (u := u) (by omega)
  have h := fr_l (n := n) (u := u)
  rw [e] at h
  refine decide_eq_decide.mpr ⟨fun q => ?_, fun q => ?_⟩
  · have := Int.mul_neg_of_neg_of_pos q hg
    omega
  · refine Int.lt_of_not_ge fun z => ?_
    have := Int.mul_nonneg z (Int.le_of_lt hg)
    omega
theorem fr_pos_le {n u : Int} (hu : 0 < u) : decide ((fr n u).1 ≤ 0) = decide (n ≤ 0) := by
  have e : sg n u = gc n u := if_neg (by omega)
  have hg := gc_pos (n := n) (u := u) (by omega)
  have h := fr_l (n := n) (u := u)
  rw [e] at h
  refine decide_eq_decide.mpr ⟨fun q => ?_, fun q => ?_⟩
  · have := Int.mul_nonneg (a := -(fr n u).1) (b := gc n u) (by omega) (by omega)
    rw [Int.neg_mul] at this
    omega
  · refine Int.le_of_not_gt fun z => ?_
    have := Int.mul_pos z hg
    omega
theorem le_of_mul {a b c : Nat} (h : a * b = c) (hb : 0 < b) : a ≤ c := by
  rw [← h]
  exact Nat.le_mul_of_pos_right a hb
theorem fr_le1 {n u : Int} (hu : u ≠ 0) : (fr n u).1.natAbs ≤ n.natAbs := by
  have gp : 0 < Nat.gcd n.natAbs u.natAbs := Nat.gcd_pos_of_pos_right _ (by omega)
  exact le_of_mul (b := Nat.gcd n.natAbs u.natAbs) (by rw [← natAbs_sg, ← Int.natAbs_mul, fr_l]) gp
theorem fr_le2 {n u : Int} (hu : u ≠ 0) : (fr n u).2.natAbs ≤ u.natAbs := by
  have gp : 0 < Nat.gcd n.natAbs u.natAbs := Nat.gcd_pos_of_pos_right _ (by omega)
  exact le_of_mul (b := Nat.gcd n.natAbs u.natAbs) (by rw [← natAbs_sg, ← Int.natAbs_mul, fr_r]) gp
theorem sg_le {n u : Int} (hu : u ≠ 0) : (sg n u).natAbs ≤ u.natAbs := by
  rw [natAbs_sg]
  exact Nat.le_of_dvd (by omega) (Nat.gcd_dvd_right _ _)
/-- the law's own fraction: the sign ahead, then // by the greatest divisor -/
theorem law_fr {n u : Int} (hu : u ≠ 0) : fr n u = (((if u > 0 then 1 else -1) * n).fdiv (gc n u), ((if u > 0 then 1 else -1) * u).fdiv (gc n u)) := by
  unfold fr sg
  by_cases c : u < 0
  · rw [if_pos c, if_neg (by omega)]
    have e : ∀ x : Int, x.fdiv (-gc n u) = (-1 * x).fdiv (gc n u) := fun x => by
      have := Int.neg_fdiv_neg (-x) (gc n u)
      rw [Int.neg_neg] at this
      rw [this]
      congr 1
      omega
    rw [e, e]
  · rw [if_neg c, if_pos (by omega), Int.one_mul, Int.one_mul]
end Am
namespace Am
open PySem PySem.Spec PyProof.Rows L2
def top (i : Nat) : Stmt := PySem.Challenge.pw_whoseuse_k35_rules_read.main.body.getD i (.Pass ⟨0, 0, 0, 0⟩)
abbrev sF__wall : Stmt := top 1
abbrev sInitE : Stmt := inClass (top 3) 0
abbrev sWhole : Stmt := top 9
abbrev sDec : Stmt := top 10
abbrev sRule_init : Stmt := inClass (top 15) 0
abbrev sRule_text : Stmt := inClass (top 15) 1
abbrev sRule_runs : Stmt := inClass (top 15) 2
abbrev sRule_eq : Stmt := inClass (top 15) 3
abbrev sF_ways_of : Stmt := top 16
abbrev sF_way_of : Stmt := top 17
abbrev sInit : Stmt := inClass (top 21) 0
abbrev sText : Stmt := inClass (top 21) 1
abbrev sOfA : Stmt := inClass (top 21) 2
abbrev sRep : Stmt := inClass (top 21) 3
abbrev sEq : Stmt := inClass (top 21) 4
abbrev sLt : Stmt := inClass (top 21) 5
abbrev sLe : Stmt := inClass (top 21) 6
abbrev sGt : Stmt := inClass (top 21) 7
abbrev sGe : Stmt := inClass (top 21) 8
abbrev sNeg : Stmt := inClass (top 21) 9
abbrev sAbs : Stmt := inClass (top 21) 10
abbrev sAdd : Stmt := inClass (top 21) 11
abbrev sRadd : Stmt := inClass (top 21) 12
abbrev sSub : Stmt := inClass (top 21) 13
abbrev sRsub : Stmt := inClass (top 21) 14
abbrev sMul : Stmt := inClass (top 21) 15
abbrev sRmul : Stmt := inClass (top 21) 16
abbrev sFdiv : Stmt := inClass (top 21) 17
abbrev sRfdiv : Stmt := inClass (top 21) 18
abbrev sIsAm : Stmt := top 22
abbrev sParts : Stmt := top 23
abbrev sQuot : Stmt := top 24
abbrev sFig : Stmt := top 25
abbrev sJar : Stmt := top 27
abbrev sTake : Stmt := top 28
abbrev sOf : Stmt := top 29
abbrev sL_rule : Stmt := top 30
abbrev sL_rule_text : Stmt := top 31
abbrev sL_odd : Stmt := top 32
abbrev sL_right : Stmt := top 33
abbrev sLaw : Stmt := top 34
end Am
namespace Am
open PySem PySem.Spec PyProof.Rows L2

/-! ### data -/
def pf (n u : Int) : List (Str × V) := putF "under" (.int u) (putF "number" (.int n) [])
theorem nu_ : ¬ (("number" : Str) = "under") := by decide +kernel
theorem un_ : ¬ (("under" : Str) = "number") := by decide +kernel
theorem pf_number (n u : Int) : (pf n u).lookup ("number" : Str) = some (.int n) := by
  unfold pf
  rw [lookup_putF, if_neg nu_, lookup_putF, if_pos rfl]
theorem pf_under (n u : Int) : (pf n u).lookup ("under" : Str) = some (.int u) := by
  unfold pf
  rw [lookup_putF, if_pos rfl]
/-- an Amount in least terms -/
def AmAt (C : Addr) (H : Hp) (v : V) (n u : Int) : Prop := Low n u ∧ ∃ a dx, v = .ref a ∧ H a = some (.ins C dx (pf n u))
/-- an Amount or an integer -/
def AmV (C : Addr) (H : Hp) (v : V) (n u : Int) : Prop := AmAt C H v n u ∨ (v = .int n ∧ u = 1)
theorem AmAt.same {C : Addr} {H H' : Hp} {v : V} {n u : Int} (e : Same H H') (h : AmAt C H v n u) : AmAt C H' v n u := by
  obtain ⟨l, a, dx, rfl, h⟩ := h
  exact ⟨l, a, dx, rfl, e _ _ h⟩
theorem AmV.same {C : Addr} {H H' : Hp} {v : V} {n u : Int} (e : Same H H') (h : AmV C H v n u) : AmV C H' v n u := h.elim (fun h => .inl (h.same e)) .inr
theorem AmAt.low {C : Addr} {H : Hp} {v : V} {n u : Int} (h : AmAt C H v n u) : Low n u := h.1
theorem AmV.low {C : Addr} {H : Hp} {v : V} {n u : Int} (h : AmV C H v n u) : Low n u := h.elim (fun h => h.1) fun ⟨_, e⟩ => by rw [e]; exact low_one n
theorem AmAt.inst {C : Addr} {H : Hp} {v : V} {n u : Int} (h : AmAt C H v n u) : ∃ a dx fs, v = .ref a ∧ H a = some (.ins C dx fs) := by
  obtain ⟨l, a, dx, rfl, h⟩ := h
  exact ⟨a, dx, _, rfl, h⟩
theorem AmV.orB {C : Addr} {H : Hp} {v : V} {n u : Int} (h : AmV C H v n u) : OrB C H v := by
  rcases h with h | ⟨rfl, _⟩
  · obtain ⟨a, dx, fs, rfl, ha⟩ := h.inst
    exact .inl ⟨a, dx, fs, rfl, ha⟩
  · exact .inr ⟨_, .int n⟩
theorem AmV.orI {C : Addr} {H : Hp} {v : V} {n u : Int} (h : AmV C H v n u) : OrI C H v := by
  rcases h with h | ⟨rfl, _⟩
  · obtain ⟨a, dx, fs, rfl, ha⟩ := h.inst
    exact .inl ⟨a, dx, fs, rfl, ha⟩
  · exact .inr ⟨n, rfl⟩
def Bd (k : Nat) (n : Int) : Prop := n.natAbs < 2 ^ k
theorem same_upd {H : Hp} {p : Addr} {o : HO} (h : H p = none) : Same H (upd H p o) := fun b u e => by rw [upd_ne (ne_of_none e h)]; exact e

/-! ### facts of the text -/
structure Txt (K : PySem.W.Frag) (mg : Str → Option Value) (C : Addr) : Prop where
  cl : Cls K C
  op : OpC K C
  ca : PySem.W.findIn K (.ref C) "__class__" = some (some (.builtin "object.__class__"))
  cn : PySem.W.specialIn K (.builtin "object.__class__") "__get__" = some (some (.builtin "getset_descriptor.__get__"))
  ct : PySem.W.takesIn K (.builtin "object.__class__") = some true
  kC : PySem.W.kitOne K (.ref C) (.ref C) = some true
  kI : PySem.W.kitOne K (.ref C) (.type "int") = some false
  k1 : PySem.W.kitOne K (.type "int") (.ref C) = some false
  k2 : PySem.W.kitOne K (.type "bool") (.ref C) = some false
  k3 : PySem.W.kitOne K (.type "NoneType") (.ref C) = some false
  k4 : PySem.W.kitOne K (.type "str") (.ref C) = some false
  k5 : PySem.W.kitOne K (.type "list") (.ref C) = some false
  k6 : PySem.W.kitOne K (.type "tuple") (.ref C) = some false
  k7 : PySem.W.kitOne K (.type "dict") (.ref C) = some false
  nN : NoAttr K C "number"
  nU : NoAttr K C "under"
  mgC : mg "Amount" = some (.ref C)
  isi : mg "isinstance" = none
  int : mg "int" = none
  bool : mg "bool" = none
  gcd : mg "gcd" = some (.builtin "math.gcd")
theorem Txt.kOf {K : PySem.W.Frag} {mg : Str → Option Value} {C : Addr} {H : Hp} {x : V} {T : String} (t : Txt K mg C) (b : Bk H x T) : PySem.W.kitOne K (.type T) (.ref C) = some false := by
  cases b <;> first | exact t.k1 | exact t.k2 | exact t.k3 | exact t.k4 | exact t.k5 | exact t.k6 | exact t.k7
def isIB : V → Bool
  | .int _ => true
  | .bl _ => true
  | _ => false
def isB : V → Bool
  | .bl _ => true
  | _ => false
theorem kB_int {K : PySem.W.Frag} {H : Hp} {x : V} {T : String} (b : Bk H x T) : PySem.W.kitOne K (.type T) (.type "int") = some (isIB x) := by
  cases b with
  | non => exact kit_ty (show kitB "NoneType" "int" = some false by decide +kernel)
  | bl => exact kit_ty (show kitB "bool" "int" = some true by decide +kernel)
  | int => exact kit_ty (show kitB "int" "int" = some true by decide +kernel)
  | str => exact kit_ty (show kitB "str" "int" = some false by decide +kernel)
  | lst => exact kit_ty (show kitB "list" "int" = some false by decide +kernel)
  | tup => exact kit_ty (show kitB "tuple" "int" = some false by decide +kernel)
  | dK => exact kit_ty (show kitB "dict" "int" = some false by decide +kernel)
theorem kB_bool {K : PySem.W.Frag} {H : Hp} {x : V} {T : String} (b : Bk H x T) : PySem.W.kitOne K (.type T) (.type "bool") = some (isB x) := by
  cases b with
  | non => exact kit_ty (show kitB "NoneType" "bool" = some false by decide +kernel)
  | bl => exact kit_ty (show kitB "bool" "bool" = some true by decide +kernel)
  | int => exact kit_ty (show kitB "int" "bool" = some false by decide +kernel)
  | str => exact kit_ty (show kitB "str" "bool" = some false by decide +kernel)
  | lst => exact kit_ty (show kitB "list" "bool" = some false by decide +kernel)
  | tup => exact kit_ty (show kitB "tuple" "bool" = some false by decide +kernel)
  | dK => exact kit_ty (show kitB "dict" "bool" = some false by decide +kernel)
theorem Txt.tyC {K : PySem.W.Frag} {mg : Str → Option Value} {C a dx : Addr} {H : Hp} {fs : List (Str × V)} (t : Txt K mg C) (h : H a = some (.ins C dx fs)) : TyX K H (.ref a) (.ref C) :=
  .base (.ins h t.cl t.ca t.cn t.ct t.op.ob)

/-! ### promises -/
def spWhole (C : Addr) : Sp := fun vs H Q _ => ∃ v, vs = [v] ∧ ((∃ T, Bk H v T) ∨ ∃ a dx fs, v = .ref a ∧ H a = some (.ins C dx fs)) ∧ Q (.bl (isI v)) H
def IsAm (C : Addr) (H : Hp) (v : V) (b : Bool) : Prop := ((∃ T, Bk H v T) ∧ b = isI v) ∨ ((∃ a dx fs, v = .ref a ∧ H a = some (.ins C dx fs)) ∧ b = true)
def spIsAm (C : Addr) : Sp := fun vs H Q _ => ∃ v b, vs = [v] ∧ IsAm C H v b ∧ Q (.bl b) H
theorem AmV.isAm {C : Addr} {H : Hp} {y : V} {n u : Int} (h : AmV C H y n u) : IsAm C H y true := by
  rcases h with h | ⟨rfl, _⟩
  · exact .inr ⟨h.inst, rfl⟩
  · exact .inl ⟨⟨_, .int n⟩, rfl⟩
def spParts (C : Addr) : Sp := fun vs H Q _ => ∃ v n u, vs = [v] ∧ AmV C H v n u ∧ ∀ p, H p = none → Q (.ref p) (upd H p (.tup [.int n, .int u]))
def spInit (C : Addr) : Sp := fun vs H Q _ => ∃ x dx n u, vs = [.ref x, .int n, .int u] ∧ H x = some (.ins C dx []) ∧ u ≠ 0 ∧ Bd 8900 n ∧ Bd 8900 u ∧
  ∀ H' : Hp, H' x = some (.ins C dx (pf (fr n u).1 (fr n u).2)) → (∀ b o, H b = some o → b ≠ x → H' b = some o) → Q .non H'
/-- // by any divisor below 2 ^ 9000 -/
theorem op_fdivX {X : Cx} : OpR X (binaryOp .FloorDiv) (rI (fun _ j => j ≠ 0 ∧ j.natAbs.log2 < 9000) fun i j => .int (i.fdiv j)) := opI fun i j _ _ _ _ _ hc q =>
  floordiv_int hc.1 q (.inl (PyProof.noPylong_of_log2 hc.2))

section
variable {P : Program} {w : World} {K : PySem.W.Frag} {mg : Str → Option Value} {base : Heap}
theorem b_isi : bootBuiltins "isinstance" = some (.builtin "isinstance") := by decide +kernel
theorem b_int : bootBuiltins "int" = some (.type "int") := by decide +kernel
theorem b_bool : bootBuiltins "bool" = some (.type "bool") := by decide +kernel

theorem scWhole : FnScope ["value"] ["value"] (defScope sWhole) := ⟨rfl, rfl, rfl, by decide +kernel, rfl, by decide +kernel, by decide +kernel⟩
theorem ok_whole {f C : Addr} {fd : FuncData} (F : Fun K "is_whole" "is_whole" sWhole f fd) (T : Txt K mg C) : FnOk P w K mg base CX0 1 f fd ["value"] (spWhole C) := by
  refine F.ok scWhole (fun vs H Q E h => ?_) (fun cdv A outer s H vs Q E hr h => ?_)
  · obtain ⟨v, rfl, _⟩ := h
    rfl
  · obtain ⟨v, rfl, hv, q⟩ := h
    refine ⟨_, pss_one (ps_ret (pe_and (pe_callB call_isi (by rfl) T.isi b_isi (pa_cons (pv 0) (pa_cons (pe_bltn (v := .ty "int") (by rfl) T.int b_int rfl) pa_nil)))
      (pe_one (pe_not (pe_callB call_isi (by rfl) T.isi b_isi (pa_cons (pv 0) (pa_cons (pe_bltn (v := .ty "bool") (by rfl) T.bool b_bool rfl) pa_nil))))))), ?_⟩
    rcases hv with ⟨Ty, b⟩ | ⟨a, dx, fs, rfl, ha⟩
    · refine ⟨_, rfl, v, .ty "int", .type Ty, .type "int", _, rfl, .ty _, .base b.tyOf, kB_int b, _, rfl, ?_⟩
      have kb := kB_bool (K := K) b
      cases v with
      | int i => exact iteT ⟨_, rfl, _, .ty "bool", .type Ty, .type "bool", _, rfl, .ty _, .base b.tyOf, kb, _, rfl, q⟩
      | bl i => exact iteT ⟨_, rfl, _, .ty "bool", .type Ty, .type "bool", _, rfl, .ty _, .base b.tyOf, kb, _, rfl, q⟩
      | _ => exact iteF q
    · exact ⟨_, rfl, .ref a, .ty "int", .ref C, .type "int", _, rfl, .ty _, T.tyC ha, T.kI, _, rfl, iteF q⟩
theorem scIsAm : FnScope ["value"] ["value"] (defScope sIsAm) := ⟨rfl, rfl, rfl, by decide +kernel, rfl, by decide +kernel, by decide +kernel⟩
theorem ok_isAm {f C fW : Addr} {fd fdW : FuncData} (F : Fun K "is_amount" "is_amount" sIsAm f fd) (T : Txt K mg C) (GW : FnOk P w K mg base CX0 1 fW fdW ["value"] (spWhole C)) (bW : Binds K fdW ["value"] []) (mW : mg "is_whole" = some (.ref fW)) (kW : PySem.W.keepIn K (.ref fW) = true) :
    FnOk P w K mg base CX0 2 f fd ["value"] (spIsAm C) := by
  refine F.ok scIsAm (fun vs H Q E h => ?_) (fun cdv A outer s H vs Q E hr h => ?_)
  · obtain ⟨v, b, rfl, _⟩ := h
    rfl
  · obtain ⟨v, k, rfl, hv, q⟩ := h
    refine ⟨_, pss_one (ps_ret (pe_or (pe_callB call_isi (by rfl) T.isi b_isi (pa_cons (pv 0) (pa_cons (pe_glob (v := .ref C) (by rfl) T.mgC rfl) pa_nil)))
      (pe_one (pe_call GW hr (by rfl) mW kW bW .nil pass0 (pa_cons (pv 0) pa_nil))))), ?_⟩
    rcases hv with ⟨⟨Ty, b⟩, rfl⟩ | ⟨⟨a, dx, fs, rfl, ha⟩, rfl⟩
    · exact ⟨_, rfl, v, .ref C, .type Ty, .ref C, _, rfl, .own _, .base b.tyOf, T.kOf b, _, rfl, iteF ⟨_, rfl, _, rfl, .inl ⟨Ty, b⟩, q⟩⟩
    · exact ⟨_, rfl, .ref a, .ref C, .ref C, .ref C, _, rfl, .own _, T.tyC ha, T.kC, _, rfl, iteT q⟩
theorem scParts : FnScope ["amount"] ["amount"] (defScope sParts) := ⟨rfl, rfl, rfl, by decide +kernel, rfl, by decide +kernel, by decide +kernel⟩
theorem ok_parts {f C : Addr} {fd : FuncData} (F : Fun K "parts" "parts" sParts f fd) (T : Txt K mg C) : FnOk P w K mg base CX0 1 f fd ["amount"] (spParts C) := by
  refine F.ok scParts (fun vs H Q E h => ?_) (fun cdv A outer s H vs Q E hr h => ?_)
  · obtain ⟨v, n, u, rfl, _⟩ := h
    rfl
  · obtain ⟨v, n, u, rfl, hv, q⟩ := h
    refine ⟨_, pss_cons (ps_if (pt_val (pe_callB call_isi (by rfl) T.isi b_isi (pa_cons (pv 0) (pa_cons (pe_glob (v := .ref C) (by rfl) T.mgC rfl) pa_nil))))
      (pss_one (ps_ret (pe_tup (pa_cons (pe_fld (pv 0) rfl) (pa_cons (pe_fld (pv 0) rfl) pa_nil))))) pss_nil)
      (pss_one (ps_ret (pe_tup (pa_cons (pv 0) (pa_cons pe_int pa_nil))))), ?_⟩
    rcases hv with ⟨l, a, dx, rfl, ha⟩ | ⟨rfl, rfl⟩
    · refine ⟨_, rfl, .ref a, .ref C, .ref C, .ref C, _, rfl, .own _, T.tyC ha, T.kC, _, rfl, iteT ?_⟩
      exact ⟨_, rfl, a, C, dx, _, _, rfl, ha, T.cl, T.nN, pf_number _ _, _, rfl, a, C, dx, _, _, rfl, ha, T.cl, T.nU, pf_under _ _, (by show 2 ≤ sizeLine; decide), q⟩
    · refine ⟨_, rfl, .int n, .ref C, .type "int", .ref C, _, rfl, .own _, .base (.int n), T.k1, _, rfl, iteF ?_⟩
      exact ⟨_, rfl, (by show 2 ≤ sizeLine; decide), q⟩
end
end Am
namespace Am
open PySem PySem.Spec PyProof.Rows L2
abbrev FInit (K : PySem.W.Frag) (f : Addr) (fd : FuncData) : Prop := FunD K "__init__" "Amount.__init__" (defArgs sInit) (defBody sInit) (defScope sInit) [.int 1] [] f fd
theorem log2_lt {n : Nat} {k : Nat} (hk : 0 < k) (h : n < 2 ^ k) : n.log2 < k := PySem.Flt.log2_lt_of hk h
theorem bd_sg {n u : Int} (hu : u ≠ 0) (h : Bd 8900 u) : (sg n u).natAbs.log2 < 9000 := Nat.lt_trans (log2_lt (by decide) (Nat.lt_of_le_of_lt (sg_le hu) h)) (by decide)
section
variable {P : Program} {w : World} {K : PySem.W.Frag} {mg : Str → Option Value} {base : Heap}
theorem scInit : FnScope ["self", "number", "under", "shared"] ["self", "number", "under"] (defScope sInit) := ⟨rfl, rfl, rfl, by decide +kernel, rfl, by decide +kernel, by decide +kernel⟩
theorem ok_init {f C fW : Addr} {fd fdW : FuncData} (F : FInit K f fd) (T : Txt K mg C) (GW : FnOk P w K mg base CX0 1 fW fdW ["value"] (spWhole C)) (bW : Binds K fdW ["value"] []) (mW : mg "is_whole" = some (.ref fW)) (kW : PySem.W.keepIn K (.ref fW) = true) :
    FnOk P w K mg base CX0 2 f fd ["self", "number", "under"] (spInit C) := by
  refine F.ok scInit (fun vs H Q E h => ?_) (fun cdv A outer s H vs Q E hr h => ?_)
  · obtain ⟨x, dx, n, u, rfl, _⟩ := h
    rfl
  · obtain ⟨x, dx, n, u, rfl, hx, hu, bn, bu, q⟩ := h
    refine ⟨_, pss_cons (ps_if (PW.pt (pw_or (pt_not (pt_val (pe_call GW hr (by rfl) mW kW bW .nil pass0 (pa_cons (pv 1) pa_nil)))) (pw_or (pt_not (pt_val (pe_call GW hr (by rfl) mW kW bW .nil pass0 (pa_cons (pv 2) pa_nil)))) (pw_or1 (pt_cmpR op_eq (pv 2) pe_int (nomark _)))))) (pss_one ps_never) pss_nil)
      (pss_cons (ps_set (i := 3) scInit.nd rfl (.inl rfl) (pe_callBfun cr_gcd (by rfl) T.gcd (pa_cons (pv 1) (pa_cons (pv 2) pa_nil))))
      (pss_cons (ps_if (pt_cmpR op_lt (pv 2) pe_int (nomark _)) (pss_one (ps_set (i := 3) scInit.nd rfl (.inl rfl) (pe_un un_neg (pv 3)))) pss_nil)
      (pss_cons (ps_fld (pv 0) (pe_op op_fdivX (pv 1) (pv 3)) rfl)
      (pss_one (ps_fld (pv 0) (pe_op op_fdivX (pv 2) (pv 3)) rfl))))), ?_⟩
    have d0 : decide (V.int u = V.int 0) = false := decide_eq_false (fun e => hu (V.int.inj e))
    refine ⟨_, rfl, _, rfl, .inl ⟨_, .int n⟩, _, rfl, iteF ⟨_, rfl, _, rfl, .inl ⟨_, .int u⟩, _, rfl, iteF ⟨_, rfl, rfl, _, rfl, ?_⟩⟩⟩
    rw [d0]
    refine iteF ?_
    refine ⟨_, rfl, _, rfl, _, _, rfl, ?_⟩
    have fin : ∀ s, s = sg n u → tSeq (sFld K (tVar 0) (tOp (rI (fun _ j => j ≠ 0 ∧ j.natAbs.log2 < 9000) fun i j => .int (i.fdiv j)) (tVar 1) (tVar 3)) "number") (sFld K (tVar 0) (tOp (rI (fun _ j => j ≠ 0 ∧ j.natAbs.log2 < 9000) fun i j => .int (i.fdiv j)) (tVar 2) (tVar 3)) "under")
        { nx := fun _ H' => Q .non H', rt := Q } [some (.ref x), some (.int n), some (.int u), some (.int s)] H := by
      rintro s rfl
      refine ⟨_, rfl, _, rfl, _, _, rfl, rfl, ⟨sg_ne hu, bd_sg hu bu⟩, _, rfl, x, C, dx, _, rfl, hx, T.cl, T.nN, (by show 0 < 1000; decide), ?_⟩
      refine ⟨_, rfl, _, rfl, _, _, rfl, rfl, ⟨sg_ne hu, bd_sg hu bu⟩, _, rfl, x, C, dx, _, rfl, upd_same, T.cl, T.nU, (by show 1 < 1000; decide), ?_⟩
      exact q _ upd_same fun b o e nb => by rw [upd_ne nb, upd_ne nb]; exact e
    refine ⟨_, rfl, _, _, rfl, rfl, _, rfl, ite2 (fun c => ?_) (fun c => ?_)⟩
    · refine ⟨_, rfl, _, rfl, ?_⟩
      exact fin _ (by unfold sg; rw [if_pos (of_decide_eq_true c)]; rfl)
    · exact fin _ (by unfold sg; rw [if_neg (fun z => c (decide_eq_true z))]; rfl)
end
end Am
namespace Am
open PySem PySem.Spec PyProof.Rows L2
/-- a def of the module that keeps its promise -/
def GotF (P : Program) (w : World) (K : PySem.W.Frag) (mg : Str → Option Value) (base : Heap) (x : Str) (k : Nat) (ps : List Str) (sp : Sp) : Prop :=
  ∃ (f : Addr) (fd : FuncData), FnOk P w K mg base CX0 k f fd ps sp ∧ Binds K fd ps [] ∧ mg x = some (.ref f) ∧ PySem.W.keepIn K (.ref f) = true
/-- a method of the class -/
def GotM (P : Program) (w : World) (K : PySem.W.Frag) (mg : Str → Option Value) (base : Heap) (C : Addr) (x : Str) (k : Nat) (ps : List Str) (sp : Sp) : Prop :=
  ∃ (f : Addr) (fd : FuncData), FnOk P w K mg base CX0 k f fd ps sp ∧ Binds K fd ps [] ∧ PySem.W.findIn K (.ref C) x = some (some (.ref f)) ∧ PySem.W.isFn K (.ref f) = true
/-- the making of an Amount -/
def GotI (P : Program) (w : World) (K : PySem.W.Frag) (mg : Str → Option Value) (base : Heap) (C : Addr) : Prop :=
  ∃ (f : Addr) (fd : FuncData), FnOk P w K mg base CX0 2 f fd ["self", "number", "under"] (spInit C) ∧ Binds K fd ["self", "number", "under"] [] ∧ (∃ ds, Vals [V.int 1] ds ∧ Binds K fd ["self", "number", "under"] ds) ∧ Mk K C f
structure OpIK (K : PySem.W.Frag) (C : Addr) (nm : String) : Prop where
  h1 : ∃ fo, PySem.W.findIn K (.type "int") (PySem.dunder nm) = some fo
  h2 : ∃ ro, PySem.W.findIn K (.type "int") (PySem.dunderR nm) = some ro
  hr : ∃ g : Addr, PySem.W.findIn K (.ref C) (PySem.dunderR nm) = some (some (.ref g))

theorem make_read {C : Addr} {H : Hp} {Q : VK} {E : XK} {n u : Int} (hu : u ≠ 0) (bn : Bd 8900 n) (bu : Bd 8900 u) (q : ∀ v H', Same H H' → AmAt C H' v (fr n u).1 (fr n u).2 → Q v H') :
    ∀ x dx, H x = none → H dx = none → dx ≠ x → spInit C [.ref x, .int n, .int u] (upd (upd H dx (.own x)) x (.ins C dx [])) (fun v H2 => v = .non ∧ Q (.ref x) H2) E :=
  fun x dx nx ndx nex => ⟨x, dx, n, u, rfl, upd_same, hu, bn, bu, fun H' hx k => ⟨rfl, q _ _ (Same.made nx ndx k) ⟨fr_low hu, x, dx, rfl, hx⟩⟩⟩

theorem Bd.mono {k j : Nat} {n : Int} (h : Bd k n) (hj : k ≤ j) : Bd j n := Nat.lt_of_lt_of_le h (Nat.pow_le_pow_right (by decide) hj)
theorem Bd.neg {k : Nat} {n : Int} (h : Bd k n) : Bd k (-n) := by unfold Bd; rw [Int.natAbs_neg]; exact h
theorem Bd.mul {k j : Nat} {n m : Int} (h : Bd k n) (h' : Bd j m) : Bd (k + j) (n * m) := wide_lt h h'
theorem Bd.add {k : Nat} {n m : Int} (h : Bd k n) (h' : Bd k m) : Bd (k + 1) (n + m) := by
  unfold Bd at *
  have e : 2 ^ (k + 1) = 2 ^ k + 2 ^ k := by omega
  have := Int.natAbs_add_le n m
  omega
theorem Bd.cmul {k : Nat} {n m : Int} (h : Bd k n) (h' : Bd k m) (h0 : 0 < k) (hk : k ≤ 5000) : CMulW n m := wide_mul h h' h0 h0 (by omega)

def spEq (C : Addr) : Sp := fun vs H Q _ => ∃ a y n u, vs = [a, y] ∧ AmAt C H a n u ∧ ((∃ n' u', AmV C H y n' u' ∧ ∀ H', Same H H' → Q (.bl (decide (n = n' ∧ u = u'))) H') ∨ ((∃ T, Bk H y T) ∧ isI y = false ∧ Q (.bl false) H))
def spNeg (C : Addr) : Sp := fun vs H Q _ => ∃ a n u, vs = [a] ∧ AmAt C H a n u ∧ Bd 8900 n ∧ Bd 8900 u ∧ ∀ v H', Same H H' → AmAt C H' v (-n) u → Q v H'
def spAdd (C : Addr) : Sp := fun vs H Q _ => ∃ a y n u n' u', vs = [a, y] ∧ AmAt C H a n u ∧ AmV C H y n' u' ∧ (Bd 4000 n ∧ Bd 4000 u ∧ Bd 4000 n' ∧ Bd 4000 u') ∧
  ∀ v H', Same H H' → AmAt C H' v (fr (n * u' + n' * u) (u * u')).1 (fr (n * u' + n' * u) (u * u')).2 → Q v H'
def spSub (C : Addr) : Sp := fun vs H Q _ => ∃ a y n u n' u', vs = [a, y] ∧ AmAt C H a n u ∧ AmV C H y n' u' ∧ (Bd 4000 n ∧ Bd 4000 u ∧ Bd 4000 n' ∧ Bd 4000 u') ∧
  ∀ v H', Same H H' → AmAt C H' v (fr (n * u' + -n' * u) (u * u')).1 (fr (n * u' + -n' * u) (u * u')).2 → Q v H'
def spCmp (C : Addr) (r : Int → Bool) : Sp := fun vs H Q _ => ∃ a y n u n' u', vs = [a, y] ∧ AmAt C H a n u ∧ AmV C H y n' u' ∧ (Bd 4000 n ∧ Bd 4000 u ∧ Bd 4000 n' ∧ Bd 4000 u') ∧
  ∀ H', Same H H' → Q (.bl (r (fr (n * u' + -n' * u) (u * u')).1)) H'
theorem eqv_two (n u n' u' : Int) : PyData.eqv (.tuple [.int n, .int u]) (.tuple [.int n', .int u']) = decide (n = n' ∧ u = u') := by
  simp [PyData.eqv, PyData.eqvAll, Bool.beq_eq_decide_eq]
section
variable {P : Program} {w : World} {K : PySem.W.Frag} {mg : Str → Option Value} {base : Heap} {C : Addr}
theorem scNeg : FnScope ["self"] ["self"] (defScope sNeg) := ⟨rfl, rfl, rfl, by decide +kernel, rfl, by decide +kernel, by decide +kernel⟩
theorem ok_neg {f : Addr} {fd : FuncData} (F : Fun K "__neg__" "Amount.__neg__" sNeg f fd) (T : Txt K mg C) (GI : GotI P w K mg base C) : FnOk P w K mg base CX0 4 f fd ["self"] (spNeg C) := by
  obtain ⟨fI, fdI, GI, bI, _, M⟩ := GI
  refine F.ok scNeg (fun vs H Q E h => ?_) (fun cdv A outer s H vs Q E hr h => ?_)
  · obtain ⟨a, n, u, rfl, _⟩ := h
    rfl
  · obtain ⟨a, n, u, rfl, ⟨l, x, dx, rfl, hx⟩, bn, bu, q⟩ := h
    refine ⟨_, pss_one (ps_ret (pe_make M GI hr (by rfl) T.mgC bI .nil pass0 (pa_cons (pe_un un_neg (pe_fld (pv 0) rfl)) (pa_cons (pe_fld (pv 0) rfl) pa_nil)))), ?_⟩
    refine ⟨_, rfl, x, C, dx, _, _, rfl, hx, T.cl, T.nN, pf_number _ _, _, rfl, _, rfl, x, C, dx, _, _, rfl, hx, T.cl, T.nU, pf_under _ _, ?_⟩
    refine make_read l.ne bn.neg bu fun v H' e h => q v H' e ?_
    rw [fr_of_low l.neg] at h
    exact h
theorem scAdd : FnScope ["self", "other", "number", "under"] ["self", "other"] (defScope sAdd) := ⟨rfl, rfl, rfl, by decide +kernel, rfl, by decide +kernel, by decide +kernel⟩
theorem ok_add {f : Addr} {fd : FuncData} (F : Fun K "__add__" "Amount.__add__" sAdd f fd) (T : Txt K mg C) (GI : GotI P w K mg base C) (GA : GotF P w K mg base "is_amount" 2 ["value"] (spIsAm C)) (GP : GotF P w K mg base "parts" 1 ["amount"] (spParts C)) :
    FnOk P w K mg base CX0 4 f fd ["self", "other"] (spAdd C) := by
  obtain ⟨fI, fdI, GI, bI, _, M⟩ := GI
  obtain ⟨fA, fdA, GA, bA, mA, kA⟩ := GA
  obtain ⟨fP, fdP, GP, bP, mP, kP⟩ := GP
  refine F.ok scAdd (fun vs H Q E h => ?_) (fun cdv A outer s H vs Q E hr h => ?_)
  · obtain ⟨a, y, n, u, n', u', rfl, _⟩ := h
    rfl
  · obtain ⟨a, y, n, u, n', u', rfl, ⟨l, x, dx, rfl, hx⟩, hy, ⟨b1, b2, b3, b4⟩, q⟩ := h
    have hr1 : Room 1 _ := hr.mono (by decide)
    have hr2 : Room 2 _ := hr.mono (by decide)
    refine ⟨_, pss_cons (ps_if (pt_not (pt_val (pe_call GA hr2 (by rfl) mA kA bA .nil pass0 (pa_cons (pv 1) pa_nil)))) (pss_one ps_never) pss_nil)
      (pss_cons (ps_asg (pe_call GP hr1 (by rfl) mP kP bP .nil pass0 (pa_cons (pv 1) pa_nil)) (pg_tup rfl (pgs_cons (pg_name (i := 2) scAdd.nd rfl (.inl rfl)) (pgs_cons (pg_name (i := 3) scAdd.nd rfl (.inl rfl)) pgs_nil))))
      (pss_one (ps_ret (pe_make M GI hr (by rfl) T.mgC bI .nil pass0 (pa_cons (pe_op op_add (pe_op op_mulW (pe_fld (pv 0) rfl) (pv 3)) (pe_op op_mulW (pv 2) (pe_fld (pv 0) rfl))) (pa_cons (pe_op op_mulW (pe_fld (pv 0) rfl) (pv 3)) pa_nil)))))), ?_⟩
    refine ⟨_, rfl, _, true, rfl, hy.isAm, _, rfl, iteF ?_⟩
    refine ⟨_, rfl, y, n', u', rfl, hy, fun p np => ⟨p, _, rfl, SqT.of upd_same, rfl, _, _, rfl, _, _, rfl, rfl, ?_⟩⟩
    have hx1 : (upd H p (.tup [V.int n', V.int u'])) x = some (.ins C dx (pf n u)) := by rw [upd_ne (ne_of_none hx np)]; exact hx
    refine ⟨_, rfl, x, C, dx, _, _, rfl, hx1, T.cl, T.nN, pf_number _ _, _, rfl, _, _, rfl, rfl, b1.cmul b4 (by decide) (by decide), ?_⟩
    refine ⟨_, rfl, _, rfl, x, C, dx, _, _, rfl, hx1, T.cl, T.nU, pf_under _ _, _, _, rfl, rfl, b3.cmul b2 (by decide) (by decide), _, _, rfl, rfl, ?_⟩
    refine ⟨_, rfl, x, C, dx, _, _, rfl, hx1, T.cl, T.nU, pf_under _ _, _, rfl, _, _, rfl, rfl, b2.cmul b4 (by decide) (by decide), ?_⟩
    have hu : u * u' ≠ 0 := Int.mul_ne_zero l.ne hy.low.ne
    refine make_read hu ((b1.mul b4).add (b3.mul b2) |>.mono (by decide)) ((b2.mul b4).mono (by decide)) fun v H' e h => q v H' ((same_upd np).trans e) h
theorem scSub : FnScope ["self", "other"] ["self", "other"] (defScope sSub) := ⟨rfl, rfl, rfl, by decide +kernel, rfl, by decide +kernel, by decide +kernel⟩
theorem ok_sub {f : Addr} {fd : FuncData} (F : Fun K "__sub__" "Amount.__sub__" sSub f fd) (T : Txt K mg C) (GA : GotF P w K mg base "is_amount" 2 ["value"] (spIsAm C)) (GN : GotM P w K mg base C "__neg__" 4 ["self"] (spNeg C)) (GD : GotM P w K mg base C "__add__" 4 ["self", "other"] (spAdd C)) (cA : OpIK K C "add") :
    FnOk P w K mg base CX0 5 f fd ["self", "other"] (spSub C) := by
  obtain ⟨fN, fdN, GN, bN, hN, iN⟩ := GN
  obtain ⟨fA, fdA, GA, bA, mA, kA⟩ := GA
  obtain ⟨fD, fdD, GD, bD, hD, iD⟩ := GD
  refine F.ok scSub (fun vs H Q E h => ?_) (fun cdv A outer s H vs Q E hr h => ?_)
  · obtain ⟨a, y, n, u, n', u', rfl, _⟩ := h
    rfl
  · obtain ⟨a, y, n, u, n', u', rfl, ha, hy, ⟨b1, b2, b3, b4⟩, q⟩ := h
    have hr2 : Room 2 _ := hr.mono (by decide)
    refine ⟨_, pss_cons (ps_if (pt_not (pt_val (pe_call GA hr2 (by rfl) mA kA bA .nil pass0 (pa_cons (pv 1) pa_nil)))) (pss_one ps_never) pss_nil)
      (pss_one (ps_ret (pe_op (op_binC (op := .Add) T.op ⟨cA.h1, cA.h2, cA.hr⟩ ⟨hD, iD⟩ GD hr bD pass0) (pv 0) (pe_un (UnR.or (un_negC ⟨hN, iN⟩ GN hr bN pass0) un_neg) (pv 1))))), ?_⟩
    refine ⟨_, rfl, _, true, rfl, hy.isAm, _, rfl, iteF ?_⟩
    have fin : ∀ v1 H1, Same H H1 → AmV C H1 v1 (-n') u' → rBin C (spAdd C) E0 a v1 H1 Q := fun v1 H1 e h1 =>
      ⟨(ha.same e).inst, h1.orI, a, v1, n, u, -n', u', rfl, ha.same e, h1, ⟨b1, b2, b3.neg, b4⟩, fun v H' e' h => q v H' (e.trans e') h⟩
    refine ⟨_, rfl, _, rfl, ?_⟩
    rcases hy with hy | ⟨rfl, rfl⟩
    · exact .inl ⟨hy.inst, y, n', u', rfl, hy, b3.mono (by decide), b4.mono (by decide), fun v1 H1 e h1 => fin v1 H1 e (.inl h1)⟩
    · exact .inr ⟨_, rfl, fin _ _ (Same.refl _) (.inr ⟨rfl, rfl⟩)⟩
theorem scEq : FnScope ["self", "other"] ["self", "other"] (defScope sEq) := ⟨rfl, rfl, rfl, by decide +kernel, rfl, by decide +kernel, by decide +kernel⟩
theorem ok_eq {f : Addr} {fd : FuncData} (F : Fun K "__eq__" "Amount.__eq__" sEq f fd) (T : Txt K mg C) (GA : GotF P w K mg base "is_amount" 2 ["value"] (spIsAm C)) (GP : GotF P w K mg base "parts" 1 ["amount"] (spParts C)) :
    FnOk P w K mg base CX0 3 f fd ["self", "other"] (spEq C) := by
  obtain ⟨fA, fdA, GA, bA, mA, kA⟩ := GA
  obtain ⟨fP, fdP, GP, bP, mP, kP⟩ := GP
  refine F.ok scEq (fun vs H Q E h => ?_) (fun cdv A outer s H vs Q E hr h => ?_)
  · obtain ⟨a, y, n, u, rfl, _⟩ := h
    rfl
  · obtain ⟨a, y, n, u, rfl, ⟨l, x, dx, rfl, hx⟩, hy⟩ := h
    have hr1 : Room 1 _ := hr.mono (by decide)
    refine ⟨_, pss_cons (ps_if (pt_not (pt_val (pe_call GA hr (by rfl) mA kA bA .nil pass0 (pa_cons (pv 1) pa_nil)))) (pss_one (ps_ret pe_bl)) pss_nil)
      (pss_one (ps_ret (pe_cmpR (op_eqD hr.units) (pe_tup (pa_cons (pe_fld (pv 0) rfl) (pa_cons (pe_fld (pv 0) rfl) pa_nil))) (pe_call GP hr1 (by rfl) mP kP bP .nil pass0 (pa_cons (pv 1) pa_nil)) (nomark _)))), ?_⟩
    rcases hy with ⟨n', u', hy, q⟩ | ⟨⟨Ty, b⟩, hi, q⟩
    · refine ⟨_, rfl, _, true, rfl, hy.isAm, _, rfl, iteF ?_⟩
      refine ⟨_, rfl, x, C, dx, _, _, rfl, hx, T.cl, T.nN, pf_number _ _, _, rfl, x, C, dx, _, _, rfl, hx, T.cl, T.nU, pf_under _ _, (by show 2 ≤ sizeLine; decide), fun p np => ?_⟩
      have s1 := same_upd (o := .tup [V.int n, V.int u]) np
      refine ⟨_, rfl, y, n', u', rfl, hy.same s1, fun p' np' => ?_⟩
      have npp : p ≠ p' := fun e => by rw [← e, upd_same] at np'; cases np'
      have s2 := same_upd (o := .tup [V.int n', V.int u']) np'
      refine ⟨.tuple [.int n, .int u], .tuple [.int n', .int u'], .tup (SqT.of (Eq.trans (upd_ne npp) upd_same)) (.cons (.int n) (.cons (.int u) .nil)), .tup (SqT.of upd_same) (.cons (.int n') (.cons (.int u') .nil)), rfl, rfl, ?_⟩
      rw [eqv_two]
      exact q _ (s1.trans s2)
    · exact ⟨_, rfl, _, false, rfl, .inl ⟨⟨Ty, b⟩, hi.symm⟩, _, rfl, iteT q⟩
theorem scLt : FnScope ["self", "other"] ["self", "other"] (defScope sLt) := ⟨rfl, rfl, rfl, by decide +kernel, rfl, by decide +kernel, by decide +kernel⟩
theorem ok_lt {f : Addr} {fd : FuncData} (F : Fun K "__lt__" "Amount.__lt__" sLt f fd) (T : Txt K mg C) (GA : GotF P w K mg base "is_amount" 2 ["value"] (spIsAm C)) (GS : GotM P w K mg base C "__sub__" 5 ["self", "other"] (spSub C)) (cS : OpIK K C "sub") :
    FnOk P w K mg base CX0 6 f fd ["self", "other"] (spCmp C (fun i => decide (i < 0))) := by
  obtain ⟨fA, fdA, GA, bA, mA, kA⟩ := GA
  obtain ⟨fS, fdS, GS, bS, hS, iS⟩ := GS
  refine F.ok scLt (fun vs H Q E h => ?_) (fun cdv A outer s H vs Q E hr h => ?_)
  · obtain ⟨a, y, n, u, n', u', rfl, _⟩ := h
    rfl
  · obtain ⟨a, y, n, u, n', u', rfl, ha, hy, bb, q⟩ := h
    have hr2 : Room 2 _ := hr.mono (by decide)
    refine ⟨_, pss_cons (ps_if (pt_not (pt_val (pe_call GA hr2 (by rfl) mA kA bA .nil pass0 (pa_cons (pv 1) pa_nil)))) (pss_one ps_never) pss_nil)
      (pss_one (ps_ret (pe_cmpR op_lt (pe_fld (pe_op (op_binC (op := .Sub) T.op ⟨cS.h1, cS.h2, cS.hr⟩ ⟨hS, iS⟩ GS hr bS pass0) (pv 0) (pv 1)) rfl) pe_int (nomark _)))), ?_⟩
    refine ⟨_, rfl, _, true, rfl, hy.isAm, _, rfl, iteF ?_⟩
    refine ⟨_, rfl, _, rfl, ha.inst, hy.orI, a, y, n, u, n', u', rfl, ha, hy, bb, fun v H' e h => ?_⟩
    obtain ⟨l, z, dz, rfl, hz⟩ := h
    exact ⟨z, C, dz, _, _, rfl, hz, T.cl, T.nN, pf_number _ _, _, _, rfl, rfl, q H' e⟩
theorem scLe : FnScope ["self", "other"] ["self", "other"] (defScope sLe) := ⟨rfl, rfl, rfl, by decide +kernel, rfl, by decide +kernel, by decide +kernel⟩
theorem ok_le {f : Addr} {fd : FuncData} (F : Fun K "__le__" "Amount.__le__" sLe f fd) (T : Txt K mg C) (GA : GotF P w K mg base "is_amount" 2 ["value"] (spIsAm C)) (GS : GotM P w K mg base C "__sub__" 5 ["self", "other"] (spSub C)) (cS : OpIK K C "sub") :
    FnOk P w K mg base CX0 6 f fd ["self", "other"] (spCmp C (fun i => decide (i ≤ 0))) := by
  obtain ⟨fA, fdA, GA, bA, mA, kA⟩ := GA
  obtain ⟨fS, fdS, GS, bS, hS, iS⟩ := GS
  refine F.ok scLe (fun vs H Q E h => ?_) (fun cdv A outer s H vs Q E hr h => ?_)
  · obtain ⟨a, y, n, u, n', u', rfl, _⟩ := h
    rfl
  · obtain ⟨a, y, n, u, n', u', rfl, ha, hy, bb, q⟩ := h
    have hr2 : Room 2 _ := hr.mono (by decide)
    refine ⟨_, pss_cons (ps_if (pt_not (pt_val (pe_call GA hr2 (by rfl) mA kA bA .nil pass0 (pa_cons (pv 1) pa_nil)))) (pss_one ps_never) pss_nil)
      (pss_one (ps_ret (pe_cmpR op_le (pe_fld (pe_op (op_binC (op := .Sub) T.op ⟨cS.h1, cS.h2, cS.hr⟩ ⟨hS, iS⟩ GS hr bS pass0) (pv 0) (pv 1)) rfl) pe_int (nomark _)))), ?_⟩
    refine ⟨_, rfl, _, true, rfl, hy.isAm, _, rfl, iteF ?_⟩
    refine ⟨_, rfl, _, rfl, ha.inst, hy.orI, a, y, n, u, n', u', rfl, ha, hy, bb, fun v H' e h => ?_⟩
    obtain ⟨l, z, dz, rfl, hz⟩ := h
    exact ⟨z, C, dz, _, _, rfl, hz, T.cl, T.nN, pf_number _ _, _, _, rfl, rfl, q H' e⟩
theorem scGt : FnScope ["self", "other"] ["self", "other"] (defScope sGt) := ⟨rfl, rfl, rfl, by decide +kernel, rfl, by decide +kernel, by decide +kernel⟩
theorem ok_gt {f : Addr} {fd : FuncData} (F : Fun K "__gt__" "Amount.__gt__" sGt f fd) (T : Txt K mg C) (GA : GotF P w K mg base "is_amount" 2 ["value"] (spIsAm C)) (GS : GotM P w K mg base C "__sub__" 5 ["self", "other"] (spSub C)) (cS : OpIK K C "sub") :
    FnOk P w K mg base CX0 6 f fd ["self", "other"] (spCmp C (fun i => decide (0 < i))) := by
  obtain ⟨fA, fdA, GA, bA, mA, kA⟩ := GA
  obtain ⟨fS, fdS, GS, bS, hS, iS⟩ := GS
  refine F.ok scGt (fun vs H Q E h => ?_) (fun cdv A outer s H vs Q E hr h => ?_)
  · obtain ⟨a, y, n, u, n', u', rfl, _⟩ := h
    rfl
  · obtain ⟨a, y, n, u, n', u', rfl, ha, hy, bb, q⟩ := h
    have hr2 : Room 2 _ := hr.mono (by decide)
    refine ⟨_, pss_cons (ps_if (pt_not (pt_val (pe_call GA hr2 (by rfl) mA kA bA .nil pass0 (pa_cons (pv 1) pa_nil)))) (pss_one ps_never) pss_nil)
      (pss_one (ps_ret (pe_cmpR op_gt (pe_fld (pe_op (op_binC (op := .Sub) T.op ⟨cS.h1, cS.h2, cS.hr⟩ ⟨hS, iS⟩ GS hr bS pass0) (pv 0) (pv 1)) rfl) pe_int (nomark _)))), ?_⟩
    refine ⟨_, rfl, _, true, rfl, hy.isAm, _, rfl, iteF ?_⟩
    refine ⟨_, rfl, _, rfl, ha.inst, hy.orI, a, y, n, u, n', u', rfl, ha, hy, bb, fun v H' e h => ?_⟩
    obtain ⟨l, z, dz, rfl, hz⟩ := h
    exact ⟨z, C, dz, _, _, rfl, hz, T.cl, T.nN, pf_number _ _, _, _, rfl, rfl, q H' e⟩
theorem scGe : FnScope ["self", "other"] ["self", "other"] (defScope sGe) := ⟨rfl, rfl, rfl, by decide +kernel, rfl, by decide +kernel, by decide +kernel⟩
theorem ok_ge {f : Addr} {fd : FuncData} (F : Fun K "__ge__" "Amount.__ge__" sGe f fd) (T : Txt K mg C) (GA : GotF P w K mg base "is_amount" 2 ["value"] (spIsAm C)) (GS : GotM P w K mg base C "__sub__" 5 ["self", "other"] (spSub C)) (cS : OpIK K C "sub") :
    FnOk P w K mg base CX0 6 f fd ["self", "other"] (spCmp C (fun i => decide (0 ≤ i))) := by
  obtain ⟨fA, fdA, GA, bA, mA, kA⟩ := GA
  obtain ⟨fS, fdS, GS, bS, hS, iS⟩ := GS
  refine F.ok scGe (fun vs H Q E h => ?_) (fun cdv A outer s H vs Q E hr h => ?_)
  · obtain ⟨a, y, n, u, n', u', rfl, _⟩ := h
    rfl
  · obtain ⟨a, y, n, u, n', u', rfl, ha, hy, bb, q⟩ := h
    have hr2 : Room 2 _ := hr.mono (by decide)
    refine ⟨_, pss_cons (ps_if (pt_not (pt_val (pe_call GA hr2 (by rfl) mA kA bA .nil pass0 (pa_cons (pv 1) pa_nil)))) (pss_one ps_never) pss_nil)
      (pss_one (ps_ret (pe_cmpR op_ge (pe_fld (pe_op (op_binC (op := .Sub) T.op ⟨cS.h1, cS.h2, cS.hr⟩ ⟨hS, iS⟩ GS hr bS pass0) (pv 0) (pv 1)) rfl) pe_int (nomark _)))), ?_⟩
    refine ⟨_, rfl, _, true, rfl, hy.isAm, _, rfl, iteF ?_⟩
    refine ⟨_, rfl, _, rfl, ha.inst, hy.orI, a, y, n, u, n', u', rfl, ha, hy, bb, fun v H' e h => ?_⟩
    obtain ⟨l, z, dz, rfl, hz⟩ := h
    exact ⟨z, C, dz, _, _, rfl, hz, T.cl, T.nN, pf_number _ _, _, _, rfl, rfl, q H' e⟩
end
end Am
/-! texts as lists of signs: one sign found, cut at, parted at -/
namespace SL
open PySem PySem.StrLaws PySem.Builtin PySem.Builtin.Str
abbrev ofL (l : List Nat) : Str := ⟨l.toArray⟩
theorem ofL_toList (x : Str) : ofL x.cps.toList = x := by cases x; simp [ofL]
theorem toList_ofL (l : List Nat) : (ofL l).cps.toList = l := by simp [ofL]
theorem len_toList (x : Str) : x.cps.toList.length = x.length := Array.length_toList
theorem ext {x y : Str} (h : x.cps.toList = y.cps.toList) : x = y := by rw [← ofL_toList x, ← ofL_toList y, h]
/-- where the sign stands -/
def idxs (c : Nat) : List Nat → Nat → List Nat
  | [], _ => []
  | y :: ys, k => if y = c then k :: idxs c ys (k + 1) else idxs c ys (k + 1)
theorem occ_run (x : Str) (c limit : Nat) : ∀ (m : List Nat) (i : Nat) (acc : Array Nat) (free : Nat), x.cps.toList.drop i = m → i + m.length = x.length → acc.size ≤ limit → free ≤ i →
    (forIn (List.range' i (m.length + 1)) (acc, free) (occBody x ⟨#[c]⟩ x.length limit)).run.fst.toList = acc.toList ++ (idxs c m i).take (limit - acc.size)
  | [], i, acc, free, hd, hl, hs, hf => by
    have hl' : i = x.length := by simpa using hl
    subst hl'
    rw [show List.range' x.length (([] : List Nat).length + 1) = [x.length] from rfl, List.forIn_cons]
    unfold occBody
    rw [if_neg (by rintro ⟨⟨_, h⟩, _⟩; have : (⟨#[c]⟩ : Str).length = 1 := rfl; omega)]
    simp [idxs]
  | y :: m, i, acc, free, hd, hl, hs, hf => by
    have hi : x.cps.toList[i]? = some y := by
      have e := congrArg (·[0]?) hd
      simpa using e
    have hd' : x.cps.toList.drop (i + 1) = m := by
      have e := congrArg List.tail hd
      simpa using e
    have hl' : (i + 1) + m.length = x.length := by simp only [List.length_cons] at hl; omega
    rw [List.length_cons, List.range'_succ, List.forIn_cons]
    unfold occBody
    by_cases hc : y = c
    · subst hc
      have hat := (subAt_one x y i).mpr hi
      by_cases hlt : acc.size < limit
      · rw [if_pos ⟨⟨⟨hlt, hf⟩, hat.1⟩, hat.2⟩]
        have ih := occ_run x y limit m (i + 1) (acc.push i) (i + (⟨#[y]⟩ : Str).length) hd' hl' (by rw [Array.size_push]; omega) (Nat.le_refl _)
        refine Eq.trans ih ?_
        have e : limit - acc.size = (limit - (acc.push i).size) + 1 := by rw [Array.size_push]; omega
        rw [e]
        simp [idxs]
      · rw [if_neg (by rintro ⟨⟨⟨h, _⟩, _⟩, _⟩; exact hlt h)]
        have ih := occ_run x y limit m (i + 1) acc free hd' hl' hs (by omega)
        refine Eq.trans ih ?_
        have e : limit - acc.size = 0 := by omega
        rw [e]
        simp
    · rw [if_neg (by rintro ⟨⟨_, h1⟩, h2⟩; have h3 := (subAt_one x c i).mp ⟨h1, h2⟩; rw [hi] at h3; exact hc (Option.some.inj h3))]
      have ih := occ_run x c limit m (i + 1) acc free hd' hl' hs (by omega)
      refine Eq.trans ih ?_
      simp [idxs, hc]
theorem occ_sign (x : Str) (c limit : Nat) : occurrences x ⟨#[c]⟩ 0 x.length limit = (idxs c x.cps.toList 0).take limit := by
  rw [occ_eq]
  have h := occ_run x c limit x.cps.toList 0 #[] 0 (by simp) (by rw [len_toList]; omega) (Nat.zero_le _) (Nat.le_refl _)
  have e : x.length + 1 - 0 = x.cps.toList.length + 1 := by rw [len_toList]; omega
  rw [e, h]
  simp
theorem idxs_len (c : Nat) : ∀ (m : List Nat) (k : Nat), (idxs c m k).length ≤ m.length
  | [], _ => Nat.le_refl _
  | y :: m, k => by
    have := idxs_len c m (k + 1)
    unfold idxs
    split <;> simp <;> omega
theorem idxs_none {c : Nat} : ∀ {m : List Nat} {k : Nat}, c ∉ m → idxs c m k = []
  | [], _, _ => rfl
  | y :: m, k, h => by
    unfold idxs
    rw [if_neg (fun e => h (by rw [e]; exact List.mem_cons_self ..))]
    exact idxs_none (fun z => h (List.mem_cons_of_mem _ z))
theorem idxs_app {c : Nat} {r : List Nat} : ∀ {p : List Nat} {k : Nat}, c ∉ p → idxs c (p ++ c :: r) k = (k + p.length) :: idxs c r (k + p.length + 1)
  | [], k, _ => by simp [idxs]
  | y :: p, k, h => by
    have ih := idxs_app (r := r) (k := k + 1) (fun z => h (List.mem_cons_of_mem _ z) : c ∉ p)
    rw [List.cons_append, idxs, if_neg (fun e => h (by rw [e]; exact List.mem_cons_self ..)), ih, List.length_cons]
    rw [show k + 1 + p.length = k + (p.length + 1) by omega]
/-- the list cut at each c -/
def cutAt (c : Nat) : List Nat → List (List Nat)
  | [] => [[]]
  | y :: ys => if y = c then [] :: cutAt c ys else match cutAt c ys with
    | [] => [[y]]
    | w :: ws => (y :: w) :: ws
theorem cut_ne (c : Nat) (l : List Nat) : cutAt c l ≠ [] := by
  cases l with
  | nil => simp [cutAt]
  | cons y ys =>
    unfold cutAt
    split
    · simp
    · split <;> simp
theorem cut_none {c : Nat} : ∀ {l : List Nat}, c ∉ l → cutAt c l = [l]
  | [], _ => rfl
  | y :: ys, h => by
    unfold cutAt
    rw [if_neg (fun e => h (by rw [e]; exact List.mem_cons_self ..)), cut_none (fun z => h (List.mem_cons_of_mem _ z))]
theorem cut_app {c : Nat} {r : List Nat} : ∀ {p : List Nat}, c ∉ p → cutAt c (p ++ c :: r) = p :: cutAt c r
  | [], _ => by simp [cutAt]
  | y :: p, h => by
    have ih := cut_app (r := r) (fun z => h (List.mem_cons_of_mem _ z) : c ∉ p)
    rw [List.cons_append, cutAt, if_neg (fun e => h (by rw [e]; exact List.mem_cons_self ..)), ih]
theorem first_c {c : Nat} : ∀ {l : List Nat}, c ∈ l → ∃ p r, l = p ++ c :: r ∧ c ∉ p
  | [], h => by cases h
  | y :: ys, h => by
    by_cases e : y = c
    · exact ⟨[], ys, by rw [e]; rfl, by simp⟩
    · rcases List.mem_cons.mp h with z | z
      · exact (e z.symm).elim
      · obtain ⟨p, r, h1, h2⟩ := first_c z
        refine ⟨y :: p, r, by rw [h1]; rfl, ?_⟩
        intro z
        rcases List.mem_cons.mp z with z | z
        · exact e z.symm
        · exact h2 z
theorem sub_ofL (x : Str) (a b : Nat) : strSub x a b = ofL ((x.cps.toList.drop a).take (b - a)) := ext (by rw [strSub_toList, toList_ofL])
theorem parts_eq (x : Str) (c : Nat) : ∀ (n : Nat) (m : List Nat) (a : Nat), m.length ≤ n → x.cps.toList.drop a = m → a + m.length = x.length →
    ((a :: (idxs c m a).map (· + 1)).zip (idxs c m a ++ [x.length])).map (fun p => strSub x p.1 p.2) = (cutAt c m).map ofL := by
  intro n
  induction n with
  | zero =>
    intro m a hn hd hl
    have e : m = [] := List.eq_nil_of_length_eq_zero (by omega)
    subst e
    simp [idxs, cutAt, sub_ofL, hd]
  | succ n ih =>
    intro m a hn hd hl
    by_cases hc : c ∈ m
    · obtain ⟨p, r, e, hp⟩ := first_c hc
      subst e
      have hl2 : a + (p.length + (r.length + 1)) = x.length := by simpa using hl
      have hd2 : x.cps.toList.drop (a + p.length + 1) = r := by
        have e : x.cps.toList.drop (a + p.length + 1) = (x.cps.toList.drop a).drop (p.length + 1) := by rw [List.drop_drop]; congr 1
        rw [e, hd]
        simp
      rw [idxs_app hp, cut_app hp]
      have h := ih r (a + p.length + 1) (by simp only [List.length_append, List.length_cons] at hn; omega) hd2 (by omega)
      show strSub x a (a + p.length) :: List.map (fun p => strSub x p.1 p.2) (((a + p.length + 1) :: (idxs c r (a + p.length + 1)).map (· + 1)).zip (idxs c r (a + p.length + 1) ++ [x.length])) = ofL p :: (cutAt c r).map ofL
      rw [h, sub_ofL, hd]
      have e : a + p.length - a = p.length := by omega
      rw [e]
      simp
    · rw [idxs_none hc, cut_none hc]
      show [strSub x a x.length] = [ofL m]
      rw [sub_ofL, hd]
      have e : x.length - a = m.length := by omega
      rw [e]
      simp
theorem split_sign (x : Str) (c : Nat) (h0 : x.length ≠ 0 → strKind x ≥ strKind ⟨#[c]⟩) : Txt.split x ⟨#[c]⟩ = (cutAt c x.cps.toList).map ofL := by
  unfold Txt.split
  have l1 : (⟨#[c]⟩ : Str).length = 1 := rfl
  rw [occ_sign, l1]
  by_cases hx : x.length = 0
  · have e : x.cps.toList = [] := List.eq_nil_of_length_eq_zero (by rw [len_toList]; exact hx)
    have hlt : (decide (x.length < 1) || decide (strKind x < strKind ⟨#[c]⟩)) = true := by rw [hx]; simp
    rw [if_pos hlt, e]
    show [x] = [ofL []]
    rw [← e, ofL_toList]
  · have hlt : ¬ (decide (x.length < 1) || decide (strKind x < strKind ⟨#[c]⟩)) = true := by
      have := h0 hx
      simp only [Bool.or_eq_true, decide_eq_true_eq]
      omega
    rw [if_neg hlt]
    have hlen : (idxs c x.cps.toList 0).take (x.length + 1) = idxs c x.cps.toList 0 := by
      refine List.take_of_length_le ?_
      have := idxs_len c x.cps.toList 0
      rw [len_toList] at this
      omega
    rw [hlen]
    have key := parts_eq x c x.cps.toList.length x.cps.toList 0 (Nat.le_refl _) (by simp) (by rw [len_toList]; omega)
    by_cases hem : (idxs c x.cps.toList 0).isEmpty = true
    · rw [if_pos hem]
      have e : idxs c x.cps.toList 0 = [] := List.isEmpty_iff.mp hem
      rw [e] at key
      rw [← key]
      show [x] = [strSub x 0 x.length]
      rw [sub_ofL]
      have e2 : (x.cps.toList.drop 0).take (x.length - 0) = x.cps.toList := by
        rw [List.drop_zero]
        exact List.take_of_length_le (by rw [len_toList]; omega)
      rw [e2, ofL_toList]
    · rw [if_neg hem, ← key]
      rfl
theorem part_sign (x : Str) (c : Nat) (p r : List Nat) (h : x.cps.toList = p ++ c :: r) (hp : c ∉ p) : Txt.partition x ⟨#[c]⟩ = (ofL p, ⟨#[c]⟩, ofL r) := by
  unfold Txt.partition
  rw [occ_sign, h, idxs_app hp]
  show (strSub x 0 (0 + p.length), (⟨#[c]⟩ : Str), strSub x (0 + p.length + 1) x.length) = _
  rw [sub_ofL, sub_ofL, h]
  have l : x.length = p.length + (r.length + 1) := by rw [← len_toList, h]; simp
  congr 1
  · simp
  · congr 1
    rw [l]
    have e : (p ++ c :: r).drop (0 + p.length + 1) = r := by
      have e : (0 + p.length + 1) = p.length + 1 := by omega
      rw [e]
      simp
    rw [e]
    congr 2
    refine List.take_of_length_le ?_
    omega
theorem part_none (x : Str) (c : Nat) (h : c ∉ x.cps.toList) : Txt.partition x ⟨#[c]⟩ = (x, Str.empty, Str.empty) := by
  unfold Txt.partition
  rw [occ_sign, idxs_none h]
  rfl
end SL
/-! texts of amounts: what is read, and what is written -/
namespace Mt
open PySem PySem.NumText SL
/-- the figures of a number -/
def dg (m : Nat) : List Nat := (Nat.toDigits 10 m).map Char.toNat
theorem dg_str (m : Nat) : (Str.ofString (toString ((m : Nat) : Int))).cps.toList = dg m := PySem.W.KIN.signs_num m
theorem dg_val (m : Nat) : digitsVal (dg m) = m := PySem.W.KIN.val_back m
theorem dg_all (m : Nat) : AllDigits (dg m) := by
  intro c hc
  obtain ⟨ch, hch, e⟩ := List.mem_map.mp hc
  have r := PyProof.Rows.digit_range (Nat.isDigit_of_mem_toDigits (by decide) (by decide) hch)
  rw [← e]
  exact r
theorem dg_lt {d : Nat} (h : d < 10) : dg d = [48 + d] := by
  have e := Nat.toDigits_of_lt_base (b := 10) h
  unfold dg
  rw [e]
  match d, h with
  | 0, _ | 1, _ | 2, _ | 3, _ | 4, _ | 5, _ | 6, _ | 7, _ | 8, _ | 9, _ => rfl
theorem dg_step {m d : Nat} (hm : 0 < m) (hd : d < 10) : dg (10 * m + d) = dg m ++ [48 + d] := by
  rw [← dg_lt hd]
  unfold dg
  rw [← List.map_append, Nat.toDigits_append_toDigits (by decide) hm hd]
theorem dg_ne (m : Nat) : dg m ≠ [] := by
  by_cases h : m < 10
  · rw [dg_lt h]; simp
  · have e : m = 10 * (m / 10) + m % 10 := by omega
    rw [e, dg_step (by omega) (by omega)]
    simp
/-- zeros ahead, to k signs -/
def zpad (k : Nat) (l : List Nat) : List Nat := List.replicate (k - l.length) 48 ++ l
theorem dg_len : ∀ (k m : Nat), m < 10 ^ (k + 1) → (dg m).length ≤ k + 1
  | 0, m, h => by rw [dg_lt (by simpa using h)]; simp
  | k + 1, m, h => by
    by_cases c : m < 10
    · rw [dg_lt c]; simp
    · have e : m = 10 * (m / 10) + m % 10 := by omega
      have h2 : m / 10 < 10 ^ (k + 1) := by rw [Nat.pow_succ] at h; omega
      have := dg_len k (m / 10) h2
      rw [e, dg_step (by omega) (by omega)]
      simp only [List.length_append, List.length_cons, List.length_nil]
      omega
theorem dg_block {q : Nat} (hq : 0 < q) : ∀ (k b : Nat), b < 10 ^ (k + 1) → dg (q * 10 ^ (k + 1) + b) = dg q ++ zpad (k + 1) (dg b)
  | 0, b, h => by
    have hb : b < 10 := by simpa using h
    have e : q * 10 ^ (0 + 1) + b = 10 * q + b := by rw [show 10 ^ (0 + 1) = 10 from rfl]; omega
    rw [e, dg_step hq hb, dg_lt hb]
    rfl
  | k + 1, b, h => by
    have hd : b % 10 < 10 := by omega
    have hb : b / 10 < 10 ^ (k + 1) := by rw [Nat.pow_succ] at h; omega
    have e : q * 10 ^ (k + 1 + 1) + b = 10 * (q * 10 ^ (k + 1) + b / 10) + b % 10 := by rw [Nat.pow_succ 10 (k + 1), ← Nat.mul_assoc]; omega
    have pos : 0 < q * 10 ^ (k + 1) + b / 10 := Nat.lt_of_lt_of_le (Nat.mul_pos hq (Nat.pow_pos (by decide))) (Nat.le_add_right _ _)
    rw [e, dg_step pos hd, dg_block hq k (b / 10) hb, List.append_assoc]
    congr 1
    by_cases z : b < 10
    · have e0 : b / 10 = 0 := by omega
      have e1 : b % 10 = b := by omega
      rw [e0, e1, dg_lt z, dg_lt (by decide : 0 < 10)]
      unfold zpad
      show List.replicate (k + 1 - 1) 48 ++ [48] ++ [48 + b] = List.replicate (k + 1 + 1 - 1) 48 ++ [48 + b]
      rw [show k + 1 - 1 = k from rfl, show k + 1 + 1 - 1 = k + 1 from rfl, List.replicate_succ']
    · have e2 : b = 10 * (b / 10) + b % 10 := by omega
      have e3 : dg b = dg (b / 10) ++ [48 + b % 10] := by rw [e2, dg_step (by omega) (by omega)]; congr 2 <;> omega
      have l3 := dg_len k (b / 10) hb
      rw [e3]
      unfold zpad
      rw [List.length_append, List.length_cons, List.length_nil, List.append_assoc]
      congr 2
      omega
theorem fold_lt : ∀ (cs : List Nat) (a : Nat), AllDigits cs → cs.foldl (fun acc c => acc * 10 + (c - 48)) a < (a + 1) * 10 ^ cs.length
  | [], a, _ => by simp
  | c :: cs, a, h => by
    have ih := fold_lt cs (a * 10 + (c - 48)) h.tail
    have hc := h.head
    rw [List.length_cons, Nat.pow_succ, Nat.mul_comm (10 ^ cs.length) 10, ← Nat.mul_assoc]
    exact Nat.lt_of_lt_of_le ih (Nat.mul_le_mul_right _ (by omega))
theorem val_lt {cs : List Nat} (h : AllDigits cs) : digitsVal cs < 10 ^ cs.length := by
  have := fold_lt cs 0 h
  simpa [digitsVal] using this
def digB (c : Nat) : Bool := decide (48 ≤ c ∧ c ≤ 57)
/-- the number that a word writes; -1 if it writes none -/
def num (l : List Nat) : Int := if (!l.isEmpty && l.all digB) = true then (if (l.head? = some 48 ∧ l ≠ [48]) then -1 else (digitsVal l : Int)) else -1
theorem all_dig {l : List Nat} (h : l.all digB = true) : AllDigits l := fun c hc => by
  have := List.all_eq_true.mp h c hc
  exact of_decide_eq_true this
theorem num_lt {l : List Nat} {k : Nat} (h : l.length ≤ k) : (num l).natAbs < 10 ^ k ∨ num l = -1 := by
  unfold num
  split
  · rename_i c
    rw [Bool.and_eq_true] at c
    split
    · exact .inr rfl
    · exact .inl (Nat.lt_of_lt_of_le (val_lt (all_dig c.2)) (Nat.pow_le_pow_right (by decide) h))
  · exact .inr rfl
theorem num_ge (l : List Nat) : -1 ≤ num l := by
  unfold num
  split
  · split
    · omega
    · omega
  · omega
theorem num_not {l : List Nat} {c : Nat} (h : c ∈ l) (hc : digB c = false) : num l = -1 := by
  unfold num
  rw [if_neg]
  intro z
  rw [Bool.and_eq_true] at z
  have := List.all_eq_true.mp z.2 c h
  rw [hc] at this
  cases this
theorem num_dg (m : Nat) : num (dg m) = m := by
  have h : (!(dg m).isEmpty && (dg m).all digB) = true := by
    rw [Bool.and_eq_true]
    refine ⟨?_, List.all_eq_true.mpr fun c hc => decide_eq_true (dg_all m c hc)⟩
    have := dg_ne m
    cases e : dg m with
    | nil => exact absurd e this
    | cons a r => rfl
  unfold num
  rw [if_pos h, if_neg, dg_val]
  rintro ⟨h1, h2⟩
  by_cases z : m < 10
  · rw [dg_lt z] at h1 h2
    have e : 48 + m = 48 := by simpa using h1
    exact h2 (by rw [e])
  · -- the first figure is no nought
    have key : ∀ n, 0 < n → (dg n).head? ≠ some 48 := by
      intro n
      induction n using Nat.strongRecOn with
      | _ n ih =>
        intro hn
        by_cases z : n < 10
        · rw [dg_lt z]
          simp
          omega
        · have e : n = 10 * (n / 10) + n % 10 := by omega
          rw [e, dg_step (by omega) (by omega), List.head?_append]
          have := ih (n / 10) (by omega) (by omega)
          cases q : (dg (n / 10)).head? with
          | none => exact absurd (List.head?_eq_none_iff.mp q) (dg_ne _)
          | some v => rw [q] at this; simpa using this
    exact key m (by omega) h1
/-- the sign ahead left out -/
def bare (l : List Nat) : List Nat := if l.head? = some 45 then l.tail else l
def sgn (l : List Nat) : Bool := decide (l.head? = some 45)
/-- the text of a whole number -/
def intL (n : Int) : List Nat := (Str.ofString (toString n)).cps.toList
def textT (n u : Int) : Str := Str.ofString (toString n) ++ (if u = 1 then ("" : Str) else ("/" : Str) ++ Str.ofString (toString u))
def fin (neg : Bool) (number under : Int) (x : Str) : Option (Int × Int) := if textT (Am.fr (if neg then -number else number) under).1 (Am.fr (if neg then -number else number) under).2 = x then some (Am.fr (if neg then -number else number) under) else none
def readB (x : Str) (l : List Nat) (top : List Nat) (under : Int) : Option (Int × Int) := if num (bare top) < 0 ∨ under < 1 then none else fin (sgn l) (num (bare top)) under x
/-- what the text is read as -/
def readT (x : Str) : Option (Int × Int) :=
  if 47 ∈ x.cps.toList then readB x x.cps.toList (x.cps.toList.takeWhile (fun c => decide (c ≠ 47))) (num (x.cps.toList.dropWhile (fun c => decide (c ≠ 47))).tail)
  else readB x x.cps.toList x.cps.toList 1
theorem intL_pos {n : Int} (h : 0 ≤ n) : intL n = dg n.natAbs := by
  obtain ⟨m, rfl⟩ := Int.eq_ofNat_of_zero_le h
  exact dg_str m
theorem intL_neg {n : Int} (h : n < 0) : intL n = 45 :: dg n.natAbs := by
  unfold intL
  rw [PyProof.Rows.toString_neg h, Int.zero_sub]
  have e : ∀ a b : String, (Str.ofString (a ++ b)).cps.toList = (Str.ofString a).cps.toList ++ (Str.ofString b).cps.toList := fun a b => by
    rw [Str.ofString_eq_toList, Str.ofString_eq_toList, Str.ofString_eq_toList]
    simp
  rw [e]
  have e2 : (Str.ofString (toString (-n))).cps.toList = dg n.natAbs := by
    have z := intL_pos (n := -n) (by omega)
    unfold intL at z
    rw [z, Int.natAbs_neg]
  rw [e2]
  rfl
theorem not_dig {c : Nat} (h : digB c = false) (m : Nat) : c ∉ dg m := fun z => by
  have := dg_all m c z
  unfold digB at h
  rw [decide_eq_true this] at h
  cases h
theorem dg_head {m : Nat} : (dg m).head? ≠ some 45 := by
  intro z
  have : 45 ∈ dg m := List.mem_of_head? z
  exact not_dig (by decide) m this
theorem bare_int (n : Int) : bare (intL n) = dg n.natAbs ∧ sgn (intL n) = decide (n < 0) := by
  by_cases c : n < 0
  · rw [intL_neg c]
    refine ⟨rfl, ?_⟩
    rw [decide_eq_true c]
    rfl
  · rw [intL_pos (by omega)]
    unfold bare sgn
    rw [if_neg dg_head, decide_eq_false c, decide_eq_false dg_head]
    exact ⟨rfl, rfl⟩
theorem no_slash (n : Int) : 47 ∉ intL n := by
  by_cases c : n < 0
  · rw [intL_neg c]
    intro z
    rcases List.mem_cons.mp z with z | z
    · cases z
    · exact not_dig (by decide) _ z
  · rw [intL_pos (by omega)]
    exact not_dig (by decide) _
theorem textT_L (n u : Int) : (textT n u).cps.toList = intL n ++ (if u = 1 then [] else 47 :: intL u) := by
  unfold textT
  rw [Str.cps_append]
  by_cases c : u = 1
  · rw [if_pos c, if_pos c]
    show ((Str.ofString (toString n)).cps ++ #[]).toList = _
    simp [intL]
  · rw [if_neg c, if_neg c, Str.cps_append]
    show ((Str.ofString (toString n)).cps ++ (#[47] ++ (Str.ofString (toString u)).cps)).toList = _
    simp [intL]
theorem take_ne {p r : List Nat} (hp : 47 ∉ p) : (p ++ 47 :: r).takeWhile (fun c => decide (c ≠ 47)) = p ∧ ((p ++ 47 :: r).dropWhile (fun c => decide (c ≠ 47))).tail = r := by
  induction p with
  | nil => simp
  | cons y p ih =>
    have hy : y ≠ 47 := fun e => hp (by rw [e]; exact List.mem_cons_self ..)
    obtain ⟨h1, h2⟩ := ih (fun z => hp (List.mem_cons_of_mem _ z))
    constructor
    · rw [List.cons_append, List.takeWhile_cons, if_pos (decide_eq_true hy), h1]
    · rw [List.cons_append, List.dropWhile_cons, if_pos (decide_eq_true hy), h2]
theorem readT_no {x : Str} (h : 47 ∉ x.cps.toList) : readT x = readB x x.cps.toList x.cps.toList 1 := if_neg h
theorem readT_yes {x : Str} {p r : List Nat} (h : x.cps.toList = p ++ 47 :: r) (hp : 47 ∉ p) : readT x = readB x x.cps.toList p (num r) := by
  unfold readT
  rw [if_pos (by rw [h]; simp), h, (take_ne hp).1, (take_ne hp).2]
theorem sgn_app {p r : List Nat} : sgn (p ++ 47 :: r) = sgn p := by
  cases p with
  | nil => rfl
  | cons y p => rfl
theorem bare_app {p r : List Nat} : bare (p ++ 47 :: r) = bare p ++ 47 :: r := by
  cases p with
  | nil => rfl
  | cons y p =>
    unfold bare
    by_cases c : y = 45
    · rw [if_pos (by rw [c]; rfl), if_pos (by rw [c]; rfl)]
      rfl
    · rw [if_neg (by show ¬ some y = some 45; simpa using c), if_neg (by show ¬ some y = some 45; simpa using c)]
theorem bare_mem {p : List Nat} {c : Nat} (h : c ∈ bare p) : c ∈ p := by
  unfold bare at h
  split at h
  · exact List.mem_of_mem_tail h
  · exact h
theorem bare_len (p : List Nat) : (bare p).length ≤ p.length := by
  unfold bare
  split
  · simp
  · exact Nat.le_refl _
/-- a text that was written is read -/
theorem read_written {n u : Int} (h : Am.Low n u) : readT (textT n u) = some (n, u) := by
  have hL := textT_L n u
  obtain ⟨b1, b2⟩ := bare_int n
  have abs : (if decide (n < 0) = true then -(n.natAbs : Int) else (n.natAbs : Int)) = n := by
    by_cases c : n < 0
    · rw [if_pos (decide_eq_true c)]; omega
    · rw [if_neg (by simpa using c)]; omega
  by_cases c : u = 1
  · subst c
    rw [if_pos rfl, List.append_nil] at hL
    rw [readT_no (by rw [hL]; exact no_slash n)]
    unfold readB
    rw [hL, b1, b2, num_dg, if_neg (by omega)]
    unfold fin
    rw [abs, Am.fr_of_low h, if_pos rfl]
  · rw [if_neg c] at hL
    have hu := h.1
    rw [readT_yes hL (no_slash n)]
    have e : num (intL u) = u := by rw [intL_pos (by omega), num_dg]; omega
    unfold readB
    rw [hL, sgn_app, b1, b2, num_dg, e, if_neg (by omega)]
    unfold fin
    rw [abs, Am.fr_of_low h, if_pos rfl]
/-- the law's own words for the same -/
theorem due_eq (x : Str) : (if (cutAt 47 (bare x.cps.toList)).length > 2 ∨ num ((cutAt 47 (bare x.cps.toList)).headD []) < 0 ∨ (if (cutAt 47 (bare x.cps.toList)).length = 2 then num ((cutAt 47 (bare x.cps.toList)).getLastD []) else 1) < 1 then none
    else fin (sgn x.cps.toList) (num ((cutAt 47 (bare x.cps.toList)).headD [])) (if (cutAt 47 (bare x.cps.toList)).length = 2 then num ((cutAt 47 (bare x.cps.toList)).getLastD []) else 1) x) = readT x := by
  by_cases h : 47 ∈ x.cps.toList
  · obtain ⟨p, r, e, hp⟩ := first_c h
    rw [readT_yes e hp]
    have hb : 47 ∉ bare p := fun z => hp (bare_mem z)
    rw [e, bare_app, sgn_app, cut_app hb]
    by_cases h2 : 47 ∈ r
    · obtain ⟨p2, r2, e2, hp2⟩ := first_c h2
      have l : (bare p :: cutAt 47 r).length > 2 := by
        rw [e2, cut_app hp2]
        have := cut_ne 47 r2
        have : 0 < (cutAt 47 r2).length := List.length_pos_iff.mpr this
        simp only [List.length_cons]
        omega
      rw [if_pos (.inl l)]
      unfold readB
      rw [num_not h2 (by decide), if_pos (.inr (by decide))]
    · rw [cut_none h2]
      have l : ([bare p, r] : List (List Nat)).length = 2 := rfl
      have hd : ([bare p, r] : List (List Nat)).headD [] = bare p := rfl
      have hl : ([bare p, r] : List (List Nat)).getLastD [] = r := rfl
      rw [if_pos l, hd, hl]
      unfold readB
      rw [sgn_app]
      by_cases z : num (bare p) < 0 ∨ num r < 1
      · rw [if_pos z, if_pos (.inr z)]
      · rw [if_neg z, if_neg (by
          rintro (y | y)
          · rw [l] at y; omega
          · exact z y)]
  · rw [readT_no h]
    have hb : 47 ∉ bare x.cps.toList := fun z => h (bare_mem z)
    rw [cut_none hb]
    have l1 : ¬ ([bare x.cps.toList] : List (List Nat)).length = 2 := by simp
    have hd : ([bare x.cps.toList] : List (List Nat)).headD [] = bare x.cps.toList := rfl
    rw [if_neg l1, hd]
    unfold readB
    by_cases z : num (bare x.cps.toList) < 0
    · rw [if_pos (.inr (.inl z)), if_pos (.inl z)]
    · have l3 : ([bare x.cps.toList] : List (List Nat)).length = 1 := rfl
      rw [if_neg (by rw [l3]; omega), if_neg (by omega)]
end Mt
namespace Am
open PySem PySem.Spec PyProof.Rows L2
/-- decimal(word) -/
def spDec : Sp := fun vs H Q _ => ∃ x : Str, vs = [.str x] ∧ x.length ≤ 640 ∧ Q (.int (Mt.num x.cps.toList)) H
theorem digit_asc : ∀ c, c < 128 → Unicode.isDigit c = Mt.digB c := by
  have h : ∀ c : Fin 128, Unicode.isDigit c.val = Mt.digB c.val := by decide +kernel
  exact fun c hc => h ⟨c, hc⟩
theorem ascB (x : Str) : Txt.isascii x = x.cps.toList.all (fun c => decide (c < 128)) := by
  unfold Txt.isascii
  rw [← Array.all_toList]
theorem digB_asc {c : Nat} (h : Mt.digB c = true) : c < 128 := by
  have := of_decide_eq_true h
  omega
theorem decimal_test (x : Str) : (Txt.isascii x && Txt.isdigit x) = (!x.cps.toList.isEmpty && x.cps.toList.all Mt.digB) := by
  rw [ascB]
  unfold Txt.isdigit
  rw [← Array.all_toList]
  have e0 : decide (x.length > 0) = !x.cps.toList.isEmpty := by
    rw [← SL.len_toList]
    cases x.cps.toList <;> simp
  rw [e0]
  generalize x.cps.toList = l
  cases ha : l.all (fun c => decide (c < 128)) with
  | true =>
    have e : l.all Unicode.isDigit = l.all Mt.digB := by
      rw [Bool.eq_iff_iff, List.all_eq_true, List.all_eq_true]
      have h := List.all_eq_true.mp ha
      exact ⟨fun z c hc => by rw [← digit_asc c (of_decide_eq_true (h c hc))]; exact z c hc, fun z c hc => by rw [digit_asc c (of_decide_eq_true (h c hc))]; exact z c hc⟩
    rw [e, Bool.true_and]
  | false =>
    cases hd : l.all Mt.digB with
    | false => simp
    | true =>
      have h := List.all_eq_true.mp hd
      have : l.all (fun c => decide (c < 128)) = true := List.all_eq_true.mpr fun c hc => decide_eq_true (digB_asc (h c hc))
      rw [ha] at this
      cases this
theorem starts0 (x : Str) : Txt.startswith x "0" = decide (x.cps.toList.head? = some 48) := by
  unfold Txt.startswith
  have e : ("0" : Str) = ⟨#[48]⟩ := by decide +kernel
  rw [e]
  have h := StrLaws.subAt_one x 48 0
  rw [Bool.eq_iff_iff, Bool.and_eq_true, decide_eq_true_eq, decide_eq_true_eq, h, List.head?_eq_getElem?]
theorem is0 (x : Str) : decide (V.str x = V.str ("0" : Str)) = decide (x.cps.toList = [48]) := by
  have e : ("0" : Str) = ⟨#[48]⟩ := by decide +kernel
  rw [e]
  refine decide_eq_decide.mpr ⟨fun h => ?_, fun h => ?_⟩
  · rw [V.str.inj h]
  · rw [SL.ext (x := x) (y := ⟨#[48]⟩) h]
section
variable {P : Program} {w : World} {K : PySem.W.Frag} {mg : Str → Option Value} {base : Heap} {C D : Addr}
theorem scDec : FnScope ["word"] ["word"] (defScope sDec) := ⟨rfl, rfl, rfl, by decide +kernel, rfl, by decide +kernel, by decide +kernel⟩
theorem ok_dec {f : Addr} {fd : FuncData} (F : Fun K "decimal" "decimal" sDec f fd) (ni : mg "int" = none) : FnOk P w K mg base CX0 1 f fd ["word"] spDec := by
  refine F.ok scDec (fun vs H Q E h => ?_) (fun cdv A outer s H vs Q E hr h => ?_)
  · obtain ⟨x, rfl, _⟩ := h
    rfl
  · obtain ⟨x, rfl, hl, q⟩ := h
    refine ⟨_, pss_cons (ps_if (pt_not (PW.pt (pw_and (pt_val (pe_bm0 PySem.F.plainAttrs_str PySem.F.slot_str_isascii PySem.F.type_str_isascii mt_isascii (pv 0))) (pw_and1 (pt_val (pe_bm0 PySem.F.plainAttrs_str PySem.F.slot_str_isdigit PySem.F.type_str_isdigit mt_isdigit (pv 0)))))))
        (pss_one (ps_ret (pe_un un_neg pe_int))) pss_nil)
      (pss_cons (ps_if (PW.pt (pw_and (pt_val (pe_bm PySem.F.plainAttrs_str PySem.F.slot_str_startswith PySem.F.type_str_startswith mt_startswith (pv 0) (pa_cons pe_str pa_nil))) (pw_and1 (pt_cmpR op_ne (pv 0) pe_str (nomark _)))))
        (pss_one (ps_ret (pe_un un_neg pe_int))) pss_nil)
      (pss_one (ps_ret (pe_callTy (call_int_str) (by rfl) ni b_int (pa_cons (pv 0) pa_nil))))), ?_⟩
    have key : Mt.num x.cps.toList = if (Txt.isascii x && Txt.isdigit x) = true then (if (x.cps.toList.head? = some 48 ∧ x.cps.toList ≠ [48]) then -1 else (NumText.digitsVal x.cps.toList : Int)) else -1 := by rw [decimal_test]; rfl
    rw [key] at q
    refine ⟨_, rfl, rfl, x, rfl, rfl, trivial, _, rfl, ?_⟩
    cases ha : Txt.isascii x with
    | false =>
      refine iteF (iteT ?_)
      rw [ha, Bool.false_and, if_neg (by decide)] at q
      exact ⟨_, rfl, q⟩
    | true =>
      refine iteT ⟨_, rfl, rfl, x, rfl, rfl, trivial, _, rfl, ?_⟩
      cases hd : Txt.isdigit x with
      | false =>
        refine iteT ?_
        rw [ha, hd, Bool.and_false, if_neg (by decide)] at q
        exact ⟨_, rfl, q⟩
      | true =>
        refine iteF ?_
        have hT : (!x.cps.toList.isEmpty && x.cps.toList.all Mt.digB) = true := by rw [← decimal_test, ha, hd]; rfl
        rw [Bool.and_eq_true] at hT
        have hne : x.cps.toList ≠ [] := by
          intro e
          rw [e] at hT
          exact absurd hT.1 (by decide)
        have hI : PySem.intText? x = some (NumText.digitsVal x.cps.toList : Int) := PySem.intText_digits (Mt.all_dig hT.2) hne (by omega)
        rw [ha, hd, if_pos (by decide)] at q
        have fin : ¬ (x.cps.toList.head? = some 48 ∧ x.cps.toList ≠ [48]) → tRet (tCB (fun xs H Q => ∃ a n, xs = [V.str a] ∧ intText? a = some n ∧ a.length ≤ 640 ∧ Q (V.int n) H) (tCons (tVar 0) tNil)) { nx := fun x H' => Q V.non H', rt := Q } [some (V.str x)] H := by
          intro z
          rw [if_neg z] at q
          exact ⟨_, rfl, x, _, rfl, hI, hl, q⟩
        refine ⟨_, rfl, rfl, x, _, rfl, rfl, _, rfl, ?_⟩
        rw [starts0]
        by_cases h0 : x.cps.toList.head? = some 48
        · rw [decide_eq_true h0]
          refine iteT ⟨_, rfl, rfl, _, rfl, ?_⟩
          rw [is0]
          by_cases h1 : x.cps.toList = [48]
          · rw [decide_eq_true h1]
            exact iteF (fin fun z => z.2 h1)
          · rw [decide_eq_false h1]
            refine iteT ⟨_, rfl, ?_⟩
            rw [if_pos ⟨h0, h1⟩] at q
            exact q
        · rw [decide_eq_false h0]
          exact iteF (iteF (fin fun z => h0 z.1))
end
end Am
/-! promises of defs that are run where no repr is under way (A.guards = some []): such a def may ask repr of its own objects -/
namespace Gu
open PySem PySem.Spec PyProof.Rows L2
structure FnG (P : Program) (w : World) (K : PySem.W.Frag) (mg : Str → Option Value) (base : Heap) (CX : CXT) (k : Nat) (f : Addr) (fd : FuncData) (ps : List Str) (sp : Sp) : Prop where
  len : ∀ vs H Q E, sp vs H Q E → vs.length = ps.length
  go : ∀ (A : Around) (out : List Env) (s : Shared) (H : Hp) (args : Args) (us : List Value) (vs : List V) (Q : VK) (E : XK), Room k A → A.guards = some [] → Env0 P w K mg base A out s H →
    BindsTo s fd args (ps.zip us) → Vals vs us → sp vs H Q E → codeAny (model P w) A (.call (.ref f) args) (CR CX out P w H s Q E) s
section
variable {P : Program} {w : World} {K : PySem.W.Frag} {mg : Str → Option Value} {base : Heap} {CX : CXT} {k : Nat} {f : Addr} {fd : FuncData} {N ps : List Str} {sp : Sp}
theorem FnG.of (F : FnOk P w K mg base CX k f fd ps sp) : FnG P w K mg base CX k f fd ps sp :=
  ⟨F.len, fun A out s H args us vs Q E hr _ => F.run A out s H args us vs Q E hr⟩
/-- a def by its body, where nothing is guarded -/
theorem okG {x qual : Str} {st : Stmt} (F : Fun K x qual st f fd) (S : FnScope N ps (defScope st)) (len : ∀ vs H Q E, sp vs H Q E → vs.length = ps.length)
    (body : ∀ (cdv : Value) (A : Around) (out : List Env) (s : Shared) (H : Hp) (vs : List V) (Q : VK) (E : XK), A.guards = some [] → Room k (A.deeper (envOfC qual (defScope st) s.heap.objs.size f cdv)) → sp vs H Q E →
      ∃ t, PSs (cxOf CX P w K mg base N qual (defScope st) f cdv A out s H E) (defBody st) t ∧ t { nx := fun _ H' => Q .non H', rt := Q } (start N vs) H) : FnG P w K mg base CX (k + 1) f fd ps sp := by
  obtain ⟨oc, od, kV, doc, pm, an, cdv, ct, osl, rfl, at_, code⟩ := F.ex
  constructor
  · exact len
  intro A out s H args us vs Q E room free e0 bind rel want
  have n1 := len _ _ _ _ want
  have inK : K.In s.heap := e0.mod.kin.keeps (fun b o z => (e0.bs b o z).1)
  have noLim : s.heap.NoLimit := e0.mod.nolimit.keeps (fun b o z => (e0.bs b o z).1)
  have kinds : ∀ y ∈ ps.zip us, (defScope st).names.lookup y.1 = some .local ∨ ((defScope st).names.lookup y.1 = some .cell ∧ ((cellsFrom (s.heap.objs.size + 1) (defScope st).names []).lookup y.1).isSome = true) := by
    rintro ⟨n, v⟩ hy
    exact (S.par n (List.of_mem_zip hy).1).imp id fun q => ⟨q, PySem.W.cellsFrom_some _ _ _ (.inl q)⟩
  apply codeAny_call_function room.depth (inK _ _ at_) rfl S.co S.gen rfl (PySem.W.codeRec_of inK code) (bind _ _ _ _ _)
  apply wpAny_newFunctionEnv_cells S.kind kinds
  intro env he s1 x
  subst he
  refine ⟨noLim.keeps x.toInCall.keep, codeAny_func ?_⟩
  obtain ⟨t, run, go⟩ := body cdv A out s H vs Q E free (room.deeper _) want
  have I := inv_start (CX := CX) (E := E) S room.hd e0 n1 rel x
  apply wpAny_mono (run.run [] s1 (start N vs) H _ I go)
  · intro fl s' q
    match fl, q with
    | .ret u, ⟨v, σ', H', J, rv, qv⟩ => exact ⟨v, H', J.os, J.bare, J.base, J.hok, rv, qv⟩
    | .next, ⟨σ', H', J, qv⟩ => exact ⟨.non, H', J.os, J.bare, J.base, J.hok, rfl, qv⟩
    | .brk, ⟨_, _, _, z⟩ => exact z.elim
    | .cont, ⟨_, _, _, z⟩ => exact z.elim
  · exact fun _ _ z => z
/-- the same where nothing is let out -/
theorem okG0 {x qual : Str} {st : Stmt} (F : Fun K x qual st f fd) (S : FnScope N ps (defScope st)) (len : ∀ vs H Q E, sp vs H Q E → vs.length = ps.length)
    (body : ∀ (cdv : Value) (A : Around) (out : List Env) (s : Shared) (H : Hp) (vs : List V) (Q : VK) (E : XK), A.guards = some [] → Room k (A.deeper (envOfC qual (defScope st) s.heap.objs.size f cdv)) → sp vs H Q E →
      ∃ t, PSs (cxOf CX0 P w K mg base N qual (defScope st) f cdv A out s H E).nox (defBody st) t ∧ t { nx := fun _ H' => Q .non H', rt := Q } (start N vs) H) : FnG P w K mg base CX0 (k + 1) f fd ps sp :=
  okG F S len fun cdv A out s H vs Q E free room want => let ⟨t, h, q⟩ := body cdv A out s H vs Q E free room want; ⟨t, h.nox, q⟩
end
section
variable {X : Cx} {CX : CXT} {k : Nat} {f : Addr} {fd : FuncData} {ps : List Str} {sp : Sp} {E : XK} {x : Str} {p pos : Pos} {e : Expr} {es : List Expr} {t : TA}
/-- f(e, ..): a def whose promise wants that nothing is guarded -/
theorem pe_callG (F : FnG X.prog X.w X.K X.mg X.base CX k f fd ps sp) (free : X.A.guards = some []) (hr : Room k X.A) (hg : Gl X x) (hm : X.mg x = some (.ref f)) (hk : PySem.W.keepIn X.K (.ref f) = true) (hb : Binds X.K fd ps []) (hx : Passes CX X E)
    (ha : PA X (e :: es) t) (h1 : (x == ("__debug__" : Str)) = false := by decide) (h2 : starEach (e :: es) X.env = (false, eval e X.env) :: starEach es X.env := by rfl) (h3 : (backTo pos (starEach es X.env)).any (·.1) = false := by rfl) :
    PE X (.Call (.Name x p) (e :: es) [] pos) (tCall sp [] E t) := by
  constructor
  intro pins s σ H Q I want
  refine wpAny_Call_Name_kw (ld_glob I hg hm ?_ h1)
  refine PySem.W.callWith_K (h₀ := X.base) I.ok.mod.kin hk (thn (ha.run pos pins s σ H _ I want) ?_) h2 h3
  rintro us s1 ⟨vs, H1, I1, rel, q⟩
  refine ⟨I1.kIn, wpAny_call ?_⟩
  have q' : sp vs H1 Q E := by simpa using q
  have n1 : us.length = ps.length := by rw [← rel.length]; exact F.len _ _ _ _ q'
  refine codeAny_mono (F.go X.A X.stack s1 H1 ⟨us, []⟩ us vs Q E hr free I1.env0 (by have := hb s1 us I1.kIn (by simpa using n1); simpa using this) rel q') ?_
  intro r s' z
  match r, z with
  | .error e, z => exact hx pins σ H1 s1 e s' I1 z
  | .ok (.ret u), z => exact I1.after z
end

/-- the data that a value stands for, of a heap -/
def rRepr (K : PySem.W.Frag) : List V → Hp → VK → Prop := fun xs H Q => ∃ a d, xs = [.ref a] ∧ Dp K H (.ref a) d ∧ d.showable = true ∧ d.hasDict = false ∧ d.depth ≤ 60 ∧ d.shown.length ≤ sizeLine ∧ Q (.str d.shown) H
theorem call_reprD {X : Cx} (free : X.A.guards = some []) (hu : X.A.units + 64 < cLine) : CallR X (.builtin "repr") (rRepr X.K) := by
  intro pins s σ H xs us Q I rel want
  obtain ⟨a, d, rfl, hd, sh, nd, dp, sz, q⟩ := want
  obtain ⟨u, rfl, ru⟩ := vals1 rel
  cases (show u = Value.ref a from ru)
  obtain ⟨as, r⟩ := Dp.reads I d (.ref a) _ hd rfl
  refine repr_of_reads' r sh (fun z => by rw [nd] at z; cases z) free (by omega) (fun _ _ z => z) ?_ sz
  intro h' t tk kp
  exact ⟨.str d.shown, H, I.kept kp, ⟨t, rfl⟩, q⟩
end Gu
namespace Gu
open PySem PySem.Spec PyProof.Rows L2
section
variable {P : Program} {w : World} {K : PySem.W.Frag} {mg mb : Str → Option Value} {k : Nat} {fa a : Addr} {fd : FuncData} {x : Str} {sp : Sp} {s : Shared} {vs : List Value} {ns : List Int}
/-- the script's object -/
abbrev scr (vs : List Value) : Obj := { cls := .type "list", data := .seq vs.toArray }
/-- what may be known at the law's call: nothing but the script, as it stands -/
def Bare (a : Addr) (vs : List Value) (ns : List Int) (H : Hp) : Prop := ∀ b u, H b = some u → b = a ∧ u = .frz (scr vs) (.lst (ns.map V.int))
theorem from_caller (inK : K.In s.heap) (glob : s.heap.Ns mainGlobals mg) (bi : s.heap.Ns builtinsNs mb) (hbi : ∀ x : Str, x ≠ "__name__" → mb x = bootBuiltins x) (lim : s.heap.NoLimit) (gens : s.gens = #[])
    (script : s.heap.get? a = some (scr vs)) (room : Room k callerA) (F : ∀ base : Heap, K.In base → base.Ns mainGlobals mg → FnG P w K mg base CX0 k fa fd [x] sp)
    (bind : ∀ (s : Shared) (u : Value), BindsTo s fd ⟨[u], []⟩ [(x, u)]) {H : Hp} (bare : Bare a vs ns H) (ok : HOk P w H s.heap) (off : H a ≠ none → K.lookup a = none)
    (want : sp [.ref a] H (fun v _ => v = .bl true) fun _ _ _ => False) :
    codeAny (model P w) callerA (.call (.ref fa) ⟨[.ref a], []⟩) (fun r s' => r = .ok (.ret (.bool true)) ∧ OldK s.heap s'.heap ∧ s'.os = s.os ∧ AllBare s'.gens) s := by
  -- an object whose data is a dict is not the script, so it is not known
  have apart : ∀ {b : Addr} {o : Obj} {es : Array DictEntry} {n : Nat}, s.heap.get? b = some o → o.data = .dict es n → H b = none := by
    intro b o es n e d
    cases z : H b with
    | none => rfl
    | some u =>
      obtain ⟨rfl, _⟩ := bare b u z
      rw [script] at e
      cases e
      cases (show Data.seq vs.toArray _ = Data.dict es n from d)
  have ns' : ∀ {b : Addr} {m : Str → Option Value}, s.heap.Ns b m → (hidT s.heap H).Ns b m := by
    rintro b m ⟨o, es, n, e, d, rest⟩
    exact ⟨o, es, n, hidT_get e (apart e d), d, rest⟩
  have inB : K.In (hidT s.heap H) := by
    intro b o e
    refine hidT_get (inK b o e) ?_
    cases z : H b with
    | none => rfl
    | some u =>
      obtain ⟨rfl, _⟩ := bare b u z
      rw [off (by rw [z]; exact fun q => by cases q)] at e
      cases e
  obtain ⟨mc, l1, l2⟩ := lim
  have e0 : Env0 P w K mg (hidT s.heap H) callerA [] s H := {
    frames := rfl
    mod := ⟨inB, ns' glob, ⟨mb, ns' bi, hbi⟩, ⟨mc, ns' l1, l2⟩⟩
    bs := fun b o e => of_hidT e
    bsz := Nat.le_of_eq (hidT_size _ _)
    funs := trivial
    frf := by intro b hb; cases hb
    hok := ok
    bare := .of_eq gens }
  refine codeAny_mono ((F _ inB (ns' glob)).go callerA [] s H ⟨[.ref a], []⟩ [.ref a] [.ref a] _ _ room rfl e0 (bind s (.ref a)) (.cons rfl .nil) want) ?_
  intro r s' z
  match r, z with
  | .error e, z => exact z.elim
  | .ok (.ret u), ⟨v, H', os, bare', un, ok', rv, q⟩ =>
    have q' : v = .bl true := q
    subst q'
    cases (show u = Value.bool true from rv)
    refine ⟨rfl, OldK.of_keep (fun b o e => ?_), os, bare'⟩
    cases z : H b with
    | none => exact un.keep b o e z (by intro h; cases h) (by intro h; cases h)
    | some u =>
      obtain ⟨rfl, rfl⟩ := bare b u z
      obtain ⟨e1, _⟩ := ok b _ z
      obtain ⟨e2, _⟩ := ok' b _ (un.frzs b _ _ z)
      rw [e] at e1
      cases e1
      exact e2
end
/-- the end of a law's row, from a promise of that kind -/
theorem walkG {l : PySem.W.OpenLaw} {n k : Nat} {q : Program} {loose : List Str} {XP : (Str → Option Value) → Heap → Prop} {YP : World → Heap → Prop} {d : DefRec} {K : Params → PySem.W.Frag} {sp : PySem.W.Frag → Sp} {x : Str}
    (most : l.most = some n) (small : n ≤ sizeLine) (nodef : d.params.defaults = []) (room : Room k callerA) (inK : ∀ (w : World) (h : Heap), YP w h → (K w.params).In h)
    (F : ∀ (w : World) (mg : Str → Option Value) (fa : Addr) (h : Heap), (K w.params).In h → h.Ns mainGlobals mg → mg d.name = some (.ref fa) →
      ∃ fd : FuncData, (∀ (s : Shared) (u : Value), BindsTo s fd ⟨[u], []⟩ [(x, u)]) ∧ ∀ base : Heap, (K w.params).In base → base.Ns mainGlobals mg → FnG l.prog w (K w.params) mg base CX0 k fa fd [x] (sp (K w.params)))
    (want : ∀ (K : PySem.W.Frag) (H : Hp) (a : Addr) (ns : List Int), ns.length ≤ n → SqL K H a (ns.map V.int) → sp K [.ref a] H (fun v _ => v = .bl true) fun _ _ _ => False) :
    PySem.W.WalkO q loose XP YP l.row.toRowW d [] (fun f vs => PySem.call f vs) := by
  refine Att.attach_call most nodef fun w s₀ s mg mb fa o pm cd doc a vs ns G Y ho hd hcd hmg script hints len gens => ?_
  have kin := inK w _ Y
  obtain ⟨fd, bind, hF⟩ := F w mg fa _ kin G.T.g hmg
  have rel : Vals (ns.map V.int) vs := vals_ints hints
  have small' : (ns.map V.int).length ≤ sizeLine := by rw [List.length_map]; exact Nat.le_trans len small
  have small2 : vs.toArray.size ≤ sizeLine := by rw [List.size_toArray, ← rel.length]; exact small'
  cases known : K w.params |>.lookup a with
  | some o' =>
    have e := kin a o' known
    rw [script] at e
    cases e
    refine from_caller (ns := ns) (H := fun _ => none) kin G.T.g G.T.b G.T.builtins G.T.nolimit gens script room hF bind (by intro b u z; cases z) (by intro b u z; cases z) (fun z => (z rfl).elim) ?_
    exact want _ _ a ns len (.inr ⟨_, vs.toArray, _, known, rfl, rfl, rfl, small2, by simpa using rel⟩)
  | none =>
    refine from_caller (ns := ns) (H := upd (fun _ => none) a (.frz (scr vs) (.lst (ns.map V.int)))) kin G.T.g G.T.b G.T.builtins G.T.nolimit gens script room hF bind ?_ ?_ (fun _ => known) ?_
    · intro b u z
      by_cases c : b = a
      · subst c
        rw [upd_same] at z
        exact ⟨rfl, (Option.some.inj z).symm⟩
      · rw [upd_ne c] at z
        cases z
    · intro b u z
      by_cases c : b = a
      · subst c
        rw [upd_same] at z
        cases z
        exact ⟨script, small', vs, _, rel, script⟩
      · rw [upd_ne c] at z
        cases z
    · exact want _ _ a ns len (.inl (.inr ⟨_, upd_same⟩))
end Gu
namespace Am
open PySem PySem.Spec PyProof.Rows L2
/-- all but p stands as it did -/
def Chg (p : Addr) (H H' : Hp) : Prop := ∀ b u, H b = some u → b ≠ p → H' b = some u
theorem Chg.refl (p : Addr) (H : Hp) : Chg p H H := fun _ _ e _ => e
theorem Chg.trans {p : Addr} {H H1 H2 : Hp} (a : Chg p H H1) (b : Chg p H1 H2) : Chg p H H2 := fun c u e n => b c u (a c u e n) n
theorem Chg.of {p : Addr} {H H' : Hp} (s : Same H H') : Chg p H H' := fun b u e _ => s b u e
theorem Chg.upd {p : Addr} {H : Hp} {o : HO} : Chg p H (upd H p o) := fun b u e n => by rw [upd_ne n]; exact e
/-- the law's jar: what is left of the cell's own digits, the mixed number, how often it was asked -/
def JarAt (H : Hp) (p : Addr) (N : Int) : Prop := ∃ o m c : Int, H p = some (.lst [.int o, .int m, .int c]) ∧ 0 ≤ o ∧ (0 ≤ m ∧ m < 2 ^ 61) ∧ 0 ≤ c ∧ c ≤ N
theorem JarAt.mono {H : Hp} {p : Addr} {N M : Int} (h : JarAt H p N) (l : N ≤ M) : JarAt H p M := by
  obtain ⟨o, m, c, h, a, b, d, e⟩ := h
  exact ⟨o, m, c, h, a, b, d, Int.le_trans e l⟩
theorem JarAt.same {H H' : Hp} {p : Addr} {N : Int} (h : JarAt H p N) (e : Same H H') : JarAt H' p N := by
  obtain ⟨o, m, c, h, r⟩ := h
  exact ⟨o, m, c, e _ _ h, r⟩
theorem JarAt.lst {H : Hp} {p : Addr} {N : Int} (h : JarAt H p N) : ∃ xs, H p = some (.lst xs) := by
  obtain ⟨o, m, c, h, _⟩ := h
  exact ⟨_, h⟩
theorem AmAt.chg {C p : Addr} {H H' : Hp} {N : Int} {v : V} {n u : Int} (j : JarAt H p N) (e : Chg p H H') (h : AmAt C H v n u) : AmAt C H' v n u := by
  obtain ⟨l, a, dx, rfl, h⟩ := h
  obtain ⟨xs, hp⟩ := j.lst
  exact ⟨l, a, dx, rfl, e _ _ h (ne_of h hp (by intro z; cases z))⟩
theorem AmV.chg {C p : Addr} {H H' : Hp} {N : Int} {v : V} {n u : Int} (j : JarAt H p N) (e : Chg p H H') (h : AmV C H v n u) : AmV C H' v n u := h.elim (fun h => .inl (h.chg j e)) .inr
theorem tup_chg {p a : Addr} {H H' : Hp} {N : Int} {xs : List V} (j : JarAt H p N) (e : Chg p H H') (h : H a = some (.tup xs)) : H' a = some (.tup xs) := by
  obtain ⟨ys, hp⟩ := j.lst
  exact e _ _ h (ne_of h hp (by intro z; cases z))
theorem atI_in {xs : List V} {i : Int} (h0 : 0 ≤ i) (h1 : i < xs.length) : ∃ v, atI xs i = some v ∧ v ∈ xs := by
  obtain ⟨j, rfl⟩ := Int.eq_ofNat_of_zero_le h0
  have hj : j < xs.length := by omega
  exact ⟨xs[j], atI_nat (List.getElem?_eq_getElem hj), List.getElem_mem hj⟩
structure Nm (mg : Str → Option Value) : Prop where
  len : mg "len" = none
  abs : mg "abs" = none
  int : mg "int" = none
  max : mg "max" = none
  min : mg "min" = none
  range : mg "range" = none
  all : mg "all" = none
  repr : mg "repr" = none
  isi : mg "isinstance" = none
theorem b_abs : bootBuiltins "abs" = some (.builtin "abs") := by decide +kernel
theorem b_repr : bootBuiltins "repr" = some (.builtin "repr") := by decide +kernel
theorem b_max : bootBuiltins "max" = some (.builtin "max") := by decide +kernel
theorem b_min : bootBuiltins "min" = some (.builtin "min") := by decide +kernel
theorem b_all : bootBuiltins "all" = some (.builtin "all") := by decide +kernel
/-- ** of a written base of any size -/
theorem op_powX {X : Cx} : OpR X (binaryOp .Pow) (rI (fun i j => 0 ≤ j ∧ (Builtin.Int.intBits i : Int) * j ≤ 2 ^ 27) fun i j => .int (i ^ j.toNat)) := opI fun i j _ _ _ _ _ hc q => pow_int hc.1 hc.2 q
theorem b01 (b : Bool) : (-(2 ^ 64) : Int) < (if b = true then 1 else 0) ∧ (if b = true then (1 : Int) else 0) < 2 ^ 64 := by cases b <;> decide
theorem b01n (b : Bool) : (0 : Int) ≤ (if b = true then 1 else 0) := by cases b <;> decide
def spJar (K : PySem.W.Frag) : Sp := fun vs H Q _ => ∃ (a : Addr) (ns : List Int) (k : Int), vs = [.ref a, .int k] ∧ SqL K H a (ns.map V.int) ∧ 0 ≤ k ∧ k ≤ 63 ∧ ∀ p H', Same H H' → H p = none → JarAt H' p 0 → Q (.ref p) H'
def spTake : Sp := fun vs H Q _ => ∃ (p : Addr) (u N : Int), vs = [.ref p, .int u] ∧ (0 < u ∧ u < 1073741824) ∧ JarAt H p N ∧ N ≤ 9999 ∧ ∀ d H', (0 ≤ d ∧ d < u) → Chg p H H' → JarAt H' p (N + 1) → Q (.int d) H'
def spOf : Sp := fun vs H Q _ => ∃ (p l : Addr) (xs : List V) (N : Int), vs = [.ref p, .ref l] ∧ H l = some (.lst xs) ∧ l ≠ p ∧ (0 < xs.length ∧ xs.length ≤ 1000) ∧ JarAt H p N ∧ N ≤ 9999 ∧ ∀ v H', v ∈ xs → Chg p H H' → JarAt H' p (N + 1) → Q v H'
theorem sq_bound {k c : Int} (hk : 0 ≤ k) (hk2 : k ≤ 200000) (h0 : 0 ≤ c) (h1 : c ≤ 10000) : 0 ≤ k * c * c ∧ k * c * c ≤ 20000000000000 := by
  have a : 0 ≤ k * c := Int.mul_nonneg hk h0
  refine ⟨Int.mul_nonneg a h0, ?_⟩
  have b : k * c ≤ 200000 * 10000 := Int.mul_le_mul hk2 h1 h0 (by decide)
  have d : k * c * c ≤ 200000 * 10000 * 10000 := Int.mul_le_mul b h1 h0 (by decide)
  omega
section
variable {P : Program} {w : World} {K : PySem.W.Frag} {mg : Str → Option Value} {base : Heap} {C : Addr}
theorem scJar : FnScope ["_law_script", "_law_k", "_law_cell", "_law_own", "_law_blend"] ["_law_script", "_law_k"] (defScope sJar) := ⟨rfl, rfl, rfl, by decide +kernel, rfl, by decide +kernel, by decide +kernel⟩
theorem ok_jar {f : Addr} {fd : FuncData} (F : Fun K "_law_jar" "_law_jar" sJar f fd) (T : Nm mg) : FnOk P w K mg base CX0 1 f fd ["_law_script", "_law_k"] (spJar K) := by
  refine F.ok scJar (fun vs H Q E h => ?_) (fun cdv A outer s H vs Q E hr h => ?_)
  · obtain ⟨a, ns, k, rfl, _⟩ := h
    rfl
  · obtain ⟨a, ns, k, rfl, hS, h0, h1, q⟩ := h
    refine ⟨_, C8.pss_cut (ps_set (i := 2) scJar.nd rfl (.inl rfl) (pe_ifExp (pt_cmpR op_lt (pv 1) (pe_callB call_len_seq (by rfl) T.len PySem.boot_len (pa_cons (pv 0) pa_nil)) (nomark _)) (pe_ix ix_list (pv 0) (pv 1) (fun _ _ => rfl)) (pe_op op_add (pe_op op_mul pe_int (pv 1)) pe_int)))
      (pss_cons (ps_set (i := 3) scJar.nd rfl (.inl rfl) (pe_op op_mul (pe_op op_mod (pe_callTy call_int1 (by rfl) T.int b_int (pa_cons (pe_callB call_abs (by rfl) T.abs b_abs (pa_cons (pv 2) pa_nil)) pa_nil)) (pe_op op_powX (pe_op op_pow pe_int pe_int) pe_int))
        (pe_callTy call_int1 (by rfl) T.int b_int (pa_cons (pe_cmpR op_ge (pe_callB call_abs (by rfl) T.abs b_abs (pa_cons (pv 2) pa_nil)) (pe_op op_pow pe_int pe_int) (nomark _)) pa_nil))))
      (pss_cons (ps_set (i := 4) scJar.nd rfl (.inl rfl) (pe_op op_add (pe_op op_add (pe_op op_mul (pe_op op_mod (pe_callTy call_int1 (by rfl) T.int b_int (pa_cons (pv 2) pa_nil)) pe_int) pe_int) (pe_op op_mul (pe_op op_mul pe_int (pv 1)) (pv 1))) pe_int))
      (pss_one (ps_ret (pe_lst (pa_cons (pv 3) (pa_cons (pe_op op_mod (pe_callTy call_int1 (by rfl) T.int b_int (pa_cons (pv 4) pa_nil)) pe_int) (pa_cons pe_int pa_nil)))))))), ?_⟩
    refine ⟨fun σ' H' => ∃ cell : Int, σ' = [some (.ref a), some (.int k), some (.int cell), none, none] ∧ H' = H, ?_, ?_⟩
    · refine ⟨_, rfl, _, rfl, a, _, rfl, .inl hS, _, _, rfl, rfl, _, rfl, ite2 (fun c => ?_) (fun c => ?_)⟩
      · have c' := of_decide_eq_true c
        rw [List.length_map] at c'
        obtain ⟨v, hv, mv⟩ := atI_in (xs := ns.map V.int) h0 (by rw [List.length_map]; exact c')
        obtain ⟨z, _, rfl⟩ := List.mem_map.mp mv
        exact ⟨_, rfl, _, rfl, a, _, _, _, rfl, rfl, hS, hv, z, rfl, rfl⟩
      · exact ⟨_, rfl, _, _, rfl, rfl, .inl (by decide), _, _, rfl, rfl, _, rfl, rfl⟩
    · rintro σ' H' ⟨cell, rfl, rfl⟩
      have own0 : ∀ x : Int, 0 ≤ x % (((10 : Int) ^ (60 : Int).toNat) ^ (5 : Int).toNat) := fun x => Int.emod_nonneg _ (by decide +kernel)
      refine ⟨_, rfl, cell, rfl, .inl ⟨_, rfl, _, _, rfl, rfl, ⟨by decide, by decide, by decide⟩, _, _, rfl, rfl, (by decide +kernel), _, _, rfl, rfl, (by show (0 : Int) < (10 ^ (60 : Int).toNat) ^ (5 : Int).toNat; decide +kernel), ?_⟩⟩
      refine ⟨_, rfl, cell, rfl, _, _, rfl, rfl, ⟨by decide, by decide, by decide⟩, _, _, rfl, rfl, .inr ⟨_, rfl, _, _, rfl, rfl, .inr (b01 _), ?_⟩⟩
      refine ⟨_, rfl, .inl ⟨_, rfl, _, _, rfl, rfl, (by show (0 : Int) < 2305843009213693951; decide), _, _, rfl, rfl, .inr (by decide), ?_⟩⟩
      refine ⟨_, rfl, _, _, rfl, rfl, .inl (by decide), _, rfl, _, _, rfl, rfl, .inr (by omega), _, _, rfl, rfl, _, _, rfl, rfl, ?_⟩
      refine ⟨_, rfl, _, rfl, .inl ⟨_, rfl, _, _, rfl, rfl, (by show (0 : Int) < 2305843009213693921; decide), (by show 3 ≤ sizeLine; decide), fun p np => ?_⟩⟩
      refine q p _ (same_upd np) np ⟨_, _, _, upd_same, ?_, ⟨Int.emod_nonneg _ (by decide), Int.lt_of_lt_of_le (Int.emod_lt_of_pos _ (by decide)) (by decide)⟩, Int.le_refl _, Int.le_refl _⟩
      exact Int.mul_nonneg (own0 _) (b01n _)
theorem scTake : FnScope ["_law_jar_here", "_law_many", "_law_digit", "_law_big"] ["_law_jar_here", "_law_many"] (defScope sTake) := ⟨rfl, rfl, rfl, by decide +kernel, rfl, by decide +kernel, by decide +kernel⟩
theorem ok_take {f : Addr} {fd : FuncData} (F : Fun K "_law_take" "_law_take" sTake f fd) (T : Nm mg) : FnOk P w K mg base CX0 1 f fd ["_law_jar_here", "_law_many"] spTake := by
  refine F.ok scTake (fun vs H Q E h => ?_) (fun cdv A outer s H vs Q E hr h => ?_)
  · obtain ⟨p, u, N, rfl, _⟩ := h
    rfl
  · obtain ⟨p, u, N, rfl, ⟨u0, u1⟩, ⟨o, m, c, hp, o0, ⟨m0, m1⟩, c0, c1⟩, hN, q⟩ := h
    refine ⟨_, pss_cons (ps_if (pt_cmpR op_gt (pe_ix ix_list (pv 0) pe_int (fun _ _ => rfl)) pe_int (nomark _))
        (pss_cons (ps_set (i := 2) scTake.nd rfl (.inl rfl) (pe_op op_mod (pe_callTy call_int1 (by rfl) T.int b_int (pa_cons (pe_ix ix_list (pv 0) pe_int (fun _ _ => rfl)) pa_nil)) (pv 1)))
        (pss_cons (ps_asg (pe_op op_fdiv (pe_ix ix_list (pv 0) pe_int (fun _ _ => rfl)) (pv 1)) (pg_sub (pv 0) pe_int set_list))
        (pss_one (ps_ret (pv 2))))) pss_nil)
      (pss_cons (ps_asg (pe_op op_add (pe_ix ix_list (pv 0) pe_int (fun _ _ => rfl)) pe_int) (pg_sub (pv 0) pe_int set_list))
      (pss_cons (ps_set (i := 3) scTake.nd rfl (.inl rfl) (pe_op op_mod (pe_callTy call_int1 (by rfl) T.int b_int (pa_cons (pe_op op_mul (pe_op op_add (pe_op op_add (pe_ix ix_list (pv 0) pe_int (fun _ _ => rfl)) (pe_op op_mul (pe_op op_mul pe_int (pe_ix ix_list (pv 0) pe_int (fun _ _ => rfl))) (pe_ix ix_list (pv 0) pe_int (fun _ _ => rfl)))) pe_int) pe_int) pa_nil)) pe_int))
      (pss_cons (ps_set (i := 3) scTake.nd rfl (.inl rfl) (pe_op op_mod (pe_callTy call_int1 (by rfl) T.int b_int (pa_cons (pe_op op_mul (pv 3) (pe_op op_add (pe_op op_mod (pe_callTy call_int1 (by rfl) T.int b_int (pa_cons (pv 3) pa_nil)) pe_int) (pe_op op_mul pe_int (pe_ix ix_list (pv 0) pe_int (fun _ _ => rfl))))) pa_nil)) pe_int))
      (pss_one (ps_ret (pe_op op_mod (pe_callTy call_int1 (by rfl) T.int b_int (pa_cons (pe_op op_add (pe_op op_fdiv (pv 3) pe_int) (pe_op op_fdiv (pv 3) pe_int)) pa_nil)) (pv 1))))))), ?_⟩
    refine ⟨_, rfl, p, _, _, _, rfl, rfl, SqL.of hp, rfl, _, _, rfl, rfl, _, rfl, ite2 (fun z => ?_) (fun _ => ?_)⟩
    · refine ⟨_, rfl, p, _, _, _, rfl, rfl, SqL.of hp, rfl, .inl ⟨_, rfl, _, rfl, _, _, rfl, rfl, u0, ?_⟩⟩
      refine ⟨_, rfl, p, _, _, _, rfl, rfl, SqL.of hp, rfl, _, rfl, _, _, rfl, rfl, ⟨u0, u1⟩, _, rfl, p, _, _, 0, rfl, rfl, hp, rfl, ?_⟩
      refine ⟨_, rfl, q _ _ ⟨Int.emod_nonneg _ (by omega), Int.emod_lt_of_pos _ u0⟩ Chg.upd ⟨_, _, _, upd_same, Int.ediv_nonneg o0 (by omega), ⟨m0, m1⟩, c0, by omega⟩⟩
    · refine ⟨_, rfl, p, _, _, _, rfl, rfl, SqL.of hp, rfl, _, _, rfl, rfl, _, rfl, p, _, _, 2, rfl, rfl, hp, rfl, ?_⟩
      have hp1 : (upd H p (.lst ([V.int o, .int m, .int c].set 2 (.int (c + 1))))) p = some (.lst [V.int o, .int m, .int (c + 1)]) := upd_same
      have k1 : Chg p H (upd H p (.lst ([V.int o, .int m, .int c].set 2 (.int (c + 1))))) := Chg.upd
      generalize (upd H p (.lst ([V.int o, .int m, .int c].set 2 (.int (c + 1))))) = H1 at hp1 k1 ⊢
      have sq := sq_bound (k := 65539) (c := c + 1) (by decide) (by decide) (by omega) (by omega)
      refine ⟨_, rfl, p, _, _, _, rfl, rfl, SqL.of hp1, rfl, ?_⟩
      refine ⟨_, rfl, p, _, _, _, rfl, rfl, SqL.of hp1, rfl, _, _, rfl, rfl, .inl (by decide), ?_⟩
      refine ⟨_, rfl, p, _, _, _, rfl, rfl, SqL.of hp1, rfl, _, _, rfl, rfl, .inr (by omega), ?_⟩
      refine ⟨_, _, rfl, rfl, _, _, rfl, rfl, _, _, rfl, rfl, .inr (by decide), .inl ⟨_, rfl, _, _, rfl, rfl, (by show (0 : Int) < 2305843009213693921; decide), ?_⟩⟩
      have b0 := fun x : Int => Int.emod_nonneg x (b := 2305843009213693921) (by decide)
      have b1 := fun x : Int => Int.emod_lt_of_pos x (b := 2305843009213693921) (by decide)
      have g0 := b0 ((m + 65539 * (c + 1) * (c + 1) + 59) * 48271)
      have g1 := b1 ((m + 65539 * (c + 1) * (c + 1) + 59) * 48271)
      refine ⟨_, rfl, _, rfl, .inl ⟨_, rfl, _, _, rfl, rfl, (by show (0 : Int) < 1000003; decide), ?_⟩⟩
      refine ⟨_, rfl, p, _, _, _, rfl, rfl, SqL.of hp1, rfl, _, _, rfl, rfl, .inl (by decide), _, _, rfl, rfl, _, _, rfl, rfl, .inl ⟨?_, ?_⟩, .inl ⟨_, rfl, _, _, rfl, rfl, (by show (0 : Int) < 2305843009213693907; decide), ?_⟩⟩
      · omega
      · omega
      refine ⟨_, rfl, _, _, rfl, rfl, ⟨by decide, by decide⟩, _, rfl, _, _, rfl, rfl, ⟨by decide, by decide⟩, _, _, rfl, rfl, .inl ⟨_, rfl, _, rfl, _, _, rfl, rfl, u0, ?_⟩⟩
      exact q _ _ ⟨Int.emod_nonneg _ (by omega), Int.emod_lt_of_pos _ u0⟩ k1 ⟨_, _, _, hp1, o0, ⟨m0, m1⟩, by omega, by omega⟩
theorem scOf : FnScope ["_law_jar_here", "_law_some"] ["_law_jar_here", "_law_some"] (defScope sOf) := ⟨rfl, rfl, rfl, by decide +kernel, rfl, by decide +kernel, by decide +kernel⟩
theorem ok_of {f : Addr} {fd : FuncData} (F : Fun K "_law_of" "_law_of" sOf f fd) (T : Nm mg) (GT : GotF P w K mg base "_law_take" 1 ["_law_jar_here", "_law_many"] spTake) : FnOk P w K mg base CX0 2 f fd ["_law_jar_here", "_law_some"] spOf := by
  obtain ⟨fT, fdT, GT, bT, mT, kT⟩ := GT
  refine F.ok scOf (fun vs H Q E h => ?_) (fun cdv A outer s H vs Q E hr h => ?_)
  · obtain ⟨p, l, xs, N, rfl, _⟩ := h
    rfl
  · obtain ⟨p, l, xs, N, rfl, hl, nlp, ⟨x0, x1⟩, hj, hN, q⟩ := h
    refine ⟨_, pss_one (ps_ret (pe_ix ix_list (pv 1) (pe_call GT hr (by rfl) mT kT bT .nil pass0 (pa_cons (pv 0) (pa_cons (pe_callB call_len_seq (by rfl) T.len PySem.boot_len (pa_cons (pv 1) pa_nil)) pa_nil))) (fun _ _ => rfl))), ?_⟩
    refine ⟨_, rfl, _, rfl, _, rfl, l, _, rfl, .inl (SqL.of hl), ?_⟩
    refine ⟨p, _, N, rfl, ⟨by omega, by omega⟩, hj, hN, fun d H' hd k j => ?_⟩
    obtain ⟨v, hv, mv⟩ := atI_in hd.1 hd.2
    exact ⟨l, xs, d, v, rfl, rfl, SqL.of (k _ _ hl nlp), hv, q v H' mv k j⟩
end
end Am
/-! joined texts, and their parts again -/
namespace SL
open PySem PySem.StrLaws PySem.Builtin PySem.Builtin.Str
theorem fold_list (g : Array Nat) : ∀ (l : List Str) (acc : Array Nat), (l.foldl (fun acc p => acc ++ g ++ p.cps) acc).toList = acc.toList ++ l.flatMap fun p => g.toList ++ p.cps.toList
  | [], acc => by simp
  | p :: l, acc => by
    rw [List.foldl_cons, fold_list g l, List.flatMap_cons]
    simp
theorem join_list (g a : Str) (l : List Str) : (Txt.join g (a :: l)).cps.toList = a.cps.toList ++ l.flatMap fun p => g.cps.toList ++ p.cps.toList := by
  show (List.foldl (fun acc p => acc ++ g.cps ++ p.cps) (List.headD (a :: l) Str.empty).cps (List.drop 1 (a :: l))).toList = _
  exact fold_list g.cps l a.cps
theorem cut_join (c : Nat) : ∀ (l : List Str) (a : Str), c ∉ a.cps.toList → (∀ p ∈ l, c ∉ p.cps.toList) → cutAt c (a.cps.toList ++ l.flatMap fun p => [c] ++ p.cps.toList) = a.cps.toList :: l.map fun p => p.cps.toList
  | [], a, h, _ => by rw [List.flatMap_nil, List.append_nil]; exact cut_none h
  | p :: l, a, h, k => by
    rw [List.flatMap_cons]
    show cutAt c (a.cps.toList ++ (c :: (p.cps.toList ++ _))) = _
    rw [cut_app h, cut_join c l p (k p (by simp)) (fun q hq => k q (by simp [hq]))]
    rfl
theorem split_join (c : Nat) (a : Str) (l : List Str) (h : ∀ p ∈ a :: l, c ∉ p.cps.toList) (h0 : ∀ x : Str, Builtin.Str.strKind x ≥ Builtin.Str.strKind ⟨#[c]⟩) : Txt.split (Txt.join ⟨#[c]⟩ (a :: l)) ⟨#[c]⟩ = a :: l := by
  rw [split_sign _ _ (fun _ => h0 _), join_list]
  have e : (⟨#[c]⟩ : Str).cps.toList = [c] := rfl
  rw [e, cut_join c l a (h a (by simp)) (fun p hp => h p (by simp [hp])), List.map_cons, List.map_map, ofL_toList]
  congr 1
  rw [show (ofL ∘ fun p : Str => p.cps.toList) = _root_.id from funext fun p => ofL_toList p, List.map_id]
theorem join_len (g a : Str) (l : List Str) : (Txt.join g (a :: l)).length = a.length + (l.map fun p => g.length + p.length).sum := by
  rw [← len_toList, join_list, List.length_append, len_toList, List.length_flatMap]
  congr 2
  apply List.map_congr_left
  intro p _
  rw [List.length_append, len_toList, len_toList]
theorem kind_ge {c : Nat} (hc : c < 256) (x : Str) : Builtin.Str.strKind x ≥ Builtin.Str.strKind ⟨#[c]⟩ := by
  have e : Builtin.Str.strKind ⟨#[c]⟩ = 1 := by
    unfold Builtin.Str.strKind
    rw [if_pos (by simp [hc])]
  rw [e]
  unfold Builtin.Str.strKind
  split
  · exact Nat.le_refl _
  · split <;> decide
end SL
/-! the parts of a text are no longer than it is -/
namespace SL
open PySem PySem.StrLaws PySem.Builtin PySem.Builtin.Str
theorem cut_small (c : Nat) : ∀ l : List Nat, (cutAt c l).length ≤ l.length + 1 ∧ ∀ p ∈ cutAt c l, p.length ≤ l.length ∧ c ∉ p ∧ ∀ x ∈ p, x ∈ l
  | [] => by
    refine ⟨by simp [cutAt], fun p hp => ?_⟩
    simp [cutAt] at hp
    subst hp
    exact ⟨by simp, by simp, fun _ h => by cases h⟩
  | y :: ys => by
    obtain ⟨a, b⟩ := cut_small c ys
    unfold cutAt
    by_cases e : y = c
    · rw [if_pos e]
      refine ⟨by simp; exact a, fun p hp => ?_⟩
      rcases List.mem_cons.mp hp with rfl | hp
      · exact ⟨by simp, by simp, fun _ h => by cases h⟩
      · obtain ⟨h1, h2, h3⟩ := b p hp
        exact ⟨by simp; omega, h2, fun x hx => List.mem_cons_of_mem _ (h3 x hx)⟩
    · rw [if_neg e]
      cases hc : cutAt c ys with
      | nil => exact absurd hc (cut_ne c ys)
      | cons w ws =>
        rw [hc] at a b
        refine ⟨by simp at a ⊢; omega, fun p hp => ?_⟩
        rcases List.mem_cons.mp hp with rfl | hp
        · obtain ⟨h1, h2, h3⟩ := b w (by simp)
          refine ⟨by simp; exact h1, fun z => ?_, fun x hx => ?_⟩
          · rcases List.mem_cons.mp z with z | z
            · exact e z.symm
            · exact h2 z
          · rcases List.mem_cons.mp hx with rfl | hx
            · exact List.mem_cons_self ..
            · exact List.mem_cons_of_mem _ (h3 x hx)
        · obtain ⟨h1, h2, h3⟩ := b p (List.mem_cons_of_mem _ hp)
          exact ⟨by simp; omega, h2, fun x hx => List.mem_cons_of_mem _ (h3 x hx)⟩
theorem split_small {x : Str} {c : Nat} (hc : c < 256) : (Txt.split x ⟨#[c]⟩).length ≤ x.length + 1 ∧ ∀ p ∈ Txt.split x ⟨#[c]⟩, p.length ≤ x.length ∧ c ∉ p.cps.toList ∧ ∀ y ∈ p.cps.toList, y ∈ x.cps.toList := by
  rw [split_sign x c (fun _ => kind_ge hc x)]
  obtain ⟨a, b⟩ := cut_small c x.cps.toList
  rw [List.length_map]
  refine ⟨by rw [← len_toList x]; exact a, fun p hp => ?_⟩
  obtain ⟨l, hl, rfl⟩ := List.mem_map.mp hp
  obtain ⟨h1, h2, h3⟩ := b l hl
  refine ⟨?_, by rw [toList_ofL]; exact h2, by rw [toList_ofL]; exact h3⟩
  rw [← len_toList, toList_ofL, ← len_toList x]
  exact h1
theorem sp_32 : (" " : Str) = ⟨#[32]⟩ := by decide +kernel
theorem nl_10 : ("\n" : Str) = ⟨#[10]⟩ := by decide +kernel
theorem split_sp {x : Str} : ∀ p ∈ Txt.split x " ", p.length ≤ x.length := fun p hp => by
  rw [sp_32] at hp
  exact ((split_small (by decide)).2 p hp).1
theorem split_nl {x : Str} : (Txt.split x "\n").length ≤ x.length + 1 ∧ ∀ p ∈ Txt.split x "\n", p.length ≤ x.length := by
  rw [nl_10]
  exact ⟨(split_small (by decide)).1, fun p hp => ((split_small (by decide)).2 p hp).1⟩
end SL
/-! what a line of a rule tells -/
namespace Ru
open PySem PySem.Spec PyProof.Rows L2 Am
theorem str_eq (x y : Str) : decide (V.str x = V.str y) = decide (x = y) := decide_eq_decide.mpr ⟨V.str.inj, fun h => by rw [h]⟩
theorem int_eq (x y : Int) : decide (V.int x = V.int y) = decide (x = y) := decide_eq_decide.mpr ⟨V.int.inj, fun h => by rw [h]⟩
theorem inV_strs (x : Str) : ∀ ys : List Str, inV (V.str x) (ys.map V.str) = decide (x ∈ ys)
  | [] => by simp [inV]
  | y :: ys => by
    have ih := inV_strs x ys
    have e : eqV (V.str y) (V.str x) = decide (x = y) := by
      show (y == x) = _
      rw [Bool.eq_iff_iff, beq_iff_eq, decide_eq_true_eq]
      exact eq_comm
    show (eqV (V.str y) (V.str x) || inV (V.str x) (ys.map V.str)) = _
    rw [e, ih, Bool.eq_iff_iff, Bool.or_eq_true, decide_eq_true_eq, decide_eq_true_eq, decide_eq_true_eq, List.mem_cons]
inductive Way
  | int (n : Nat)
  | str (s : Str)
def Way.v : Way → V
  | .int n => .int n
  | .str s => .str s
def wv : Option Way → V
  | none => .non
  | some y => y.v
def wEvery (x : Str) : Option Way := if 1 ≤ Mt.num x.cps.toList ∧ Mt.num x.cps.toList ≤ 14 then some (.int (Mt.num x.cps.toList).toNat) else none
def wBehind (x : Str) : Option Way := if x = "before" ∨ x = "nothing" then some (.str x) else if 0 ≤ Mt.num x.cps.toList ∧ Mt.num x.cps.toList ≤ 9 then some (.int (Mt.num x.cps.toList).toNat) else none
def waysFor (word : Str) : List Str := if word = "late" then ["now", "back"] else if word = "block" then ["days", "last"] else ["heads", "places", "house"]
def wayX (word x : Str) : Option Way := if word = "every" then wEvery x else if word = "behind" then wBehind x else if x ∈ waysFor word then some (.str x) else none
def wayOf (line word : Str) : Option Way := match Txt.split line " " with
  | [w, x] => if w = word then wayX word x else none
  | _ => none
def fiveW : List Str := ["every", "behind", "late", "block", "rest"]
structure Rc (K : PySem.W.Frag) (w : World) (mg : Str → Option Value) : Prop where
  bh : ∃ B, mg "BEHIND" = some (.ref B) ∧ ∀ H, SqT K H B [V.str "before", V.str "nothing"]
  wy : ∃ W, mg "WAYS" = some (.ref W) ∧ ∀ z : Str, z ∈ ([("late" : Str), "block", "rest"] : List Str) → ∃ T, KDct K w W z (.ref T) ∧ ∀ H, SqT K H T ((waysFor z).map V.str)
theorem kstr {K : PySem.W.Frag} : PySem.W.kitOne K (.type "str") (.type "str") = some true := kit_ty (show kitB "str" "str" = some true by decide +kernel)
def spWayOf : Sp := fun vs H Q _ => ∃ l z : Str, vs = [.str l, .str z] ∧ l.length ≤ 600 ∧ z ∈ fiveW ∧ ∀ H', Same H H' → Q (wv (wayOf l z)) H'
section
variable {P : Program} {w : World} {K : PySem.W.Frag} {mg : Str → Option Value} {base : Heap}
theorem scWayOf : FnScope ["line", "word", "words", "way"] ["line", "word"] (defScope sF_way_of) := ⟨rfl, rfl, rfl, by decide +kernel, rfl, by decide +kernel, by decide +kernel⟩
theorem ok_wayOf {f : Addr} {fd : FuncData} (F : Fun K "way_of" "way_of" sF_way_of f fd) (R : Rc K w mg) (T : Nm mg) (GD : GotF P w K mg base "decimal" 1 ["word"] spDec) : FnOk P w K mg base CX0 2 f fd ["line", "word"] spWayOf := by
  obtain ⟨⟨B, mB, hB⟩, W, mW, hW⟩ := R
  obtain ⟨fD, fdD, GD, bD, mD, kD⟩ := GD
  refine F.ok scWayOf (fun vs H Q E h => ?_) (fun cdv A outer s H vs Q E hr h => ?_)
  · obtain ⟨l, z, rfl, _⟩ := h
    rfl
  · obtain ⟨l, z, rfl, hl, hz, q⟩ := h
    refine ⟨_, pss_cons (ps_set (i := 2) scWayOf.nd rfl (.inl rfl) (pe_split (pv 0) pe_str))
      (pss_cons (ps_if (PW.pt (pw_or (pt_cmpR op_ne (pe_callB call_len_seq (by rfl) T.len PySem.boot_len (pa_cons (pv 2) pa_nil)) pe_int (nomark _)) (pw_or1 (pt_cmpR op_ne (pe_ix ix_list (pv 2) pe_int (fun _ _ => rfl)) (pv 1) (nomark _))))) (pss_one (ps_ret pe_non)) pss_nil)
      (pss_cons (ps_set (i := 3) scWayOf.nd rfl (.inl rfl) (pe_ix ix_list (pv 2) pe_int (fun _ _ => rfl)))
      (pss_cons (ps_if (pt_cmpR op_eq (pv 1) pe_str (nomark _)) (pss_one (ps_ret (pe_ifExp (pt_chain op_le op_le pe_int (pe_call GD hr (by rfl) mD kD bD .nil pass0 (pa_cons (pv 3) pa_nil)) pe_int) (pe_call GD hr (by rfl) mD kD bD .nil pass0 (pa_cons (pv 3) pa_nil)) pe_non))) pss_nil)
      (pss_cons (ps_if (pt_cmpR op_eq (pv 1) pe_str (nomark _))
        (pss_cons (ps_if (pt_cmpR op_in_seq (pv 3) (pe_glob (v := .ref B) (by rfl) mB rfl) (by rfl)) (pss_one (ps_ret (pv 3))) pss_nil)
        (pss_one (ps_ret (pe_ifExp (pt_chain op_le op_le pe_int (pe_call GD hr (by rfl) mD kD bD .nil pass0 (pa_cons (pv 3) pa_nil)) pe_int) (pe_call GD hr (by rfl) mD kD bD .nil pass0 (pa_cons (pv 3) pa_nil)) pe_non)))) pss_nil)
      (pss_one (ps_ret (pe_ifExp (pt_cmpR op_in_seq (pv 3) (pe_ix ix_kdict (pe_glob (v := .ref W) (by rfl) mW rfl) (pv 1) (fun _ _ => rfl)) (by rfl)) (pv 3) pe_non))))))), ?_⟩
    refine ⟨_, rfl, ⟨_, rfl⟩, _, _, rfl, rfl, by decide +kernel, Nat.le_trans (show l.length + 2 ≤ 4002 by omega) (by decide), fun D nD => ?_⟩
    have e1 := same_upd (o := .lst ((Txt.split l " ").map V.str)) nD
    have pl := SL.split_sp (x := l)
    have qq := q _ e1
    unfold wayOf at qq
    generalize hs : Txt.split l " " = ps at e1 pl qq ⊢
    refine ⟨_, rfl, D, _, rfl, .inl (SqL.of upd_same), ?_⟩
    have len2 : ps.length ≠ 2 → Q (wv none) (upd H D (.lst (ps.map V.str))) := fun h => by
      match ps, h, qq with
      | [], _, qq => exact qq
      | [_], _, qq => exact qq
      | [_, _], h, _ => exact absurd rfl h
      | _ :: _ :: _ :: _, _, qq => exact qq
    refine ⟨rfl, _, rfl, ?_⟩
    rw [int_eq, List.length_map]
    by_cases c2 : ps.length = 2
    · match ps, c2 with
      | [x, y], _ =>
        clear len2
        refine iteF ?_
        have ly := pl y (by simp)
        refine ⟨_, rfl, D, _, _, _, rfl, rfl, SqL.of upd_same, rfl, _, rfl, rfl, _, rfl, ?_⟩
        rw [str_eq]
        by_cases hxz : x = z
        · subst hxz
          rw [decide_eq_true rfl]
          refine iteF ⟨_, rfl, D, _, _, _, rfl, rfl, SqL.of upd_same, rfl, ?_⟩
          refine ⟨_, rfl, rfl, _, rfl, ?_⟩
          rw [str_eq]
          replace qq : Q (wv (wayX x y)) (upd H D (.lst ([x, y].map V.str))) := by
            rw [show (match [x, y] with | [w, u] => if w = x then wayX x u else none | _ => none) = wayX x y from if_pos rfl] at qq
            exact qq
          unfold wayX at qq
          by_cases h1 : x = "every"
          · rw [if_pos h1] at qq
            rw [decide_eq_true h1]
            refine iteT ⟨_, rfl, y, rfl, by omega, _, _, rfl, rfl, _, rfl, ?_⟩
            unfold wEvery at qq
            by_cases a1 : 1 ≤ Mt.num y.cps.toList
            · rw [decide_eq_true a1]
              refine iteT ⟨_, _, rfl, rfl, _, rfl, ?_⟩
              by_cases a2 : Mt.num y.cps.toList ≤ 14
              · rw [decide_eq_true a2]
                refine iteT ⟨_, rfl, y, rfl, by omega, ?_⟩
                rw [if_pos ⟨a1, a2⟩] at qq
                rw [show Mt.num y.cps.toList = ((Mt.num y.cps.toList).toNat : Int) by omega]
                exact qq
              · rw [decide_eq_false a2]
                rw [if_neg (fun z => a2 z.2)] at qq
                exact iteF qq
            · rw [decide_eq_false a1]
              rw [if_neg (fun z => a1 z.1)] at qq
              exact iteF ⟨_, rfl, iteF qq⟩
          · rw [if_neg h1] at qq
            rw [decide_eq_false h1]
            refine iteF ⟨_, rfl, rfl, _, rfl, ?_⟩
            rw [str_eq]
            by_cases h2 : x = "behind"
            · rw [if_pos h2] at qq
              rw [decide_eq_true h2]
              refine iteT ⟨_, rfl, B, _, rfl, .inr (hB _), rfl, rfl, _, rfl, ?_⟩
              rw [if_neg (by decide), show ([V.str "before", V.str "nothing"] : List V) = [("before" : Str), "nothing"].map V.str from rfl, inV_strs]
              unfold wBehind at qq
              by_cases h3 : y = "before" ∨ y = "nothing"
              · rw [if_pos h3] at qq
                rw [decide_eq_true (show y ∈ ([("before" : Str), "nothing"] : List Str) by simpa using h3)]
                exact iteT ⟨_, rfl, qq⟩
              · rw [if_neg h3] at qq
                rw [decide_eq_false (show ¬ y ∈ ([("before" : Str), "nothing"] : List Str) by simpa using h3)]
                refine iteF ⟨_, rfl, y, rfl, by omega, _, _, rfl, rfl, _, rfl, ?_⟩
                by_cases a1 : 0 ≤ Mt.num y.cps.toList
                · rw [decide_eq_true a1]
                  refine iteT ⟨_, _, rfl, rfl, _, rfl, ?_⟩
                  by_cases a2 : Mt.num y.cps.toList ≤ 9
                  · rw [decide_eq_true a2]
                    refine iteT ⟨_, rfl, y, rfl, by omega, ?_⟩
                    rw [if_pos ⟨a1, a2⟩] at qq
                    rw [show Mt.num y.cps.toList = ((Mt.num y.cps.toList).toNat : Int) by omega]
                    exact qq
                  · rw [decide_eq_false a2]
                    rw [if_neg (fun z => a2 z.2)] at qq
                    exact iteF qq
                · rw [decide_eq_false a1]
                  rw [if_neg (fun z => a1 z.1)] at qq
                  exact iteF ⟨_, rfl, iteF qq⟩
            · rw [if_neg h2] at qq
              rw [decide_eq_false h2]
              have hz' : x ∈ ([("late" : Str), "block", "rest"] : List Str) := by
                unfold fiveW at hz
                simp only [List.mem_cons, List.not_mem_nil, or_false] at hz ⊢
                rcases hz with e | e | e
                · exact absurd e h1
                · exact absurd e h2
                · exact e
              obtain ⟨T3, k3, t3⟩ := hW x hz'
              refine iteF ⟨_, rfl, _, rfl, W, x, _, rfl, rfl, k3, T3, _, rfl, .inr (t3 _), rfl, (by rw [List.all_map]; exact List.all_eq_true.mpr fun _ _ => rfl), _, rfl, ?_⟩
              rw [if_neg (by decide), inV_strs]
              by_cases h3 : y ∈ waysFor x
              · rw [if_pos h3] at qq
                rw [decide_eq_true h3]
                exact iteT ⟨_, rfl, qq⟩
              · rw [if_neg h3] at qq
                rw [decide_eq_false h3]
                exact iteF qq
        · rw [decide_eq_false hxz]
          refine iteT ?_
          rw [show (match [x, y] with | [w, u] => if w = z then wayX z u else none | _ => none) = none from if_neg hxz] at qq
          exact qq
    · rw [show decide ((ps.length : Int) = 2) = false from decide_eq_false (by omega)]
      exact iteT (len2 c2)
end
end Ru
/-! for k, x in enumerate(xs, start=..) -/
namespace Enu
open PySem PySem.Spec PyProof.Rows L2
theorem callWith_type_kwB {M : Model} {A : Around} {E : Value → Shared → Prop} {s : Shared} {pos : Pos} {T : String} {first : List Value} {args : List (Bool × Sem Value)} {keywords : List (Option Str × Sem Value)} {Q : Value → Shared → Prop}
    (hplain : (args.any fun x => x.fst) = false) (hkw : (keywords.any fun x => x.fst.isNone) = false)
    (h : wpAny M A (evalArgs (Value.type T) true args keywords) (fun a s₁ => wpAny M A (call (Value.type T) (first ++ a.pos) a.kw) Q E s₁) E s) : wpAny M A (callWith pos (Value.type T) first args keywords) Q E s := by
  unfold callWith
  refine wpAny_bind (wpAny_holding (wpAny_mono h (fun a s₁ h₁ => ?_) fun _ _ z => z))
  refine wpAny_bind (wpAny_standAt ?_)
  simp only [hplain, hkw, Bool.or_false]
  refine wpAny_bind (wpAny_pure ?_)
  refine wpAny_bind (wpAny_mono h₁ (fun r s₂ hr => wpAny_bind (wpAny_holding (wpAny_point (wpAny_pure hr)))) fun _ _ z => z)
def IteF (K : PySem.W.Frag) (a : Addr) (k : Int) : It :=
  { go := fun i H => ∃ xs x, SqL K H a xs ∧ xs[i]? = some x
    yld := fun i H v H' => ∃ T x, v = V.ref T ∧ H T = none ∧ H' = upd H T (HO.tup [V.int (k + i), x]) ∧ ∀ (xs : List V), SqL K H a xs → xs[i]? = some x
    stop := fun i H => ∃ xs, SqL K H a xs ∧ xs.length = i }
theorem turn_enumF {P : Program} {w : World} {K : PySem.W.Frag} {elts : List Expr} {kk : Nat} {tpos : Pos} (a e it : Addr) (k : Int) :
    Turn P w K (Expr.Tuple elts kk tpos) (IteF K a k) [e, it] e fun i h => (∃ old, IsEnum h e it (k + i) old) ∧ h.IsListIter it a i ∧ e ≠ it := by
  refine ⟨by simp, ?_, ?_, ?_, ?_, ?_⟩
  · rintro i h ⟨⟨old, he⟩, ⟨o, ho, hc, hd⟩, ne⟩ b hb
    have e' : b = e ∨ b = it := by simpa using hb
    rcases e' with rfl | rfl
    · exact ⟨_, he, fun v q => nomatch q⟩
    · exact ⟨o, ho, fun v q => by rw [hd] at q; exact nomatch q⟩
  · rintro i h h' ⟨⟨old, he⟩, hi, ne⟩ kp
    exact ⟨⟨old, kp e (by simp) _ he⟩, hi.at fun o q => kp it (by simp) o q, ne⟩
  · rintro X rfl rfl rfl hc i pins s σ H E I hf ⟨⟨old, he⟩, hit, ne⟩ ⟨xs, x, hq, hx⟩
    obtain ⟨its, rv, p, hz⟩ := I.list hq
    obtain ⟨u, hu, ru⟩ := Vals.get rv hx
    have hel := Heap.lt_size he
    have hil : it < s.heap.objs.size := by obtain ⟨w, q, _⟩ := hit; exact Heap.lt_size q
    have hal : s.heap.IsList a its.toArray := p.isList
    have nai : a ≠ it := by
      rintro rfl
      obtain ⟨o1, q1, c1, _⟩ := id hit
      obtain ⟨o2, q2, c2, _⟩ := id hal
      rw [q1] at q2
      cases q2
      rw [c1] at c2
      exact absurd c2 (by decide)
    have nae : a ≠ e := by
      rintro rfl
      obtain ⟨o2, q2, c2, _⟩ := id hal
      have := he.symm.trans q2
      cases this
      exact absurd (show Value.type "enumerate" = Value.type "list" from c2) (by decide)
    have G := GoesN.enumFrom (elts := elts) (x1 := kk) (pos := tpos) k (Draws.list (prog := X.prog) (w := X.w) (A := X.A.in1) (I.ok.hd hc) it a nai its.toArray) e ne (by simp [ne, nae.symm]) (by simp)
    have ilt : i < its.toArray.size := by
      have h1 := (List.getElem?_eq_some_iff.mp hu).1
      simpa using h1
    refine G.goes i s _ E ilt ⟨⟨old, he⟩, hit, hal⟩ ?_
    rintro v h' tk ⟨T, t, y, rfl, hT, hy, hTu⟩ ⟨hen, hit', hal'⟩ kp htk
    have ey : y = u := by
      have h1 : its.toArray[i]? = some u := by rw [List.getElem?_toArray]; exact hu
      exact Option.some.inj (hy.symm.trans h1)
    subst ey
    obtain ⟨oT, qT, cT, nT, dT⟩ := hTu
    refine ⟨.ref T, upd H T (.tup [.int (k + i), x]), Inv.turnedNew (ch := [e, it]) I (fun b o nb z => kp b o nb z) hf hT ?_, rfl, ⟨T, x, rfl, I.hok.fresh hT, rfl, fun ys hys => ?_⟩, ⟨?_, hit', ne⟩, fun b hb => ?_⟩
    · exact ⟨(show 2 ≤ sizeLine by decide), [Value.int (k + i) t, y], .cons ⟨t, rfl⟩ (.cons ru .nil), oT, qT, cT, nT, dT⟩
    · rw [I.list_inj hys hq]
      exact hx
    · exact hen
    · have e' : b = e ∨ b = it := by simpa using hb
      have hlt : b < s.heap.objs.size := by rcases e' with rfl | rfl <;> assumption
      rw [upd_ne (Nat.ne_of_lt (Nat.lt_of_lt_of_le hlt hT))]
      exact (hf b hb).1
  · rintro X rfl rfl rfl hc i pins s σ H E I hf ⟨⟨old, he⟩, hit, ne⟩ ⟨xs, hq, hx⟩
    obtain ⟨its, rv, p, hz⟩ := I.list hq
    have hal : s.heap.IsList a its.toArray := p.isList
    have nai : a ≠ it := by
      rintro rfl
      obtain ⟨o1, q1, c1, _⟩ := id hit
      obtain ⟨o2, q2, c2, _⟩ := id hal
      rw [q1] at q2
      cases q2
      rw [c1] at c2
      exact absurd c2 (by decide)
    have nae : a ≠ e := by
      rintro rfl
      obtain ⟨o2, q2, c2, _⟩ := id hal
      have := he.symm.trans q2
      cases this
      exact absurd (show Value.type "enumerate" = Value.type "list" from c2) (by decide)
    have G := GoesN.enumFrom (elts := elts) (x1 := kk) (pos := tpos) k (Draws.list (prog := X.prog) (w := X.w) (A := X.A.in1) (I.ok.hd hc) it a nai its.toArray) e ne (by simp [ne, nae.symm]) (by simp)
    have en : its.toArray.size = i := by
      rw [← hx, rv.length]
      simp
    rw [← en] at he hit
    refine wpAny_mono (G.stops s (fun s1 => L2.Inv X pins σ H s1) E ⟨⟨old, he⟩, hit, hal⟩ ?_) (fun _ _ z => z) fun _ _ z => z
    intro h' tk kp htk
    exact I.turnedL (ch := [e, it]) (fun b o nb z => kp b o nb z) hf
  · rintro A i s Q E ⟨⟨old, he⟩, _⟩ q
    exact wpAny_pyIter_enum he q
theorem walk_enumF {K : PySem.W.Frag} {a : Addr} {xs : List V} {k : Int} : Walk (IteF K a k) xs.length (fun H => SqL K H a xs) (YPair (fun i => some (V.int (k + i))) fun i => xs[i]?) := by
  refine ⟨fun i H hi g => ⟨xs, xs[i], g, List.getElem?_eq_getElem hi⟩, fun H g => ⟨xs, g, rfl⟩, ?_⟩
  rintro i H x H' hi g ⟨T, y, rfl, nT, rfl, hy⟩
  exact ⟨T, _, y, rfl, nT, rfl, rfl, hy xs g⟩
def iEnumS (K : PySem.W.Frag) (ta tk : TA) : TI := fun σ H R => ta σ H fun vs H1 => tk σ H1 fun zs H2 => ∃ a xs k, vs = [V.ref a] ∧ zs = [V.int k] ∧ -2 ^ 63 ≤ k ∧ k < 2 ^ 63 ∧ SqL K H2 a xs ∧ R (IteF K a k) H2
theorem pi_enumS {X : Cx} {e : Expr} {ta tk : TA} {p pos tpos : Pos} {elts : List Expr} {kk : Nat} {kws : List Keyword} (hg : Gl X "enumerate") (hm : X.mg "enumerate" = none) (ha : PA X [e] ta) (hk : PK X kws tk)
    (he : backTo pos (starEach [e] X.env) = [(false, eval e X.env)] := by rfl)
    (hpl : ((backTo pos (starEach [e] X.env)).any fun x => x.fst) = false := by rfl)
    (hall : ((backToKw pos (keywordEach kws X.env)).all fun x => x.fst.isSome) = true := by rfl)
    (hnone : ((backToKw pos (keywordEach kws X.env)).any fun x => x.fst.isNone) = false := by rfl)
    (hks : List.filterMap (fun x => x.fst) (backToKw pos (keywordEach kws X.env)) = [("start" : Str)] := by rfl) :
    PI X (Expr.Tuple elts kk tpos) ((Expr.Name "enumerate" p).Call [e] kws pos) (iEnumS X.K ta tk) := by
  refine ⟨fun pins s σ H R I h => wpAny_Call_Name_kw (ld_blt I hg hm boot_enumerate (callWith_type_kwB hpl hnone ?_) (by decide +kernel) (by decide +kernel))⟩
  rw [he]
  refine evalArgs_kwB hall ?_
  have h0 := ha.run pos pins s σ H _ I h
  rw [he] at h0
  refine thn h0 ?_
  rintro us s1 ⟨vs, H1, I1, r1, q1⟩
  refine thn (hk.run pos pins s1 σ H1 _ I1 q1) ?_
  rintro ws s2 ⟨zs, H2, I2, r2, a, xs, k, rfl, rfl, k1, k2, hq, q⟩
  rw [hks]
  cases r1 with
  | cons ra rra =>
  cases rra
  cases ra
  cases r2 with
  | cons rk rrk =>
  cases rrk
  obtain ⟨tt, rfl⟩ := rk
  obtain ⟨its, rv, p', hz⟩ := I2.list hq
  refine enum_begins_start (begins_list a its.toArray) p'.isList k1 k2 ?_
  intro h' hen hit hsz hkp
  have I3 := I2.kept (t' := s2.toks) hkp
  refine wpAny_pyIter_enum hen ?_
  refine ⟨s2.heap.objs.size + 1, [s2.heap.objs.size + 1, s2.heap.objs.size], _, IteF X.K a k, H2, rfl, I3, turn_enumF a (s2.heap.objs.size + 1) s2.heap.objs.size k, ⟨⟨Value.none, ?_⟩, ?_, Nat.succ_ne_self _⟩, fun b hb => ?_, q⟩
  · rw [show k + ((0 : Nat) : Int) = k from Int.add_zero k]
    exact hen
  · exact ⟨_, hit, rfl, rfl⟩
  · have e' : b = s2.heap.objs.size + 1 ∨ b = s2.heap.objs.size := by simpa using hb
    have hle : s2.heap.objs.size ≤ b := by
      rcases e' with z | z
      · rw [z]; exact Nat.le_add_right _ 1
      · rw [z]; exact Nat.le_refl _
    exact Inv.fpOk I2 hle (HOk.fresh I2.hok hle)
end Enu
/-! what the lines of a rule tell, when none is wrong -/
namespace Ru
open PySem PySem.Spec PyProof.Rows L2 Am
/-- a text whose five lines tell these ways -/
structure Says (x : Str) (ys : List Way) : Prop where
  n : (Txt.split x "\n").length = 5
  m : ys.length = 5
  len : x.length ≤ 100000
  ls : ∀ l ∈ Txt.split x "\n", l.length ≤ 600
  hw : ∀ (i : Nat) (l z : Str), (Txt.split x "\n")[i]? = some l → fiveW[i]? = some z → ∃ y, ys[i]? = some y ∧ wayOf l z = some y
def spWays : Sp := fun vs H Q _ => ∃ (x : Str) (ys : List Way), vs = [.str x] ∧ Says x ys ∧ ∀ H' D, Same H H' → H' D = some (.lst (ys.map Way.v)) → H D = none → Q (.ref D) H'
theorem Way.v_ne : ∀ y : Way, y.v ≠ .non
  | .int _ => by intro h; cases h
  | .str _ => by intro h; cases h
section
variable {P : Program} {w : World} {K : PySem.W.Frag} {mg : Str → Option Value} {base : Heap}
theorem scWays : FnScope ["text", "lines", "ways", "at", "line", "way"] ["text"] (defScope sF_ways_of) := ⟨rfl, rfl, rfl, by decide +kernel, rfl, by decide +kernel, by decide +kernel⟩
theorem ok_ways {f : Addr} {fd : FuncData} (F : Fun K "ways_of" "ways_of" sF_ways_of f fd) (T : Nm mg) (ns : mg "str" = none) (ne : mg "enumerate" = none)
    (hL : ∃ A, mg "LINES" = some (.ref A) ∧ ∀ H, SqT K H A (fiveW.map V.str)) (GW : GotF P w K mg base "way_of" 2 ["line", "word"] spWayOf) : FnOk P w K mg base CX0 3 f fd ["text"] spWays := by
  obtain ⟨A5, mL, hL⟩ := hL
  obtain ⟨fW, fdW, GW, bW, mW, kW⟩ := GW
  refine F.ok scWays (fun vs H Q E h => ?_) (fun cdv A outer s H vs Q E hr h => ?_)
  · obtain ⟨x, ys, rfl, _⟩ := h
    rfl
  · obtain ⟨x, ys, rfl, sy, q⟩ := h
    have b_str : bootBuiltins "str" = some (.type "str") := by decide +kernel
    refine ⟨_, pss_cons (ps_if (pt_not (pt_val (pe_callB call_isi (by rfl) T.isi b_isi (pa_cons (pv 0) (pa_cons (pe_bltn (v := .ty "str") (by rfl) ns b_str rfl) pa_nil))))) (pss_one ps_never) pss_nil)
      (pss_cons (ps_par (by rfl) scWays.nd (i := 1) (j := 2) rfl rfl (by decide) rfl rfl (pa_cons (pe_split (pv 0) pe_str) (pa_cons (pe_lst pa_nil) pa_nil)) (by rfl))
      (pss_cons (ps_for (g := gTup K 2 (gCons (gName 3) (gCons (gName 4) gNil))) PassesOwn.never rfl (Enu.pi_enumS (by rfl) ne (pa_cons (pv 1) pa_nil) (pk_cons pe_int pk_nil))
        (pg_tup rfl (pgs_cons (pg_name (i := 3) scWays.nd rfl (.inl rfl)) (pgs_cons (pg_name (i := 4) scWays.nd rfl (.inl rfl)) pgs_nil)))
        (pss_cons (ps_set (i := 5) scWays.nd rfl (.inl rfl) (pe_ifExp (pt_cmpR op_le (pv 3) (pe_callB call_len_seq (by rfl) T.len PySem.boot_len (pa_cons (pe_glob (v := .ref A5) (by rfl) mL rfl) pa_nil)) (nomark _)) (pe_call GW hr (by rfl) mW kW bW .nil pass0 (pa_cons (pv 4) (pa_cons (pe_ix ix_tup (pe_glob (v := .ref A5) (by rfl) mL rfl) (pe_op op_sub (pv 3) pe_int) (fun _ _ => rfl)) pa_nil))) pe_non))
        (pss_cons (ps_if (pt_cmp (pc_isN (pv 5))) (pss_one ps_never) pss_nil)
        (pss_one (ps_expr (pe_bm PySem.F.plainAttrs_list PySem.F.slot_list_append PySem.F.type_list_append mt_append (pv 2) (pa_cons (pv 5) pa_nil)))))))
      (pss_cons (ps_if (pt_cmpR op_lt (pe_callB call_len_seq (by rfl) T.len PySem.boot_len (pa_cons (pv 2) pa_nil)) (pe_callB call_len_seq (by rfl) T.len PySem.boot_len (pa_cons (pe_glob (v := .ref A5) (by rfl) mL rfl) pa_nil)) (nomark _)) (pss_one ps_never) pss_nil)
      (pss_one (ps_ret (pv 2)))))), ?_⟩
    refine ⟨_, rfl, .str x, .ty "str", .type "str", .type "str", _, rfl, .ty _, .base (Bk.tyOf (.str x)), kstr, _, rfl, iteF ?_⟩
    refine ⟨_, rfl, ⟨_, rfl⟩, _, _, rfl, rfl, by decide +kernel, Nat.le_trans (show x.length + 2 ≤ 100002 by have := sy.len; omega) (by decide), fun l nl => ⟨by decide, fun D nD => ⟨_, _, rfl, ?_⟩⟩⟩
    obtain ⟨y5, ym, _, yl, yw⟩ := sy
    have e1 := same_upd (o := .lst ((Txt.split x "\n").map V.str)) nl
    have e2 := same_upd (o := .lst []) nD
    have hl0 := e2 _ _ (upd_same (H := H) (a := l) (o := .lst ((Txt.split x "\n").map V.str)))
    have nDH : H D = none := by
      cases z : H D with
      | none => rfl
      | some u => rw [e1 _ _ z] at nD; cases nD
    have hD0 := upd_same (H := upd H l (.lst ((Txt.split x "\n").map V.str))) (a := D) (o := .lst [])
    have e0 := e1.trans e2
    generalize Txt.split x "\n" = lines at *
    generalize upd (upd H l (.lst (lines.map V.str))) D (.lst []) = H0 at *
    refine ⟨_, rfl, l, _, 1, rfl, rfl, by decide, by decide, SqL.of hl0, for_it (Enu.walk_enumF (xs := lines.map V.str)) (fun i σ H' => ∃ s3 s4 s5, σ = [some (.str x), some (.ref l), some (.ref D), s3, s4, s5] ∧ Same H H' ∧ H' l = some (.lst (lines.map V.str)) ∧ H' D = some (.lst ((ys.take i).map Way.v))) ?_ ?_ ?_ ?_⟩
    · exact ⟨_, _, _, rfl, e0, hl0, hD0⟩
    · rintro i σ H' _ ⟨_, _, _, _, _, h, _⟩
      exact SqL.of h
    · rintro i v σ H2 H3 hi ⟨s3, s4, s5, rfl, s2, hl2, hD2⟩ ⟨T, v1, v2, rfl, nT, rfl, hv1, hv2⟩
      have hi' : i < lines.length := by simpa using hi
      obtain rfl : v2 = .str lines[i] := by
        replace hv2 : (lines.map V.str)[i]? = some v2 := hv2
        rw [List.getElem?_map, List.getElem?_eq_getElem hi'] at hv2
        exact (Option.some.inj hv2).symm
      obtain rfl : v1 = .int (1 + i) := (Option.some.inj hv1).symm
      have i5 : i < fiveW.length := by rw [y5] at hi'; exact hi'
      obtain ⟨y, hy, wy⟩ := yw i _ _ (List.getElem?_eq_getElem hi') (List.getElem?_eq_getElem i5)
      have e3 := same_upd (o := .tup [V.int (1 + i), .str lines[i]]) nT
      refine ⟨T, _, rfl, SqT.of upd_same, rfl, _, _, rfl, _, _, rfl, rfl, ?_⟩
      have hD3 := e3 _ _ hD2
      have hl3 := e3 _ _ hl2
      have s23 := s2.trans e3
      generalize upd H2 T (.tup [V.int (1 + i), .str lines[i]]) = H3 at *
      refine ⟨_, rfl, A5, _, rfl, .inr (hL _), _, _, rfl, rfl, _, rfl, ?_⟩
      rw [show decide ((1 + (i : Int)) ≤ ((fiveW.map V.str).length : Int)) = true from decide_eq_true (by rw [List.length_map]; omega)]
      refine iteT ⟨_, rfl, _, rfl, _, _, rfl, rfl, A5, _, _, .str fiveW[i], rfl, rfl, hL _, ?_, lines[i], fiveW[i], rfl, yl _ (List.getElem_mem hi'), List.getElem_mem i5, fun H4 e4 => ?_⟩
      · rw [show (1 + (i : Int) - 1) = (i : Int) by omega]
        exact atI_nat (by rw [List.getElem?_map, List.getElem?_eq_getElem i5]; rfl)
      rw [wy]
      have hD4 := e4 _ _ hD3
      have hl4 := e4 _ _ hl3
      have s24 := s23.trans e4
      have len : ((ys.take i).map Way.v).length < sizeLine := by
        rw [List.length_map, List.length_take]
        exact Nat.lt_of_le_of_lt (show _ ≤ 5 by omega) (by decide)
      have iy : i < ys.length := by rw [ym]; exact i5
      have fin : ∀ u, u = y.v → ∃ s3 s4 s5, [some (V.str x), some (V.ref l), some (V.ref D), some (V.int (1 + i)), some (V.str lines[i]), some u] = [some (V.str x), some (V.ref l), some (V.ref D), s3, s4, s5] ∧ Same H (upd H4 D (.lst ((ys.take i).map Way.v ++ [u]))) ∧
          (upd H4 D (.lst ((ys.take i).map Way.v ++ [u]))) l = some (.lst (lines.map V.str)) ∧ (upd H4 D (.lst ((ys.take i).map Way.v ++ [u]))) D = some (.lst ((ys.take (i + 1)).map Way.v)) := by
        rintro u rfl
        have nlD : l ≠ D := fun z => by
          rw [z, hD4] at hl4
          have := HO.lst.inj (Option.some.inj hl4)
          have hh := congrArg List.length this
          rw [List.length_map, List.length_map, List.length_take, y5] at hh
          omega
        refine ⟨_, _, _, rfl, fun b v z => ?_, by rw [upd_ne nlD]; exact hl4, ?_⟩
        · rw [upd_ne (ne_of_none z nDH)]
          exact s24 _ _ z
        · rw [upd_same, List.take_add_one, hy]
          simp
      cases y with
      | int n => exact ⟨_, rfl, _, rfl, iteF ⟨_, rfl, .inl ⟨rfl, _, SqL.of hD4⟩, _, rfl, D, _, _, rfl, rfl, hD4, len, fin _ rfl⟩⟩
      | str z => exact ⟨_, rfl, _, rfl, iteF ⟨_, rfl, .inl ⟨rfl, _, SqL.of hD4⟩, _, rfl, D, _, _, rfl, rfl, hD4, len, fin _ rfl⟩⟩
    · rintro σ H2 ⟨s3, s4, s5, rfl, s2, hl2, hD2⟩
      rw [List.length_map, y5, show ys.take 5 = ys from List.take_of_length_le (by omega)] at hD2
      refine ⟨_, rfl, D, _, rfl, .inl (SqL.of hD2), A5, _, rfl, .inr (hL _), _, _, rfl, rfl, _, rfl, ?_⟩
      rw [show decide (((ys.map Way.v).length : Int) < ((fiveW.map V.str).length : Int)) = false from decide_eq_false (by rw [List.length_map, List.length_map, ym]; decide)]
      exact iteF ⟨_, rfl, q _ _ s2 hD2 nDH⟩
end
end Ru
/-! all but what is named stands (the same names as in HA, HG, HI) -/
namespace Hs
open PySem PySem.Spec PyProof.Rows L2 Am
def Fr (ms : List Addr) (H H' : Hp) : Prop := ∀ b u, H b = some u → b ∉ ms → H' b = some u
theorem Fr.same {ms : List Addr} {H H' : Hp} (e : Same H H') : Fr ms H H' := fun b u h _ => e b u h
theorem Fr.trans {ms : List Addr} {H H1 H2 : Hp} (a : Fr ms H H1) (b : Fr ms H1 H2) : Fr ms H H2 := fun c u e n => b c u (a c u e n) n
theorem Fr.upd {ms : List Addr} {H : Hp} {d : Addr} {o : HO} (h : d ∈ ms) : Fr ms H (upd H d o) := fun b u e n => by
  rw [upd_ne (fun z => n (by rw [z]; exact h))]
  exact e
theorem Fr.mono {ms ns : List Addr} {H H' : Hp} (h : Fr ms H H') (e : ∀ x ∈ ms, x ∈ ns) : Fr ns H H' := fun b u z n => h b u z (fun y => n (e b y))
theorem Fr.tr {ms : List Addr} {H H1 H2 : Hp} (a : Fr ms H H1) (b : Same H1 H2) : Fr ms H H2 := fun c u e n => b c u (a c u e n)
theorem putF_len (k : Str) (v : V) : ∀ fs : List (Str × V), (putF k v fs).length ≤ fs.length + 1
  | [] => by simp [putF]
  | (a, b) :: r => by
    have := putF_len k v r
    simp only [putF]
    by_cases c : a = k
    · rw [if_pos c]; simp
    · rw [if_neg c]; simp; omega
theorem mk_same {H H' : Hp} {C h dx : Addr} (nh : H h = none) (nd : H dx = none) (ne : dx ≠ h) (f : Fr [h] (upd (upd H dx (.own h)) h (.ins C dx [])) H') : Same H H' := fun b u e =>
  f _ _ (((same_upd nd).trans (same_upd (by rw [upd_ne (Ne.symm ne)]; exact nh))) _ _ e) (by simpa using ne_of_none e nh)
end Hs
/-! a rule -/
namespace Ru
open PySem PySem.Spec PyProof.Rows L2 Am Hs
def rfs (x : Str) (a b c d e : V) : List (Str × V) := putF "rest" e (putF "block" d (putF "late" c (putF "behind" b (putF "every" a (putF "_text" (.str x) [])))))
section
variable (x : Str) (a b c d e : V)
theorem rfs_re : (rfs x a b c d e).lookup ("rest" : Str) = some e := by unfold rfs; rw [lookup_putF, if_pos rfl]
theorem rfs_bl : (rfs x a b c d e).lookup ("block" : Str) = some d := by unfold rfs; rw [lookup_putF, if_neg (by decide +kernel), lookup_putF, if_pos rfl]
theorem rfs_la : (rfs x a b c d e).lookup ("late" : Str) = some c := by unfold rfs; rw [lookup_putF, if_neg (by decide +kernel), lookup_putF, if_neg (by decide +kernel), lookup_putF, if_pos rfl]
theorem rfs_be : (rfs x a b c d e).lookup ("behind" : Str) = some b := by unfold rfs; rw [lookup_putF, if_neg (by decide +kernel), lookup_putF, if_neg (by decide +kernel), lookup_putF, if_neg (by decide +kernel), lookup_putF, if_pos rfl]
theorem rfs_ev : (rfs x a b c d e).lookup ("every" : Str) = some a := by unfold rfs; rw [lookup_putF, if_neg (by decide +kernel), lookup_putF, if_neg (by decide +kernel), lookup_putF, if_neg (by decide +kernel), lookup_putF, if_neg (by decide +kernel), lookup_putF, if_pos rfl]
theorem rfs_tx : (rfs x a b c d e).lookup ("_text" : Str) = some (.str x) := by unfold rfs; rw [lookup_putF, if_neg (by decide +kernel), lookup_putF, if_neg (by decide +kernel), lookup_putF, if_neg (by decide +kernel), lookup_putF, if_neg (by decide +kernel), lookup_putF, if_neg (by decide +kernel), lookup_putF, if_pos rfl]
end
structure RuC (K : PySem.W.Frag) (C : Addr) : Prop where
  cl : Cls K C
  n1 : NoAttr K C "_text"
  n2 : NoAttr K C "every"
  n3 : NoAttr K C "behind"
  n4 : NoAttr K C "late"
  n5 : NoAttr K C "block"
  n6 : NoAttr K C "rest"
def RuleAt (C : Addr) (H : Hp) (r : Addr) (x : Str) (a b c d e : Way) : Prop := ∃ dx, H r = some (.ins C dx (rfs x a.v b.v c.v d.v e.v))
theorem RuleAt.same {C : Addr} {H H' : Hp} {r : Addr} {x : Str} {a b c d e : Way} (h : RuleAt C H r x a b c d e) (s : Same H H') : RuleAt C H' r x a b c d e := by
  obtain ⟨dx, h⟩ := h
  exact ⟨dx, s _ _ h⟩
def spRInit (C : Addr) : Sp := fun vs H Q _ => ∃ (r dx : Addr) (x : Str) (a b c d e : Way), vs = [.ref r, .str x] ∧ H r = some (.ins C dx []) ∧ Says x [a, b, c, d, e] ∧ ∀ H', Fr [r] H H' → RuleAt C H' r x a b c d e → Q .non H'
section
variable {P : Program} {w : World} {K : PySem.W.Frag} {mg : Str → Option Value} {base : Heap} {C : Addr}
theorem scRInit : FnScope ["self", "text", "ways"] ["self", "text"] (defScope sRule_init) := ⟨rfl, rfl, rfl, by decide +kernel, rfl, by decide +kernel, by decide +kernel⟩
theorem ok_rInit {f : Addr} {fd : FuncData} (F : Fun K "__init__" "Rule.__init__" sRule_init f fd) (rc : RuC K C) (GW : GotF P w K mg base "ways_of" 3 ["text"] spWays) : FnOk P w K mg base CX0 4 f fd ["self", "text"] (spRInit C) := by
  obtain ⟨fW, fdW, GW, bW, mW, kW⟩ := GW
  refine F.ok scRInit (fun vs H Q E h => ?_) (fun cdv A outer s H vs Q E hr h => ?_)
  · obtain ⟨r, dx, x, a, b, c, d, e, rfl, _⟩ := h
    rfl
  · obtain ⟨r, dx, x, a, b, c, d, e, rfl, ob, sy, q⟩ := h
    refine ⟨_, pss_cons (ps_set (i := 2) scRInit.nd rfl (.inl rfl) (pe_call GW hr (by rfl) mW kW bW .nil pass0 (pa_cons (pv 1) pa_nil)))
      (pss_cons (ps_fld (pv 0) (pv 1) rfl)
      (pss_cons (ps_fld (pv 0) (pe_ix ix_list (pv 2) pe_int (fun _ _ => rfl)) rfl)
      (pss_cons (ps_fld (pv 0) (pe_ix ix_list (pv 2) pe_int (fun _ _ => rfl)) rfl)
      (pss_cons (ps_fld (pv 0) (pe_ix ix_list (pv 2) pe_int (fun _ _ => rfl)) rfl)
      (pss_cons (ps_fld (pv 0) (pe_ix ix_list (pv 2) pe_int (fun _ _ => rfl)) rfl)
      (pss_one (ps_fld (pv 0) (pe_ix ix_list (pv 2) pe_int (fun _ _ => rfl)) rfl))))))), ?_⟩
    refine ⟨_, rfl, x, _, rfl, sy, fun H1 D e1 hD nD => ?_⟩
    have nDr : D ≠ r := fun z => by rw [z, ob] at nD; cases nD
    have pl : ∀ {k : Str} {v : V} {fs : List (Str × V)} {n : Nat}, fs.length ≤ n → (putF k v fs).length ≤ n + 1 := fun h => Nat.le_trans (putF_len _ _ _) (Nat.succ_le_succ h)
    have ob1 := e1 _ _ ob
    refine ⟨_, rfl, _, rfl, r, C, dx, _, rfl, ob1, rc.cl, rc.n1, by decide, ?_⟩
    generalize hG : upd H1 r (.ins C dx (putF "_text" (.str x) [])) = G1
    have og : G1 r = some (.ins C dx (putF "_text" (.str x) [])) := by rw [← hG]; exact upd_same
    have dg : G1 D = some (.lst ([a, b, c, d, e].map Way.v)) := by rw [← hG, upd_ne nDr]; exact hD
    have fr : Fr [r] H G1 := by rw [← hG]; exact Fr.trans (Fr.same e1) (Fr.upd (by simp))
    clear hG
    refine ⟨_, rfl, D, _, _, _, rfl, rfl, SqL.of dg, rfl, _, rfl, r, C, dx, _, rfl, og, rc.cl, rc.n2, Nat.lt_of_le_of_lt (pl (Nat.le_refl 0)) (by decide), ?_⟩
    generalize hG : upd G1 r (.ins C dx (putF "every" (a.v) (putF "_text" (.str x) []))) = G2
    have og : G2 r = some (.ins C dx (putF "every" (a.v) (putF "_text" (.str x) []))) := by rw [← hG]; exact upd_same
    have dg : G2 D = some (.lst ([a, b, c, d, e].map Way.v)) := by rw [← hG, upd_ne nDr]; exact dg
    have fr : Fr [r] H G2 := by rw [← hG]; exact Fr.trans fr (Fr.upd (by simp))
    clear hG
    refine ⟨_, rfl, D, _, _, _, rfl, rfl, SqL.of dg, rfl, _, rfl, r, C, dx, _, rfl, og, rc.cl, rc.n3, Nat.lt_of_le_of_lt (pl (pl (Nat.le_refl 0))) (by decide), ?_⟩
    generalize hG : upd G2 r (.ins C dx (putF "behind" (b.v) (putF "every" (a.v) (putF "_text" (.str x) [])))) = G3
    have og : G3 r = some (.ins C dx (putF "behind" (b.v) (putF "every" (a.v) (putF "_text" (.str x) [])))) := by rw [← hG]; exact upd_same
    have dg : G3 D = some (.lst ([a, b, c, d, e].map Way.v)) := by rw [← hG, upd_ne nDr]; exact dg
    have fr : Fr [r] H G3 := by rw [← hG]; exact Fr.trans fr (Fr.upd (by simp))
    clear hG
    refine ⟨_, rfl, D, _, _, _, rfl, rfl, SqL.of dg, rfl, _, rfl, r, C, dx, _, rfl, og, rc.cl, rc.n4, Nat.lt_of_le_of_lt (pl (pl (pl (Nat.le_refl 0)))) (by decide), ?_⟩
    generalize hG : upd G3 r (.ins C dx (putF "late" (c.v) (putF "behind" (b.v) (putF "every" (a.v) (putF "_text" (.str x) []))))) = G4
    have og : G4 r = some (.ins C dx (putF "late" (c.v) (putF "behind" (b.v) (putF "every" (a.v) (putF "_text" (.str x) []))))) := by rw [← hG]; exact upd_same
    have dg : G4 D = some (.lst ([a, b, c, d, e].map Way.v)) := by rw [← hG, upd_ne nDr]; exact dg
    have fr : Fr [r] H G4 := by rw [← hG]; exact Fr.trans fr (Fr.upd (by simp))
    clear hG
    refine ⟨_, rfl, D, _, _, _, rfl, rfl, SqL.of dg, rfl, _, rfl, r, C, dx, _, rfl, og, rc.cl, rc.n5, Nat.lt_of_le_of_lt (pl (pl (pl (pl (Nat.le_refl 0))))) (by decide), ?_⟩
    generalize hG : upd G4 r (.ins C dx (putF "block" (d.v) (putF "late" (c.v) (putF "behind" (b.v) (putF "every" (a.v) (putF "_text" (.str x) [])))))) = G5
    have og : G5 r = some (.ins C dx (putF "block" (d.v) (putF "late" (c.v) (putF "behind" (b.v) (putF "every" (a.v) (putF "_text" (.str x) [])))))) := by rw [← hG]; exact upd_same
    have dg : G5 D = some (.lst ([a, b, c, d, e].map Way.v)) := by rw [← hG, upd_ne nDr]; exact dg
    have fr : Fr [r] H G5 := by rw [← hG]; exact Fr.trans fr (Fr.upd (by simp))
    clear hG
    refine ⟨_, rfl, D, _, _, _, rfl, rfl, SqL.of dg, rfl, _, rfl, r, C, dx, _, rfl, og, rc.cl, rc.n6, Nat.lt_of_le_of_lt (pl (pl (pl (pl (pl (Nat.le_refl 0)))))) (by decide), ?_⟩
    generalize hG : upd G5 r (.ins C dx (putF "rest" (e.v) (putF "block" (d.v) (putF "late" (c.v) (putF "behind" (b.v) (putF "every" (a.v) (putF "_text" (.str x) []))))))) = G6
    have og : G6 r = some (.ins C dx (putF "rest" (e.v) (putF "block" (d.v) (putF "late" (c.v) (putF "behind" (b.v) (putF "every" (a.v) (putF "_text" (.str x) []))))))) := by rw [← hG]; exact upd_same
    have dg : G6 D = some (.lst ([a, b, c, d, e].map Way.v)) := by rw [← hG, upd_ne nDr]; exact dg
    have fr : Fr [r] H G6 := by rw [← hG]; exact Fr.trans fr (Fr.upd (by simp))
    clear hG
    exact q _ fr ⟨dx, og⟩
end
end Ru
/-! == of an own class beside instances of another one (the same names as in HEq) -/
namespace Hs
open PySem PySem.Spec PyProof.Rows L2 Am
/-- an instance of C, or of D, or a value of a built-in type -/
def OrB2 (C D : Addr) (H : Hp) (y : V) : Prop := OrB C H y ∨ ∃ b dy gs, y = .ref b ∧ H b = some (.ins D dy gs)
def rCmp2 (C D : Addr) (sp : Sp) (E : XK) : R2 := fun x y H Q => (∃ a dx fs, x = .ref a ∧ H a = some (.ins C dx fs)) ∧ OrB2 C D H y ∧ sp [x, y] H Q E
section
variable {X : Cx} {C D g : Addr} {k : Nat} {fd : FuncData} {ps : List Str} {sp : Sp} {CX : CXT} {E : XK}
theorem op_cmpC2 {op : CmpOp} (hop : ∀ a b, compareOp op a b = richCompare op a b) (c : OpC X.K C) (nD : PySem.W.notFirst X.K C (.ref D) = true) (m : Om X C (cmpInfo op).2.1 g) (F : FnOk X.prog X.w X.K X.mg X.base CX k g fd ps sp) (hr : Room k X.A) (hb : Binds X.K fd ps [])
    (hx : Passes CX X E) : OpR X (compareOp op) (rCmp2 C D sp E) := by
  intro pins s σ H x y v u Q I rx ry h
  obtain ⟨⟨a, dx, fs, rfl, ha⟩, hy, q⟩ := h
  cases (show v = Value.ref a from rx)
  obtain ⟨od, J⟩ := inst_of I ha
  have ty : ∃ tb, PySem.W.Looks (model X.prog X.w) s.heap (typeOf u) tb ∧ PySem.W.notFirst X.K C tb = true := by
    rcases hy with hy | ⟨b, dy, gs, rfl, hb⟩
    · exact orB_type c I ry hy
    · cases (show u = Value.ref b from ry)
      obtain ⟨od, J⟩ := inst_of I hb
      exact ⟨.ref D, J.type, nD⟩
  obtain ⟨tb, ht, hn⟩ := ty
  obtain ⟨mm, hF⟩ := I.fr
  rw [hop]
  refine PySem.W.cmp_K (op := op) hr.units0 hF I.ok.mod.kin J ht hn m.hs m.hf ?_
  refine wpAny_mono (run_fn (us := [.ref a, u]) (vs := [.ref a, y]) (dvs := []) F hr hb .nil hx I (.cons rfl (.cons ry .nil)) q) (fun w s' z => ?_) fun _ _ x => x
  obtain ⟨z', H', I', rz, qz⟩ := z
  exact SlX.cmpback rz ⟨z', H', I', rz, qz⟩
end
end Hs
/-! == of rules, their text -/
namespace Ru
open PySem PySem.Spec PyProof.Rows L2 Am Hs
structure TxR (K : PySem.W.Frag) (mg : Str → Option Value) (C D : Addr) : Prop where
  ho : RuC K C
  op : OpC K C
  ca : PySem.W.findIn K (.ref C) "__class__" = some (some (.builtin "object.__class__"))
  cn : PySem.W.specialIn K (.builtin "object.__class__") "__get__" = some (some (.builtin "getset_descriptor.__get__"))
  ct : PySem.W.takesIn K (.builtin "object.__class__") = some true
  kC : PySem.W.kitOne K (.ref C) (.ref C) = some true
  kD : PySem.W.kitOne K (.ref D) (.ref C) = some false
  k1 : PySem.W.kitOne K (.type "int") (.ref C) = some false
  k2 : PySem.W.kitOne K (.type "bool") (.ref C) = some false
  k3 : PySem.W.kitOne K (.type "NoneType") (.ref C) = some false
  k4 : PySem.W.kitOne K (.type "str") (.ref C) = some false
  k5 : PySem.W.kitOne K (.type "list") (.ref C) = some false
  k6 : PySem.W.kitOne K (.type "tuple") (.ref C) = some false
  k7 : PySem.W.kitOne K (.type "dict") (.ref C) = some false
  mgC : mg "Rule" = some (.ref C)
theorem TxR.kOf {K : PySem.W.Frag} {mg : Str → Option Value} {C D : Addr} {H : Hp} {x : V} {T : String} (t : TxR K mg C D) (b : Bk H x T) : PySem.W.kitOne K (.type T) (.ref C) = some false := by
  cases b <;> first | exact t.k1 | exact t.k2 | exact t.k3 | exact t.k4 | exact t.k5 | exact t.k6 | exact t.k7
theorem TxR.tyC {K : PySem.W.Frag} {mg : Str → Option Value} {C D a dx : Addr} {H : Hp} {fs : List (Str × V)} (t : TxR K mg C D) (h : H a = some (.ins C dx fs)) : TyX K H (.ref a) (.ref C) :=
  .base (.ins h t.ho.cl t.ca t.cn t.ct t.op.ob)
def spRText (C : Addr) : Sp := fun vs H Q _ => ∃ r x a b c d e, vs = [.ref r] ∧ RuleAt C H r x a b c d e ∧ Q (.str x) H
/-- == of a rule beside anything -/
def spREq (C D : Addr) : Sp := fun vs H Q _ => ∃ r x a b c d e y, vs = [.ref r, y] ∧ RuleAt C H r x a b c d e ∧
  ((∃ g x' a' b' c' d' e', y = .ref g ∧ RuleAt C H g x' a' b' c' d' e' ∧ Q (.bl (decide (x = x'))) H) ∨ ((∃ T, Bk H y T) ∧ Q (.bl false) H) ∨ ∃ b dy gs, y = .ref b ∧ H b = some (.ins D dy gs) ∧ Q (.bl false) H)
section
variable {P : Program} {w : World} {K : PySem.W.Frag} {mg : Str → Option Value} {base : Heap} {C D : Addr}
theorem scRText : FnScope ["self"] ["self"] (defScope sRule_text) := ⟨rfl, rfl, rfl, by decide +kernel, rfl, by decide +kernel, by decide +kernel⟩
theorem ok_rText {f : Addr} {fd : FuncData} (F : Fun K "text" "Rule.text" sRule_text f fd) (t : RuC K C) : FnOk P w K mg base CX0 1 f fd ["self"] (spRText C) := by
  refine F.ok scRText (fun vs H Q E h => ?_) (fun cdv A outer s H vs Q E hr h => ?_)
  · obtain ⟨r, x, a, b, c, d, e, rfl, _⟩ := h
    rfl
  · obtain ⟨r, x, a, b, c, d, e, rfl, ⟨dx, h1⟩, q⟩ := h
    refine ⟨_, pss_one (ps_ret (pe_fld (pv 0) rfl)), ?_⟩
    exact ⟨_, rfl, r, C, dx, _, _, rfl, h1, t.cl, t.n1, rfs_tx _ _ _ _ _ _, q⟩
theorem scREq : FnScope ["self", "other"] ["self", "other"] (defScope sRule_eq) := ⟨rfl, rfl, rfl, by decide +kernel, rfl, by decide +kernel, by decide +kernel⟩
theorem ok_rEq {f : Addr} {fd : FuncData} (F : Fun K "__eq__" "Rule.__eq__" sRule_eq f fd) (t : TxR K mg C D) (tD : Txt K mg D) (ni : mg "isinstance" = none) : FnOk P w K mg base CX0 1 f fd ["self", "other"] (spREq C D) := by
  refine F.ok scREq (fun vs H Q E h => ?_) (fun cdv A outer s H vs Q E hr h => ?_)
  · obtain ⟨r, x, a, b, c, d, e, y, rfl, _⟩ := h
    rfl
  · obtain ⟨r, x, a, b, c, d, e, y, rfl, ⟨dx, h1⟩, hy⟩ := h
    refine ⟨_, pss_one (ps_ret (pe_and (pe_callB call_isi (by rfl) ni b_isi (pa_cons (pv 1) (pa_cons (pe_glob (v := .ref C) (by rfl) t.mgC rfl) pa_nil)))
      (pe_one (pe_cmpR op_eq (pe_fld (pv 0) rfl) (pe_fld (pv 1) rfl) (nomark _))))), ?_⟩
    rcases hy with ⟨g, x', a', b', c', d', e', rfl, ⟨dx', h2⟩, q⟩ | ⟨⟨T, bk⟩, q⟩ | ⟨bb, dy, gs, rfl, hb, q⟩
    · refine ⟨_, rfl, .ref g, .ref C, .ref C, .ref C, _, rfl, .own _, t.tyC h2, t.kC, _, rfl, iteT ?_⟩
      refine ⟨_, rfl, r, C, dx, _, _, rfl, h1, t.ho.cl, t.ho.n1, rfs_tx _ _ _ _ _ _, _, rfl, g, C, dx', _, _, rfl, h2, t.ho.cl, t.ho.n1, rfs_tx _ _ _ _ _ _, rfl, ?_⟩
      rw [str_eq]
      exact q
    · exact ⟨_, rfl, y, .ref C, .type T, .ref C, _, rfl, .own _, .base bk.tyOf, t.kOf bk, _, rfl, iteF q⟩
    · exact ⟨_, rfl, .ref bb, .ref C, .ref D, .ref C, _, rfl, .own _, tD.tyC hb, t.kD, _, rfl, iteF q⟩
end
end Ru
/-! the law: a drawn rule, its text -/
namespace Ru
open PySem PySem.Spec PyProof.Rows L2 Am Hs
abbrev sj (n : Nat) : Str := Str.ofString (toString (n : Int))
theorem sj_len {n : Nat} (h : n ≤ 99) : (sj n).length ≤ 2 := by
  have : ∀ k : Fin 100, (sj k.val).length ≤ 2 := by decide +kernel
  exact this ⟨n, by omega⟩
theorem sj_log {n : Nat} (h : n ≤ 99) : ((n : Int).natAbs).log2 < 1920 := log2_lt (by decide) (Nat.lt_of_le_of_lt (show (n : Int).natAbs ≤ 99 by omega) (by decide))
/-- what a drawn rule is made of -/
structure Due where
  ev : Nat
  be : Str
  la : Str
  bl : Str
  re : Str
structure Due.Ok (d : Due) : Prop where
  ev : 1 ≤ d.ev ∧ d.ev ≤ 14
  be : (d.be = "before" ∨ d.be = "nothing") ∨ ∃ k, k < 10 ∧ d.be = sj k
  la : d.la ∈ [("now" : Str), "back"]
  bl : d.bl ∈ [("days" : Str), "last"]
  re : d.re ∈ [("heads" : Str), "places", "house"]
def Due.lines (d : Due) : List Str := [("every " : Str) ++ sj d.ev, ("behind " : Str) ++ d.be, ("late " : Str) ++ d.la, ("block " : Str) ++ d.bl, ("rest " : Str) ++ d.re]
def Due.text (d : Due) : Str := Txt.join "\n" d.lines
def DueAt (H : Hp) (t : Addr) (d : Due) : Prop := H t = some (.tup [.int d.ev, .str d.be, .str d.la, .str d.bl, .str d.re])
theorem draw {H0 H : Hp} {p l : Addr} {o : HO} {N : Int} (c : Chg p H0 H) (j : JarAt H p N) (nl : H l = none) : JarAt (upd H l o) p N ∧ Chg p H0 (upd H l o) ∧ l ≠ p := by
  have e := same_upd (o := o) nl
  obtain ⟨_, _, _, hp, _⟩ := id j
  exact ⟨j.same e, c.trans (Chg.of e), fun z => by rw [z, hp] at nl; cases nl⟩
def spRule : Sp := fun vs H Q _ => ∃ (p : Addr) (N : Int), vs = [.ref p] ∧ JarAt H p N ∧ N ≤ 9900 ∧ ∀ (H' : Hp) (t : Addr) (d : Due), Chg p H H' → H t = none → JarAt H' p (N + 7) → DueAt H' t d → d.Ok → Q (.ref t) H'
section
variable {P : Program} {w : World} {K : PySem.W.Frag} {mg : Str → Option Value} {base : Heap}
theorem scRule : FnScope ["_law_jar_here", "_law_behind", "_law_every", "_law_rest"] ["_law_jar_here"] (defScope sL_rule) := ⟨rfl, rfl, rfl, by decide +kernel, rfl, by decide +kernel, by decide +kernel⟩
theorem ok_rule {f : Addr} {fd : FuncData} (F : Fun K "_law_rule" "_law_rule" sL_rule f fd) (nst : mg "str" = none) (GT : GotF P w K mg base "_law_take" 1 ["_law_jar_here", "_law_many"] spTake) (GO : GotF P w K mg base "_law_of" 2 ["_law_jar_here", "_law_some"] spOf) : FnOk P w K mg base CX0 3 f fd ["_law_jar_here"] spRule := by
  obtain ⟨fT, fdT, GT, bT, mT, kT⟩ := GT
  obtain ⟨fO, fdO, GO, bO, mO, kO⟩ := GO
  refine F.ok scRule (fun vs H Q E h => ?_) (fun cdv A outer s H vs Q E hr h => ?_)
  · obtain ⟨p, N, rfl, _⟩ := h
    rfl
  · obtain ⟨p, N, rfl, hj, hN, q⟩ := h
    have hr1 : Room 1 _ := hr.mono (by decide)
    have b_str : bootBuiltins "str" = some (.type "str") := by decide +kernel
    refine ⟨_, pss_cons (ps_set (i := 1) scRule.nd rfl (.inl rfl) (pe_call GO hr (by rfl) mO kO bO .nil pass0 (pa_cons (pv 0) (pa_cons (pe_lst (pa_cons pe_str (pa_cons pe_str (pa_cons pe_str (pa_cons (pe_callTy call_str_int (by rfl) nst b_str (pa_cons (pe_call GT hr1 (by rfl) mT kT bT .nil pass0 (pa_cons (pv 0) (pa_cons pe_int pa_nil))) pa_nil)) pa_nil))))) pa_nil))))
      (pss_cons (ps_set (i := 2) scRule.nd rfl (.inl rfl) (pe_call GO hr (by rfl) mO kO bO .nil pass0 (pa_cons (pv 0) (pa_cons (pe_lst (pa_cons pe_int (pa_cons pe_int (pa_cons pe_int (pa_cons pe_int (pa_cons pe_int (pa_cons (pe_op op_add pe_int (pe_call GT hr1 (by rfl) mT kT bT .nil pass0 (pa_cons (pv 0) (pa_cons pe_int pa_nil)))) pa_nil))))))) pa_nil))))
      (pss_cons (ps_set (i := 3) scRule.nd rfl (.inl rfl) (pe_call GO hr (by rfl) mO kO bO .nil pass0 (pa_cons (pv 0) (pa_cons (pe_lst (pa_cons pe_str (pa_cons pe_str (pa_cons pe_str pa_nil)))) pa_nil))))
      (pss_one (ps_ret (pe_tup (pa_cons (pv 2) (pa_cons (pv 1) (pa_cons (pe_call GO hr (by rfl) mO kO bO .nil pass0 (pa_cons (pv 0) (pa_cons (pe_lst (pa_cons pe_str (pa_cons pe_str pa_nil))) pa_nil)))
        (pa_cons (pe_call GO hr (by rfl) mO kO bO .nil pass0 (pa_cons (pv 0) (pa_cons (pe_lst (pa_cons pe_str (pa_cons pe_str (pa_cons pe_str pa_nil)))) pa_nil))) (pa_cons (pv 3) pa_nil)))))))))), ?_⟩
    refine ⟨_, rfl, _, rfl, p, 10, N, rfl, ⟨by decide, by decide⟩, hj, by omega, fun k H1 hk c1 j1 => ?_⟩
    obtain ⟨k0, k1⟩ := hk
    obtain ⟨kn, rfl⟩ := Int.eq_ofNat_of_zero_le k0
    refine ⟨_, rfl, sj_log (by omega), (show 4 ≤ sizeLine by decide), fun l1 nl1 => ?_⟩
    obtain ⟨j1', c1', ne1⟩ := draw c1 j1 nl1
    refine ⟨p, l1, _, _, rfl, upd_same, ne1, ⟨show 0 < 4 by decide, show 4 ≤ 1000 by decide⟩, j1', by omega, fun v H2 hv c2 j2 => ?_⟩
    obtain ⟨be, rfl, hbe⟩ : ∃ be : Str, v = .str be ∧ ((be = "before" ∨ be = "nothing") ∨ ∃ k, k < 10 ∧ be = sj k) := by
      simp only [List.mem_cons, List.not_mem_nil, or_false] at hv
      rcases hv with rfl | rfl | rfl | rfl
      · exact ⟨_, rfl, .inl (.inl rfl)⟩
      · exact ⟨_, rfl, .inl (.inl rfl)⟩
      · exact ⟨_, rfl, .inl (.inr rfl)⟩
      · exact ⟨_, rfl, .inr ⟨kn, by omega, rfl⟩⟩
    replace c2 := c1'.trans c2
    refine ⟨_, rfl, _, rfl, p, 14, _, rfl, ⟨by decide, by decide⟩, j2, by omega, fun m H3 hm c3 j3 => ?_⟩
    obtain ⟨m0, m1⟩ := hm
    replace c3 := c2.trans c3
    refine ⟨_, _, rfl, rfl, (show 6 ≤ sizeLine by decide), fun l2 nl2 => ?_⟩
    obtain ⟨j3', c3', ne2⟩ := draw c3 j3 nl2
    refine ⟨p, l2, _, _, rfl, upd_same, ne2, ⟨show 0 < 6 by decide, show 6 ≤ 1000 by decide⟩, j3', by omega, fun v H4 hv c4 j4 => ?_⟩
    obtain ⟨ev, rfl, hev⟩ : ∃ ev : Nat, v = .int ev ∧ (1 ≤ ev ∧ ev ≤ 14) := by
      obtain ⟨mn, rfl⟩ := Int.eq_ofNat_of_zero_le m0
      simp only [List.mem_cons, List.not_mem_nil, or_false] at hv
      rcases hv with rfl | rfl | rfl | rfl | rfl | rfl
      · exact ⟨1, rfl, by decide, by decide⟩
      · exact ⟨2, rfl, by decide, by decide⟩
      · exact ⟨3, rfl, by decide, by decide⟩
      · exact ⟨4, rfl, by decide, by decide⟩
      · exact ⟨14, rfl, by decide, by decide⟩
      · exact ⟨1 + mn, by rw [Int.natCast_add]; rfl, by omega, by omega⟩
    replace c4 := c3'.trans c4
    refine ⟨_, rfl, by decide, fun l3 nl3 => ?_⟩
    obtain ⟨j4', c4', ne3⟩ := draw c4 j4 nl3
    refine ⟨p, l3, _, _, rfl, upd_same, ne3, ⟨show 0 < 3 by decide, show 3 ≤ 1000 by decide⟩, j4', by omega, fun v H5 hv c5 j5 => ?_⟩
    obtain ⟨re, rfl, hre⟩ : ∃ re : Str, v = .str re ∧ re ∈ [("heads" : Str), "places", "house"] := by
      simp only [List.mem_cons, List.not_mem_nil, or_false] at hv ⊢
      rcases hv with rfl | rfl | rfl <;> exact ⟨_, rfl, by simp⟩
    replace c5 := c4'.trans c5
    refine ⟨_, rfl, _, rfl, _, rfl, by decide, fun l4 nl4 => ?_⟩
    obtain ⟨j5', c5', ne4⟩ := draw c5 j5 nl4
    refine ⟨p, l4, _, _, rfl, upd_same, ne4, ⟨show 0 < 2 by decide, show 2 ≤ 1000 by decide⟩, j5', by omega, fun v H6 hv c6 j6 => ?_⟩
    obtain ⟨la, rfl, hla⟩ : ∃ la : Str, v = .str la ∧ la ∈ [("now" : Str), "back"] := by
      simp only [List.mem_cons, List.not_mem_nil, or_false] at hv ⊢
      rcases hv with rfl | rfl <;> exact ⟨_, rfl, by simp⟩
    replace c6 := c5'.trans c6
    refine ⟨_, rfl, by decide, fun l5 nl5 => ?_⟩
    obtain ⟨j6', c6', ne5⟩ := draw c6 j6 nl5
    refine ⟨p, l5, _, _, rfl, upd_same, ne5, ⟨show 0 < 3 by decide, show 3 ≤ 1000 by decide⟩, j6', by omega, fun v H7 hv c7 j7 => ?_⟩
    obtain ⟨bl, rfl, hbl⟩ : ∃ bl : Str, v = .str bl ∧ bl ∈ [("days" : Str), "last"] := by
      simp only [List.mem_cons, List.not_mem_nil, or_false] at hv ⊢
      rcases hv with rfl | rfl | rfl <;> exact ⟨_, rfl, by simp⟩
    replace c7 := c6'.trans c7
    refine ⟨_, rfl, (show 5 ≤ sizeLine by decide), fun t nt => ?_⟩
    have eT := same_upd (o := .tup [V.int ev, .str be, .str la, .str bl, .str re]) nt
    have ntH : H t = none := by
      obtain ⟨_, _, _, hp, _⟩ := id j7
      have npt : t ≠ p := fun z => by rw [z, hp] at nt; cases nt
      cases z : H t with
      | none => rfl
      | some u => rw [c7 _ _ z npt] at nt; cases nt
    exact q _ t ⟨ev, be, la, bl, re⟩ (c7.trans (Chg.of eT)) ntH ((j7.same eT).mono (by omega)) upd_same ⟨hev, hbe, hla, hbl, hre⟩
end
end Ru
/-! the law: the text of a drawn rule, and that it says its ways -/
namespace Ru
open PySem PySem.Spec PyProof.Rows L2 Am Hs
instance : DecidableEq Way
  | .int n, .int m => if h : n = m then isTrue (by rw [h]) else isFalse fun z => h (Way.int.inj z)
  | .str x, .str y => if h : x = y then isTrue (by rw [h]) else isFalse fun z => h (Way.str.inj z)
  | .int _, .str _ => isFalse fun z => by cases z
  | .str _, .int _ => isFalse fun z => by cases z
def behW (be : Str) : Way := if be = "before" ∨ be = "nothing" then .str be else .int (Mt.num be.cps.toList).toNat
def Due.ways (d : Due) : List Way := [.int d.ev, behW d.be, .str d.la, .str d.bl, .str d.re]
/-- a line of a text: no line feed, short -/
def Ln (x : Str) : Prop := 10 ∉ x.cps.toList ∧ x.length ≤ 20 ∧ (x.cps.toList.all fun c => decide (c < 256)) = true
instance (x : Str) : Decidable (Ln x) := by unfold Ln; infer_instance
theorem w_ev {k : Nat} (h : 1 ≤ k ∧ k ≤ 14) : wayOf (("every " : Str) ++ sj k) "every" = some (.int k) ∧ Ln (("every " : Str) ++ sj k) := by
  have : ∀ k : Fin 15, 1 ≤ k.val → wayOf (("every " : Str) ++ sj k.val) "every" = some (.int k.val) ∧ Ln (("every " : Str) ++ sj k.val) := by decide +kernel
  exact this ⟨k, by omega⟩ h.1
theorem beh_cases {be : Str} (h : (be = "before" ∨ be = "nothing") ∨ ∃ k, k < 10 ∧ be = sj k) (R : Str → Prop) (h1 : R "before") (h2 : R "nothing") (h3 : ∀ k : Fin 10, R (sj k.val)) : R be := by
  rcases h with (rfl | rfl) | ⟨k, hk, rfl⟩
  · exact h1
  · exact h2
  · exact h3 ⟨k, hk⟩
theorem w_be {be : Str} (h : (be = "before" ∨ be = "nothing") ∨ ∃ k, k < 10 ∧ be = sj k) : wayOf (("behind " : Str) ++ be) "behind" = some (behW be) ∧ Ln (("behind " : Str) ++ be) :=
  beh_cases h (fun be => wayOf (("behind " : Str) ++ be) "behind" = some (behW be) ∧ Ln (("behind " : Str) ++ be)) (by decide +kernel) (by decide +kernel) (by decide +kernel)
theorem w_la : ∀ x ∈ [("now" : Str), "back"], wayOf (("late " : Str) ++ x) "late" = some (.str x) ∧ Ln (("late " : Str) ++ x) := by decide +kernel
theorem w_bl : ∀ x ∈ [("days" : Str), "last"], wayOf (("block " : Str) ++ x) "block" = some (.str x) ∧ Ln (("block " : Str) ++ x) := by decide +kernel
theorem w_re : ∀ x ∈ [("heads" : Str), "places", "house"], wayOf (("rest " : Str) ++ x) "rest" = some (.str x) ∧ Ln (("rest " : Str) ++ x) := by decide +kernel
theorem Due.Ok.ln {d : Due} (h : d.Ok) : ∀ l ∈ d.lines, Ln l := by
  intro l hl
  unfold Due.lines at hl
  simp only [List.mem_cons, List.not_mem_nil, or_false] at hl
  rcases hl with rfl | rfl | rfl | rfl | rfl
  · exact (w_ev h.ev).2
  · exact (w_be h.be).2
  · exact (w_la _ h.la).2
  · exact (w_bl _ h.bl).2
  · exact (w_re _ h.re).2
theorem Due.Ok.split {d : Due} (h : d.Ok) : Txt.split d.text "\n" = d.lines := by
  unfold Due.text
  have hl := h.ln
  rw [SL.nl_10]
  unfold Due.lines at hl ⊢
  exact SL.split_join 10 _ _ (fun p hp => (hl p hp).1) (fun x => SL.kind_ge (by decide) x)
theorem Due.Ok.len {d : Due} (h : d.Ok) : d.text.length ≤ 200 := by
  have hl := h.ln
  unfold Due.text Due.lines at *
  rw [SL.join_len]
  have a0 := (hl (("every " : Str) ++ sj d.ev) (by simp)).2.1
  have a1 := (hl (("behind " : Str) ++ d.be) (by simp)).2.1
  have a2 := (hl (("late " : Str) ++ d.la) (by simp)).2.1
  have a3 := (hl (("block " : Str) ++ d.bl) (by simp)).2.1
  have a4 := (hl (("rest " : Str) ++ d.re) (by simp)).2.1
  have n1 : ("\n" : Str).length = 1 := rfl
  simp only [List.map_cons, List.map_nil, List.sum_cons, List.sum_nil, n1]
  omega
theorem Due.Ok.lo {d : Due} (h : d.Ok) : ∀ c ∈ d.text.cps.toList, c < 256 := by
  have hl := h.ln
  unfold Due.text Due.lines at *
  intro c hc
  rw [SL.join_list] at hc
  have lo : ∀ {x : Str}, Ln x → c ∈ x.cps.toList → c < 256 := fun h m => of_decide_eq_true (List.all_eq_true.mp h.2.2 c m)
  rcases List.mem_append.mp hc with z | z
  · exact lo (hl _ (List.mem_cons_self ..)) z
  · obtain ⟨p, hp, z⟩ := List.mem_flatMap.mp z
    rcases List.mem_append.mp z with z | z
    · rw [show ("\n" : Str).cps.toList = [10] from rfl] at z
      rw [List.mem_singleton.mp z]
      decide
    · exact lo (hl _ (List.mem_cons_of_mem _ hp)) z
theorem Due.Ok.says {d : Due} (h : d.Ok) : Says d.text d.ways := by
  refine ⟨by rw [h.split]; rfl, rfl, Nat.le_trans h.len (by decide), fun l hl => ?_, fun i l z hl hz => ?_⟩
  · rw [h.split] at hl
    exact Nat.le_trans (h.ln l hl).2.1 (by decide)
  · rw [h.split] at hl
    unfold Due.lines at hl
    unfold fiveW at hz
    unfold Due.ways
    match i, hl, hz with
    | 0, hl, hz => cases hl; cases hz; exact ⟨_, rfl, (w_ev h.ev).1⟩
    | 1, hl, hz => cases hl; cases hz; exact ⟨_, rfl, (w_be h.be).1⟩
    | 2, hl, hz => cases hl; cases hz; exact ⟨_, rfl, (w_la _ h.la).1⟩
    | 3, hl, hz => cases hl; cases hz; exact ⟨_, rfl, (w_bl _ h.bl).1⟩
    | 4, hl, hz => cases hl; cases hz; exact ⟨_, rfl, (w_re _ h.re).1⟩
    | n + 5, hl, _ => simp at hl
def spRuleText : Sp := fun vs H Q _ => ∃ (t : Addr) (d : Due), vs = [.ref t] ∧ DueAt H t d ∧ d.Ok ∧ ∀ H', Same H H' → Q (.str d.text) H'
section
variable {P : Program} {w : World} {K : PySem.W.Frag} {mg : Str → Option Value} {base : Heap}
theorem scRuleText : FnScope ["_law_rule_here", "_law_words"] ["_law_rule_here"] (defScope sL_rule_text) := ⟨rfl, rfl, rfl, by decide +kernel, rfl, by decide +kernel, by decide +kernel⟩
theorem ok_ruleText {f : Addr} {fd : FuncData} (F : Fun K "_law_rule_text" "_law_rule_text" sL_rule_text f fd) (nst : mg "str" = none) : FnOk P w K mg base CX0 1 f fd ["_law_rule_here"] spRuleText := by
  refine F.ok scRuleText (fun vs H Q E h => ?_) (fun cdv A outer s H vs Q E hr h => ?_)
  · obtain ⟨t, d, rfl, _⟩ := h
    rfl
  · obtain ⟨t, d, rfl, ht, ok, q⟩ := h
    have b_str : bootBuiltins "str" = some (.type "str") := by decide +kernel
    refine ⟨_, pss_cons (ps_set (i := 1) scRuleText.nd rfl (.inl rfl) (pe_lst (pa_cons (pe_op op_add_str pe_str (pe_callTy call_str_int (by rfl) nst b_str (pa_cons (pe_ix ix_tup (pv 0) pe_int (fun _ _ => rfl)) pa_nil)))
        (pa_cons (pe_op op_add_str pe_str (pe_ix ix_tup (pv 0) pe_int (fun _ _ => rfl))) (pa_cons (pe_op op_add_str pe_str (pe_ix ix_tup (pv 0) pe_int (fun _ _ => rfl))) (pa_cons (pe_op op_add_str pe_str (pe_ix ix_tup (pv 0) pe_int (fun _ _ => rfl))) (pa_cons (pe_op op_add_str pe_str (pe_ix ix_tup (pv 0) pe_int (fun _ _ => rfl))) pa_nil)))))))
      (pss_one (ps_ret (pe_join pe_str (pv 1)))), ?_⟩
    have ln := ok.ln
    unfold Due.lines at ln
    have big : ∀ {x y : Str}, Ln (x ++ y) → x.length + y.length ≤ sizeLine := fun h => by
      have := h.2.1
      rw [strLen_append] at this
      exact Nat.le_trans (show _ ≤ 20 by omega) (by decide)
    have dev := ok.ev
    refine ⟨_, rfl, t, _, _, _, rfl, rfl, SqT.of ht, rfl, _, rfl, sj_log (by omega), _, _, rfl, rfl, big (ln _ (List.mem_cons_self ..)), ?_⟩
    refine ⟨_, rfl, t, _, _, _, rfl, rfl, SqT.of ht, rfl, _, _, rfl, rfl, big (ln _ (by simp)), ?_⟩
    refine ⟨_, rfl, t, _, _, _, rfl, rfl, SqT.of ht, rfl, _, _, rfl, rfl, big (ln _ (by simp)), ?_⟩
    refine ⟨_, rfl, t, _, _, _, rfl, rfl, SqT.of ht, rfl, _, _, rfl, rfl, big (ln _ (by simp)), ?_⟩
    refine ⟨_, rfl, t, _, _, _, rfl, rfl, SqT.of ht, rfl, _, _, rfl, rfl, big (ln _ (by simp)), (show 5 ≤ sizeLine by decide), fun l nl => ?_⟩
    refine ⟨⟨_, rfl⟩, _, rfl, _, l, d.lines, rfl, rfl, .inl (SqL.of upd_same), ?_, q _ (same_upd nl)⟩
    have a0 := (ln (("every " : Str) ++ sj d.ev) (by simp)).2.1
    have a1 := (ln (("behind " : Str) ++ d.be) (by simp)).2.1
    have a2 := (ln (("late " : Str) ++ d.la) (by simp)).2.1
    have a3 := (ln (("block " : Str) ++ d.bl) (by simp)).2.1
    have a4 := (ln (("rest " : Str) ++ d.re) (by simp)).2.1
    have n1 : ("\n" : Str).length = 1 := rfl
    unfold Due.lines
    simp only [List.map_cons, List.map_nil, List.sum_cons, List.sum_nil, n1, List.length_cons, List.length_nil]
    omega
end
end Ru
/-! the law: odd values -/
namespace Ru
open PySem PySem.Spec PyProof.Rows L2 Am Hs
/-- a value of a built-in type, or an instance of D -/
def Odd (D : Addr) (H : Hp) (v : V) : Prop := (∃ T, Bk H v T) ∨ ∃ b dy gs, v = .ref b ∧ H b = some (.ins D dy gs)
theorem Odd.same {D : Addr} {H H' : Hp} {v : V} (h : Odd D H v) (e : Same H H') : Odd D H' v := h.elim (fun ⟨T, b⟩ => .inl ⟨T, b.same e⟩) fun ⟨b, dy, gs, a, z⟩ => .inr ⟨b, dy, gs, a, e _ _ z⟩
theorem Bk.chg {p : Addr} {H H' : Hp} {v : V} {T : String} (h : Bk H v T) (n : v ≠ .ref p) (c : Chg p H H') : Bk H' v T := by
  have ne : ∀ {a : Addr}, V.ref a ≠ V.ref p → a ≠ p := fun h z => h (by rw [z])
  cases h with
  | non => exact .non
  | bl b => exact .bl b
  | int i => exact .int i
  | str z => exact .str z
  | lst h => exact .lst (c _ _ h (ne n))
  | tup h => exact .tup (c _ _ h (ne n))
  | dK h => exact .dK (c _ _ h (ne n))
theorem Odd.chg {D p : Addr} {H H' : Hp} {v : V} {N : Int} (h : Odd D H v) (j : JarAt H p N) (n : v ≠ .ref p) (c : Chg p H H') : Odd D H' v := by
  obtain ⟨_, _, _, hp, _⟩ := j
  rcases h with ⟨T, b⟩ | ⟨b, dy, gs, rfl, z⟩
  · exact .inl ⟨T, Bk.chg b n c⟩
  · exact .inr ⟨b, dy, gs, rfl, c _ _ z (ne_of z hp (by intro q; cases q))⟩
def spOdd (D : Addr) : Sp := fun vs H Q _ => ∃ (p : Addr) (N : Int), vs = [.ref p] ∧ JarAt H p N ∧ N ≤ 9900 ∧ ∀ (H' : Hp) (v : V), Chg p H H' → JarAt H' p (N + 1) → Odd D H' v → v ≠ .ref p → Q v H'
section
variable {P : Program} {w : World} {K : PySem.W.Frag} {mg : Str → Option Value} {base : Heap} {D : Addr}
theorem scOdd : FnScope ["_law_jar_here", "_law_some"] ["_law_jar_here"] (defScope sL_odd) := ⟨rfl, rfl, rfl, by decide +kernel, rfl, by decide +kernel, by decide +kernel⟩
theorem ok_odd {f : Addr} {fd : FuncData} (F : Fun K "_law_odd" "_law_odd" sL_odd f fd) (mA : mg "Amount" = some (.ref D)) (GI : GotI P w K mg base D) (GO : GotF P w K mg base "_law_of" 2 ["_law_jar_here", "_law_some"] spOf) : FnOk P w K mg base CX0 4 f fd ["_law_jar_here"] (spOdd D) := by
  obtain ⟨fI, fdI, GI, bI, ⟨ds, v2, b2⟩, MkI⟩ := GI
  obtain ⟨fO, fdO, GO, bO, mO, kO⟩ := GO
  refine F.ok scOdd (fun vs H Q E h => ?_) (fun cdv A outer s H vs Q E hr h => ?_)
  · obtain ⟨p, N, rfl, _⟩ := h
    rfl
  · obtain ⟨p, N, rfl, hj, hN, q⟩ := h
    have hr2 : Room 2 _ := hr.mono (by decide)
    refine ⟨_, pss_cons (ps_set (i := 1) scOdd.nd rfl (.inl rfl) (pe_lst (pa_cons pe_non (pa_cons pe_bl (pa_cons pe_bl (pa_cons pe_int (pa_cons pe_int (pa_cons (pe_un un_neg pe_int) (pa_cons pe_int (pa_cons pe_int (pa_cons pe_str (pa_cons pe_str (pa_cons pe_str (pa_cons pe_str (pa_cons (pe_tup pa_nil) (pa_cons (pe_tup (pa_cons pe_int pa_nil)) (pa_cons (pe_tup (pa_cons pe_str (pa_cons pe_int pa_nil))) (pa_cons (pe_lst pa_nil) (pa_cons (pe_lst (pa_cons pe_int pa_nil)) (pa_cons pe_dnewK (pa_cons (pe_disp (pps_cons pe_str pe_int pps_nil) (by rfl) (by rfl) (by simp) (by decide)) pa_nil)))))))))))))))))))))
      (pss_one (ps_ret (pe_call GO hr2 (by rfl) mO kO bO .nil pass0 (pa_cons (pv 0) (pa_cons (pe_op op_cat (pv 1) (pe_lst (pa_cons (pe_tup (pa_cons (pe_tup pa_nil) pa_nil)) (pa_cons (pe_tup (pa_cons pe_int (pa_cons pe_int (pa_cons pe_int pa_nil)))) (pa_cons pe_int (pa_cons pe_str (pa_cons pe_str (pa_cons (pe_tup (pa_cons pe_str (pa_cons pe_bl pa_nil))) (pa_cons (pe_un un_neg pe_int) (pa_cons (pe_make MkI GI hr (by rfl) mA b2 v2 pass0 (pa_cons pe_int pa_nil)) (pa_cons (pe_make MkI GI hr (by rfl) mA bI .nil pass0 (pa_cons pe_int (pa_cons pe_int pa_nil))) pa_nil))))))))))) pa_nil))))), ?_⟩
    refine ⟨_, rfl, (show 0 ≤ sizeLine by decide), fun t0 nt0 => ?_⟩
    have e1 := same_upd (o := .tup []) nt0
    have ot0 := upd_same (H := H) (a := t0) (o := .tup [])
    have es := e1
    generalize upd H t0 (.tup []) = A1 at *
    clear e1 nt0
    refine ⟨(show 1 ≤ sizeLine by decide), fun t1 nt1 => ?_⟩
    have e2 := same_upd (o := .tup [.int 1]) nt1
    have ot1 := upd_same (H := A1) (a := t1) (o := .tup [.int 1])
    replace ot0 := e2 _ _ ot0
    replace es := es.trans e2
    generalize upd A1 t1 (.tup [.int 1]) = A2 at *
    clear e2 nt1
    refine ⟨(show 2 ≤ sizeLine by decide), fun t2 nt2 => ?_⟩
    have e3 := same_upd (o := .tup [.str "main", .int 1]) nt2
    have ot2 := upd_same (H := A2) (a := t2) (o := .tup [.str "main", .int 1])
    replace ot0 := e3 _ _ ot0
    replace ot1 := e3 _ _ ot1
    replace es := es.trans e3
    generalize upd A2 t2 (.tup [.str "main", .int 1]) = A3 at *
    clear e3 nt2
    refine ⟨(show 0 ≤ sizeLine by decide), fun l0 nl0 => ?_⟩
    have e4 := same_upd (o := .lst []) nl0
    have ol0 := upd_same (H := A3) (a := l0) (o := .lst [])
    replace ot0 := e4 _ _ ot0
    replace ot1 := e4 _ _ ot1
    replace ot2 := e4 _ _ ot2
    replace es := es.trans e4
    generalize upd A3 l0 (.lst []) = A4 at *
    clear e4 nl0
    refine ⟨(show 1 ≤ sizeLine by decide), fun l1 nl1 => ?_⟩
    have e5 := same_upd (o := .lst [.int 1]) nl1
    have ol1 := upd_same (H := A4) (a := l1) (o := .lst [.int 1])
    replace ot0 := e5 _ _ ot0
    replace ot1 := e5 _ _ ot1
    replace ot2 := e5 _ _ ot2
    replace ol0 := e5 _ _ ol0
    replace es := es.trans e5
    generalize upd A4 l1 (.lst [.int 1]) = A5 at *
    clear e5 nl1
    refine fun d0 nd0 => ?_
    have e6 := same_upd (o := .dK []) nd0
    have od0 := upd_same (H := A5) (a := d0) (o := .dK [])
    replace ot0 := e6 _ _ ot0
    replace ot1 := e6 _ _ ot1
    replace ot2 := e6 _ _ ot2
    replace ol0 := e6 _ _ ol0
    replace ol1 := e6 _ _ ol1
    replace es := es.trans e6
    generalize upd A5 d0 (.dK []) = A6 at *
    clear e6 nd0
    refine fun d1 nd1 => ?_
    have sd : Same A6 (upd (upd A6 d1 (.dK [])) d1 (.dK (mergeK [] [((.inr "a" : Key), V.int 1)]))) := fun b u e => by
      have n := ne_of_none e nd1
      rw [upd_ne n, upd_ne n]
      exact e
    have od1 := upd_same (H := upd A6 d1 (.dK [])) (a := d1) (o := .dK (mergeK [] [((.inr "a" : Key), V.int 1)]))
    refine ⟨upd_same, [(.inr "a", .int 1)], rfl, by decide, (show 19 ≤ sizeLine by decide), fun lq nlq => ?_⟩
    replace ot0 := sd _ _ ot0
    replace ot1 := sd _ _ ot1
    replace ot2 := sd _ _ ot2
    replace ol0 := sd _ _ ol0
    replace ol1 := sd _ _ ol1
    replace od0 := sd _ _ od0
    replace es := es.trans sd
    generalize upd (upd A6 d1 (.dK [])) d1 (.dK (mergeK [] [((.inr "a" : Key), V.int 1)])) = A7 at *
    clear sd nd1
    have e8 := same_upd (o := .lst [V.non, .bl true, .bl false, .int 0, .int 1, .int (-1), .int 2, .int 15, .str "", .str "main", .str "house", .str "a", .ref t0, .ref t1, .ref t2, .ref l0, .ref l1, .ref d0, .ref d1]) nlq
    have olq := upd_same (H := A7) (a := lq) (o := .lst [V.non, .bl true, .bl false, .int 0, .int 1, .int (-1), .int 2, .int 15, .str "", .str "main", .str "house", .str "a", .ref t0, .ref t1, .ref t2, .ref l0, .ref l1, .ref d0, .ref d1])
    replace ot0 := e8 _ _ ot0
    replace ot1 := e8 _ _ ot1
    replace ot2 := e8 _ _ ot2
    replace ol0 := e8 _ _ ol0
    replace ol1 := e8 _ _ ol1
    replace od0 := e8 _ _ od0
    replace od1 := e8 _ _ od1
    replace es := es.trans e8
    generalize hA8 : upd A7 lq _ = A8 at *
    clear e8 nlq hA8
    refine ⟨_, rfl, _, rfl, (show 0 ≤ sizeLine by decide), fun t3 nt3 => ?_⟩
    have e1 := same_upd (o := .tup []) nt3
    have ot3 := upd_same (H := A8) (a := t3) (o := .tup [])
    replace ot0 := e1 _ _ ot0
    replace ot1 := e1 _ _ ot1
    replace ot2 := e1 _ _ ot2
    replace ol0 := e1 _ _ ol0
    replace ol1 := e1 _ _ ol1
    replace od0 := e1 _ _ od0
    replace od1 := e1 _ _ od1
    replace olq := e1 _ _ olq
    replace es := es.trans e1
    generalize upd A8 t3 (.tup []) = B1 at *
    clear e1 nt3
    refine ⟨(show 1 ≤ sizeLine by decide), fun t4 nt4 => ?_⟩
    have e2 := same_upd (o := .tup [.ref t3]) nt4
    have ot4 := upd_same (H := B1) (a := t4) (o := .tup [.ref t3])
    replace ot0 := e2 _ _ ot0
    replace ot1 := e2 _ _ ot1
    replace ot2 := e2 _ _ ot2
    replace ol0 := e2 _ _ ol0
    replace ol1 := e2 _ _ ol1
    replace od0 := e2 _ _ od0
    replace od1 := e2 _ _ od1
    replace olq := e2 _ _ olq
    replace ot3 := e2 _ _ ot3
    replace es := es.trans e2
    generalize upd B1 t4 (.tup [.ref t3]) = B2 at *
    clear e2 nt4
    refine ⟨(show 3 ≤ sizeLine by decide), fun t5 nt5 => ?_⟩
    have e3 := same_upd (o := .tup [.int 1, .int 2, .int 3]) nt5
    have ot5 := upd_same (H := B2) (a := t5) (o := .tup [.int 1, .int 2, .int 3])
    replace ot0 := e3 _ _ ot0
    replace ot1 := e3 _ _ ot1
    replace ot2 := e3 _ _ ot2
    replace ol0 := e3 _ _ ol0
    replace ol1 := e3 _ _ ol1
    replace od0 := e3 _ _ od0
    replace od1 := e3 _ _ od1
    replace olq := e3 _ _ olq
    replace ot3 := e3 _ _ ot3
    replace ot4 := e3 _ _ ot4
    replace es := es.trans e3
    generalize upd B2 t5 (.tup [.int 1, .int 2, .int 3]) = B3 at *
    clear e3 nt5
    refine ⟨(show 2 ≤ sizeLine by decide), fun t6 nt6 => ?_⟩
    have e4 := same_upd (o := .tup [.str "a", .bl true]) nt6
    have ot6 := upd_same (H := B3) (a := t6) (o := .tup [.str "a", .bl true])
    replace ot0 := e4 _ _ ot0
    replace ot1 := e4 _ _ ot1
    replace ot2 := e4 _ _ ot2
    replace ol0 := e4 _ _ ol0
    replace ol1 := e4 _ _ ol1
    replace od0 := e4 _ _ od0
    replace od1 := e4 _ _ od1
    replace olq := e4 _ _ olq
    replace ot3 := e4 _ _ ot3
    replace ot4 := e4 _ _ ot4
    replace ot5 := e4 _ _ ot5
    replace es := es.trans e4
    generalize upd B3 t6 (.tup [.str "a", .bl true]) = B4 at *
    clear e4 nt6
    refine ⟨_, rfl, ?_⟩
    intro a1 da1 na1 nda1 nad1
    have m1 : Same B4 (upd (upd B4 da1 (.own a1)) a1 (.ins D da1 [])) := (same_upd nda1).trans (same_upd (by rw [upd_ne (Ne.symm nad1)]; exact na1))
    refine ⟨a1, da1, 1, 1, rfl, upd_same, by decide, (show Bd 3 1 by unfold Bd; decide).mono (by decide), (show Bd 3 1 by unfold Bd; decide).mono (by decide), fun C1 oa1 hk1 => ⟨rfl, ?_⟩⟩
    have e1 : Same B4 C1 := fun b u e => hk1 _ _ (m1 _ _ e) (ne_of_none e na1)
    replace ot0 := e1 _ _ ot0
    replace ot1 := e1 _ _ ot1
    replace ot2 := e1 _ _ ot2
    replace ol0 := e1 _ _ ol0
    replace ol1 := e1 _ _ ol1
    replace od0 := e1 _ _ od0
    replace od1 := e1 _ _ od1
    replace olq := e1 _ _ olq
    replace ot3 := e1 _ _ ot3
    replace ot4 := e1 _ _ ot4
    replace ot5 := e1 _ _ ot5
    replace ot6 := e1 _ _ ot6
    replace es := es.trans e1
    clear e1 hk1 m1 na1 nda1 nad1
    intro a2 da2 na2 nda2 nad2
    have m2 : Same C1 (upd (upd C1 da2 (.own a2)) a2 (.ins D da2 [])) := (same_upd nda2).trans (same_upd (by rw [upd_ne (Ne.symm nad2)]; exact na2))
    refine ⟨a2, da2, 1, 2, rfl, upd_same, by decide, (show Bd 3 1 by unfold Bd; decide).mono (by decide), (show Bd 3 2 by unfold Bd; decide).mono (by decide), fun C2 oa2 hk2 => ⟨rfl, ?_⟩⟩
    have e2 : Same C1 C2 := fun b u e => hk2 _ _ (m2 _ _ e) (ne_of_none e na2)
    replace ot0 := e2 _ _ ot0
    replace ot1 := e2 _ _ ot1
    replace ot2 := e2 _ _ ot2
    replace ol0 := e2 _ _ ol0
    replace ol1 := e2 _ _ ol1
    replace od0 := e2 _ _ od0
    replace od1 := e2 _ _ od1
    replace olq := e2 _ _ olq
    replace ot3 := e2 _ _ ot3
    replace ot4 := e2 _ _ ot4
    replace ot5 := e2 _ _ ot5
    replace ot6 := e2 _ _ ot6
    replace oa1 := e2 _ _ oa1
    replace es := es.trans e2
    clear e2 hk2 m2 na2 nda2 nad2
    refine ⟨(show 9 ≤ sizeLine by decide), fun lm nlm => ?_⟩
    have e9 := same_upd (o := .lst [V.ref t4, .ref t5, .int 10000, .str "1", .str "rest", .ref t6, .int (-99999), .ref a1, .ref a2]) nlm
    have olm := upd_same (H := C2) (a := lm) (o := .lst [V.ref t4, .ref t5, .int 10000, .str "1", .str "rest", .ref t6, .int (-99999), .ref a1, .ref a2])
    replace ot0 := e9 _ _ ot0
    replace ot1 := e9 _ _ ot1
    replace ot2 := e9 _ _ ot2
    replace ol0 := e9 _ _ ol0
    replace ol1 := e9 _ _ ol1
    replace od0 := e9 _ _ od0
    replace od1 := e9 _ _ od1
    replace olq := e9 _ _ olq
    replace ot3 := e9 _ _ ot3
    replace ot4 := e9 _ _ ot4
    replace ot5 := e9 _ _ ot5
    replace ot6 := e9 _ _ ot6
    replace oa1 := e9 _ _ oa1
    replace oa2 := e9 _ _ oa2
    replace es := es.trans e9
    generalize hD0 : upd C2 lm _ = D0 at *
    clear e9 nlm hD0
    refine ⟨lq, lm, _, _, rfl, rfl, olq, olm, (show 28 ≤ sizeLine by decide), fun lc nlc => ?_⟩
    have eC := same_upd (o := .lst ([V.non, .bl true, .bl false, .int 0, .int 1, .int (-1), .int 2, .int 15, .str "", .str "main", .str "house", .str "a", .ref t0, .ref t1, .ref t2, .ref l0, .ref l1, .ref d0, .ref d1] ++ [V.ref t4, .ref t5, .int 10000, .str "1", .str "rest", .ref t6, .int (-99999), .ref a1, .ref a2])) nlc
    have olc := upd_same (H := D0) (a := lc) (o := .lst ([V.non, .bl true, .bl false, .int 0, .int 1, .int (-1), .int 2, .int 15, .str "", .str "main", .str "house", .str "a", .ref t0, .ref t1, .ref t2, .ref l0, .ref l1, .ref d0, .ref d1] ++ [V.ref t4, .ref t5, .int 10000, .str "1", .str "rest", .ref t6, .int (-99999), .ref a1, .ref a2]))
    have odd0 : ∀ v ∈ [V.non, .bl true, .bl false, .int 0, .int 1, .int (-1), .int 2, .int 15, .str "", .str "main", .str "house", .str "a", .ref t0, .ref t1, .ref t2, .ref l0, .ref l1, .ref d0, .ref d1] ++ [V.ref t4, .ref t5, .int 10000, .str "1", .str "rest", .ref t6, .int (-99999), .ref a1, .ref a2], Odd D D0 v := by
      intro v hv
      simp only [List.cons_append, List.nil_append, List.mem_cons, List.not_mem_nil, or_false] at hv
      rcases hv with rfl | rfl | rfl | rfl | rfl | rfl | rfl | rfl | rfl | rfl | rfl | rfl | rfl | rfl | rfl | rfl | rfl | rfl | rfl | rfl | rfl | rfl | rfl | rfl | rfl | rfl | rfl | rfl
      · exact .inl ⟨_, .non⟩
      · exact .inl ⟨_, .bl _⟩
      · exact .inl ⟨_, .bl _⟩
      · exact .inl ⟨_, .int _⟩
      · exact .inl ⟨_, .int _⟩
      · exact .inl ⟨_, .int _⟩
      · exact .inl ⟨_, .int _⟩
      · exact .inl ⟨_, .int _⟩
      · exact .inl ⟨_, .str _⟩
      · exact .inl ⟨_, .str _⟩
      · exact .inl ⟨_, .str _⟩
      · exact .inl ⟨_, .str _⟩
      · exact .inl ⟨_, .tup ot0⟩
      · exact .inl ⟨_, .tup ot1⟩
      · exact .inl ⟨_, .tup ot2⟩
      · exact .inl ⟨_, .lst ol0⟩
      · exact .inl ⟨_, .lst ol1⟩
      · exact .inl ⟨_, .dK od0⟩
      · exact .inl ⟨_, .dK od1⟩
      · exact .inl ⟨_, .tup ot4⟩
      · exact .inl ⟨_, .tup ot5⟩
      · exact .inl ⟨_, .int _⟩
      · exact .inl ⟨_, .str _⟩
      · exact .inl ⟨_, .str _⟩
      · exact .inl ⟨_, .tup ot6⟩
      · exact .inl ⟨_, .int _⟩
      · exact .inr ⟨_, _, _, rfl, oa1⟩
      · exact .inr ⟨_, _, _, rfl, oa2⟩
    have j0 := hj.same es
    have np0 : ∀ v ∈ [V.non, .bl true, .bl false, .int 0, .int 1, .int (-1), .int 2, .int 15, .str "", .str "main", .str "house", .str "a", .ref t0, .ref t1, .ref t2, .ref l0, .ref l1, .ref d0, .ref d1] ++ [V.ref t4, .ref t5, .int 10000, .str "1", .str "rest", .ref t6, .int (-99999), .ref a1, .ref a2], v ≠ .ref p := by
      obtain ⟨o, m, c, hp, _⟩ := id j0
      have ref : ∀ {a : Addr} {ob : HO}, D0 a = some ob → ob ≠ .lst [.int o, .int m, .int c] → V.ref a ≠ .ref p := fun h n z => by
        rw [V.ref.inj z, hp] at h
        exact n (Option.some.inj h).symm
      intro v hv
      simp only [List.cons_append, List.nil_append, List.mem_cons, List.not_mem_nil, or_false] at hv
      rcases hv with rfl | rfl | rfl | rfl | rfl | rfl | rfl | rfl | rfl | rfl | rfl | rfl | rfl | rfl | rfl | rfl | rfl | rfl | rfl | rfl | rfl | rfl | rfl | rfl | rfl | rfl | rfl | rfl <;>
        first | (intro z; cases z; done) | exact ref ot0 (by intro z; cases z) | exact ref ot1 (by intro z; cases z) | exact ref ot2 (by intro z; cases z) | exact ref ol0 (by intro z; cases z) | exact ref ol1 (by intro z; cases z) | exact ref od0 (by intro z; cases z) | exact ref od1 (by intro z; cases z) | exact ref ot4 (by intro z; cases z) | exact ref ot5 (by intro z; cases z) | exact ref ot6 (by intro z; cases z) | exact ref oa1 (by intro z; cases z) | exact ref oa2 (by intro z; cases z)
    have nlp : lc ≠ p := fun z => by
      obtain ⟨_, _, _, hp, _⟩ := id j0
      rw [z, hp] at nlc
      cases nlc
    refine ⟨p, lc, _, N, rfl, olc, nlp, ⟨show 0 < 28 by decide, show 28 ≤ 1000 by decide⟩, j0.same eC, by omega, fun v H9 hv c9 j9 => ?_⟩
    exact q H9 v ((Chg.of (es.trans eC)).trans c9) j9 (((odd0 v hv).same eC).chg (j0.same eC) (np0 v hv) c9) (np0 v hv)
end
end Ru
/-! the law: rules are read -/
namespace Ru
open PySem PySem.Spec PyProof.Rows L2 Am Hs
theorem if_val {c : Bool} {tA tB : TE} {σ : L2.St} {H : Hp} {Q : VK} (v : V) (h : Q v H) (hA : c = true → ∀ Q', Q' v H → tA σ H Q') (hB : c = false → ∀ Q', Q' v H → tB σ H Q') : if c = true then tA σ H Q else tB σ H Q := by
  cases c with
  | true => exact iteT (hA rfl _ h)
  | false => exact iteF (hB rfl _ h)
def Way.d : Way → PyData
  | .int n => .int n
  | .str s => .str s
theorem Way.dp {K : PySem.W.Frag} {H : Hp} : ∀ y : Way, Dp K H y.v y.d
  | .int n => .int _
  | .str s => .str s
theorem sj_int : ∀ k : Fin 10, PySem.intText? (sj k.val) = some (k.val : Int) ∧ behW (sj k.val) = .int k.val ∧ ¬ sj k.val ∈ [("before" : Str), "nothing"] ∧ (sj k.val).length ≤ 640 := by decide +kernel
theorem beh_word : behW "before" = .str "before" ∧ behW "nothing" = .str "nothing" := by decide +kernel
/-- what a rule tells of itself -/
def toldD (x : Str) (d : Due) : PyData := .tuple [.str x, .int d.ev, (behW d.be).d, .str d.la, .str d.bl, .str d.re]
theorem lf_int {n : Nat} (h : n ≤ 99) : PyData.leavesShort 13 (.int n) = true ∧ PyData.showable (.int n) = true ∧ PyData.weight (.int n) ≤ 40 := by
  have sl := sj_len h
  have hl : n.log2 ≤ 20 := by
    by_cases z : n = 0
    · subst z; decide
    · exact Nat.le_of_lt_succ (Nat.lt_trans ((Nat.log2_lt z).mpr (show n < 2 ^ 20 by omega)) (by decide))
  refine ⟨?_, by simp only [PyData.showable]; exact decide_eq_true (sj_log h), ?_⟩
  · simp only [PyData.leavesShort]
    refine decide_eq_true ?_
    show (sj n).length ≤ 13
    omega
  · simp only [PyData.weight]
    show (if ((n : Int) == 0) = true then 0 else ((n : Int).natAbs).log2 + 1) ≤ 40
    have : (n : Int).natAbs = n := by omega
    rw [this]
    split <;> omega
theorem lf_str {x : Str} (h : ∀ c ∈ x.cps.toList, c < 256) : PyData.leavesShort 13 (.str x) = true := by
  simp only [PyData.leavesShort]
  exact List.all_eq_true.mpr fun c hc => decide_eq_true (Nat.lt_trans (h c hc) (by decide))
theorem short_lo : ∀ x ∈ [("before" : Str), "nothing", "now", "back", "days", "last", "heads", "places", "house"], (∀ c ∈ x.cps.toList, c < 256) ∧ x.length ≤ 8 := by decide +kernel
theorem toldD_ok {d : Due} (ok : d.Ok) : (toldD d.text d).showable = true ∧ (toldD d.text d).hasDict = false ∧ (toldD d.text d).depth ≤ 60 ∧ (toldD d.text d).shown.length ≤ sizeLine := by
  obtain ⟨e1, e2, e3⟩ := lf_int (n := d.ev) (by have := ok.ev; omega)
  have la := short_lo d.la (by have := ok.la; simp only [List.mem_cons, List.not_mem_nil, or_false] at this ⊢; rcases this with h | h <;> simp [h])
  have bl := short_lo d.bl (by have := ok.bl; simp only [List.mem_cons, List.not_mem_nil, or_false] at this ⊢; rcases this with h | h <;> simp [h])
  have re := short_lo d.re (by have := ok.re; simp only [List.mem_cons, List.not_mem_nil, or_false] at this ⊢; rcases this with h | h | h <;> simp [h])
  have be : PyData.leavesShort 13 (behW d.be).d = true ∧ PyData.showable (behW d.be).d = true ∧ PyData.weight (behW d.be).d ≤ 40 ∧ PyData.hasDict (behW d.be).d = false ∧ PyData.depth (behW d.be).d ≤ 1 := by
    rcases ok.be with (h | h) | ⟨k, hk, h⟩
    · rw [h, beh_word.1]
      have z := short_lo "before" (by simp)
      refine ⟨lf_str z.1, by simp only [Way.d, PyData.showable], ?_, by simp only [Way.d, PyData.hasDict], by simp [Way.d, PyData.depth]⟩
      simp only [Way.d, PyData.weight]
      exact Nat.le_trans z.2 (by decide)
    · rw [h, beh_word.2]
      have z := short_lo "nothing" (by simp)
      refine ⟨lf_str z.1, by simp only [Way.d, PyData.showable], ?_, by simp only [Way.d, PyData.hasDict], by simp [Way.d, PyData.depth]⟩
      simp only [Way.d, PyData.weight]
      exact Nat.le_trans z.2 (by decide)
    · rw [h, (sj_int ⟨k, hk⟩).2.1]
      obtain ⟨f1, f2, f3⟩ := lf_int (n := k) (by omega)
      exact ⟨f1, f2, f3, by simp only [Way.d, PyData.hasDict], by simp [Way.d, PyData.depth]⟩
  obtain ⟨b1, b2, b3, b4, b5⟩ := be
  have tl := ok.len
  unfold toldD
  refine ⟨?_, ?_, ?_, PyData.shown_fits (B := 13) (by decide) (by decide) ?_ ?_⟩
  · simp only [PyData.showable, PyData.showableAll] at *
    rw [e2, b2]
    rfl
  · simp only [PyData.hasDict, PyData.hasDictAll] at *
    rw [b4]
    rfl
  · simp [PyData.depth, PyData.depthAll]
    omega
  · simp only [PyData.leavesShort, PyData.leavesShortAll] at *
    rw [e1, b1]
    have := lf_str ok.lo
    have l1 := lf_str la.1
    have l2 := lf_str bl.1
    have l3 := lf_str re.1
    simp only [PyData.leavesShort] at this l1 l2 l3
    rw [this, l1, l2, l3]
    rfl
  · have w1 := la.2
    have w2 := bl.2
    have w3 := re.2
    simp only [PyData.weight, PyData.weightAll] at *
    have y0 : d.text.cps.size ≤ 200 := tl
    have y1 : d.la.cps.size ≤ 8 := w1
    have y2 : d.bl.cps.size ≤ 8 := w2
    have y3 : d.re.cps.size ≤ 8 := w3
    refine Nat.le_trans (show _ ≤ 4000 by omega) (by decide)
theorem dp_told {K : PySem.W.Frag} {H : Hp} {t : Addr} {x : Str} {d : Due} (h : H t = some (.tup [.str x, .int d.ev, (behW d.be).v, .str d.la, .str d.bl, .str d.re])) : Dp K H (.ref t) (toldD x d) :=
  .tup (SqT.of h) (.cons (.str _) (.cons (.int _) (.cons (Way.dp _) (.cons (.str _) (.cons (.str _) (.cons (.str _) .nil))))))
theorem walk_range0 {n : Nat} : Walk (Itr 0 n) n (fun _ => True) (YFn fun i => V.int (i : Int)) := by
  have e : (fun i : Nat => V.int (i : Int)) = fun i : Nat => V.int (0 + (i : Int)) := funext fun i => by rw [Int.zero_add]
  rw [e]
  exact walk_range
/-- the making of a rule -/
def GotR (P : Program) (w : World) (K : PySem.W.Frag) (mg : Str → Option Value) (base : Heap) (C : Addr) : Prop :=
  ∃ (f : Addr) (fd : FuncData), FnOk P w K mg base CX0 4 f fd ["self", "text"] (spRInit C) ∧ Binds K fd ["self", "text"] [] ∧ Mk K C f
def GotG (P : Program) (w : World) (K : PySem.W.Frag) (mg : Str → Option Value) (base : Heap) (x : Str) (k : Nat) (ps : List Str) (sp : Sp) : Prop :=
  ∃ (f : Addr) (fd : FuncData), Gu.FnG P w K mg base CX0 k f fd ps sp ∧ Binds K fd ps [] ∧ mg x = some (.ref f) ∧ PySem.W.keepIn K (.ref f) = true
def spRight : Sp := fun vs H Q _ => ∃ p : Addr, vs = [.ref p] ∧ JarAt H p 0 ∧ ∀ H', Chg p H H' → Q (.bl true) H'
section
variable {P : Program} {w : World} {K : PySem.W.Frag} {mg : Str → Option Value} {base : Heap} {C D : Addr}
theorem scRight : FnScope ["_law_jar_here", "_law_first", "_law_lap", "_law_due", "_law_text", "_law_rule_here", "_law_behind", "_law_told"] ["_law_jar_here"] (defScope sL_right) := ⟨rfl, rfl, rfl, by decide +kernel, rfl, by decide +kernel, by decide +kernel⟩
theorem ok_right {f pT gT : Addr} {fd fdT : FuncData} (F : Fun K "_law_right" "_law_right" sL_right f fd) (T : Nm mg) (t : TxR K mg C D) (tD : Txt K mg D) (nD : PySem.W.notFirst K C (.ref D) = true) (GR : GotR P w K mg base C)
    (GE : GotM P w K mg base C "__eq__" 1 ["self", "other"] (spREq C D)) (pt : PropOf K C "text" pT gT) (GPt : FnOk P w K mg base CX0 1 gT fdT ["self"] (spRText C)) (bPt : Binds K fdT ["self"] [])
    (GU : GotF P w K mg base "_law_rule" 3 ["_law_jar_here"] spRule) (GX : GotF P w K mg base "_law_rule_text" 1 ["_law_rule_here"] spRuleText) (GO : GotF P w K mg base "_law_odd" 4 ["_law_jar_here"] (spOdd D)) : Gu.FnG P w K mg base CX0 6 f fd ["_law_jar_here"] spRight := by
  obtain ⟨fI, fdI, GI, bI, MkI⟩ := GR
  obtain ⟨fE, fdE, GE, bE, hE, iE⟩ := GE
  obtain ⟨fU, fdU, GU, bU, mU, kU⟩ := GU
  obtain ⟨fX, fdX, GX, bX, mX, kX⟩ := GX
  obtain ⟨fO, fdO, GO, bO, mO, kO⟩ := GO
  refine Gu.okG0 F scRight (fun vs H Q E h => ?_) (fun cdv A outer s H vs Q E free hr h => ?_)
  · obtain ⟨p, rfl, _⟩ := h
    rfl
  · obtain ⟨p, rfl, hj, q⟩ := h
    have hr4 : Room 4 _ := hr.mono (by decide)
    have hr3 : Room 3 _ := hr.mono (by decide)
    have hr2 : Room 2 _ := hr.mono (by decide)
    have hr1 : Room 1 _ := hr.mono (by decide)
    have eqO := op_cmpC2 (D := D) (op := .Eq) (fun _ _ => rfl) t.op nD ⟨hE, iE⟩ GE hr1 bE (X := (cxOf CX0 P w K mg base ["_law_jar_here", "_law_first", "_law_lap", "_law_due", "_law_text", "_law_rule_here", "_law_behind", "_law_told"] "_law_right" (defScope sL_right) f cdv A outer s H E).nox) pass0
    refine ⟨_, (pss_cons (ps_set (i := 1) scRight.nd rfl (.inl rfl) pe_non)
      (pss_cons (ps_for PassesOwn.never rfl (pi_range1 (by rfl) T.range (pa_cons pe_int pa_nil)) (pg_name (i := 2) scRight.nd rfl (.inl rfl)) (pss_cons (ps_set (i := 3) scRight.nd rfl (.inl rfl) (pe_call GU hr3 (by rfl) mU kU bU .nil pass0 (pa_cons (pv 0) pa_nil)))
      (pss_cons (ps_set (i := 4) scRight.nd rfl (.inl rfl) (pe_call GX hr1 (by rfl) mX kX bX .nil pass0 (pa_cons (pv 3) pa_nil)))
      (pss_cons (ps_set (i := 5) scRight.nd rfl (.inl rfl) (pe_make MkI GI hr (by rfl) t.mgC bI .nil pass0 (pa_cons (pv 4) pa_nil)))
      (pss_cons (ps_set (i := 6) scRight.nd rfl (.inl rfl) (pe_ifExp (pt_cmpR op_in_seq (pe_ix ix_tup (pv 3) pe_int (fun _ _ => rfl)) (pe_tup (pa_cons pe_str (pa_cons pe_str pa_nil))) (by rfl)) (pe_ix ix_tup (pv 3) pe_int (fun _ _ => rfl)) (pe_callTy (call_int_str) (by rfl) T.int b_int (pa_cons (pe_ix ix_tup (pv 3) pe_int (fun _ _ => rfl)) pa_nil))))
      (pss_cons (ps_set (i := 7) scRight.nd rfl (.inl rfl) (pe_tup (pa_cons (pe_prop (pv 5) t.ho.cl pt GPt hr2 bPt .nil pass0 rfl) (pa_cons (pe_fld (pv 5) rfl) (pa_cons (pe_fld (pv 5) rfl) (pa_cons (pe_fld (pv 5) rfl) (pa_cons (pe_fld (pv 5) rfl) (pa_cons (pe_fld (pv 5) rfl) pa_nil))))))))
      (pss_cons (ps_if (pt_cmpR op_ne (pe_callB (Gu.call_reprD free hr.units) (by rfl) T.repr b_repr (pa_cons (pv 7) pa_nil)) (pe_callB (Gu.call_reprD free hr.units) (by rfl) T.repr b_repr (pa_cons (pe_tup (pa_cons (pv 4) (pa_cons (pe_ix ix_tup (pv 3) pe_int (fun _ _ => rfl)) (pa_cons (pv 6) (pa_cons (pe_ix ix_tup (pv 3) pe_int (fun _ _ => rfl)) (pa_cons (pe_ix ix_tup (pv 3) pe_int (fun _ _ => rfl)) (pa_cons (pe_ix ix_tup (pv 3) pe_int (fun _ _ => rfl)) pa_nil))))))) pa_nil)) (nomark _)) (pss_one (ps_ret pe_bl)) pss_nil)
      (pss_cons (ps_if (PW.pt (pw_or (pt_not (pt_cmpR eqO (pv 5) (pe_make MkI GI hr (by rfl) t.mgC bI .nil pass0 (pa_cons (pv 4) pa_nil)) (nomark _))) (pw_or (pt_cmpR eqO (pv 5) (pe_call GO hr4 (by rfl) mO kO bO .nil pass0 (pa_cons (pv 0) pa_nil)) (nomark _)) (pw_or1 (pt_cmpR eqO (pv 5) (pv 4) (nomark _)))))) (pss_one (ps_ret pe_bl)) pss_nil)
      (pss_cons (ps_if (PW.pt (pw_and (pt_cmp (pc_notN (pv 1))) (pw_and1 (pt_cmpR op_ne (pe_cmpR eqO (pv 5) (pv 1) (nomark _)) (pe_cmpR op_eq (pe_prop (pv 5) t.ho.cl pt GPt hr2 bPt .nil pass0 rfl) (pe_prop (pv 1) t.ho.cl pt GPt hr2 bPt .nil pass0 rfl) (nomark _)) (nomark _))))) (pss_one (ps_ret pe_bl)) pss_nil)
      (pss_one (ps_set (i := 1) scRight.nd rfl (.inl rfl) (pv 5))))))))))))
      (pss_one (ps_ret pe_bl)))), ?_⟩
    refine ⟨3, rfl, by decide, by decide, ?_⟩
    refine for_it (walk_range0 (n := (3 : Int).toNat)) (fun i σ H' => ∃ (fv : V) (s2 s3 s4 s5 s6 s7 : Option V), σ = [some (.ref p), some fv, s2, s3, s4, s5, s6, s7] ∧ Chg p H H' ∧ JarAt H' p (8 * i) ∧ (fv = .non ∨ ∃ r x a b c d e, fv = .ref r ∧ RuleAt C H' r x a b c d e)) ?_ (fun _ _ _ _ _ => trivial) ?_ ?_
    · exact ⟨_, _, _, _, _, _, _, rfl, Chg.refl _ _, hj.mono (by omega), .inl rfl⟩
    · rintro i v σ H1 H2 hi ⟨fv, s2, s3, s4, s5, s6, s7, rfl, c1, j1, hf⟩ ⟨rfl, rfl⟩
      have hi' : i < 3 := hi
      refine ⟨_, rfl, p, _, rfl, j1, by omega, fun H3 tt du c3 ntt j3 hdu ok => ?_⟩
      refine ⟨_, rfl, tt, du, rfl, hdu, ok, fun H4 e4 => ?_⟩
      have hdu4 : DueAt H4 tt du := e4 _ _ hdu
      refine ⟨_, rfl, fun h dx nh ndx nhd => ⟨h, dx, du.text, _, _, _, _, _, rfl, upd_same, ok.says, fun H5 f5 hr5 => ⟨rfl, ?_⟩⟩⟩
      have e5 := e4.trans (mk_same nh ndx nhd f5)
      have hdu5 : DueAt H5 tt du := e5 _ _ hdu
      have c5 := (c1.trans c3).trans (Chg.of e5)
      have j5 := j3.same e5
      have hf5 : fv = .non ∨ ∃ r x a b c d e, fv = .ref r ∧ RuleAt C H5 r x a b c d e := hf.imp_right fun ⟨r, x, a, b, c, d, e, z, dy, k⟩ => ⟨r, x, a, b, c, d, e, z, dy, by
        obtain ⟨_, _, _, hp, _⟩ := id j1
        exact e5 _ _ (c3 _ _ k (ne_of k hp (by intro q; cases q)))⟩
      refine ⟨_, rfl, tt, _, _, _, rfl, rfl, SqT.of hdu5, rfl, (show 2 ≤ sizeLine by decide), fun q2 nq2 => ?_⟩
      have e6 := same_upd (o := .tup [V.str "before", .str "nothing"]) nq2
      have oq2 := upd_same (H := H5) (a := q2) (o := .tup [V.str "before", .str "nothing"])
      have hdu6 : DueAt _ tt du := e6 _ _ hdu5
      have hr6 := hr5.same e6
      have c6 := c5.trans (Chg.of e6)
      have j6 := j5.same e6
      have hf6 : fv = .non ∨ ∃ r x a b c d e, fv = .ref r ∧ RuleAt C (upd H5 q2 (.tup [V.str "before", .str "nothing"])) r x a b c d e := hf5.imp_right fun ⟨r, x, a, b, c, d, e, z, k⟩ => ⟨r, x, a, b, c, d, e, z, k.same e6⟩
      generalize upd H5 q2 (.tup [V.str "before", .str "nothing"]) = H6 at *
      clear hr5 hdu5 hf5 j5 e6 nq2
      refine ⟨q2, _, rfl, .inr (SqT.of oq2), rfl, rfl, _, rfl, ?_⟩
      rw [if_neg (by decide), show ([V.str "before", V.str "nothing"] : List V) = [("before" : Str), "nothing"].map V.str from rfl, inV_strs]
      have hbe := ok.be
      refine if_val (behW du.be).v ?_ (fun hc Q' q' => ?_) (fun hc Q' q' => ?_)
      · obtain ⟨dx6, ob6⟩ := id hr6
        refine ⟨_, rfl, h, dx6, _, rfl, ob6, h, _, _, _, _, _, _, rfl, hr6, ?_⟩
        refine ⟨_, rfl, h, C, dx6, _, _, rfl, ob6, t.ho.cl, t.ho.n2, rfs_ev _ _ _ _ _ _, _, rfl, h, C, dx6, _, _, rfl, ob6, t.ho.cl, t.ho.n3, rfs_be _ _ _ _ _ _, _, rfl, h, C, dx6, _, _, rfl, ob6, t.ho.cl, t.ho.n4, rfs_la _ _ _ _ _ _, _, rfl, h, C, dx6, _, _, rfl, ob6, t.ho.cl, t.ho.n5, rfs_bl _ _ _ _ _ _, _, rfl, h, C, dx6, _, _, rfl, ob6, t.ho.cl, t.ho.n6, rfs_re _ _ _ _ _ _, (show 6 ≤ sizeLine by decide), fun t7 nt7 => ?_⟩
        have e7 := same_upd (o := .tup [V.str du.text, (Way.int du.ev).v, (behW du.be).v, (Way.str du.la).v, (Way.str du.bl).v, (Way.str du.re).v]) nt7
        have ot7 := upd_same (H := H6) (a := t7) (o := .tup [V.str du.text, (Way.int du.ev).v, (behW du.be).v, (Way.str du.la).v, (Way.str du.bl).v, (Way.str du.re).v])
        have hdu7 : DueAt _ tt du := e7 _ _ hdu6
        have hr7 := hr6.same e7
        have c7 := c6.trans (Chg.of e7)
        have j7 := j6.same e7
        have hf7 : fv = .non ∨ ∃ r x a b c d e, fv = .ref r ∧ RuleAt C (upd H6 t7 (.tup [V.str du.text, (Way.int du.ev).v, (behW du.be).v, (Way.str du.la).v, (Way.str du.bl).v, (Way.str du.re).v])) r x a b c d e := hf6.imp_right fun ⟨r, x, a, b, c, d, e, z, k⟩ => ⟨r, x, a, b, c, d, e, z, k.same e7⟩
        generalize upd H6 t7 (.tup [V.str du.text, (Way.int du.ev).v, (behW du.be).v, (Way.str du.la).v, (Way.str du.bl).v, (Way.str du.re).v]) = H7 at *
        clear hr6 hdu6 hf6 j6 e7 nt7 ob6 oq2
        obtain ⟨s1, s2, s3, s4⟩ := toldD_ok ok
        refine ⟨_, rfl, t7, toldD du.text du, rfl, dp_told ot7, s1, s2, s3, s4, _, rfl, _, rfl, tt, _, _, _, rfl, rfl, SqT.of hdu7, rfl, _, rfl, _, rfl, tt, _, _, _, rfl, rfl, SqT.of hdu7, rfl, _, rfl, tt, _, _, _, rfl, rfl, SqT.of hdu7, rfl, _, rfl, tt, _, _, _, rfl, rfl, SqT.of hdu7, rfl, (show 6 ≤ sizeLine by decide), fun t8 nt8 => ?_⟩
        have e8 := same_upd (o := .tup [V.str du.text, .int du.ev, (behW du.be).v, .str du.la, .str du.bl, .str du.re]) nt8
        have ot8 := upd_same (H := H7) (a := t8) (o := .tup [V.str du.text, .int du.ev, (behW du.be).v, .str du.la, .str du.bl, .str du.re])
        have hdu8 : DueAt _ tt du := e8 _ _ hdu7
        have hr8 := hr7.same e8
        have c8 := c7.trans (Chg.of e8)
        have j8 := j7.same e8
        have hf8 : fv = .non ∨ ∃ r x a b c d e, fv = .ref r ∧ RuleAt C (upd H7 t8 (.tup [V.str du.text, .int du.ev, (behW du.be).v, .str du.la, .str du.bl, .str du.re])) r x a b c d e := hf7.imp_right fun ⟨r, x, a, b, c, d, e, z, k⟩ => ⟨r, x, a, b, c, d, e, z, k.same e8⟩
        generalize upd H7 t8 (.tup [V.str du.text, .int du.ev, (behW du.be).v, .str du.la, .str du.bl, .str du.re]) = H8 at *
        clear hr7 hdu7 hf7 j7 e8 nt8 ot7
        refine ⟨t8, toldD du.text du, rfl, dp_told ot8, s1, s2, s3, s4, rfl, _, rfl, ?_⟩
        rw [show (!decide (V.str (toldD du.text du).shown = V.str (toldD du.text du).shown)) = false by simp]
        refine iteF ⟨_, rfl, _, rfl, fun g dg ng ndg ngd => ⟨g, dg, du.text, _, _, _, _, _, rfl, upd_same, ok.says, fun H9 f9 hr9 => ⟨rfl, ?_⟩⟩⟩
        have e9 := mk_same ng ndg ngd f9
        have hr9' := hr8.same e9
        have c9 := c8.trans (Chg.of e9)
        have j9 := j8.same e9
        have hf9 : fv = .non ∨ ∃ r x a b c d e, fv = .ref r ∧ RuleAt C H9 r x a b c d e := hf8.imp_right fun ⟨r, x, a, b, c, d, e, z, k⟩ => ⟨r, x, a, b, c, d, e, z, k.same e9⟩
        obtain ⟨dx9, ob9⟩ := id hr9'
        obtain ⟨dy9, og9⟩ := id hr9
        refine ⟨⟨h, _, _, rfl, ob9⟩, .inl (.inl ⟨g, _, _, rfl, og9⟩), h, _, _, _, _, _, _, .ref g, rfl, hr9', .inl ⟨g, _, _, _, _, _, _, rfl, hr9, _, rfl, ?_⟩⟩
        rw [decide_eq_true (rfl : du.text = du.text)]
        refine iteF ⟨_, rfl, _, rfl, p, _, rfl, j9, by omega, fun H10 vo c10 j10 od nvp => ?_⟩
        have hr10 : RuleAt C H10 h du.text _ _ _ _ _ := ⟨dx9, c10 _ _ ob9 (by
          obtain ⟨_, _, _, hp, _⟩ := id j9
          exact ne_of ob9 hp (by intro z; cases z))⟩
        have hf10 : fv = .non ∨ ∃ r x a b c d e, fv = .ref r ∧ RuleAt C H10 r x a b c d e := hf9.imp_right fun ⟨r, x, a, b, c, d, e, z, dy, k⟩ => ⟨r, x, a, b, c, d, e, z, dy, by
          obtain ⟨_, _, _, hp, _⟩ := id j9
          exact c10 _ _ k (ne_of k hp (by intro q; cases q))⟩
        have c10' := c9.trans c10
        obtain ⟨dx10, ob10⟩ := id hr10
        rcases od with ⟨Ty, bk⟩ | ⟨b, dy, gs, rfl, hb⟩
        · refine ⟨⟨h, _, _, rfl, ob10⟩, .inl (.inr ⟨Ty, bk⟩), h, _, _, _, _, _, _, vo, rfl, hr10, .inr (.inl ⟨⟨Ty, bk⟩, _, rfl, iteF ?_⟩)⟩
          refine ⟨_, rfl, _, rfl, ⟨h, _, _, rfl, ob10⟩, .inl (.inr ⟨_, .str _⟩), h, _, _, _, _, _, _, _, rfl, hr10, .inr (.inl ⟨⟨_, .str _⟩, _, rfl, iteF ?_⟩)⟩
          have fin : ∃ (fv' : V) (s2 s3 s4 s5 s6 s7 : Option V), [some (V.ref p), some (V.ref h), some (V.int i), some (V.ref tt), some (V.str du.text), some (V.ref h), some (behW du.be).v, some (V.ref t7)] = [some (V.ref p), some fv', s2, s3, s4, s5, s6, s7] ∧ Chg p H H10 ∧ JarAt H10 p (8 * ((i + 1 : Nat) : Int)) ∧ (fv' = .non ∨ ∃ r x a b c d e, fv' = .ref r ∧ RuleAt C H10 r x a b c d e) :=
            ⟨_, _, _, _, _, _, _, rfl, c10', j10.mono (by omega), .inr ⟨h, _, _, _, _, _, _, rfl, hr10⟩⟩
          rcases hf10 with rfl | ⟨r, x, a, b', c, d, e, rfl, hr⟩
          · exact ⟨_, rfl, _, rfl, iteF ⟨_, rfl, fin⟩⟩
          · obtain ⟨dr, obr⟩ := id hr
            refine ⟨_, rfl, _, rfl, iteT ?_⟩
            refine ⟨_, rfl, _, rfl, ⟨h, _, _, rfl, ob10⟩, .inl (.inl ⟨r, _, _, rfl, obr⟩), h, _, _, _, _, _, _, .ref r, rfl, hr10, .inl ⟨r, _, _, _, _, _, _, rfl, hr, ?_⟩⟩
            refine ⟨_, rfl, h, _, _, rfl, ob10, h, _, _, _, _, _, _, rfl, hr10, _, rfl, r, _, _, rfl, obr, r, _, _, _, _, _, _, rfl, hr, rfl, rfl, _, rfl, ?_⟩
            rw [str_eq]
            have eqb : (!decide (V.bl (decide (du.text = x)) = V.bl (decide (du.text = x)))) = false := by simp
            rw [eqb]
            exact iteF ⟨_, rfl, fin⟩
        · refine ⟨⟨h, _, _, rfl, ob10⟩, .inr ⟨b, dy, gs, rfl, hb⟩, h, _, _, _, _, _, _, .ref b, rfl, hr10, .inr (.inr ⟨b, dy, gs, rfl, hb, _, rfl, iteF ?_⟩)⟩
          refine ⟨_, rfl, _, rfl, ⟨h, _, _, rfl, ob10⟩, .inl (.inr ⟨_, .str _⟩), h, _, _, _, _, _, _, _, rfl, hr10, .inr (.inl ⟨⟨_, .str _⟩, _, rfl, iteF ?_⟩)⟩
          have fin : ∃ (fv' : V) (s2 s3 s4 s5 s6 s7 : Option V), [some (V.ref p), some (V.ref h), some (V.int i), some (V.ref tt), some (V.str du.text), some (V.ref h), some (behW du.be).v, some (V.ref t7)] = [some (V.ref p), some fv', s2, s3, s4, s5, s6, s7] ∧ Chg p H H10 ∧ JarAt H10 p (8 * ((i + 1 : Nat) : Int)) ∧ (fv' = .non ∨ ∃ r x a b c d e, fv' = .ref r ∧ RuleAt C H10 r x a b c d e) :=
            ⟨_, _, _, _, _, _, _, rfl, c10', j10.mono (by omega), .inr ⟨h, _, _, _, _, _, _, rfl, hr10⟩⟩
          rcases hf10 with rfl | ⟨r, x, a, b', c, d, e, rfl, hr⟩
          · exact ⟨_, rfl, _, rfl, iteF ⟨_, rfl, fin⟩⟩
          · obtain ⟨dr, obr⟩ := id hr
            refine ⟨_, rfl, _, rfl, iteT ?_⟩
            refine ⟨_, rfl, _, rfl, ⟨h, _, _, rfl, ob10⟩, .inl (.inl ⟨r, _, _, rfl, obr⟩), h, _, _, _, _, _, _, .ref r, rfl, hr10, .inl ⟨r, _, _, _, _, _, _, rfl, hr, ?_⟩⟩
            refine ⟨_, rfl, h, _, _, rfl, ob10, h, _, _, _, _, _, _, rfl, hr10, _, rfl, r, _, _, rfl, obr, r, _, _, _, _, _, _, rfl, hr, rfl, rfl, _, rfl, ?_⟩
            rw [str_eq]
            have eqb : (!decide (V.bl (decide (du.text = x)) = V.bl (decide (du.text = x)))) = false := by simp
            rw [eqb]
            exact iteF ⟨_, rfl, fin⟩
      · have hm := of_decide_eq_true hc
        refine ⟨_, rfl, tt, _, _, _, rfl, rfl, SqT.of hdu6, rfl, ?_⟩
        simp only [List.mem_cons, List.not_mem_nil, or_false] at hm
        rcases hm with hm | hm
        · rw [hm, beh_word.1] at q'
          rw [hm]
          exact q'
        · rw [hm, beh_word.2] at q'
          rw [hm]
          exact q'
      · have hm := of_decide_eq_false hc
        rcases hbe with (hb | hb) | ⟨k, hk, hb⟩
        · exact absurd (by rw [hb]; simp) hm
        · exact absurd (by rw [hb]; simp) hm
        · obtain ⟨i1, i2, i3, i4⟩ := sj_int ⟨k, hk⟩
          rw [hb, i2] at q'
          refine ⟨_, rfl, tt, _, _, _, rfl, rfl, SqT.of hdu6, rfl, _, _, rfl, ?_, ?_, q'⟩
          · rw [hb]; exact i1
          · rw [hb]; exact i4
    · rintro σ H1 ⟨fv, s2, s3, s4, s5, s6, s7, rfl, c1, j1, hf⟩
      exact q H1 c1
end
end Ru
namespace Ru
open PySem PySem.Spec PyProof.Rows L2 Am Hs
/-- jars, each fresh and of its own -/
def Jars (H : Hp) (ps : List Addr) (N : Int) : Prop := ps.Nodup ∧ ∀ p ∈ ps, JarAt H p N
theorem Jars.same {H H' : Hp} {ps : List Addr} {N : Int} (h : Jars H ps N) (e : Same H H') : Jars H' ps N := ⟨h.1, fun p hp => (h.2 p hp).same e⟩
theorem Jars.snoc {H H' : Hp} {ps : List Addr} {p : Addr} {N : Int} (h : Jars H ps N) (e : Same H H') (np : H p = none) (j : JarAt H' p N) : Jars H' (ps ++ [p]) N := by
  refine ⟨?_, fun q hq => ?_⟩
  · rw [List.nodup_append]
    refine ⟨h.1, by simp, fun a ha b hb z => ?_⟩
    rw [List.mem_singleton.mp hb] at z
    obtain ⟨_, _, _, hp, _⟩ := h.2 a ha
    rw [z, np] at hp
    cases hp
  · rcases List.mem_append.mp hq with hq | hq
    · exact (h.2 q hq).same e
    · rw [List.mem_singleton.mp hq]
      exact j
def spLaw (K : PySem.W.Frag) : Sp := fun vs H Q _ => ∃ (a : Addr) (ns : List Int), vs = [.ref a] ∧ SqL K H a (ns.map V.int) ∧ ns.length ≤ 63 ∧ ∀ H', Q (.bl true) H'
section
variable {P : Program} {w : World} {K : PySem.W.Frag} {mg : Str → Option Value} {base : Heap} {C : Addr}
theorem scLaw : FnScope ["_law_script", "_law_k", "_law_jar_here", "_law_jars"] ["_law_script"] (defScope sLaw) := ⟨rfl, rfl, rfl, by decide +kernel, rfl, by decide +kernel, by decide +kernel⟩
theorem ok_law {f : Addr} {fd : FuncData} (F : Fun K "law" "law" sLaw f fd) (T : Nm mg) (GJ : GotF P w K mg base "_law_jar" 1 ["_law_script", "_law_k"] (spJar K)) (GR : GotG P w K mg base "_law_right" 6 ["_law_jar_here"] spRight) : Gu.FnG P w K mg base CX0 7 f fd ["_law_script"] (spLaw K) := by
  obtain ⟨fJ, dJ, GJ, bJ, mJ, kJ⟩ := GJ
  obtain ⟨fR, dR, GR, bR, mR, kR⟩ := GR
  refine Gu.okG0 F scLaw (fun vs H Q E h => ?_) (fun cdv A outer s H vs Q E free hr h => ?_)
  · obtain ⟨a, ns, rfl, _⟩ := h
    rfl
  · obtain ⟨a, ns, rfl, hS, hl, q⟩ := h
    have hr1 : Room 1 _ := hr.mono (by decide)
    refine ⟨_, (pss_cons (ps_setLc (i := 3) (own := [("_law_k", 1)]) (g := gName 1) (tt := tYes) rfl scLaw.nd rfl rfl rfl (pi_range1 (by rfl) T.range (pa_cons (pe_callB (call_max2 rfl) (by rfl) T.max b_max (pa_cons pe_int (pa_cons (pe_callB (call_min2 rfl) (by rfl) T.min b_min (pa_cons pe_int (pa_cons (pe_callB call_len_seq (by rfl) T.len PySem.boot_len (pa_cons (pv 0) pa_nil)) pa_nil))) pa_nil))) pa_nil))
          (blkOk_by (N := ["_law_script", "_law_k", "_law_jar_here", "_law_jars"]) (sc := defScope sLaw) (by decide +kernel)) (fun _ _ _ _ _ => (pg_name (i := 1) scLaw.nd rfl (.inl rfl))) (fun _ _ _ _ _ => pts_nil) (fun _ _ _ _ _ => (pe_call GJ hr1 (by rfl) mJ kJ bJ .nil pass0 (pa_cons (pv 0) (pa_cons (pv 1) pa_nil)))))
      (pss_one (ps_ret (pe_callB (cr_all rfl) (by rfl) T.all b_all (pa_cons (pe_lc (own := [("_law_jar_here", 2)]) (g := gName 2) (tt := tYes) rfl scLaw.nd (pi_list (pv 3))
          (blkOk_by (N := ["_law_script", "_law_k", "_law_jar_here", "_law_jars"]) (sc := defScope sLaw) (by decide +kernel)) (fun _ _ _ _ _ => (pg_name (i := 2) scLaw.nd rfl (.inl rfl))) (fun _ _ _ _ _ => pts_nil) (fun _ _ _ _ _ => (Gu.pe_callG GR free hr (by rfl) mR kR bR pass0 (pa_cons (pv 2) pa_nil)))) pa_nil))))), ?_⟩
    have bnd : ∀ m : Nat, m ≤ 63 → (if (if ((m : Int) < 6) then (m : Int) else 6) > 1 then (if ((m : Int) < 6) then (m : Int) else 6) else 1 : Int) ≤ 6 ∧ 1 ≤ (if (if ((m : Int) < 6) then (m : Int) else 6) > 1 then (if ((m : Int) < 6) then (m : Int) else 6) else 1 : Int) := by
      intro m hm
      split <;> split <;> omega
    have bb := bnd (ns.map V.int).length (by rw [List.length_map]; exact hl)
    refine ⟨_, rfl, a, _, rfl, .inl hS, _, _, rfl, _, _, rfl, _, rfl, by omega, by omega, ?_⟩
    generalize (if (if (((ns.map V.int).length : Int) < 6) then ((ns.map V.int).length : Int) else 6) > 1 then (if (((ns.map V.int).length : Int) < 6) then ((ns.map V.int).length : Int) else 6) else 1 : Int) = m at bb ⊢
    intro D nD
    refine lc_range (lo := 0) (n := m.toNat) (fun i H' => Same H H' ∧ ∃ ps : List Addr, H' D = some (.lst (ps.map V.ref)) ∧ Jars H' ps 0 ∧ ps.length = i) ⟨same_upd nD, [], upd_same, ⟨by simp, fun _ h => absurd h List.not_mem_nil⟩, rfl⟩ ?_ ?_
    · rintro i H1 hi ⟨s1, ps, h1, js, lps⟩
      refine ⟨rfl, ?_⟩
      unfold tYes
      refine iteT ⟨_, rfl, _, rfl, a, ns, _, rfl, s1.seq hS, by omega, by omega, fun p H2 s2 np jj => ?_⟩
      have h2 := s2 _ _ h1
      refine ⟨_, h2, ?_, fun b u e => ?_, ps ++ [p], ?_, ?_, ?_⟩
      · rw [List.length_map, lps]
        exact Nat.lt_of_lt_of_le hi (Nat.le_trans (show m.toNat ≤ 6 by omega) (by decide))
      · rw [upd_ne (ne_of_none e nD)]
        exact s2 _ _ (s1 _ _ e)
      · rw [upd_same, List.map_append]
        rfl
      · obtain ⟨nd, ja⟩ := js.snoc s2 np jj
        refine ⟨nd, fun q hq => ?_⟩
        obtain ⟨o, mm, c, hp, r⟩ := ja q hq
        refine ⟨o, mm, c, ?_, r⟩
        rw [upd_ne ?_]
        · exact hp
        · rintro rfl
          rw [h2] at hp
          have := HO.lst.inj (Option.some.inj hp)
          cases ps with
          | nil => cases this
          | cons _ _ => cases this
      · rw [List.length_append, lps]
        rfl
    · rintro H1 ⟨s1, ps, h1, js, lps⟩
      have Dp : D ∉ ps := fun z => by
        obtain ⟨o, mm, c, hp, r⟩ := js.2 D z
        rw [h1] at hp
        have := HO.lst.inj (Option.some.inj hp)
        cases ps with
        | nil => cases this
        | cons _ _ => cases this
      refine ⟨_, rfl, D, rfl, ⟨_, SqL.of h1⟩, fun D2 nD2 => ?_⟩
      refine lc_it (walk_list (xs := ps.map V.ref)) (Pv := fun i H' => H' D = some (.lst (ps.map V.ref)) ∧ H' D2 = some (.lst ((List.replicate i true).map V.bl)) ∧ ∀ j p, ps[j]? = some p → i ≤ j → JarAt H' p 0) ⟨same_upd nD2 _ _ h1, upd_same, fun j p hj _ => (js.2 p (List.mem_of_getElem? hj)).same (same_upd nD2)⟩ (fun i H' _ hh => SqL.of hh.1) ?_ ?_
      · rintro i v G1 G2 hi ⟨d1, d2, jr⟩ ⟨rfl, hv⟩
        have hi' : i < ps.length := by simpa using hi
        obtain rfl : v = .ref ps[i] := by
          replace hv : (ps.map V.ref)[i]? = some v := hv
          rw [List.getElem?_map, List.getElem?_eq_getElem hi'] at hv
          exact (Option.some.inj hv).symm
        have ne : ∀ {b : Addr} {bs : List Bool}, G2 b = some (.lst (bs.map V.bl)) → b ≠ ps[i] := fun {b bs} hb z => by
          obtain ⟨o, mm, c, hp, r⟩ := jr i _ (List.getElem?_eq_getElem hi') (Nat.le_refl _)
          rw [z, hp] at hb
          have := HO.lst.inj (Option.some.inj hb)
          cases bs with
          | nil => cases this
          | cons _ _ => cases this
        refine ⟨rfl, ?_⟩
        unfold tYes
        refine iteT ⟨_, rfl, ps[i], rfl, jr i _ (List.getElem?_eq_getElem hi') (Nat.le_refl _), fun H3 c3 => ?_⟩
        have dD : D ≠ ps[i] := fun z => Dp (z ▸ List.getElem_mem hi')
        have h3 := c3 _ _ d2 (ne d2)
        have nDD : D ≠ D2 := ne_of_none h1 nD2
        refine ⟨_, h3, ?_, ?_, ?_, fun j p hj hij => ?_⟩
        · rw [List.length_map, List.length_replicate]
          exact Nat.lt_of_lt_of_le hi' (Nat.le_trans (show ps.length ≤ 6 by omega) (by decide))
        · rw [upd_ne nDD]
          exact c3 _ _ d1 dD
        · rw [upd_same, List.replicate_succ', List.map_append]
          rfl
        · obtain ⟨o, mm, c, hp, r⟩ := jr j p hj (by omega)
          refine ⟨o, mm, c, ?_, r⟩
          have nj : p ≠ ps[i] := fun z => by
            have hj' : j < ps.length := by
              rw [List.getElem?_eq_some_iff] at hj
              exact hj.1
            rw [List.getElem?_eq_getElem hj'] at hj
            have e := Option.some.inj hj
            exact List.pairwise_iff_getElem.mp js.1 i j hi' hj' (by omega) (e.trans z).symm
          rw [upd_ne ?_]
          · exact c3 _ _ hp nj
          · rintro rfl
            rw [d2] at hp
            have := HO.lst.inj (Option.some.inj hp)
            cases i with
            | zero => cases this
            | succ n => cases this
      · rintro G1 ⟨d1, d2, jr⟩
        refine ⟨D2, List.replicate ps.length true, rfl, SqL.of (by rw [d2, List.length_map]), ?_⟩
        rw [show (List.replicate ps.length true).all id = true by simp]
        exact q G1
end
end Ru
namespace Ru
open PySem PySem.Spec PyProof.Rows L2 Am Hs
/-- a def of the module as the head writes it -/
def FactF (K : PySem.W.Frag) (x : Str) (st : Stmt) : Prop := ∃ (f : Addr) (oc : Value) (od : Option Addr) (kV dc pm : Value) (an : Option Addr) (cd ct : Value) (sl : Array (Option Value)),
  PySem.W.nsIn K mainGlobals x = some (some (.ref f)) ∧ K.lookup f = some ⟨oc, od, .func (PySem.W.fnOf x x (defArgs st) (defBody st) (defScope st) .none kV dc pm an cd ct), sl⟩ ∧ PySem.W.codeIn K cd x = true ∧ PySem.W.keepIn K (.ref f) = true
theorem mkF {K : PySem.W.Frag} {x : Str} {st : Stmt} {f : Addr} {oc : Value} {od : Option Addr} {kV dc pm : Value} {an : Option Addr} {cd ct : Value} {sl : Array (Option Value)}
    (a : PySem.W.nsIn K mainGlobals x = some (some (.ref f))) (l : K.lookup f = some ⟨oc, od, .func (PySem.W.fnOf x x (defArgs st) (defBody st) (defScope st) .none kV dc pm an cd ct), sl⟩) (c : PySem.W.codeIn K cd x = true) (k : PySem.W.keepIn K (.ref f) = true) : FactF K x st :=
  ⟨f, oc, od, kV, dc, pm, an, cd, ct, sl, a, l, c, k⟩
theorem FactF.fun {K : PySem.W.Frag} {h : Heap} {mg : Str → Option Value} {x : Str} {st : Stmt} (X : K.In h) (G : h.Ns mainGlobals mg) (F : FactF K x st) : ∃ f fd, Fun K x x st f fd ∧ mg x = some (.ref f) ∧ PySem.W.keepIn K (.ref f) = true := by
  obtain ⟨f, oc, od, kV, dc, pm, an, cd, ct, sl, a, l, c, k⟩ := F
  exact ⟨f, _, fun_mk l c k, PySem.W.mg_of X G a, k⟩
/-- a method of the class -/
def FactM (K : PySem.W.Frag) (C : Addr) (x q : Str) (st : Stmt) : Prop := ∃ (f : Addr) (oc : Value) (od : Option Addr) (kV dc pm : Value) (an : Option Addr) (cd ct : Value) (sl : Array (Option Value)),
  PySem.W.findIn K (.ref C) x = some (some (.ref f)) ∧ PySem.W.isFn K (.ref f) = true ∧ K.lookup f = some ⟨oc, od, .func (PySem.W.fnOf x q (defArgs st) (defBody st) (defScope st) .none kV dc pm an cd ct), sl⟩ ∧ PySem.W.codeIn K cd q = true ∧ PySem.W.keepIn K (.ref f) = true
theorem mkM {K : PySem.W.Frag} {C : Addr} {x q : Str} {st : Stmt} {f : Addr} {oc : Value} {od : Option Addr} {kV dc pm : Value} {an : Option Addr} {cd ct : Value} {sl : Array (Option Value)}
    (a : PySem.W.findIn K (.ref C) x = some (some (.ref f))) (i : PySem.W.isFn K (.ref f) = true) (l : K.lookup f = some ⟨oc, od, .func (PySem.W.fnOf x q (defArgs st) (defBody st) (defScope st) .none kV dc pm an cd ct), sl⟩) (c : PySem.W.codeIn K cd q = true)
    (k : PySem.W.keepIn K (.ref f) = true) : FactM K C x q st := ⟨f, oc, od, kV, dc, pm, an, cd, ct, sl, a, i, l, c, k⟩
theorem FactM.meth {K : PySem.W.Frag} {C : Addr} {x q : Str} {st : Stmt} (F : FactM K C x q st) : ∃ f fd, Fun K x q st f fd ∧ PySem.W.findIn K (.ref C) x = some (some (.ref f)) ∧ PySem.W.isFn K (.ref f) = true ∧ Meth K C x f := by
  obtain ⟨f, oc, od, kV, dc, pm, an, cd, ct, sl, a, i, l, c, k⟩ := F
  exact ⟨f, _, fun_mk l c k, a, i, ⟨a, i, k⟩⟩
/-- a function that a record of the class holds -/
def FactG (K : PySem.W.Frag) (x q : Str) (st : Stmt) (g : Addr) : Prop := ∃ (oc : Value) (od : Option Addr) (kV dc pm : Value) (an : Option Addr) (cd ct : Value) (sl : Array (Option Value)),
  K.lookup g = some ⟨oc, od, .func (PySem.W.fnOf x q (defArgs st) (defBody st) (defScope st) .none kV dc pm an cd ct), sl⟩ ∧ PySem.W.codeIn K cd q = true ∧ PySem.W.keepIn K (.ref g) = true
theorem FactG.fun {K : PySem.W.Frag} {x q : Str} {st : Stmt} {g : Addr} (F : FactG K x q st g) : ∃ fd, Fun K x q st g fd := by
  obtain ⟨oc, od, kV, dc, pm, an, cd, ct, sl, l, c, k⟩ := F
  exact ⟨_, fun_mk l c k⟩
/-- a property -/
structure FactPr (K : PySem.W.Frag) (C : Addr) (x q : Str) (st : Stmt) (p g : Addr) : Prop where
  po : PropOf K C x p g
  fn : FactG K x q st g
theorem mkPr {K : PySem.W.Frag} {C p g : Addr} {x q : Str} {st : Stmt} {rest : List Value} {oc : Value} {od : Option Addr} {kV dc pm : Value} {an : Option Addr} {cd ct : Value} {sl : Array (Option Value)} (a : PySem.W.findIn K (.ref C) x = some (some (.ref p))) (b : PySem.W.specialIn K (.ref p) "__get__" = some (some (.builtin "property.__get__")))
    (c : PySem.W.takesIn K (.ref p) = some true) (d : PySem.W.recIn K p "property" = some (.ref g :: rest)) (l : K.lookup g = some ⟨oc, od, .func (PySem.W.fnOf x q (defArgs st) (defBody st) (defScope st) .none kV dc pm an cd ct), sl⟩) (e : PySem.W.codeIn K cd q = true) (k : PySem.W.keepIn K (.ref g) = true) : FactPr K C x q st p g :=
  ⟨⟨a, b, c, ⟨rest, d⟩⟩, ⟨oc, od, kV, dc, pm, an, cd, ct, sl, l, e, k⟩⟩
/-- a class that is made -/
structure FactK (K : PySem.W.Frag) (C : Addr) : Prop where
  pg : PySem.W.plainGet K C Str.empty = true
  hd : PySem.W.hasDictIn K C = true
  po : PySem.W.plainOver K C = true
  sa : PySem.W.findIn K (.ref C) "__setattr__" = some (some (.builtin "object.__setattr__"))
  mkk : PySem.W.makesIn K C = true
  kc : PySem.W.keepIn K (.ref C) = true
/-- a class with operators -/
structure FactH (K : PySem.W.Frag) (C : Addr) : Prop where
  sf : PySem.W.selfFirst K C = true
  ne : PySem.W.findIn K (.ref C) "__ne__" = some (some (.builtin "object.__ne__"))
  ob : PySem.W.mroIn K C (.type "object") = some true
  ca : PySem.W.findIn K (.ref C) "__class__" = some (some (.builtin "object.__class__"))
  cn : PySem.W.specialIn K (.builtin "object.__class__") "__get__" = some (some (.builtin "getset_descriptor.__get__"))
  ct : PySem.W.takesIn K (.builtin "object.__class__") = some true
/-- two classes, apart -/
structure FactA (K : PySem.W.Frag) (C D : Addr) : Prop where
  kD : PySem.W.kitOne K (.ref D) (.ref C) = some false
  nF : PySem.W.notFirst K C (.ref D) = true
structure FactT (K : PySem.W.Frag) (C : Addr) : Prop where
  s1 : PySem.W.subIn K (.ref C) (.type "int") = some false
  r1 : PySem.W.subIn K (.type "int") (.ref C) = some false
  k1 : PySem.W.kitOne K (.type "int") (.ref C) = some false
  s2 : PySem.W.subIn K (.ref C) (.type "bool") = some false
  r2 : PySem.W.subIn K (.type "bool") (.ref C) = some false
  k2 : PySem.W.kitOne K (.type "bool") (.ref C) = some false
  s3 : PySem.W.subIn K (.ref C) (.type "NoneType") = some false
  r3 : PySem.W.subIn K (.type "NoneType") (.ref C) = some false
  k3 : PySem.W.kitOne K (.type "NoneType") (.ref C) = some false
  s4 : PySem.W.subIn K (.ref C) (.type "str") = some false
  r4 : PySem.W.subIn K (.type "str") (.ref C) = some false
  k4 : PySem.W.kitOne K (.type "str") (.ref C) = some false
  s5 : PySem.W.subIn K (.ref C) (.type "list") = some false
  r5 : PySem.W.subIn K (.type "list") (.ref C) = some false
  k5 : PySem.W.kitOne K (.type "list") (.ref C) = some false
  s6 : PySem.W.subIn K (.ref C) (.type "tuple") = some false
  r6 : PySem.W.subIn K (.type "tuple") (.ref C) = some false
  k6 : PySem.W.kitOne K (.type "tuple") (.ref C) = some false
  s7 : PySem.W.subIn K (.ref C) (.type "dict") = some false
  r7 : PySem.W.subIn K (.type "dict") (.ref C) = some false
  k7 : PySem.W.kitOne K (.type "dict") (.ref C) = some false
  kC : PySem.W.kitOne K (.ref C) (.ref C) = some true
  kI : PySem.W.kitOne K (.ref C) (.type "int") = some false
/-- a tuple of texts that a name of the module has -/
def FactSeq (K : PySem.W.Frag) (x : Str) (ws : List Str) : Prop := ∃ (T : Addr) (o : Obj) (its : Array Value) (n : Nat), PySem.W.nsIn K mainGlobals x = some (some (.ref T)) ∧ K.lookup T = some o ∧ o.cls = .type "tuple" ∧ o.data = .seq its n ∧ its.size ≤ sizeLine ∧ Vals (ws.map V.str) its.toList
theorem mkSeq {K : PySem.W.Frag} {x : Str} {ws : List Str} {T : Addr} {o : Obj} {its : Array Value} {n : Nat} (a : PySem.W.nsIn K mainGlobals x = some (some (.ref T))) (l : K.lookup T = some o) (c : o.cls = .type "tuple") (d : o.data = .seq its n) (z : its.size ≤ sizeLine) (v : Vals (ws.map V.str) its.toList) : FactSeq K x ws := ⟨T, o, its, n, a, l, c, d, z, v⟩
theorem FactSeq.get {K : PySem.W.Frag} {h : Heap} {mg : Str → Option Value} {x : Str} {ws : List Str} (X : K.In h) (G : h.Ns mainGlobals mg) (F : FactSeq K x ws) : ∃ T, mg x = some (.ref T) ∧ ∀ H, SqT K H T (ws.map V.str) := by
  obtain ⟨T, o, its, n, a, l, c, d, z, v⟩ := F
  exact ⟨T, PySem.W.mg_of X G a, fun H => .inr ⟨o, its, n, l, c, d, z, v⟩⟩
def FactInt (K : PySem.W.Frag) (x : Str) (v : Int) : Prop := ∃ (i : Int) (t : Nat), PySem.W.nsIn K mainGlobals x = some (some (.int i t)) ∧ i = v
theorem mkInt {K : PySem.W.Frag} {x : Str} {v i : Int} {t : Nat} (a : PySem.W.nsIn K mainGlobals x = some (some (.int i t))) (e : i = v) : FactInt K x v := ⟨i, t, a, e⟩
theorem FactInt.get {K : PySem.W.Frag} {h : Heap} {mg : Str → Option Value} {x : Str} {v : Int} (X : K.In h) (G : h.Ns mainGlobals mg) (F : FactInt K x v) : ∃ i t, mg x = some (.int i t) ∧ i = v := by
  obtain ⟨i, t, a, e⟩ := F
  exact ⟨i, t, PySem.W.mg_of X G a, e⟩
def FactStr (K : PySem.W.Frag) (x v : Str) : Prop := ∃ (t : Nat), PySem.W.nsIn K mainGlobals x = some (some (.str v t))
theorem mkStr {K : PySem.W.Frag} {x v : Str} {t : Nat} (a : PySem.W.nsIn K mainGlobals x = some (some (.str v t))) : FactStr K x v := ⟨t, a⟩
theorem FactStr.get {K : PySem.W.Frag} {h : Heap} {mg : Str → Option Value} {x v : Str} (X : K.In h) (G : h.Ns mainGlobals mg) (F : FactStr K x v) : ∃ t, mg x = some (.str v t) := by
  obtain ⟨t, a⟩ := F
  exact ⟨t, PySem.W.mg_of X G a⟩
theorem pair_app {α β : Type} {r : α → β → Prop} : ∀ {a : List α} {b : List β} {c : List α} {d : List β}, Paired r a b → Paired r c d → Paired r (a ++ c) (b ++ d)
  | _, _, _, _, .nil, h => h
  | _, _, _, _, .cons x xs, h => .cons x (pair_app xs h)
/-- the class Amount's __init__, with its default -/
def FactI (K : PySem.W.Frag) (C : Addr) : Prop := ∃ (f T : Addr) (oc : Value) (od : Option Addr) (kV dc pm : Value) (an : Option Addr) (cd ct : Value) (sl : Array (Option Value)) (o : Obj) (n : Nat) (t : Nat),
  PySem.W.findIn K (.ref C) "__init__" = some (some (.ref f)) ∧ PySem.W.isFn K (.ref f) = true ∧ K.lookup f = some ⟨oc, od, .func (PySem.W.fnOf "__init__" "Amount.__init__" (defArgs sInit) (defBody sInit) (defScope sInit) (.ref T) kV dc pm an cd ct), sl⟩ ∧ PySem.W.codeIn K cd "Amount.__init__" = true ∧
  PySem.W.keepIn K (.ref f) = true ∧ K.lookup T = some o ∧ o.data = .seq [Value.int 1 t].toArray n
theorem mkI {K : PySem.W.Frag} {C f T : Addr} {oc : Value} {od : Option Addr} {kV dc pm : Value} {an : Option Addr} {cd ct : Value} {sl : Array (Option Value)} {o : Obj} {n t : Nat}
    (a : PySem.W.findIn K (.ref C) "__init__" = some (some (.ref f))) (i : PySem.W.isFn K (.ref f) = true) (l : K.lookup f = some ⟨oc, od, .func (PySem.W.fnOf "__init__" "Amount.__init__" (defArgs sInit) (defBody sInit) (defScope sInit) (.ref T) kV dc pm an cd ct), sl⟩)
    (c : PySem.W.codeIn K cd "Amount.__init__" = true) (k : PySem.W.keepIn K (.ref f) = true) (d : K.lookup T = some o) (e : o.data = .seq [Value.int 1 t].toArray n) : FactI K C := ⟨f, T, oc, od, kV, dc, pm, an, cd, ct, sl, o, n, t, a, i, l, c, k, d, e⟩
theorem gotI {P : Program} {w : World} {K : PySem.W.Frag} {mg : Str → Option Value} {base : Heap} {C : Addr} (F : FactI K C) (T : Txt K mg C) (mk : PySem.W.makesIn K C = true) (kc : PySem.W.keepIn K (.ref C) = true) (GW : GotF P w K mg base "is_whole" 1 ["value"] (spWhole C)) : GotI P w K mg base C := by
  obtain ⟨f, Td, oc, od, kV, dc, pm, an, cd, ct, sl, o, n, t, a, i, l, c, k, d, e⟩ := F
  obtain ⟨fW, dW, GW, bW, mW, kW⟩ := GW
  have FD : FInit K f (PySem.W.fnOf "__init__" "Amount.__init__" (defArgs sInit) (defBody sInit) (defScope sInit) (.ref Td) kV dc pm an cd ct) :=
    ⟨⟨oc, od, .ref Td, kV, dc, pm, an, cd, ct, sl, rfl, l, c, .inr ⟨by simp, Td, o, [Value.int 1 t], n, rfl, d, e, .cons ⟨t, rfl⟩ .nil⟩, .inl rfl⟩, k⟩
  obtain ⟨d3, v3, b3⟩ := FD.binds1 (ps := ["self", "number", "under"]) 3 1 (by simp) rfl (fun T kV doc pm an cdv ct us its h1 h2 => by
    match us, its, h1, h2 with
    | [_, _, _], [_], _, _ => exact ⟨_, rfl, rfl⟩)
  obtain ⟨d2, v2, b2⟩ := FD.binds1 (ps := ["self", "number", "under"]) 2 0 (by simp) rfl (fun T kV doc pm an cdv ct us its h1 h2 => by
    match us, its, h1, h2 with
    | [_, _], [_], _, _ => exact ⟨_, rfl, rfl⟩)
  cases v3
  exact ⟨f, _, ok_init FD T GW bW mW kW, b3, ⟨d2, v2, b2⟩, ⟨mk, a, i, kc⟩⟩
/-- the ways of a rule's words -/
def FactWy (K : PySem.W.Frag) (P : Params) : Prop := ∃ (W T1 T2 T3 : Addr) (es : Array DictEntry) (n n1 n2 n3 : Nat) (o1 o2 o3 : Obj) (i1 i2 i3 : Array Value), PySem.W.nsIn K mainGlobals "WAYS" = some (some (.ref W)) ∧ List.lookup W K = some { cls := .type "dict", data := .dict es n } ∧ PySem.W.KeysLit P es.toList ∧
  PySem.W.nsIn K W "late" = some (some (.ref T1)) ∧ PySem.W.nsIn K W "block" = some (some (.ref T2)) ∧ PySem.W.nsIn K W "rest" = some (some (.ref T3)) ∧
  (List.lookup T1 K = some o1 ∧ o1.cls = .type "tuple" ∧ o1.data = .seq i1 n1 ∧ i1.size ≤ sizeLine ∧ Vals [V.str "now", V.str "back"] i1.toList) ∧
  (List.lookup T2 K = some o2 ∧ o2.cls = .type "tuple" ∧ o2.data = .seq i2 n2 ∧ i2.size ≤ sizeLine ∧ Vals [V.str "days", V.str "last"] i2.toList) ∧
  (List.lookup T3 K = some o3 ∧ o3.cls = .type "tuple" ∧ o3.data = .seq i3 n3 ∧ i3.size ≤ sizeLine ∧ Vals [V.str "heads", V.str "places", V.str "house"] i3.toList)
theorem mkWy {K : PySem.W.Frag} {P : Params} {W T1 T2 T3 : Addr} {es : Array DictEntry} {n n1 n2 n3 : Nat} {o1 o2 o3 : Obj} {i1 i2 i3 : Array Value} (a : PySem.W.nsIn K mainGlobals "WAYS" = some (some (.ref W))) (l : List.lookup W K = some { cls := .type "dict", data := .dict es n }) (k : PySem.W.KeysLit P es.toList)
    (x1 : PySem.W.nsIn K W "late" = some (some (.ref T1))) (x2 : PySem.W.nsIn K W "block" = some (some (.ref T2))) (x3 : PySem.W.nsIn K W "rest" = some (some (.ref T3)))
    (l1 : List.lookup T1 K = some o1) (c1 : o1.cls = .type "tuple") (d1 : o1.data = .seq i1 n1) (z1 : i1.size ≤ sizeLine) (v1 : Vals [V.str "now", V.str "back"] i1.toList)
    (l2 : List.lookup T2 K = some o2) (c2 : o2.cls = .type "tuple") (d2 : o2.data = .seq i2 n2) (z2 : i2.size ≤ sizeLine) (v2 : Vals [V.str "days", V.str "last"] i2.toList)
    (l3 : List.lookup T3 K = some o3) (c3 : o3.cls = .type "tuple") (d3 : o3.data = .seq i3 n3) (z3 : i3.size ≤ sizeLine) (v3 : Vals [V.str "heads", V.str "places", V.str "house"] i3.toList) : FactWy K P :=
  ⟨W, T1, T2, T3, es, n, n1, n2, n3, o1, o2, o3, i1, i2, i3, a, l, k, x1, x2, x3, ⟨l1, c1, d1, z1, v1⟩, ⟨l2, c2, d2, z2, v2⟩, l3, c3, d3, z3, v3⟩
theorem FactWy.get {K : PySem.W.Frag} {w : World} {h : Heap} {mg : Str → Option Value} (X : K.In h) (G : h.Ns mainGlobals mg) (F : FactWy K w.params) : ∃ W, mg "WAYS" = some (.ref W) ∧ ∀ z : Str, z ∈ ([("late" : Str), "block", "rest"] : List Str) → ∃ T, KDct K w W z (.ref T) ∧ ∀ H, SqT K H T ((waysFor z).map V.str) := by
  obtain ⟨W, T1, T2, T3, es, n, n1, n2, n3, o1, o2, o3, i1, i2, i3, a, l, k, x1, x2, x3, ⟨l1, c1, d1, z1, v1⟩, ⟨l2, c2, d2, z2, v2⟩, l3, c3, d3, z3, v3⟩ := F
  refine ⟨W, PySem.W.mg_of X G a, fun z hz => ?_⟩
  simp only [List.mem_cons, List.not_mem_nil, or_false] at hz
  rcases hz with rfl | rfl | rfl
  · exact ⟨T1, ⟨es, n, _, l, k, x1, rfl⟩, fun H => .inr ⟨o1, i1, n1, l1, c1, d1, z1, v1⟩⟩
  · exact ⟨T2, ⟨es, n, _, l, k, x2, rfl⟩, fun H => .inr ⟨o2, i2, n2, l2, c2, d2, z2, v2⟩⟩
  · exact ⟨T3, ⟨es, n, _, l, k, x3, rfl⟩, fun H => .inr ⟨o3, i3, n3, l3, c3, d3, z3, v3⟩⟩
theorem law_ok {P : Program} {w : World} {K : PySem.W.Frag} {h : Heap} {mg : Str → Option Value} {fa A C pPC_text gPC_text : Addr} (X : K.In h) (G : h.Ns mainGlobals mg) (hfa : mg "law" = some (.ref fa))
    (aA : PySem.W.nsIn K mainGlobals "Amount" = some (some (.ref A)))
    (aC : PySem.W.nsIn K mainGlobals "Rule" = some (some (.ref C)))
    (aG : PySem.W.nsIn K mainGlobals "gcd" = some (some (.builtin "math.gcd")))
    (N : PySem.W.nsIn K mainGlobals "isinstance" = some none ∧ PySem.W.nsIn K mainGlobals "int" = some none ∧ PySem.W.nsIn K mainGlobals "bool" = some none ∧ PySem.W.nsIn K mainGlobals "len" = some none ∧ PySem.W.nsIn K mainGlobals "abs" = some none ∧ PySem.W.nsIn K mainGlobals "max" = some none ∧ PySem.W.nsIn K mainGlobals "min" = some none ∧ PySem.W.nsIn K mainGlobals "range" = some none ∧ PySem.W.nsIn K mainGlobals "all" = some none ∧ PySem.W.nsIn K mainGlobals "repr" = some none ∧ PySem.W.nsIn K mainGlobals "str" = some none ∧ PySem.W.nsIn K mainGlobals "enumerate" = some none)
    (KA : FactK K A)
    (HA : FactH K A)
    (TA : FactT K A)
    (AA : PySem.W.findIn K (.ref A) "number" = some none ∧ PySem.W.findIn K (.ref A) "under" = some none)
    (FI : FactI K A)
    (KC : FactK K C)
    (HC : FactH K C)
    (TC : FactT K C)
    (AC : PySem.W.findIn K (.ref C) "_text" = some none ∧ PySem.W.findIn K (.ref C) "every" = some none ∧ PySem.W.findIn K (.ref C) "behind" = some none ∧ PySem.W.findIn K (.ref C) "late" = some none ∧ PySem.W.findIn K (.ref C) "block" = some none ∧ PySem.W.findIn K (.ref C) "rest" = some none)
    (AP : FactA K C A)
    (SBEHIND : FactSeq K "BEHIND" ["before", "nothing"])
    (SLINES : FactSeq K "LINES" ["every", "behind", "late", "block", "rest"])
    (WY : FactWy K w.params)
    (f0 : FactF K "is_whole" sWhole)
    (f1 : FactF K "decimal" sDec)
    (f2 : FactF K "ways_of" sF_ways_of)
    (f3 : FactF K "way_of" sF_way_of)
    (f4 : FactF K "_law_jar" sJar)
    (f5 : FactF K "_law_take" sTake)
    (f6 : FactF K "_law_of" sOf)
    (f7 : FactF K "_law_rule" sL_rule)
    (f8 : FactF K "_law_rule_text" sL_rule_text)
    (f9 : FactF K "_law_odd" sL_odd)
    (f10 : FactF K "_law_right" sL_right)
    (f11 : FactF K "law" sLaw)
    (m0 : FactM K C "__init__" "Rule.__init__" sRule_init)
    (m1 : FactM K C "__eq__" "Rule.__eq__" sRule_eq)
    (PrC_text : FactPr K C "text" "Rule.text" sRule_text pPC_text gPC_text) :
    ∃ fd : FuncData, (∀ (s : Shared) (u : Value), BindsTo s fd ⟨[u], []⟩ [("_law_script", u)]) ∧ ∀ base : Heap, K.In base → base.Ns mainGlobals mg → Gu.FnG P w K mg base CX0 7 fa fd ["_law_script"] (spLaw K) := by
  obtain ⟨n_isinstance, n_int, n_bool, n_len, n_abs, n_max, n_min, n_range, n_all, n_repr, n_str, n_enumerate⟩ := N
  have none_of : ∀ {x : Str}, PySem.W.nsIn K mainGlobals x = some none → mg x = none := fun e => PySem.W.mg_none_of X G e
  have T : Nm mg := ⟨none_of n_len, none_of n_abs, none_of n_int, none_of n_max, none_of n_min, none_of n_range, none_of n_all, none_of n_repr, none_of n_isinstance⟩
  obtain ⟨nN, nU⟩ := AA
  have cl : Cls K A := ⟨KA.pg, KA.hd, KA.po, KA.sa⟩
  have op : OpC K A := ⟨HA.sf, HA.ne, HA.ob, TA.s1, TA.s2, TA.s3, TA.s4, TA.s5, TA.s6, TA.s7, TA.r1, TA.r2, TA.r3, TA.r4, TA.r5, TA.r6, TA.r7⟩
  have TxA : Txt K mg A := ⟨cl, op, HA.ca, HA.cn, HA.ct, TA.kC, TA.kI, TA.k1, TA.k2, TA.k3, TA.k4, TA.k5, TA.k6, TA.k7, nN, nU, PySem.W.mg_of X G aA, none_of n_isinstance, none_of n_int, none_of n_bool, PySem.W.mg_of X G aG⟩
  obtain ⟨r1, r2, r3, r4, r5, r6⟩ := AC
  have rc : RuC K C := ⟨⟨KC.pg, KC.hd, KC.po, KC.sa⟩, r1, r2, r3, r4, r5, r6⟩
  have opr : OpC K C := ⟨HC.sf, HC.ne, HC.ob, TC.s1, TC.s2, TC.s3, TC.s4, TC.s5, TC.s6, TC.s7, TC.r1, TC.r2, TC.r3, TC.r4, TC.r5, TC.r6, TC.r7⟩
  have TR : TxR K mg C A := ⟨rc, opr, HC.ca, HC.cn, HC.ct, TC.kC, AP.kD, TC.k1, TC.k2, TC.k3, TC.k4, TC.k5, TC.k6, TC.k7, PySem.W.mg_of X G aC⟩
  have RC : Rc K w mg := ⟨SBEHIND.get X G, WY.get X G⟩
  obtain ⟨a0, d0, F0, g0, k0_⟩ := f0.fun X G
  have b0 := F0.binds (ps := ["value"]) fun _ _ _ _ _ _ us hl => match us, hl with | [_], _ => rfl
  obtain ⟨a1, d1, F1, g1, k1_⟩ := f1.fun X G
  have b1 := F1.binds (ps := ["word"]) fun _ _ _ _ _ _ us hl => match us, hl with | [_], _ => rfl
  obtain ⟨a2, d2, F2, g2, k2_⟩ := f2.fun X G
  have b2 := F2.binds (ps := ["text"]) fun _ _ _ _ _ _ us hl => match us, hl with | [_], _ => rfl
  obtain ⟨a3, d3, F3, g3, k3_⟩ := f3.fun X G
  have b3 := F3.binds (ps := ["line", "word"]) fun _ _ _ _ _ _ us hl => match us, hl with | [_, _], _ => rfl
  obtain ⟨a4, d4, F4, g4, k4_⟩ := f4.fun X G
  have b4 := F4.binds (ps := ["_law_script", "_law_k"]) fun _ _ _ _ _ _ us hl => match us, hl with | [_, _], _ => rfl
  obtain ⟨a5, d5, F5, g5, k5_⟩ := f5.fun X G
  have b5 := F5.binds (ps := ["_law_jar_here", "_law_many"]) fun _ _ _ _ _ _ us hl => match us, hl with | [_, _], _ => rfl
  obtain ⟨a6, d6, F6, g6, k6_⟩ := f6.fun X G
  have b6 := F6.binds (ps := ["_law_jar_here", "_law_some"]) fun _ _ _ _ _ _ us hl => match us, hl with | [_, _], _ => rfl
  obtain ⟨a7, d7, F7, g7, k7_⟩ := f7.fun X G
  have b7 := F7.binds (ps := ["_law_jar_here"]) fun _ _ _ _ _ _ us hl => match us, hl with | [_], _ => rfl
  obtain ⟨a8, d8, F8, g8, k8_⟩ := f8.fun X G
  have b8 := F8.binds (ps := ["_law_rule_here"]) fun _ _ _ _ _ _ us hl => match us, hl with | [_], _ => rfl
  obtain ⟨a9, d9, F9, g9, k9_⟩ := f9.fun X G
  have b9 := F9.binds (ps := ["_law_jar_here"]) fun _ _ _ _ _ _ us hl => match us, hl with | [_], _ => rfl
  obtain ⟨a10, d10, F10, g10, k10_⟩ := f10.fun X G
  have b10 := F10.binds (ps := ["_law_jar_here"]) fun _ _ _ _ _ _ us hl => match us, hl with | [_], _ => rfl
  obtain ⟨a11, d11, F11, g11, k11_⟩ := f11.fun X G
  have b11 := F11.binds (ps := ["_law_script"]) fun _ _ _ _ _ _ us hl => match us, hl with | [_], _ => rfl
  obtain ⟨p0, q0, M0, h0, i0, e0⟩ := m0.meth
  have c0 := M0.binds (ps := ["self", "text"]) fun _ _ _ _ _ _ us hl => match us, hl with | [_, _], _ => rfl
  obtain ⟨p1, q1, M1, h1, i1, e1⟩ := m1.meth
  have c1 := M1.binds (ps := ["self", "other"]) fun _ _ _ _ _ _ us hl => match us, hl with | [_, _], _ => rfl
  obtain ⟨dPC_text, HPC_text⟩ := PrC_text.fn.fun
  have bPC_text := HPC_text.binds (ps := ["self"]) fun _ _ _ _ _ _ us hl => match us, hl with | [_], _ => rfl
  have e := hfa.symm.trans g11
  cases e
  refine ⟨d11, fun s u => ?_, fun base _ hbase => ?_⟩
  · obtain ⟨oc, od, kV, doc, pm, an, cdv, ct, osl, rfl, lk, hcd⟩ := F11.ex
    exact .of_eq rfl
  have GWh : GotF P w K mg base "is_whole" 1 ["value"] (spWhole A) := ⟨a0, d0, ok_whole F0 TxA, b0, g0, k0_⟩
  have GI : GotI P w K mg base A := gotI FI TxA KA.mkk KA.kc GWh
  have GDe : GotF P w K mg base "decimal" 1 ["word"] spDec := ⟨a1, d1, ok_dec F1 (none_of n_int), b1, g1, k1_⟩
  have GWo : GotF P w K mg base "way_of" 2 ["line", "word"] spWayOf := ⟨a3, d3, ok_wayOf F3 RC T GDe, b3, g3, k3_⟩
  have GWs : GotF P w K mg base "ways_of" 3 ["text"] spWays := ⟨a2, d2, ok_ways F2 T (none_of n_str) (none_of n_enumerate) (SLINES.get X G) GWo, b2, g2, k2_⟩
  have GR : GotR P w K mg base C := ⟨p0, q0, ok_rInit M0 rc GWs, c0, ⟨KC.mkk, h0, i0, KC.kc⟩⟩
  have GEq : GotM P w K mg base C "__eq__" 1 ["self", "other"] (spREq C A) := ⟨p1, q1, ok_rEq M1 TR TxA (none_of n_isinstance), c1, h1, i1⟩
  have GJ : GotF P w K mg base "_law_jar" 1 ["_law_script", "_law_k"] (spJar K) := ⟨a4, d4, ok_jar F4 T, b4, g4, k4_⟩
  have GT : GotF P w K mg base "_law_take" 1 ["_law_jar_here", "_law_many"] spTake := ⟨a5, d5, ok_take F5 T, b5, g5, k5_⟩
  have GO : GotF P w K mg base "_law_of" 2 ["_law_jar_here", "_law_some"] spOf := ⟨a6, d6, ok_of F6 T GT, b6, g6, k6_⟩
  have GU : GotF P w K mg base "_law_rule" 3 ["_law_jar_here"] spRule := ⟨a7, d7, ok_rule F7 (none_of n_str) GT GO, b7, g7, k7_⟩
  have GX : GotF P w K mg base "_law_rule_text" 1 ["_law_rule_here"] spRuleText := ⟨a8, d8, ok_ruleText F8 (none_of n_str), b8, g8, k8_⟩
  have GOd : GotF P w K mg base "_law_odd" 4 ["_law_jar_here"] (spOdd A) := ⟨a9, d9, ok_odd F9 (PySem.W.mg_of X G aA) GI GO, b9, g9, k9_⟩
  have GRi : GotG P w K mg base "_law_right" 6 ["_law_jar_here"] spRight := ⟨a10, d10, ok_right F10 T TR TxA AP.nF GR GEq PrC_text.po (ok_rText HPC_text rc) bPC_text GU GX GOd, b10, g10, k10_⟩
  exact ok_law F11 T GJ GRi
end Ru
open PySem PySem.W PyProof.Rows in
set_option maxRecDepth 100000 in
set_option maxHeartbeats 0 in
theorem PySem.Challenge.cw_whoseuse_k35_rules_read_holds : PySem.Challenge.rw_whoseuse_k35_rules_read.Holds := by
  w_on; o_law; k_head; (case hw => w_witness2)
  k_fill
  refine Gu.walkG (n := 63) (k := 7) (x := "_law_script") (sp := Ru.spLaw) rfl (by decide) rfl ⟨rfl, by decide, by decide⟩ (fun w h Y => by first | exact PySem.W.kIn_of Y | exact PySem.W.km_in_of Y) ?F (fun K H a ns hl hS => ⟨a, ns, rfl, hS, hl, fun _ => rfl⟩)
  case F =>
    intro w mg fa h KX G hmg
    refine' Ru.law_ok (w := w) KX G hmg ?zzaA ?zzaC ?zzaG ?zzN ?zzKA ?zzHA ?zzTA ?zzAA ?zzFI ?zzKC ?zzHC ?zzTC ?zzAC ?zzAP ?zzSBEHIND ?zzSLINES ?zzWY ?zzf0 ?zzf1 ?zzf2 ?zzf3 ?zzf4 ?zzf5 ?zzf6 ?zzf7 ?zzf8 ?zzf9 ?zzf10 ?zzf11 ?zzm0 ?zzm1 ?zzPrC_text
    (case zzaA => k_is)
    (case zzaC => k_is)
    (case zzaG => k_is)
    (case zzN => refine' ⟨?zzn0_1, ?zzn1_1, ?zzn2_1, ?zzn3_1, ?zzn4_1, ?zzn5_1, ?zzn6_1, ?zzn7_1, ?zzn8_1, ?zzn9_1, ?zzn10_1, ?zzn11_1⟩; (case zzn0_1 => k_is); (case zzn1_1 => k_is); (case zzn2_1 => k_is); (case zzn3_1 => k_is); (case zzn4_1 => k_is); (case zzn5_1 => k_is); (case zzn6_1 => k_is); (case zzn7_1 => k_is); (case zzn8_1 => k_is); (case zzn9_1 => k_is); (case zzn10_1 => k_is); (case zzn11_1 => k_is))
    (case zzKA => refine' ⟨?zzpg_2, ?zzhd_2, ?zzpo_2, ?zzsa_2, ?zzmkk_2, ?zzkc_2⟩; (case zzpg_2 => first | rfl | k_is); (case zzhd_2 => first | rfl | k_is); (case zzpo_2 => first | rfl | k_is); (case zzsa_2 => first | rfl | k_is); (case zzmkk_2 => first | rfl | k_is); (case zzkc_2 => first | rfl | k_is))
    (case zzHA => refine' ⟨?zzsf_3, ?zzne_3, ?zzob_3, ?zzca_3, ?zzcn_3, ?zzct_3⟩; (case zzsf_3 => first | rfl | k_is | decide +kernel); (case zzne_3 => first | rfl | k_is | decide +kernel); (case zzob_3 => first | rfl | k_is | decide +kernel); (case zzca_3 => first | rfl | k_is | decide +kernel); (case zzcn_3 => first | rfl | k_is | decide +kernel); (case zzct_3 => first | rfl | k_is | decide +kernel))
    (case zzTA => refine' ⟨?zzs1_4, ?zzr1_4, ?zzk1_4, ?zzs2_4, ?zzr2_4, ?zzk2_4, ?zzs3_4, ?zzr3_4, ?zzk3_4, ?zzs4_4, ?zzr4_4, ?zzk4_4, ?zzs5_4, ?zzr5_4, ?zzk5_4, ?zzs6_4, ?zzr6_4, ?zzk6_4, ?zzs7_4, ?zzr7_4, ?zzk7_4, ?zzkC_4, ?zzkI_4⟩; (case zzs1_4 => first | rfl | k_is); (case zzr1_4 => first | rfl | k_is); (case zzk1_4 => first | rfl | k_is); (case zzs2_4 => first | rfl | k_is); (case zzr2_4 => first | rfl | k_is); (case zzk2_4 => first | rfl | k_is); (case zzs3_4 => first | rfl | k_is); (case zzr3_4 => first | rfl | k_is); (case zzk3_4 => first | rfl | k_is); (case zzs4_4 => first | rfl | k_is); (case zzr4_4 => first | rfl | k_is); (case zzk4_4 => first | rfl | k_is); (case zzs5_4 => first | rfl | k_is); (case zzr5_4 => first | rfl | k_is); (case zzk5_4 => first | rfl | k_is); (case zzs6_4 => first | rfl | k_is); (case zzr6_4 => first | rfl | k_is); (case zzk6_4 => first | rfl | k_is); (case zzs7_4 => first | rfl | k_is); (case zzr7_4 => first | rfl | k_is); (case zzk7_4 => first | rfl | k_is); (case zzkC_4 => first | rfl | k_is); (case zzkI_4 => first | rfl | k_is))
    (case zzAA => refine' ⟨?zzn0_5, ?zzn1_5⟩; (case zzn0_5 => first | rfl | k_is); (case zzn1_5 => first | rfl | k_is))
    (case zzFI => refine' Ru.mkI ?zza_6 ?zzi_6 ?zzl_6 ?zzc_6 ?zzk_6 ?zzd_6 ?zze_6; (case zza_6 => k_is); (case zzi_6 => k_is); (case zzl_6 => k_is); (case zzc_6 => k_is); (case zzk_6 => k_is); (case zzd_6 => k_is); (case zze_6 => rfl))
    (case zzKC => refine' ⟨?zzpg_7, ?zzhd_7, ?zzpo_7, ?zzsa_7, ?zzmkk_7, ?zzkc_7⟩; (case zzpg_7 => first | rfl | k_is); (case zzhd_7 => first | rfl | k_is); (case zzpo_7 => first | rfl | k_is); (case zzsa_7 => first | rfl | k_is); (case zzmkk_7 => first | rfl | k_is); (case zzkc_7 => first | rfl | k_is))
    (case zzHC => refine' ⟨?zzsf_8, ?zzne_8, ?zzob_8, ?zzca_8, ?zzcn_8, ?zzct_8⟩; (case zzsf_8 => first | rfl | k_is | decide +kernel); (case zzne_8 => first | rfl | k_is | decide +kernel); (case zzob_8 => first | rfl | k_is | decide +kernel); (case zzca_8 => first | rfl | k_is | decide +kernel); (case zzcn_8 => first | rfl | k_is | decide +kernel); (case zzct_8 => first | rfl | k_is | decide +kernel))
    (case zzTC => refine' ⟨?zzs1_9, ?zzr1_9, ?zzk1_9, ?zzs2_9, ?zzr2_9, ?zzk2_9, ?zzs3_9, ?zzr3_9, ?zzk3_9, ?zzs4_9, ?zzr4_9, ?zzk4_9, ?zzs5_9, ?zzr5_9, ?zzk5_9, ?zzs6_9, ?zzr6_9, ?zzk6_9, ?zzs7_9, ?zzr7_9, ?zzk7_9, ?zzkC_9, ?zzkI_9⟩; (case zzs1_9 => first | rfl | k_is); (case zzr1_9 => first | rfl | k_is); (case zzk1_9 => first | rfl | k_is); (case zzs2_9 => first | rfl | k_is); (case zzr2_9 => first | rfl | k_is); (case zzk2_9 => first | rfl | k_is); (case zzs3_9 => first | rfl | k_is); (case zzr3_9 => first | rfl | k_is); (case zzk3_9 => first | rfl | k_is); (case zzs4_9 => first | rfl | k_is); (case zzr4_9 => first | rfl | k_is); (case zzk4_9 => first | rfl | k_is); (case zzs5_9 => first | rfl | k_is); (case zzr5_9 => first | rfl | k_is); (case zzk5_9 => first | rfl | k_is); (case zzs6_9 => first | rfl | k_is); (case zzr6_9 => first | rfl | k_is); (case zzk6_9 => first | rfl | k_is); (case zzs7_9 => first | rfl | k_is); (case zzr7_9 => first | rfl | k_is); (case zzk7_9 => first | rfl | k_is); (case zzkC_9 => first | rfl | k_is); (case zzkI_9 => first | rfl | k_is))
    (case zzAC => refine' ⟨?zzn0_10, ?zzn1_10, ?zzn2_10, ?zzn3_10, ?zzn4_10, ?zzn5_10⟩; (case zzn0_10 => first | rfl | k_is); (case zzn1_10 => first | rfl | k_is); (case zzn2_10 => first | rfl | k_is); (case zzn3_10 => first | rfl | k_is); (case zzn4_10 => first | rfl | k_is); (case zzn5_10 => first | rfl | k_is))
    (case zzAP => refine' ⟨?zzkD_11, ?zznF_11⟩; (case zzkD_11 => first | rfl | k_is | decide +kernel); (case zznF_11 => first | rfl | k_is | decide +kernel))
    (case zzSBEHIND => refine' Ru.mkSeq ?zza_12 ?zzl_12 ?zzc_12 ?zzd_12 ?zzz_12 ?zzv_12; (case zza_12 => k_is); (case zzl_12 => k_is); (case zzc_12 => rfl); (case zzd_12 => rfl); (case zzz_12 => decide); (case zzv_12 => exact .cons ⟨_, rfl⟩ (.cons ⟨_, rfl⟩ (.nil))))
    (case zzSLINES => refine' Ru.mkSeq ?zza_13 ?zzl_13 ?zzc_13 ?zzd_13 ?zzz_13 ?zzv_13; (case zza_13 => k_is); (case zzl_13 => k_is); (case zzc_13 => rfl); (case zzd_13 => rfl); (case zzz_13 => decide); (case zzv_13 => exact .cons ⟨_, rfl⟩ (.cons ⟨_, rfl⟩ (.cons ⟨_, rfl⟩ (.cons ⟨_, rfl⟩ (.cons ⟨_, rfl⟩ (.nil)))))))
    (case zzWY => refine' Ru.mkWy ?zza_14 ?zzl_14 ?zzk_14 ?zzx1_14 ?zzx2_14 ?zzx3_14 ?zzl1_14 ?zzc1_14 ?zzd1_14 ?zzz1_14 ?zzv1_14 ?zzl2_14 ?zzc2_14 ?zzd2_14 ?zzz2_14 ?zzv2_14 ?zzl3_14 ?zzc3_14 ?zzd3_14 ?zzz3_14 ?zzv3_14; (case zza_14 => k_is); (case zzl_14 => k_is); (case zzk_14 => exact ⟨⟨_, _, rfl, rfl⟩, ⟨_, _, rfl, rfl⟩, ⟨_, _, rfl, rfl⟩, trivial⟩); (case zzx1_14 => k_is); (case zzx2_14 => k_is); (case zzx3_14 => k_is); (case zzl1_14 => k_is); (case zzc1_14 => rfl); (case zzd1_14 => rfl); (case zzz1_14 => decide); (case zzv1_14 => exact .cons ⟨_, rfl⟩ (.cons ⟨_, rfl⟩ (.nil))); (case zzl2_14 => k_is); (case zzc2_14 => rfl); (case zzd2_14 => rfl); (case zzz2_14 => decide); (case zzv2_14 => exact .cons ⟨_, rfl⟩ (.cons ⟨_, rfl⟩ (.nil))); (case zzl3_14 => k_is); (case zzc3_14 => rfl); (case zzd3_14 => rfl); (case zzz3_14 => decide); (case zzv3_14 => exact .cons ⟨_, rfl⟩ (.cons ⟨_, rfl⟩ (.cons ⟨_, rfl⟩ (.nil)))))
    (case zzf0 => refine' Ru.mkF ?zza_15 ?zzl_15 ?zzc_15 ?zzk_15; (case zza_15 => k_is); (case zzl_15 => k_is); (case zzc_15 => k_is); (case zzk_15 => k_is))
    (case zzf1 => refine' Ru.mkF ?zza_16 ?zzl_16 ?zzc_16 ?zzk_16; (case zza_16 => k_is); (case zzl_16 => k_is); (case zzc_16 => k_is); (case zzk_16 => k_is))
    (case zzf2 => refine' Ru.mkF ?zza_17 ?zzl_17 ?zzc_17 ?zzk_17; (case zza_17 => k_is); (case zzl_17 => k_is); (case zzc_17 => k_is); (case zzk_17 => k_is))
    (case zzf3 => refine' Ru.mkF ?zza_18 ?zzl_18 ?zzc_18 ?zzk_18; (case zza_18 => k_is); (case zzl_18 => k_is); (case zzc_18 => k_is); (case zzk_18 => k_is))
    (case zzf4 => refine' Ru.mkF ?zza_19 ?zzl_19 ?zzc_19 ?zzk_19; (case zza_19 => k_is); (case zzl_19 => k_is); (case zzc_19 => k_is); (case zzk_19 => k_is))
    (case zzf5 => refine' Ru.mkF ?zza_20 ?zzl_20 ?zzc_20 ?zzk_20; (case zza_20 => k_is); (case zzl_20 => k_is); (case zzc_20 => k_is); (case zzk_20 => k_is))
    (case zzf6 => refine' Ru.mkF ?zza_21 ?zzl_21 ?zzc_21 ?zzk_21; (case zza_21 => k_is); (case zzl_21 => k_is); (case zzc_21 => k_is); (case zzk_21 => k_is))
    (case zzf7 => refine' Ru.mkF ?zza_22 ?zzl_22 ?zzc_22 ?zzk_22; (case zza_22 => k_is); (case zzl_22 => k_is); (case zzc_22 => k_is); (case zzk_22 => k_is))
    (case zzf8 => refine' Ru.mkF ?zza_23 ?zzl_23 ?zzc_23 ?zzk_23; (case zza_23 => k_is); (case zzl_23 => k_is); (case zzc_23 => k_is); (case zzk_23 => k_is))
    (case zzf9 => refine' Ru.mkF ?zza_24 ?zzl_24 ?zzc_24 ?zzk_24; (case zza_24 => k_is); (case zzl_24 => k_is); (case zzc_24 => k_is); (case zzk_24 => k_is))
    (case zzf10 => refine' Ru.mkF ?zza_25 ?zzl_25 ?zzc_25 ?zzk_25; (case zza_25 => k_is); (case zzl_25 => k_is); (case zzc_25 => k_is); (case zzk_25 => k_is))
    (case zzf11 => refine' Ru.mkF ?zza_26 ?zzl_26 ?zzc_26 ?zzk_26; (case zza_26 => k_is); (case zzl_26 => k_is); (case zzc_26 => k_is); (case zzk_26 => k_is))
    (case zzm0 => refine' Ru.mkM ?zza_27 ?zzi_27 ?zzl_27 ?zzc_27 ?zzk_27; (case zza_27 => k_is); (case zzi_27 => k_is); (case zzl_27 => k_is); (case zzc_27 => k_is); (case zzk_27 => k_is))
    (case zzm1 => refine' Ru.mkM ?zza_28 ?zzi_28 ?zzl_28 ?zzc_28 ?zzk_28; (case zza_28 => k_is); (case zzi_28 => k_is); (case zzl_28 => k_is); (case zzc_28 => k_is); (case zzk_28 => k_is))
    (case zzPrC_text => refine' Ru.mkPr ?zza_29 ?zzb_29 ?zzc_29 ?zzd_29 ?zzl_29 ?zze_29 ?zzk_29; (case zza_29 => k_is); (case zzb_29 => k_is); (case zzc_29 => k_is); (case zzd_29 => k_is); (case zzl_29 => k_is); (case zze_29 => k_is); (case zzk_29 => k_is))
