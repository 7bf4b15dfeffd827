import PyProof.Rows.All
import Wide.All
import OpenK.AllK
import Wide.FinOn
import PyProof.EqAt
import PyProof.EqKinds
import PyProof.NeKinds
import KE.KOpsOwn
import HandS.ForMost
import HandS.Wide
import HandS.Gcd
import HandS.IsInst
import HandS.Defaults
import HandS.OwnEq
import HandS.SlotsOwn
import PySem.Challenge.RW_whoseuse_k37_runs_of_rules
import HandS.Codes
import HandS.Words
import PyProof.StrLawsIn
import PyProof.StrBlockL
import PyProof.Rows.StrNews2
import KE.IntTextLaws
import HandS.Walk
import HandS.ForDict
import KE.KIntText
import PyProof.StrLawsRepr
import PyProof.Rows.StrDigitsNeg
import PyProof.Rows.ReprOcc
import HandS.StrMore
import HandS.Text
import KE.KUnpackStar
import HandS.SortKw
import KE.GoesEnumKw
import KE.GoesNew
import HandS.Conv
import HandS.DictComp
import HandS.RaiseMore
import HandS.Style
import HandS.MakeKwOnly
import HandS.Property
import HandS.More
set_option Elab.async false
set_option linter.all false
set_option maxRecDepth 100000
set_option maxHeartbeats 8000000
/-! operators of an own class: library level -/
namespace AmL
open PySem PySem.SeqAt PySem.Calls PyProof.Rows
open AutoSeq1 (wpAny_loadPart')
open MeetsSeq

section
variable {prog : Program} {w : World} {A : Around} {E : Value → Shared → Prop} {s : Shared} {K : PySem.W.Frag} {C : Addr}

theorem refl_inst {x : Addr} {v : Value} {T id : String} {f : Addr} {op : CmpOp} {ox : Obj} {od : Option Obj} {Q : Value → Shared → Prop} (hu : A.units < cLine)
    (X : K.In s.heap) (I : PySem.W.InstAt s.heap x ox C od) (hT : s.TypeIs v T) (slot : Slot T (cmpInfo op).2.1 id)
    (dec : ∀ Q' : Value → Shared → Prop, Q' .notImplemented s → wpAny (model prog w) A (call (.builtin id) [v, .ref x]) Q' E s)
    (hsub : PySem.W.subIn K (.ref C) (.type T) = some false)
    (hs : PySem.W.findIn K (.ref C) (cmpInfo op).2.2 = some (some (.ref f))) (hf : PySem.W.isFn K (.ref f) = true)
    (h : wpAny (model prog w) A (call (.ref f) [.ref x, v]) (PySem.W.CmpBack Q) E s) : wpAny (model prog w) A (richCompare op v (.ref x)) Q E s := by
  have one : wpAny (model prog w) A (tryCompare (.ref x) (cmpInfo op).2.2 v) (fun r s' => ∃ v, r = some v ∧ Q v s') E s := by
    unfold tryCompare
    refine wpAny_bind (PySem.W.ifBound_K X I hs hf (wpAny_mono h (fun v s' hv => ?_) fun _ _ e => e))
    cases v <;> first | exact hv.elim | exact wpAny_pure ⟨_, rfl, hv⟩
  have hne : (Value.type T != Value.ref C) = true := by
    rw [bne, beq_eq_false_iff_ne.mpr (fun q => by cases q)]; rfl
  rcases hi : cmpInfo op with ⟨sym, f', r'⟩
  rw [hi] at slot one
  simp only [richCompare, hi, hT.oneThing_none]
  refine wpAny_holding ?_
  refine wpAny_bind (wpAny_cRoomFor hu ?_)
  refine wpAny_bind (wpAny_typeOf hT (wpAny_bind (I.type.here ?_)))
  simp only [hne, if_true]
  refine wpAny_bind ((PySem.W.looks_subIn X hsub).here ?_)
  simp only [Bool.false_eq_true, if_false]
  refine wpAny_bind (m := tryCompare v _ (.ref x)) (wpAny_tryCompare_declines hT slot (dec _ ⟨rfl, ?_⟩))
  simp only [Bool.not_false, if_true]
  refine wpAny_bind (wpAny_mono one (fun r s' z => ?_) fun _ _ e => e)
  obtain ⟨u, rfl, hq⟩ := z
  exact wpAny_pure hq


/-- the != that object gives: not (x == b) -/
theorem try_ne {x : Addr} {b : Value} {f : Addr} {ox : Obj} {od : Option Obj} {Q : Option Value → Shared → Prop} (hu : A.units + 1 < cLine)
    (X : K.In s.heap) (I : PySem.W.InstAt s.heap x ox C od)
    (hs : PySem.W.findIn K (.ref C) "__ne__" = some (some (.builtin "object.__ne__"))) (hobj : PySem.W.mroIn K C (.type "object") = some true)
    (he : PySem.W.findIn K (.ref C) "__eq__" = some (some (.ref f))) (hf : PySem.W.isFn K (.ref f) = true)
    (h : wpAny (model prog w) A.in1 (call (.ref f) [.ref x, b]) (fun v s' => ∃ k, v = .bool k ∧ Q (some (.bool (!k))) s') E s) : wpAny (model prog w) A (tryCompare (.ref x) "__ne__" b) Q E s := by
  have sub : PySem.W.Looks (model prog w) s.heap (isInstance (.ref x) (.type "object")) true := I.type.andThen (PySem.W.looks_mroIn X hobj)
  have main : wpAny (model prog w) A (call (.builtin "object.__ne__") [.ref x, b]) (fun v s' => ∃ k, v = .bool k ∧ Q (some (.bool k)) s') E s := by
    refine wpAny_call (codeAny_call_builtin F.slot_object_ne.plain F.entry_object_ne (@PySem.W.check_slot (model prog w) _ _ s "object.__ne__" "object" "__ne__" (.ref x) [b] [] _ F.cmpKind_ne F.cmpSplit_ne sub (F.cmpArgs_ne _ _) ?_))
    unfold Builtin.«object.__ne__»
    refine wpAny_bind (m := slotArgs _ _ _) (wpAny_pure ?_)
    refine wpAny_bind (wpAny_cRoomFor hu ?_)
    refine wpAny_bind (m := callSpecialIfBound? (.ref x) _ _) (PySem.W.ifBound_K X I he hf (wpAny_mono h (fun v s' hv => ?_) fun _ _ e => e))
    obtain ⟨k, rfl, q⟩ := hv
    refine wpAny_bind (wpAny_truthy_bool ?_)
    exact wpAny_pure ⟨_, rfl, q⟩
  unfold tryCompare
  refine wpAny_bind (m := callSpecialIfBound? (.ref x) _ _) ?_
  simp only [callSpecialIfBound?, bindSpecialIfBound?]
  refine wpAny_holding (wpAny_bind (wpAny_bind (wpAny_bind (I.type.here ((PySem.W.looks_findIn X hs).here ?_)))))
  refine wpAny_bind (wpAny_askSetting (wpAny_ite ?_))
  have bd : PySem.W.Looks (model prog w) s.heap (bindSpecial (.builtin "object.__ne__") (.ref x)) (.builtin "object.__ne__", [.ref x]) := PySem.W.Looks.of_pure (F.slot_object_ne.bind _)
  have fin : wpAny (model prog w) A (call (.builtin "object.__ne__") ([.ref x] ++ [b]) >>= fun v => pure (some v)) (fun r s' => wpAny (model prog w) A (match r with | some .notImplemented | none => pure none | some v => pure (some v)) Q E s') E s := by
    refine wpAny_bind (wpAny_mono main (fun v s' h' => ?_) fun _ _ h' => h')
    obtain ⟨k, rfl, q⟩ := h'
    exact wpAny_pure (wpAny_pure q)
  split
  · exact wpAny_bind (bd.here (wpAny_pure (by exact fin)))
  · exact wpAny_tryCatch (wpAny_bind (bd.here (wpAny_pure (by exact fin))))

/-- x != b, x an instance with an own == and no own != -/
theorem ne_inst {x : Addr} {b tb : Value} {f : Addr} {ox : Obj} {od : Option Obj} {Q : Value → Shared → Prop} (hu : A.units + 1 < cLine)
    (X : K.In s.heap) (I : PySem.W.InstAt s.heap x ox C od) (hb : PySem.W.Looks (model prog w) s.heap (typeOf b) tb) (hn : PySem.W.notFirst K C tb = true)
    (hs : PySem.W.findIn K (.ref C) "__ne__" = some (some (.builtin "object.__ne__"))) (hobj : PySem.W.mroIn K C (.type "object") = some true)
    (he : PySem.W.findIn K (.ref C) "__eq__" = some (some (.ref f))) (hf : PySem.W.isFn K (.ref f) = true)
    (h : wpAny (model prog w) A.in1 (call (.ref f) [.ref x, b]) (fun v s' => ∃ k, v = .bool k ∧ Q (.bool (!k)) s') E s) : wpAny (model prog w) A (richCompare .NotEq (.ref x) b) Q E s := by
  have one : wpAny (model prog w) A (tryCompare (.ref x) "__ne__" b) (fun r s' => ∃ v, r = some v ∧ Q v s') E s :=
    try_ne hu X I hs hobj he hf (wpAny_mono h (fun v s' ⟨k, e, q⟩ => ⟨k, e, _, rfl, q⟩) fun _ _ e => e)
  unfold richCompare
  simp only [oneThing_ref]
  refine wpAny_holding (wpAny_bind (wpAny_cRoomFor (by omega) ?_))
  refine wpAny_bind (I.type.here (wpAny_bind (hb.here ?_)))
  split
  · rename_i q
    have e : PySem.W.subIn K tb (.ref C) = some false := by
      rcases Bool.or_eq_true_iff.mp hn with e | e
      · rw [beq_iff_eq.mp e] at q; simp at q
      · exact beq_iff_eq.mp e
    refine wpAny_bind ((PySem.W.looks_subIn X e).here ?_)
    simp only [Bool.false_eq_true, if_false]
    refine wpAny_bind (wpAny_mono one (fun r s' z => ?_) fun _ _ e => e)
    obtain ⟨v, rfl, hq⟩ := z
    exact wpAny_pure hq
  · refine wpAny_bind (wpAny_pure ?_)
    simp only [Bool.false_eq_true, if_false]
    refine wpAny_bind (wpAny_mono one (fun r s' z => ?_) fun _ _ e => e)
    obtain ⟨v, rfl, hq⟩ := z
    exact wpAny_pure hq

/-- v != x, v of a built-in type that declines, x an instance -/
theorem ne_refl {x : Addr} {v : Value} {T id : String} {f : Addr} {ox : Obj} {od : Option Obj} {Q : Value → Shared → Prop} (hu : A.units + 1 < cLine)
    (X : K.In s.heap) (I : PySem.W.InstAt s.heap x ox C od) (hT : s.TypeIs v T) (slot : Slot T (cmpInfo .NotEq).2.1 id)
    (dec : ∀ Q' : Value → Shared → Prop, Q' .notImplemented s → wpAny (model prog w) A (call (.builtin id) [v, .ref x]) Q' E s)
    (hsub : PySem.W.subIn K (.ref C) (.type T) = some false)
    (hs : PySem.W.findIn K (.ref C) "__ne__" = some (some (.builtin "object.__ne__"))) (hobj : PySem.W.mroIn K C (.type "object") = some true)
    (he : PySem.W.findIn K (.ref C) "__eq__" = some (some (.ref f))) (hf : PySem.W.isFn K (.ref f) = true)
    (h : wpAny (model prog w) A.in1 (call (.ref f) [.ref x, v]) (fun v s' => ∃ k, v = .bool k ∧ Q (.bool (!k)) s') E s) : wpAny (model prog w) A (richCompare .NotEq v (.ref x)) Q E s := by
  have one : wpAny (model prog w) A (tryCompare (.ref x) (cmpInfo .NotEq).2.2 v) (fun r s' => ∃ v, r = some v ∧ Q v s') E s :=
    try_ne hu X I hs hobj he hf (wpAny_mono h (fun v s' ⟨k, e, q⟩ => ⟨k, e, _, rfl, q⟩) fun _ _ e => e)
  have hne : (Value.type T != Value.ref C) = true := by
    rw [bne, beq_eq_false_iff_ne.mpr (fun q => by cases q)]; rfl
  rcases hi : cmpInfo CmpOp.NotEq with ⟨sym, f', r'⟩
  rw [hi] at slot one
  simp only [richCompare, hi, hT.oneThing_none]
  refine wpAny_holding ?_
  refine wpAny_bind (wpAny_cRoomFor (by omega) ?_)
  refine wpAny_bind (wpAny_typeOf hT (wpAny_bind (I.type.here ?_)))
  simp only [hne, if_true]
  refine wpAny_bind ((PySem.W.looks_subIn X hsub).here ?_)
  simp only [Bool.false_eq_true, if_false]
  refine wpAny_bind (m := tryCompare v _ (.ref x)) (wpAny_tryCompare_declines hT slot (dec _ ⟨rfl, ?_⟩))
  simp only [Bool.not_false, if_true]
  refine wpAny_bind (wpAny_mono one (fun r s' z => ?_) fun _ _ e => e)
  obtain ⟨u, rfl, hq⟩ := z
  exact wpAny_pure hq

/-! ### what declines beside an instance -/
section
variable {a : Addr}
abbrev PlainAt (s : Shared) (a C : Addr) : Prop := ∃ dd sl, s.heap.get? a = some { cls := .ref C, dict := dd, data := .plain, slots := sl }
theorem dec_int_eq (b : Int) (u : Tok) (C : Addr) : Meets (Builtin.«int.__eq__» ⟨[.int b u, .ref a], []⟩) (fun _ R s => PlainAt s a C ∧ R (.ok (.ret .notImplemented)) s) :=
  .of_wp fun prog w A R s h => by obtain ⟨hp, g, d, tk, os⟩ := s; obtain ⟨⟨dd, sl, hl⟩, h⟩ := h; wp_walk using wpAny_loadPart' hl, wpAny_load hl; exact ⟨_, rfl, h⟩
theorem dec_int_ne (b : Int) (u : Tok) (C : Addr) : Meets (Builtin.«int.__ne__» ⟨[.int b u, .ref a], []⟩) (fun _ R s => PlainAt s a C ∧ R (.ok (.ret .notImplemented)) s) :=
  .of_wp fun prog w A R s h => by obtain ⟨hp, g, d, tk, os⟩ := s; obtain ⟨⟨dd, sl, hl⟩, h⟩ := h; wp_walk using wpAny_loadPart' hl, wpAny_load hl; exact ⟨_, rfl, h⟩
theorem dec_int_lt (b : Int) (u : Tok) (C : Addr) : Meets (Builtin.«int.__lt__» ⟨[.int b u, .ref a], []⟩) (fun _ R s => PlainAt s a C ∧ R (.ok (.ret .notImplemented)) s) :=
  .of_wp fun prog w A R s h => by obtain ⟨hp, g, d, tk, os⟩ := s; obtain ⟨⟨dd, sl, hl⟩, h⟩ := h; wp_walk using wpAny_loadPart' hl, wpAny_load hl; exact ⟨_, rfl, h⟩
theorem dec_int_le (b : Int) (u : Tok) (C : Addr) : Meets (Builtin.«int.__le__» ⟨[.int b u, .ref a], []⟩) (fun _ R s => PlainAt s a C ∧ R (.ok (.ret .notImplemented)) s) :=
  .of_wp fun prog w A R s h => by obtain ⟨hp, g, d, tk, os⟩ := s; obtain ⟨⟨dd, sl, hl⟩, h⟩ := h; wp_walk using wpAny_loadPart' hl, wpAny_load hl; exact ⟨_, rfl, h⟩
theorem dec_int_gt (b : Int) (u : Tok) (C : Addr) : Meets (Builtin.«int.__gt__» ⟨[.int b u, .ref a], []⟩) (fun _ R s => PlainAt s a C ∧ R (.ok (.ret .notImplemented)) s) :=
  .of_wp fun prog w A R s h => by obtain ⟨hp, g, d, tk, os⟩ := s; obtain ⟨⟨dd, sl, hl⟩, h⟩ := h; wp_walk using wpAny_loadPart' hl, wpAny_load hl; exact ⟨_, rfl, h⟩
theorem dec_int_ge (b : Int) (u : Tok) (C : Addr) : Meets (Builtin.«int.__ge__» ⟨[.int b u, .ref a], []⟩) (fun _ R s => PlainAt s a C ∧ R (.ok (.ret .notImplemented)) s) :=
  .of_wp fun prog w A R s h => by obtain ⟨hp, g, d, tk, os⟩ := s; obtain ⟨⟨dd, sl, hl⟩, h⟩ := h; wp_walk using wpAny_loadPart' hl, wpAny_load hl; exact ⟨_, rfl, h⟩
theorem dec_bool_eq (b : Bool) (C : Addr) : Meets (Builtin.«int.__eq__» ⟨[.bool b, .ref a], []⟩) (fun _ R s => PlainAt s a C ∧ R (.ok (.ret .notImplemented)) s) :=
  .of_wp fun prog w A R s h => by obtain ⟨hp, g, d, tk, os⟩ := s; obtain ⟨⟨dd, sl, hl⟩, h⟩ := h; wp_walk using wpAny_loadPart' hl, wpAny_load hl; exact ⟨_, rfl, h⟩
theorem dec_none_eq : Gives (Builtin.«NoneType.__eq__» ⟨[.none, .ref a], []⟩) (.val (Value.notImplemented)) :=
  .of_wp fun M A E s Q h => by obtain ⟨hp, g, d, tk, os⟩ := s; wp_walk; exact ⟨_, rfl, h⟩
theorem dec_str_eq (b : Str) (u : Tok) (C : Addr) : Meets (Builtin.«str.__eq__» ⟨[.str b u, .ref a], []⟩) (fun _ R s => PlainAt s a C ∧ R (.ok (.ret .notImplemented)) s) :=
  .of_wp fun prog w A R s h => by obtain ⟨hp, g, d, tk, os⟩ := s; obtain ⟨⟨dd, sl, hl⟩, h⟩ := h; wp_walk using wpAny_loadPart' hl, wpAny_load hl; exact ⟨_, rfl, h⟩
theorem dec_list_eq {l : Addr} {R : Result → Shared → Prop} (sub : PySem.W.Looks (model prog w) s.heap (isInstance (.ref a) (.type "list")) false) (h : R (.ok (.ret .notImplemented)) s) :
    wpAny (model prog w) A.in1 (Builtin.«list.__eq__» ⟨[.ref l, .ref a], []⟩) (fun fin s' => match fin with | .done f => R (.ok f) s' | .again c' => c'.quiet = true ∧ codeAny (model prog w) A c' R s') (fun e s' => R (.error e) s') s := by
  refine wpAny_bind (m := slotArgs _ _ _) (wpAny_pure ?_)
  refine wpAny_bind (m := isInstance _ _) (sub.here ?_)
  wp_walk
  exact h
theorem dec_tuple_eq {l : Addr} {R : Result → Shared → Prop} (sub : PySem.W.Looks (model prog w) s.heap (isInstance (.ref a) (.type "tuple")) false) (h : R (.ok (.ret .notImplemented)) s) :
    wpAny (model prog w) A.in1 (Builtin.«tuple.__eq__» ⟨[.ref l, .ref a], []⟩) (fun fin s' => match fin with | .done f => R (.ok f) s' | .again c' => c'.quiet = true ∧ codeAny (model prog w) A c' R s') (fun e s' => R (.error e) s') s := by
  refine wpAny_bind (m := slotArgs _ _ _) (wpAny_pure ?_)
  refine wpAny_bind (m := isInstance _ _) (sub.here ?_)
  wp_walk
  exact h
theorem dec_dict_eq {l : Addr} {R : Result → Shared → Prop} (sub : PySem.W.Looks (model prog w) s.heap (isInstance (.ref a) (.type "dict")) false) (h : R (.ok (.ret .notImplemented)) s) :
    wpAny (model prog w) A.in1 (Builtin.«dict.__eq__» ⟨[.ref l, .ref a], []⟩) (fun fin s' => match fin with | .done f => R (.ok f) s' | .again c' => c'.quiet = true ∧ codeAny (model prog w) A c' R s') (fun e s' => R (.error e) s') s := by
  have e : Builtin.Dict.dictSlotArgs "__eq__" ⟨[.ref l, .ref a], []⟩ = pure (.ref l, .ref a) := by kernel_rfl
  refine wpAny_bind (m := Builtin.Dict.dictSlotArgs _ _) ?_
  rw [e]
  refine wpAny_pure ?_
  refine wpAny_bind (m := isInstance _ _) (sub.here ?_)
  wp_walk
  exact h
theorem dec_bool_ne (b : Bool) (C : Addr) : Meets (Builtin.«int.__ne__» ⟨[.bool b, .ref a], []⟩) (fun _ R s => PlainAt s a C ∧ R (.ok (.ret .notImplemented)) s) :=
  .of_wp fun prog w A R s h => by obtain ⟨hp, g, d, tk, os⟩ := s; obtain ⟨⟨dd, sl, hl⟩, h⟩ := h; wp_walk using wpAny_loadPart' hl, wpAny_load hl; exact ⟨_, rfl, h⟩
theorem dec_none_ne : Gives (Builtin.«NoneType.__ne__» ⟨[.none, .ref a], []⟩) (.val (Value.notImplemented)) :=
  .of_wp fun M A E s Q h => by obtain ⟨hp, g, d, tk, os⟩ := s; wp_walk; exact ⟨_, rfl, h⟩
theorem dec_str_ne (b : Str) (u : Tok) (C : Addr) : Meets (Builtin.«str.__ne__» ⟨[.str b u, .ref a], []⟩) (fun _ R s => PlainAt s a C ∧ R (.ok (.ret .notImplemented)) s) :=
  .of_wp fun prog w A R s h => by obtain ⟨hp, g, d, tk, os⟩ := s; obtain ⟨⟨dd, sl, hl⟩, h⟩ := h; wp_walk using wpAny_loadPart' hl, wpAny_load hl; exact ⟨_, rfl, h⟩
theorem dec_list_ne {l : Addr} {R : Result → Shared → Prop} (sub : PySem.W.Looks (model prog w) s.heap (isInstance (.ref a) (.type "list")) false) (h : R (.ok (.ret .notImplemented)) s) :
    wpAny (model prog w) A.in1 (Builtin.«list.__ne__» ⟨[.ref l, .ref a], []⟩) (fun fin s' => match fin with | .done f => R (.ok f) s' | .again c' => c'.quiet = true ∧ codeAny (model prog w) A c' R s') (fun e s' => R (.error e) s') s := by
  refine wpAny_bind (m := slotArgs _ _ _) (wpAny_pure ?_)
  refine wpAny_bind (m := isInstance _ _) (sub.here ?_)
  wp_walk
  exact h
theorem dec_tuple_ne {l : Addr} {R : Result → Shared → Prop} (sub : PySem.W.Looks (model prog w) s.heap (isInstance (.ref a) (.type "tuple")) false) (h : R (.ok (.ret .notImplemented)) s) :
    wpAny (model prog w) A.in1 (Builtin.«tuple.__ne__» ⟨[.ref l, .ref a], []⟩) (fun fin s' => match fin with | .done f => R (.ok f) s' | .again c' => c'.quiet = true ∧ codeAny (model prog w) A c' R s') (fun e s' => R (.error e) s') s := by
  refine wpAny_bind (m := slotArgs _ _ _) (wpAny_pure ?_)
  refine wpAny_bind (m := isInstance _ _) (sub.here ?_)
  wp_walk
  exact h
theorem dec_dict_ne {l : Addr} {R : Result → Shared → Prop} (sub : PySem.W.Looks (model prog w) s.heap (isInstance (.ref a) (.type "dict")) false) (h : R (.ok (.ret .notImplemented)) s) :
    wpAny (model prog w) A.in1 (Builtin.«dict.__ne__» ⟨[.ref l, .ref a], []⟩) (fun fin s' => match fin with | .done f => R (.ok f) s' | .again c' => c'.quiet = true ∧ codeAny (model prog w) A c' R s') (fun e s' => R (.error e) s') s := by
  have e : Builtin.Dict.dictSlotArgs "__ne__" ⟨[.ref l, .ref a], []⟩ = pure (.ref l, .ref a) := by kernel_rfl
  refine wpAny_bind (m := Builtin.Dict.dictSlotArgs _ _) ?_
  rw [e]
  refine wpAny_pure ?_
  refine wpAny_bind (m := isInstance _ _) (sub.here ?_)
  wp_walk
  exact h
end
end
end AmL
/-! rules over the hand layer: operators of an own class, beside built-in values too -/
namespace Am
open PySem PySem.Spec PyProof.Rows L2

/-- values of built-in types -/
inductive Bk (H : Hp) : V → String → Prop where
  | non : Bk H .non "NoneType"
  | bl (b : Bool) : Bk H (.bl b) "bool"
  | int (i : Int) : Bk H (.int i) "int"
  | str (z : Str) : Bk H (.str z) "str"
  | lst {a : Addr} {xs : List V} (h : H a = some (.lst xs)) : Bk H (.ref a) "list"
  | tup {a : Addr} {xs : List V} (h : H a = some (.tup xs)) : Bk H (.ref a) "tuple"
  | dK {a : Addr} {kvs : List (Key × V)} (h : H a = some (.dK kvs)) : Bk H (.ref a) "dict"
def isI : V → Bool
  | .int _ => true
  | _ => false
theorem Bk.same {H H' : Hp} (e : Same H H') {x : V} {T : String} (b : Bk H x T) : Bk H' x T := by
  cases b with
  | non => exact .non
  | bl b => exact .bl b
  | int i => exact .int i
  | str z => exact .str z
  | lst h => exact .lst (e _ _ h)
  | tup h => exact .tup (e _ _ h)
  | dK h => exact .dK (e _ _ h)
theorem Bk.tyOf {K : PySem.W.Frag} {H : Hp} {x : V} {T : String} (b : Bk H x T) : TyOf K H x (.type T) := by
  cases b with
  | non => exact .non
  | bl b => exact .bl b
  | int i => exact .int i
  | str z => exact .str z
  | lst h => exact .lst h
  | tup h => exact .tup h
  | dK h => exact .dK h
section
variable {X : Cx} {pins : List (Addr × Obj)} {σ : L2.St} {H : Hp} {s : Shared}
theorem Bk.typeIs {x : V} {T : String} {u : Value} (b : Bk H x T) (I : Inv X pins σ H s) (r : RelV x u) : s.TypeIs u T := by
  cases b with
  | non => cases (show u = Value.none from r); rfl
  | bl b => cases (show u = Value.bool b from r); rfl
  | int i => obtain ⟨t, q⟩ := (show ∃ t, u = Value.int i t from r); cases q; rfl
  | str z => obtain ⟨t, q⟩ := (show ∃ t, u = Value.str z t from r); cases q; rfl
  | @lst a xs ea =>
    cases (show u = Value.ref a from r)
    obtain ⟨_, _, n, _, h1⟩ := (show ObjOk X.prog X.w H s.heap a (.lst xs) from I.hok a _ ea)
    exact ⟨_, h1, rfl⟩
  | @tup a xs ea =>
    cases (show u = Value.ref a from r)
    obtain ⟨_, _, _, o, h1, h2, _⟩ := (show ObjOk X.prog X.w H s.heap a (.tup xs) from I.hok a _ ea)
    exact ⟨o, h1, h2⟩
  | @dK a kvs ea =>
    cases (show u = Value.ref a from r)
    obtain ⟨_, _, vs, _, o, es, ep, h1, h2, _⟩ := (show ObjOk X.prog X.w H s.heap a (.dK kvs) from I.hok a _ ea)
    exact ⟨o, h1, h2.1⟩
theorem looks_typeIs {M : Model} {u : Value} {T : String} (h : s.TypeIs u T) : PySem.W.Looks M s.heap (typeOf u) (.type T) := by
  intro A Q E s' k q
  have h' : s'.TypeIs u T := by
    cases u with
    | ref a => obtain ⟨o, ho, hc⟩ := h; exact ⟨o, k _ _ ho, hc⟩
    | _ => exact h
  exact wpAny_typeOf h' q
end

/-- what the operators ask of the class -/
structure OpC (K : PySem.W.Frag) (C : Addr) : Prop where
  sf : PySem.W.selfFirst K C = true
  ne : PySem.W.findIn K (.ref C) "__ne__" = some (some (.builtin "object.__ne__"))
  ob : PySem.W.mroIn K C (.type "object") = some true
  s1 : PySem.W.subIn K (.ref C) (.type "int") = some false
  s2 : PySem.W.subIn K (.ref C) (.type "bool") = some false
  s3 : PySem.W.subIn K (.ref C) (.type "NoneType") = some false
  s4 : PySem.W.subIn K (.ref C) (.type "str") = some false
  s5 : PySem.W.subIn K (.ref C) (.type "list") = some false
  s6 : PySem.W.subIn K (.ref C) (.type "tuple") = some false
  s7 : PySem.W.subIn K (.ref C) (.type "dict") = some false
  r1 : PySem.W.subIn K (.type "int") (.ref C) = some false
  r2 : PySem.W.subIn K (.type "bool") (.ref C) = some false
  r3 : PySem.W.subIn K (.type "NoneType") (.ref C) = some false
  r4 : PySem.W.subIn K (.type "str") (.ref C) = some false
  r5 : PySem.W.subIn K (.type "list") (.ref C) = some false
  r6 : PySem.W.subIn K (.type "tuple") (.ref C) = some false
  r7 : PySem.W.subIn K (.type "dict") (.ref C) = some false
theorem OpC.sub {K : PySem.W.Frag} {C : Addr} {H : Hp} {x : V} {T : String} (c : OpC K C) (b : Bk H x T) : PySem.W.subIn K (.ref C) (.type T) = some false := by
  cases b <;> first | exact c.s1 | exact c.s2 | exact c.s3 | exact c.s4 | exact c.s5 | exact c.s6 | exact c.s7
theorem OpC.rev {K : PySem.W.Frag} {C : Addr} {H : Hp} {x : V} {T : String} (c : OpC K C) (b : Bk H x T) : PySem.W.subIn K (.type T) (.ref C) = some false := by
  cases b <;> first | exact c.r1 | exact c.r2 | exact c.r3 | exact c.r4 | exact c.r5 | exact c.r6 | exact c.r7
theorem OpC.nf {K : PySem.W.Frag} {C : Addr} {H : Hp} {x : V} {T : String} (c : OpC K C) (b : Bk H x T) : PySem.W.notFirst K C (.type T) = true := by
  unfold PySem.W.notFirst
  rw [c.rev b]
  simp
theorem nf_self {K : PySem.W.Frag} {C : Addr} : PySem.W.notFirst K C (.ref C) = true := by
  unfold PySem.W.notFirst
  simp

/-- a method that an operator calls -/
structure Om (X : Cx) (C : Addr) (name : Str) (g : Addr) : Prop where
  hs : PySem.W.findIn X.K (.ref C) name = some (some (.ref g))
  hf : PySem.W.isFn X.K (.ref g) = true
/-- an instance of C, or a value of a built-in type -/
def OrB (C : Addr) (H : Hp) (y : V) : Prop := (∃ b dy gs, y = .ref b ∧ H b = some (.ins C dy gs)) ∨ ∃ T, Bk H y T
section
variable {X : Cx} {C g : Addr} {k : Nat} {fd : FuncData} {ps : List Str} {sp : Sp} {CX : CXT} {E : XK} {pins : List (Addr × Obj)} {σ : L2.St} {H : Hp} {s : Shared}
theorem inst_of {a dx : Addr} {fs : List (Str × V)} (I : Inv X pins σ H s) (ha : H a = some (.ins C dx fs)) : ∃ od, PySem.W.InstAt s.heap a (PySem.W.instObj C dx) C (some od) := by
  obtain ⟨mA, J, _⟩ := ins_get I.hok ha
  obtain ⟨od, J, _⟩ := J.look
  exact ⟨od, J⟩
theorem plain_of {a dx : Addr} {fs : List (Str × V)} (I : Inv X pins σ H s) (ha : H a = some (.ins C dx fs)) : AmL.PlainAt s a C := by
  obtain ⟨_, _, _, h, _⟩ := (show ObjOk X.prog X.w H s.heap a (.ins C dx fs) from I.hok a _ ha)
  exact ⟨_, _, h⟩
theorem orB_type {y : V} {u : Value} (c : OpC X.K C) (I : Inv X pins σ H s) (ry : RelV y u) (h : OrB C H y) : ∃ tb, PySem.W.Looks (model X.prog X.w) s.heap (typeOf u) tb ∧ PySem.W.notFirst X.K C tb = true := by
  rcases h with ⟨b, dy, gs, rfl, hb⟩ | ⟨T, b⟩
  · cases (show u = Value.ref b from ry)
    obtain ⟨od, J⟩ := inst_of I hb
    exact ⟨.ref C, J.type, nf_self⟩
  · exact ⟨.type T, looks_typeIs (b.typeIs I ry), c.nf b⟩

/-- x op y: x an instance -/
def rCmp (C : Addr) (sp : Sp) (E : XK) : R2 := fun x y H Q => (∃ a dx fs, x = .ref a ∧ H a = some (.ins C dx fs)) ∧ OrB C H y ∧ sp [x, y] H Q E
theorem op_cmpC {op : CmpOp} (hop : ∀ a b, compareOp op a b = richCompare op a b) (c : OpC X.K C) (m : Om X C (cmpInfo op).2.1 g) (F : FnOk X.prog X.w X.K X.mg X.base CX k g fd ps sp) (hr : Room k X.A) (hb : Binds X.K fd ps [])
    (hx : Passes CX X E) : OpR X (compareOp op) (rCmp C sp E) := by
  intro pins s σ H x y v u Q I rx ry h
  obtain ⟨⟨a, dx, fs, rfl, ha⟩, hy, q⟩ := h
  cases (show v = Value.ref a from rx)
  obtain ⟨od, J⟩ := inst_of I ha
  obtain ⟨tb, ht, hn⟩ := orB_type c I ry hy
  obtain ⟨mm, hF⟩ := I.fr
  rw [hop]
  refine PySem.W.cmp_K (op := op) hr.units0 hF I.ok.mod.kin J ht hn m.hs m.hf ?_
  refine wpAny_mono (run_fn (us := [.ref a, u]) (vs := [.ref a, y]) (dvs := []) F hr hb .nil hx I (.cons rfl (.cons ry .nil)) q) (fun w s' z => ?_) fun _ _ x => x
  obtain ⟨z', H', I', rz, qz⟩ := z
  exact SlX.cmpback rz ⟨z', H', I', rz, qz⟩

theorem room_in1 {A : Around} (hr : Room (k + 1) A) : Room k A.in1 := hr.in1
/-- the callee runs one builtin below -/
theorem run_in1 {Q : VK} {us : List Value} {vs : List V} (F : FnOk X.prog X.w X.K X.mg X.base CX k g fd ps sp) (hr : Room (k + 1) X.A) (hb : Binds X.K fd ps []) (hx : Passes CX X E)
    (I : Inv X pins σ H s) (r : Vals vs us) (h : sp vs H Q E) : wpAny (model X.prog X.w) X.A.in1 (call (.ref g) us) (EP X pins σ Q) X.xe s := by
  have hl : us.length = ps.length := by rw [← r.length]; exact F.len _ _ _ _ h
  refine wpAny_call (codeAny_mono (F.run X.A.in1 X.stack s H ⟨us, []⟩ us vs Q E hr.in1 I.env0.in1 (by
    have := hb s us I.kIn (by simpa using hl)
    simpa using this) r h) fun r s' hq => ?_)
  cases r with
  | error e => exact hx pins σ H s e s' I hq
  | ok fl =>
    cases fl with
    | ret u => exact I.after hq
    | next => exact False.elim hq
    | brk => exact False.elim hq
    | cont => exact False.elim hq

/-- x != y: x an instance whose class has an own ==, that hands back a truth value -/
def rNeC (C : Addr) (sp : Sp) (E : XK) : R2 := fun x y H Q => (∃ a dx fs, x = .ref a ∧ H a = some (.ins C dx fs)) ∧ OrB C H y ∧ sp [x, y] H (fun v H' => ∃ b, v = .bl b ∧ Q (.bl (!b)) H') E
theorem op_neC (c : OpC X.K C) (m : Om X C "__eq__" g) (F : FnOk X.prog X.w X.K X.mg X.base CX k g fd ps sp) (hr : Room (k + 1) X.A) (hb : Binds X.K fd ps [])
    (hx : Passes CX X E) : OpR X (compareOp .NotEq) (rNeC C sp E) := by
  intro pins s σ H x y v u Q I rx ry h
  obtain ⟨⟨a, dx, fs, rfl, ha⟩, hy, q⟩ := h
  cases (show v = Value.ref a from rx)
  obtain ⟨od, J⟩ := inst_of I ha
  obtain ⟨tb, ht, hn⟩ := orB_type c I ry hy
  show wpAny (model X.prog X.w) X.A (richCompare .NotEq _ _) (EP X pins σ Q) X.xe s
  refine AmL.ne_inst (by have := hr.units; omega) I.kIn J ht hn c.ne c.ob m.hs m.hf ?_
  refine wpAny_mono (run_in1 (us := [.ref a, u]) (vs := [.ref a, y]) F hr hb hx I (.cons rfl (.cons ry .nil)) q) (fun w s' z => ?_) fun _ _ x => x
  obtain ⟨z', H', I', rz, b, rfl, qz⟩ := z
  cases (show w = Value.bool b from rz)
  exact ⟨b, rfl, .bl (!b), H', I', rfl, qz⟩

theorem insub {a dx : Addr} {fs : List (Str × V)} {T : String} (I : Inv X pins σ H s) (ha : H a = some (.ins C dx fs)) (h : PySem.W.subIn X.K (.ref C) (.type T) = some false) :
    PySem.W.Looks (model X.prog X.w) s.heap (isInstance (.ref a) (.type T)) false := by
  obtain ⟨od, J⟩ := inst_of I ha
  exact J.type.andThen (PySem.W.looks_subIn I.kIn h)

/-- what declines -/
structure Dec (X : Cx) (op : CmpOp) (P : Hp → V → Prop) : Prop where
  run : ∀ (pins : List (Addr × Obj)) (σ : L2.St) (H : Hp) (s : Shared) (C a dx : Addr) (fs : List (Str × V)) (x : V) (v : Value), OpC X.K C → Inv X pins σ H s → RelV x v → P H x → H a = some (.ins C dx fs) →
    ∃ T id, Bk H x T ∧ Slot T (cmpInfo op).2.1 id ∧ ∀ (E : Value → Shared → Prop) (Q' : Value → Shared → Prop), Q' .notImplemented s → wpAny (model X.prog X.w) X.A (call (.builtin id) [v, .ref a]) Q' E s

/-- x op y: x a value that declines, y an instance -/
def rRef (C : Addr) (P : Hp → V → Prop) (sp : Sp) (E : XK) : R2 := fun x y H Q => P H x ∧ (∃ a dx fs, y = .ref a ∧ H a = some (.ins C dx fs)) ∧ sp [y, x] H Q E
theorem op_refC {op : CmpOp} {P : Hp → V → Prop} (hop : ∀ a b, compareOp op a b = richCompare op a b) (d : Dec X op P) (c : OpC X.K C) (m : Om X C (cmpInfo op).2.2 g) (F : FnOk X.prog X.w X.K X.mg X.base CX k g fd ps sp) (hr : Room k X.A)
    (hb : Binds X.K fd ps []) (hx : Passes CX X E) : OpR X (compareOp op) (rRef C P sp E) := by
  intro pins s σ H x y v u Q I rx ry h
  obtain ⟨hp, ⟨a, dx, fs, rfl, ha⟩, q⟩ := h
  cases (show u = Value.ref a from ry)
  obtain ⟨od, J⟩ := inst_of I ha
  obtain ⟨T, id, bk, slot, dec⟩ := d.run pins σ H s C a dx fs x v c I rx hp ha
  rw [hop]
  refine AmL.refl_inst (op := op) hr.units0 I.kIn J (bk.typeIs I rx) slot (fun Q' q' => dec _ Q' q') (c.sub bk) m.hs m.hf ?_
  refine wpAny_mono (run_fn (us := [.ref a, v]) (vs := [.ref a, x]) (dvs := []) F hr hb .nil hx I (.cons rfl (.cons rx .nil)) q) (fun w s' z => ?_) fun _ _ x => x
  obtain ⟨z', H', I', rz, qz⟩ := z
  exact SlX.cmpback rz ⟨z', H', I', rz, qz⟩
def rRefN (C : Addr) (P : Hp → V → Prop) (sp : Sp) (E : XK) : R2 := fun x y H Q => P H x ∧ (∃ a dx fs, y = .ref a ∧ H a = some (.ins C dx fs)) ∧ sp [y, x] H (fun v H' => ∃ b, v = .bl b ∧ Q (.bl (!b)) H') E
theorem op_refN {P : Hp → V → Prop} (d : Dec X .NotEq P) (c : OpC X.K C) (m : Om X C "__eq__" g) (F : FnOk X.prog X.w X.K X.mg X.base CX k g fd ps sp) (hr : Room (k + 1) X.A)
    (hb : Binds X.K fd ps []) (hx : Passes CX X E) : OpR X (compareOp .NotEq) (rRefN C P sp E) := by
  intro pins s σ H x y v u Q I rx ry h
  obtain ⟨hp, ⟨a, dx, fs, rfl, ha⟩, q⟩ := h
  cases (show u = Value.ref a from ry)
  obtain ⟨od, J⟩ := inst_of I ha
  obtain ⟨T, id, bk, slot, dec⟩ := d.run pins σ H s C a dx fs x v c I rx hp ha
  show wpAny (model X.prog X.w) X.A (richCompare .NotEq _ _) (EP X pins σ Q) X.xe s
  refine AmL.ne_refl (by have := hr.units; omega) I.kIn J (bk.typeIs I rx) slot (fun Q' q' => dec _ Q' q') (c.sub bk) c.ne c.ob m.hs m.hf ?_
  refine wpAny_mono (run_in1 (us := [.ref a, v]) (vs := [.ref a, x]) F hr hb hx I (.cons rfl (.cons rx .nil)) q) (fun w s' z => ?_) fun _ _ x => x
  obtain ⟨z', H', I', rz, b, rfl, qz⟩ := z
  cases (show w = Value.bool b from rz)
  exact ⟨b, rfl, .bl (!b), H', I', rfl, qz⟩
end
section
variable {X : Cx}
theorem meets_call {T : String} {name : Str} {id : String} {B : Builtin} {v : Value} {rest : List Value} {A : Around} {E : Value → Shared → Prop} {s : Shared} {prog : Program} {w : World} (slot : Slot T name id) (hT : s.TypeIs v T) (entry : entryFor table id = some B) (args : argsOk id ⟨v :: rest, []⟩)
    {P : Shared → Prop} (g : PySem.Meets (B ⟨v :: rest, []⟩) (fun _ R s => P s ∧ R (.ok (.ret .notImplemented)) s)) (hp : P s) (Q' : Value → Shared → Prop) (q : Q' .notImplemented s) : wpAny (model prog w) A (call (.builtin id) (v :: rest)) Q' E s :=
  wpAny_call (codeAny_call_builtin slot.plain entry (slot.check _ _ _ _ _ _ _ _ hT args (g prog w A (wants Q' E) s ⟨hp, q⟩)))
def PInt : Hp → V → Prop := fun _ x => ∃ i, x = .int i
theorem dec_intEq : Dec X .Eq PInt := ⟨fun pins σ H s C a dx fs x v c I r hp ha => by
  obtain ⟨i, rfl⟩ := hp
  obtain ⟨t, rfl⟩ := (show ∃ t, v = Value.int i t from r)
  exact ⟨"int", _, .int i, PySem.F.slot_int_eq, fun E Q' q => meets_call PySem.F.slot_int_eq (typeIs_int s i t) PySem.F.entry_int_eq (PySem.F.args_int_eq_2 _ _) (AmL.dec_int_eq i t C) (plain_of I ha) Q' q⟩⟩
theorem dec_intNotEq : Dec X .NotEq PInt := ⟨fun pins σ H s C a dx fs x v c I r hp ha => by
  obtain ⟨i, rfl⟩ := hp
  obtain ⟨t, rfl⟩ := (show ∃ t, v = Value.int i t from r)
  exact ⟨"int", _, .int i, PySem.F.slot_int_ne, fun E Q' q => meets_call PySem.F.slot_int_ne (typeIs_int s i t) PySem.F.entry_int_ne (PySem.F.args_int_ne_2 _ _) (AmL.dec_int_ne i t C) (plain_of I ha) Q' q⟩⟩
theorem dec_intLt : Dec X .Lt PInt := ⟨fun pins σ H s C a dx fs x v c I r hp ha => by
  obtain ⟨i, rfl⟩ := hp
  obtain ⟨t, rfl⟩ := (show ∃ t, v = Value.int i t from r)
  exact ⟨"int", _, .int i, PySem.F.slot_int_lt, fun E Q' q => meets_call PySem.F.slot_int_lt (typeIs_int s i t) PySem.F.entry_int_lt (PySem.F.args_int_lt_2 _ _) (AmL.dec_int_lt i t C) (plain_of I ha) Q' q⟩⟩
theorem dec_intLtE : Dec X .LtE PInt := ⟨fun pins σ H s C a dx fs x v c I r hp ha => by
  obtain ⟨i, rfl⟩ := hp
  obtain ⟨t, rfl⟩ := (show ∃ t, v = Value.int i t from r)
  exact ⟨"int", _, .int i, PySem.F.slot_int_le, fun E Q' q => meets_call PySem.F.slot_int_le (typeIs_int s i t) PySem.F.entry_int_le (PySem.F.args_int_le_2 _ _) (AmL.dec_int_le i t C) (plain_of I ha) Q' q⟩⟩
theorem dec_intGt : Dec X .Gt PInt := ⟨fun pins σ H s C a dx fs x v c I r hp ha => by
  obtain ⟨i, rfl⟩ := hp
  obtain ⟨t, rfl⟩ := (show ∃ t, v = Value.int i t from r)
  exact ⟨"int", _, .int i, PySem.F.slot_int_gt, fun E Q' q => meets_call PySem.F.slot_int_gt (typeIs_int s i t) PySem.F.entry_int_gt (PySem.F.args_int_gt_2 _ _) (AmL.dec_int_gt i t C) (plain_of I ha) Q' q⟩⟩
theorem dec_intGtE : Dec X .GtE PInt := ⟨fun pins σ H s C a dx fs x v c I r hp ha => by
  obtain ⟨i, rfl⟩ := hp
  obtain ⟨t, rfl⟩ := (show ∃ t, v = Value.int i t from r)
  exact ⟨"int", _, .int i, PySem.F.slot_int_ge, fun E Q' q => meets_call PySem.F.slot_int_ge (typeIs_int s i t) PySem.F.entry_int_ge (PySem.F.args_int_ge_2 _ _) (AmL.dec_int_ge i t C) (plain_of I ha) Q' q⟩⟩
def PBk : Hp → V → Prop := fun H x => ∃ T, Bk H x T
theorem dec_bkEq : Dec X .Eq PBk := ⟨fun pins σ H s C a dx fs x v c I r hp ha => by
  obtain ⟨T, b⟩ := hp
  refine ⟨T, ?_⟩
  have hT := b.typeIs I r
  cases b with
  | non =>
    cases (show v = Value.none from r)
    exact ⟨_, .non, PySem.F.slot_NoneType_eq, fun E Q' q => call_gives PySem.F.slot_NoneType_eq hT PySem.F.entry_NoneType_eq (PySem.F.args_NoneType_eq_2 _ _) AmL.dec_none_eq q⟩
  | bl k =>
    cases (show v = Value.bool k from r)
    exact ⟨_, .bl k, PySem.F.slot_bool_eq, fun E Q' q => meets_call PySem.F.slot_bool_eq hT PySem.F.entry_int_eq (PySem.F.args_int_eq_2 _ _) (AmL.dec_bool_eq k C) (plain_of I ha) Q' q⟩
  | int i =>
    obtain ⟨t, rfl⟩ := (show ∃ t, v = Value.int i t from r)
    exact ⟨_, .int i, PySem.F.slot_int_eq, fun E Q' q => meets_call PySem.F.slot_int_eq hT PySem.F.entry_int_eq (PySem.F.args_int_eq_2 _ _) (AmL.dec_int_eq i t C) (plain_of I ha) Q' q⟩
  | str z =>
    obtain ⟨t, rfl⟩ := (show ∃ t, v = Value.str z t from r)
    exact ⟨_, .str z, PySem.F.slot_str_eq, fun E Q' q => meets_call PySem.F.slot_str_eq hT PySem.F.entry_str_eq (PySem.F.args_str_eq_2 _ _) (AmL.dec_str_eq z t C) (plain_of I ha) Q' q⟩
  | @lst l xs ea =>
    cases (show v = Value.ref l from r)
    exact ⟨_, .lst ea, PySem.F.slot_list_eq, fun E Q' q => GQ.call_here PySem.F.slot_list_eq hT PySem.F.entry_list_eq (PySem.F.args_list_eq_2 _ _) (AmL.dec_list_eq (R := wants Q' E) (insub I ha c.s5) q)⟩
  | @tup l xs ea =>
    cases (show v = Value.ref l from r)
    exact ⟨_, .tup ea, PySem.F.slot_tuple_eq, fun E Q' q => GQ.call_here PySem.F.slot_tuple_eq hT PySem.F.entry_tuple_eq (PySem.F.args_tuple_eq_2 _ _) (AmL.dec_tuple_eq (R := wants Q' E) (insub I ha c.s6) q)⟩
  | @dK l kvs ea =>
    cases (show v = Value.ref l from r)
    exact ⟨_, .dK ea, PySem.F.slot_dict_eq, fun E Q' q => GQ.call_here PySem.F.slot_dict_eq hT PySem.F.entry_dict_eq (PySem.F.args_dict_eq_2 _ _) (AmL.dec_dict_eq (R := wants Q' E) (insub I ha c.s7) q)⟩⟩
theorem dec_bkNotEq : Dec X .NotEq PBk := ⟨fun pins σ H s C a dx fs x v c I r hp ha => by
  obtain ⟨T, b⟩ := hp
  refine ⟨T, ?_⟩
  have hT := b.typeIs I r
  cases b with
  | non =>
    cases (show v = Value.none from r)
    exact ⟨_, .non, PySem.F.slot_NoneType_ne, fun E Q' q => call_gives PySem.F.slot_NoneType_ne hT PySem.F.entry_NoneType_ne (PySem.F.args_NoneType_ne_2 _ _) AmL.dec_none_ne q⟩
  | bl k =>
    cases (show v = Value.bool k from r)
    exact ⟨_, .bl k, PySem.F.slot_bool_ne, fun E Q' q => meets_call PySem.F.slot_bool_ne hT PySem.F.entry_int_ne (PySem.F.args_int_ne_2 _ _) (AmL.dec_bool_ne k C) (plain_of I ha) Q' q⟩
  | int i =>
    obtain ⟨t, rfl⟩ := (show ∃ t, v = Value.int i t from r)
    exact ⟨_, .int i, PySem.F.slot_int_ne, fun E Q' q => meets_call PySem.F.slot_int_ne hT PySem.F.entry_int_ne (PySem.F.args_int_ne_2 _ _) (AmL.dec_int_ne i t C) (plain_of I ha) Q' q⟩
  | str z =>
    obtain ⟨t, rfl⟩ := (show ∃ t, v = Value.str z t from r)
    exact ⟨_, .str z, PySem.F.slot_str_ne, fun E Q' q => meets_call PySem.F.slot_str_ne hT PySem.F.entry_str_ne (PySem.F.args_str_ne_2 _ _) (AmL.dec_str_ne z t C) (plain_of I ha) Q' q⟩
  | @lst l xs ea =>
    cases (show v = Value.ref l from r)
    exact ⟨_, .lst ea, PySem.F.slot_list_ne, fun E Q' q => GQ.call_here PySem.F.slot_list_ne hT PySem.F.entry_list_ne (PySem.F.args_list_ne_2 _ _) (AmL.dec_list_ne (R := wants Q' E) (insub I ha c.s5) q)⟩
  | @tup l xs ea =>
    cases (show v = Value.ref l from r)
    exact ⟨_, .tup ea, PySem.F.slot_tuple_ne, fun E Q' q => GQ.call_here PySem.F.slot_tuple_ne hT PySem.F.entry_tuple_ne (PySem.F.args_tuple_ne_2 _ _) (AmL.dec_tuple_ne (R := wants Q' E) (insub I ha c.s6) q)⟩
  | @dK l kvs ea =>
    cases (show v = Value.ref l from r)
    exact ⟨_, .dK ea, PySem.F.slot_dict_ne, fun E Q' q => GQ.call_here PySem.F.slot_dict_ne hT PySem.F.entry_dict_ne (PySem.F.args_dict_ne_2 _ _) (AmL.dec_dict_ne (R := wants Q' E) (insub I ha c.s7) q)⟩⟩
end
section
variable {X : Cx} {C g : Addr} {k : Nat} {fd : FuncData} {ps : List Str} {sp : Sp} {CX : CXT} {E : XK}
/-- what an arithmetic operator asks of the type int -/
structure OpI (X : Cx) (C : Addr) (nm : String) : Prop where
  h1 : ∃ fo, PySem.W.findIn X.K (.type "int") (PySem.dunder nm) = some fo
  h2 : ∃ ro, PySem.W.findIn X.K (.type "int") (PySem.dunderR nm) = some ro
  hr : ∃ g : Addr, PySem.W.findIn X.K (.ref C) (PySem.dunderR nm) = some (some (.ref g))
/-- x op y: x an instance, y an instance or an int -/
def OrI (C : Addr) (H : Hp) (y : V) : Prop := (∃ b dy gs, y = .ref b ∧ H b = some (.ins C dy gs)) ∨ ∃ i, y = .int i
def rBin (C : Addr) (sp : Sp) (E : XK) : R2 := fun x y H Q => (∃ a dx fs, x = .ref a ∧ H a = some (.ins C dx fs)) ∧ OrI C H y ∧ sp [x, y] H Q E
theorem op_binC {op : Operator} (c : OpC X.K C) (ci : OpI X C op.info.2) (m : Om X C (PySem.dunder op.info.2) g) (F : FnOk X.prog X.w X.K X.mg X.base CX k g fd ps sp) (hr : Room k X.A) (hb : Binds X.K fd ps [])
    (hx : Passes CX X E) : OpR X (binaryOp op) (rBin C sp E) := by
  intro pins s σ H x y v u Q I rx ry h
  obtain ⟨⟨a, dx, fs, rfl, ha⟩, hy, q⟩ := h
  cases (show v = Value.ref a from rx)
  obtain ⟨od, J⟩ := inst_of I ha
  obtain ⟨mm, hF⟩ := I.fr
  have fin : wpAny (model X.prog X.w) X.A (call (.ref g) [.ref a, u]) (PySem.W.CmpBack (EP X pins σ Q)) X.xe s := by
    refine wpAny_mono (run_fn (us := [.ref a, u]) (vs := [.ref a, y]) (dvs := []) F hr hb .nil hx I (.cons rfl (.cons ry .nil)) q) (fun w s' z => ?_) fun _ _ x => x
    obtain ⟨z', H', I', rz, qz⟩ := z
    exact SlX.cmpback rz ⟨z', H', I', rz, qz⟩
  rcases hy with ⟨b, dy, gs, rfl, hb'⟩ | ⟨i, rfl⟩
  · cases (show u = Value.ref b from ry)
    obtain ⟨od', J'⟩ := inst_of I hb'
    exact PySem.W.binop_K hF I.ok.mod.kin J J'.type c.sf m.hs m.hf fin
  · obtain ⟨t, rfl⟩ := (show ∃ t, u = Value.int i t from ry)
    obtain ⟨fo, h1⟩ := ci.h1
    obtain ⟨ro, h2⟩ := ci.h2
    obtain ⟨g', h3⟩ := ci.hr
    exact PySem.W.ksp_binT hF I.ok.mod.kin J rfl c.sf m.hs m.hf h3 (.inr ⟨g', rfl⟩) h1 h2 c.r1 fin
/-- -x -/
def rNegC (C : Addr) (sp : Sp) (E : XK) : V → Hp → VK → Prop := fun x H Q => (∃ a dx fs, x = .ref a ∧ H a = some (.ins C dx fs)) ∧ sp [x] H Q E
theorem un_negC (m : Om X C "__neg__" g) (F : FnOk X.prog X.w X.K X.mg X.base CX k g fd ps sp) (hr : Room k X.A) (hb : Binds X.K fd ps [])
    (hx : Passes CX X E) : UnR X (unaryOp .USub) (rNegC C sp E) := by
  intro pins s σ H x v Q I rx h
  obtain ⟨⟨a, dx, fs, rfl, ha⟩, q⟩ := h
  cases (show v = Value.ref a from rx)
  obtain ⟨od, J⟩ := inst_of I ha
  obtain ⟨mm, hF⟩ := I.fr
  exact PySem.W.ksp_neg hF I.ok.mod.kin J m.hs m.hf (run_fn (us := [.ref a]) (vs := [.ref a]) (dvs := []) F hr hb .nil hx I (.cons rfl .nil) q)
theorem UnR.or {f : Value → Sem Value} {r r' : V → Hp → VK → Prop} (h : UnR X f r) (h' : UnR X f r') : UnR X f (fun x H Q => r x H Q ∨ r' x H Q) := by
  intro pins s σ H x v Q I rx q
  rcases q with q | q
  · exact h pins s σ H x v Q I rx q
  · exact h' pins s σ H x v Q I rx q
end
end Am
namespace Am
/-! fractions in least terms -/
def gc (n u : Int) : Int := ((Nat.gcd n.natAbs u.natAbs : Nat) : Int)
def sg (n u : Int) : Int := if u < 0 then -gc n u else gc n u
def fr (n u : Int) : Int × Int := (n.fdiv (sg n u), u.fdiv (sg n u))
def Low (n u : Int) : Prop := 0 < u ∧ Nat.gcd n.natAbs u.natAbs = 1

theorem gc_pos {n u : Int} (hu : u ≠ 0) : 0 < gc n u := by
  unfold gc
  have : 0 < Nat.gcd n.natAbs u.natAbs := Nat.gcd_pos_of_pos_right _ (by omega)
  omega
theorem gc_dvd_l (n u : Int) : gc n u ∣ n := by
  unfold gc
  exact Int.ofNat_dvd_left.mpr (Nat.gcd_dvd_left _ _)
theorem gc_dvd_r (n u : Int) : gc n u ∣ u := by
  unfold gc
  exact Int.ofNat_dvd_left.mpr (Nat.gcd_dvd_right _ _)
theorem sg_ne {n u : Int} (hu : u ≠ 0) : sg n u ≠ 0 := by
  have := gc_pos (n := n) hu
  unfold sg
  split <;> omega
theorem sg_dvd_l (n u : Int) : sg n u ∣ n := by
  unfold sg
  split
  · exact Int.neg_dvd.mpr (gc_dvd_l n u)
  · exact gc_dvd_l n u
theorem sg_dvd_r (n u : Int) : sg n u ∣ u := by
  unfold sg
  split
  · exact Int.neg_dvd.mpr (gc_dvd_r n u)
  · exact gc_dvd_r n u
theorem fdiv_mul {a b : Int} (h : b ∣ a) : a.fdiv b * b = a := by
  obtain ⟨c, rfl⟩ := h
  by_cases hb : b = 0
  · subst hb; simp
  · rw [Int.mul_fdiv_cancel_left _ hb, Int.mul_comm]
theorem fr_l {n u : Int} : (fr n u).1 * sg n u = n := fdiv_mul (sg_dvd_l n u)
theorem fr_r {n u : Int} : (fr n u).2 * sg n u = u := fdiv_mul (sg_dvd_r n u)
theorem natAbs_sg (n u : Int) : (sg n u).natAbs = Nat.gcd n.natAbs u.natAbs := by
  unfold sg gc
  split <;> omega
theorem fr_low {n u : Int} (hu : u ≠ 0) : Low (fr n u).1 (fr n u).2 := by
  have hg := gc_pos (n := n) hu
  have h1 := fr_l (n := n) (u := u)
  have h2 := fr_r (n := n) (u := u)
  have a1 : (fr n u).1.natAbs * Nat.gcd n.natAbs u.natAbs = n.natAbs := by
    rw [← natAbs_sg, ← Int.natAbs_mul, h1]
  have a2 : (fr n u).2.natAbs * Nat.gcd n.natAbs u.natAbs = u.natAbs := by
    rw [← natAbs_sg, ← Int.natAbs_mul, h2]
  have gp : 0 < Nat.gcd n.natAbs u.natAbs := Nat.gcd_pos_of_pos_right _ (by omega)
  refine ⟨?_, ?_⟩
  · by_cases c : u < 0
    · have e : sg n u = -gc n u := if_pos c
      rw [e] at h2
      refine Int.lt_of_not_ge fun q => ?_
      have : 0 ≤ (fr n u).2 * -gc n u := by
        have := Int.mul_nonneg (a := -(fr n u).2) (b := gc n u) (by omega) (by omega)
        rw [Int.neg_mul] at this
        rw [Int.mul_neg]
        exact this
      omega
    · have e : sg n u = gc n u := if_neg c
      rw [e] at h2
      refine Int.lt_of_not_ge fun q => ?_
      have : 0 ≤ -((fr n u).2 * gc n u) := by
        have := Int.mul_nonneg (a := -(fr n u).2) (b := gc n u) (by omega) (by omega)
        rw [Int.neg_mul] at this
        exact this
      omega
  · have k : Nat.gcd ((fr n u).1.natAbs * Nat.gcd n.natAbs u.natAbs) ((fr n u).2.natAbs * Nat.gcd n.natAbs u.natAbs) = Nat.gcd n.natAbs u.natAbs := by
      rw [a1, a2]
    rw [Nat.gcd_mul_right] at k
    have k' : Nat.gcd (fr n u).1.natAbs (fr n u).2.natAbs * Nat.gcd n.natAbs u.natAbs = 1 * Nat.gcd n.natAbs u.natAbs := by rw [k, Nat.one_mul]
    exact Nat.eq_of_mul_eq_mul_right gp k'
theorem Low.ne {n u : Int} (h : Low n u) : u ≠ 0 := by have := h.1; omega
theorem low_one (n : Int) : Low n 1 := ⟨by decide, by simp⟩
theorem Low.neg {n u : Int} (h : Low n u) : Low (-n) u := ⟨h.1, by rw [Int.natAbs_neg]; exact h.2⟩
theorem fr_of_low {n u : Int} (h : Low n u) : fr n u = (n, u) := by
  have e : sg n u = 1 := by
    unfold sg gc
    rw [h.2, if_neg (by have := h.1; omega)]
    rfl
  unfold fr
  rw [e, Int.fdiv_one, Int.fdiv_one]
theorem fr_pos_lt {n u : Int} (hu : 0 < u) : decide ((fr n u).1 < 0) = decide (n < 0) := by
  have e : sg n u = gc n u := if_neg (by omega)
  have hg := gc_pos (n := n) (u := u) (by omega)
  have h := fr_l (n := n) (u := u)
  rw [e] at h
  refine decide_eq_decide.mpr ⟨fun q => ?_, fun q => ?_⟩
  · have := Int.mul_neg_of_neg_of_pos q hg
    omega
  · refine Int.lt_of_not_ge fun z => ?_
    have := Int.mul_nonneg z (Int.le_of_lt hg)
    omega
theorem fr_pos_le {n u : Int} (hu : 0 < u) : decide ((fr n u).1 ≤ 0) = decide (n ≤ 0) := by
  have e : sg n u = gc n u := if_neg (by omega)
  have hg := gc_pos (n := n) (u := u) (by omega)
  have h := fr_l (n := n) (u := u)
  rw [e] at h
  refine decide_eq_decide.mpr ⟨fun q => ?_, fun q => ?_⟩
  · have := Int.mul_nonneg (a := -(fr n u).1) (b := gc n u) (by omega) (by omega)
    rw [Int.neg_mul] at this
    omega
  · refine Int.le_of_not_gt fun z => ?_
    have := Int.mul_pos z hg
    omega
theorem le_of_mul {a b c : Nat} (h : a * b = c) (hb : 0 < b) : a ≤ c := by
  rw [← h]
  exact Nat.le_mul_of_pos_right a hb
theorem fr_le1 {n u : Int} (hu : u ≠ 0) : (fr n u).1.natAbs ≤ n.natAbs := by
  have gp : 0 < Nat.gcd n.natAbs u.natAbs := Nat.gcd_pos_of_pos_right _ (by omega)
  exact le_of_mul (b := Nat.gcd n.natAbs u.natAbs) (by rw [← natAbs_sg, ← Int.natAbs_mul, fr_l]) gp
theorem fr_le2 {n u : Int} (hu : u ≠ 0) : (fr n u).2.natAbs ≤ u.natAbs := by
  have gp : 0 < Nat.gcd n.natAbs u.natAbs := Nat.gcd_pos_of_pos_right _ (by omega)
  exact le_of_mul (b := Nat.gcd n.natAbs u.natAbs) (by rw [← natAbs_sg, ← Int.natAbs_mul, fr_r]) gp
theorem sg_le {n u : Int} (hu : u ≠ 0) : (sg n u).natAbs ≤ u.natAbs := by
  rw [natAbs_sg]
  exact Nat.le_of_dvd (by omega) (Nat.gcd_dvd_right _ _)
/-- the law's own fraction: the sign ahead, then // by the greatest divisor -/
theorem law_fr {n u : Int} (hu : u ≠ 0) : fr n u = (((if u > 0 then 1 else -1) * n).fdiv (gc n u), ((if u > 0 then 1 else -1) * u).fdiv (gc n u)) := by
  unfold fr sg
  by_cases c : u < 0
  · rw [if_pos c, if_neg (by omega)]
    have e : ∀ x : Int, x.fdiv (-gc n u) = (-1 * x).fdiv (gc n u) := fun x => by
      have := Int.neg_fdiv_neg (-x) (gc n u)
      rw [Int.neg_neg] at this
      rw [this]
      congr 1
      omega
    rw [e, e]
  · rw [if_neg c, if_pos (by omega), Int.one_mul, Int.one_mul]
end Am
namespace Am
open PySem PySem.Spec PyProof.Rows L2
def top (i : Nat) : Stmt := PySem.Challenge.pw_whoseuse_k37_runs_of_rules.main.body.getD i (.Pass ⟨0, 0, 0, 0⟩)
abbrev sF__wall : Stmt := top 0
abbrev sInitE : Stmt := inClass (top 2) 0
abbrev sWhole : Stmt := top 10
abbrev sIsName : Stmt := top 11
abbrev sDec : Stmt := top 12
abbrev sAsc : Stmt := top 13
abbrev sRule_init : Stmt := inClass (top 18) 0
abbrev sRule_text : Stmt := inClass (top 18) 1
abbrev sRule_runs : Stmt := inClass (top 18) 2
abbrev sRule_eq : Stmt := inClass (top 18) 3
abbrev sF_ways_of : Stmt := top 19
abbrev sF_way_of : Stmt := top 20
abbrev sHInit : Stmt := inClass (top 24) 0
abbrev sHText : Stmt := inClass (top 24) 1
abbrev sHLives : Stmt := inClass (top 24) 2
abbrev sHRoom : Stmt := inClass (top 24) 3
abbrev sHPrice : Stmt := inClass (top 24) 4
abbrev sHIsUse : Stmt := inClass (top 24) 5
abbrev sHEq : Stmt := inClass (top 24) 6
abbrev sHIsPlace : Stmt := inClass (top 24) 7
abbrev sHIsDay : Stmt := inClass (top 24) 8
abbrev sHIsPU : Stmt := inClass (top 24) 9
abbrev sDrInit : Stmt := inClass (top 25) 0
abbrev sDrTake : Stmt := inClass (top 25) 1
abbrev sDrDays : Stmt := inClass (top 25) 2
abbrev sDrPlace : Stmt := inClass (top 25) 3
abbrev sDrPrice : Stmt := inClass (top 25) 4
abbrev sDrStay : Stmt := inClass (top 25) 5
abbrev sDrHasP : Stmt := inClass (top 25) 6
abbrev sDrHasF : Stmt := inClass (top 25) 7
abbrev sDrIsLet : Stmt := inClass (top 25) 8
abbrev sDrafted : Stmt := top 26
abbrev sTenants : Stmt := top 27
abbrev sPricesOf : Stmt := top 28
abbrev sJar : Stmt := top 30
abbrev sTake : Stmt := top 31
abbrev sOf : Stmt := top 32
abbrev sL_names : Stmt := top 33
abbrev sL_places : Stmt := top 34
abbrev sL_stays : Stmt := top 35
abbrev sL_town : Stmt := top 36
abbrev sL_house_text : Stmt := top 37
abbrev sL_rule : Stmt := top 38
abbrev sL_rule_text : Stmt := top 39
abbrev sL_right : Stmt := top 40
abbrev sLaw : Stmt := top 41
end Am
namespace Am
open PySem PySem.Spec PyProof.Rows L2

/-! ### data -/
def pf (n u : Int) : List (Str × V) := putF "under" (.int u) (putF "number" (.int n) [])
theorem nu_ : ¬ (("number" : Str) = "under") := by decide +kernel
theorem un_ : ¬ (("under" : Str) = "number") := by decide +kernel
theorem pf_number (n u : Int) : (pf n u).lookup ("number" : Str) = some (.int n) := by
  unfold pf
  rw [lookup_putF, if_neg nu_, lookup_putF, if_pos rfl]
theorem pf_under (n u : Int) : (pf n u).lookup ("under" : Str) = some (.int u) := by
  unfold pf
  rw [lookup_putF, if_pos rfl]
/-- an Amount in least terms -/
def AmAt (C : Addr) (H : Hp) (v : V) (n u : Int) : Prop := Low n u ∧ ∃ a dx, v = .ref a ∧ H a = some (.ins C dx (pf n u))
/-- an Amount or an integer -/
def AmV (C : Addr) (H : Hp) (v : V) (n u : Int) : Prop := AmAt C H v n u ∨ (v = .int n ∧ u = 1)
theorem AmAt.same {C : Addr} {H H' : Hp} {v : V} {n u : Int} (e : Same H H') (h : AmAt C H v n u) : AmAt C H' v n u := by
  obtain ⟨l, a, dx, rfl, h⟩ := h
  exact ⟨l, a, dx, rfl, e _ _ h⟩
theorem AmV.same {C : Addr} {H H' : Hp} {v : V} {n u : Int} (e : Same H H') (h : AmV C H v n u) : AmV C H' v n u := h.elim (fun h => .inl (h.same e)) .inr
theorem AmAt.low {C : Addr} {H : Hp} {v : V} {n u : Int} (h : AmAt C H v n u) : Low n u := h.1
theorem AmV.low {C : Addr} {H : Hp} {v : V} {n u : Int} (h : AmV C H v n u) : Low n u := h.elim (fun h => h.1) fun ⟨_, e⟩ => by rw [e]; exact low_one n
theorem AmAt.inst {C : Addr} {H : Hp} {v : V} {n u : Int} (h : AmAt C H v n u) : ∃ a dx fs, v = .ref a ∧ H a = some (.ins C dx fs) := by
  obtain ⟨l, a, dx, rfl, h⟩ := h
  exact ⟨a, dx, _, rfl, h⟩
theorem AmV.orB {C : Addr} {H : Hp} {v : V} {n u : Int} (h : AmV C H v n u) : OrB C H v := by
  rcases h with h | ⟨rfl, _⟩
  · obtain ⟨a, dx, fs, rfl, ha⟩ := h.inst
    exact .inl ⟨a, dx, fs, rfl, ha⟩
  · exact .inr ⟨_, .int n⟩
theorem AmV.orI {C : Addr} {H : Hp} {v : V} {n u : Int} (h : AmV C H v n u) : OrI C H v := by
  rcases h with h | ⟨rfl, _⟩
  · obtain ⟨a, dx, fs, rfl, ha⟩ := h.inst
    exact .inl ⟨a, dx, fs, rfl, ha⟩
  · exact .inr ⟨n, rfl⟩
def Bd (k : Nat) (n : Int) : Prop := n.natAbs < 2 ^ k
theorem same_upd {H : Hp} {p : Addr} {o : HO} (h : H p = none) : Same H (upd H p o) := fun b u e => by rw [upd_ne (ne_of_none e h)]; exact e

/-! ### facts of the text -/
structure Txt (K : PySem.W.Frag) (mg : Str → Option Value) (C : Addr) : Prop where
  cl : Cls K C
  op : OpC K C
  ca : PySem.W.findIn K (.ref C) "__class__" = some (some (.builtin "object.__class__"))
  cn : PySem.W.specialIn K (.builtin "object.__class__") "__get__" = some (some (.builtin "getset_descriptor.__get__"))
  ct : PySem.W.takesIn K (.builtin "object.__class__") = some true
  kC : PySem.W.kitOne K (.ref C) (.ref C) = some true
  kI : PySem.W.kitOne K (.ref C) (.type "int") = some false
  k1 : PySem.W.kitOne K (.type "int") (.ref C) = some false
  k2 : PySem.W.kitOne K (.type "bool") (.ref C) = some false
  k3 : PySem.W.kitOne K (.type "NoneType") (.ref C) = some false
  k4 : PySem.W.kitOne K (.type "str") (.ref C) = some false
  k5 : PySem.W.kitOne K (.type "list") (.ref C) = some false
  k6 : PySem.W.kitOne K (.type "tuple") (.ref C) = some false
  k7 : PySem.W.kitOne K (.type "dict") (.ref C) = some false
  nN : NoAttr K C "number"
  nU : NoAttr K C "under"
  mgC : mg "Amount" = some (.ref C)
  isi : mg "isinstance" = none
  int : mg "int" = none
  bool : mg "bool" = none
  gcd : mg "gcd" = some (.builtin "math.gcd")
theorem Txt.kOf {K : PySem.W.Frag} {mg : Str → Option Value} {C : Addr} {H : Hp} {x : V} {T : String} (t : Txt K mg C) (b : Bk H x T) : PySem.W.kitOne K (.type T) (.ref C) = some false := by
  cases b <;> first | exact t.k1 | exact t.k2 | exact t.k3 | exact t.k4 | exact t.k5 | exact t.k6 | exact t.k7
def isIB : V → Bool
  | .int _ => true
  | .bl _ => true
  | _ => false
def isB : V → Bool
  | .bl _ => true
  | _ => false
theorem kB_int {K : PySem.W.Frag} {H : Hp} {x : V} {T : String} (b : Bk H x T) : PySem.W.kitOne K (.type T) (.type "int") = some (isIB x) := by
  cases b with
  | non => exact kit_ty (show kitB "NoneType" "int" = some false by decide +kernel)
  | bl => exact kit_ty (show kitB "bool" "int" = some true by decide +kernel)
  | int => exact kit_ty (show kitB "int" "int" = some true by decide +kernel)
  | str => exact kit_ty (show kitB "str" "int" = some false by decide +kernel)
  | lst => exact kit_ty (show kitB "list" "int" = some false by decide +kernel)
  | tup => exact kit_ty (show kitB "tuple" "int" = some false by decide +kernel)
  | dK => exact kit_ty (show kitB "dict" "int" = some false by decide +kernel)
theorem kB_bool {K : PySem.W.Frag} {H : Hp} {x : V} {T : String} (b : Bk H x T) : PySem.W.kitOne K (.type T) (.type "bool") = some (isB x) := by
  cases b with
  | non => exact kit_ty (show kitB "NoneType" "bool" = some false by decide +kernel)
  | bl => exact kit_ty (show kitB "bool" "bool" = some true by decide +kernel)
  | int => exact kit_ty (show kitB "int" "bool" = some false by decide +kernel)
  | str => exact kit_ty (show kitB "str" "bool" = some false by decide +kernel)
  | lst => exact kit_ty (show kitB "list" "bool" = some false by decide +kernel)
  | tup => exact kit_ty (show kitB "tuple" "bool" = some false by decide +kernel)
  | dK => exact kit_ty (show kitB "dict" "bool" = some false by decide +kernel)
theorem Txt.tyC {K : PySem.W.Frag} {mg : Str → Option Value} {C a dx : Addr} {H : Hp} {fs : List (Str × V)} (t : Txt K mg C) (h : H a = some (.ins C dx fs)) : TyX K H (.ref a) (.ref C) :=
  .base (.ins h t.cl t.ca t.cn t.ct t.op.ob)

/-! ### promises -/
def spWhole (C : Addr) : Sp := fun vs H Q _ => ∃ v, vs = [v] ∧ ((∃ T, Bk H v T) ∨ ∃ a dx fs, v = .ref a ∧ H a = some (.ins C dx fs)) ∧ Q (.bl (isI v)) H
def IsAm (C : Addr) (H : Hp) (v : V) (b : Bool) : Prop := ((∃ T, Bk H v T) ∧ b = isI v) ∨ ((∃ a dx fs, v = .ref a ∧ H a = some (.ins C dx fs)) ∧ b = true)
def spIsAm (C : Addr) : Sp := fun vs H Q _ => ∃ v b, vs = [v] ∧ IsAm C H v b ∧ Q (.bl b) H
theorem AmV.isAm {C : Addr} {H : Hp} {y : V} {n u : Int} (h : AmV C H y n u) : IsAm C H y true := by
  rcases h with h | ⟨rfl, _⟩
  · exact .inr ⟨h.inst, rfl⟩
  · exact .inl ⟨⟨_, .int n⟩, rfl⟩
def spParts (C : Addr) : Sp := fun vs H Q _ => ∃ v n u, vs = [v] ∧ AmV C H v n u ∧ ∀ p, H p = none → Q (.ref p) (upd H p (.tup [.int n, .int u]))
def spInit (C : Addr) : Sp := fun vs H Q _ => ∃ x dx n u, vs = [.ref x, .int n, .int u] ∧ H x = some (.ins C dx []) ∧ u ≠ 0 ∧ Bd 8900 n ∧ Bd 8900 u ∧
  ∀ H' : Hp, H' x = some (.ins C dx (pf (fr n u).1 (fr n u).2)) → (∀ b o, H b = some o → b ≠ x → H' b = some o) → Q .non H'
/-- // by any divisor below 2 ^ 9000 -/
theorem op_fdivX {X : Cx} : OpR X (binaryOp .FloorDiv) (rI (fun _ j => j ≠ 0 ∧ j.natAbs.log2 < 9000) fun i j => .int (i.fdiv j)) := opI fun i j _ _ _ _ _ hc q =>
  floordiv_int hc.1 q (.inl (PyProof.noPylong_of_log2 hc.2))

section
variable {P : Program} {w : World} {K : PySem.W.Frag} {mg : Str → Option Value} {base : Heap}
theorem b_isi : bootBuiltins "isinstance" = some (.builtin "isinstance") := by decide +kernel
theorem b_int : bootBuiltins "int" = some (.type "int") := by decide +kernel
theorem b_bool : bootBuiltins "bool" = some (.type "bool") := by decide +kernel

end
end Am
/-! texts as lists of signs: one sign found, cut at, parted at -/
namespace SL
open PySem PySem.StrLaws PySem.Builtin PySem.Builtin.Str
abbrev ofL (l : List Nat) : Str := ⟨l.toArray⟩
theorem ofL_toList (x : Str) : ofL x.cps.toList = x := by cases x; simp [ofL]
theorem toList_ofL (l : List Nat) : (ofL l).cps.toList = l := by simp [ofL]
theorem len_toList (x : Str) : x.cps.toList.length = x.length := Array.length_toList
theorem ext {x y : Str} (h : x.cps.toList = y.cps.toList) : x = y := by rw [← ofL_toList x, ← ofL_toList y, h]
/-- where the sign stands -/
def idxs (c : Nat) : List Nat → Nat → List Nat
  | [], _ => []
  | y :: ys, k => if y = c then k :: idxs c ys (k + 1) else idxs c ys (k + 1)
theorem occ_run (x : Str) (c limit : Nat) : ∀ (m : List Nat) (i : Nat) (acc : Array Nat) (free : Nat), x.cps.toList.drop i = m → i + m.length = x.length → acc.size ≤ limit → free ≤ i →
    (forIn (List.range' i (m.length + 1)) (acc, free) (occBody x ⟨#[c]⟩ x.length limit)).run.fst.toList = acc.toList ++ (idxs c m i).take (limit - acc.size)
  | [], i, acc, free, hd, hl, hs, hf => by
    have hl' : i = x.length := by simpa using hl
    subst hl'
    rw [show List.range' x.length (([] : List Nat).length + 1) = [x.length] from rfl, List.forIn_cons]
    unfold occBody
    rw [if_neg (by rintro ⟨⟨_, h⟩, _⟩; have : (⟨#[c]⟩ : Str).length = 1 := rfl; omega)]
    simp [idxs]
  | y :: m, i, acc, free, hd, hl, hs, hf => by
    have hi : x.cps.toList[i]? = some y := by
      have e := congrArg (·[0]?) hd
      simpa using e
    have hd' : x.cps.toList.drop (i + 1) = m := by
      have e := congrArg List.tail hd
      simpa using e
    have hl' : (i + 1) + m.length = x.length := by simp only [List.length_cons] at hl; omega
    rw [List.length_cons, List.range'_succ, List.forIn_cons]
    unfold occBody
    by_cases hc : y = c
    · subst hc
      have hat := (subAt_one x y i).mpr hi
      by_cases hlt : acc.size < limit
      · rw [if_pos ⟨⟨⟨hlt, hf⟩, hat.1⟩, hat.2⟩]
        have ih := occ_run x y limit m (i + 1) (acc.push i) (i + (⟨#[y]⟩ : Str).length) hd' hl' (by rw [Array.size_push]; omega) (Nat.le_refl _)
        refine Eq.trans ih ?_
        have e : limit - acc.size = (limit - (acc.push i).size) + 1 := by rw [Array.size_push]; omega
        rw [e]
        simp [idxs]
      · rw [if_neg (by rintro ⟨⟨⟨h, _⟩, _⟩, _⟩; exact hlt h)]
        have ih := occ_run x y limit m (i + 1) acc free hd' hl' hs (by omega)
        refine Eq.trans ih ?_
        have e : limit - acc.size = 0 := by omega
        rw [e]
        simp
    · rw [if_neg (by rintro ⟨⟨_, h1⟩, h2⟩; have h3 := (subAt_one x c i).mp ⟨h1, h2⟩; rw [hi] at h3; exact hc (Option.some.inj h3))]
      have ih := occ_run x c limit m (i + 1) acc free hd' hl' hs (by omega)
      refine Eq.trans ih ?_
      simp [idxs, hc]
theorem occ_sign (x : Str) (c limit : Nat) : occurrences x ⟨#[c]⟩ 0 x.length limit = (idxs c x.cps.toList 0).take limit := by
  rw [occ_eq]
  have h := occ_run x c limit x.cps.toList 0 #[] 0 (by simp) (by rw [len_toList]; omega) (Nat.zero_le _) (Nat.le_refl _)
  have e : x.length + 1 - 0 = x.cps.toList.length + 1 := by rw [len_toList]; omega
  rw [e, h]
  simp
theorem idxs_len (c : Nat) : ∀ (m : List Nat) (k : Nat), (idxs c m k).length ≤ m.length
  | [], _ => Nat.le_refl _
  | y :: m, k => by
    have := idxs_len c m (k + 1)
    unfold idxs
    split <;> simp <;> omega
theorem idxs_none {c : Nat} : ∀ {m : List Nat} {k : Nat}, c ∉ m → idxs c m k = []
  | [], _, _ => rfl
  | y :: m, k, h => by
    unfold idxs
    rw [if_neg (fun e => h (by rw [e]; exact List.mem_cons_self ..))]
    exact idxs_none (fun z => h (List.mem_cons_of_mem _ z))
theorem idxs_app {c : Nat} {r : List Nat} : ∀ {p : List Nat} {k : Nat}, c ∉ p → idxs c (p ++ c :: r) k = (k + p.length) :: idxs c r (k + p.length + 1)
  | [], k, _ => by simp [idxs]
  | y :: p, k, h => by
    have ih := idxs_app (r := r) (k := k + 1) (fun z => h (List.mem_cons_of_mem _ z) : c ∉ p)
    rw [List.cons_append, idxs, if_neg (fun e => h (by rw [e]; exact List.mem_cons_self ..)), ih, List.length_cons]
    rw [show k + 1 + p.length = k + (p.length + 1) by omega]
/-- the list cut at each c -/
def cutAt (c : Nat) : List Nat → List (List Nat)
  | [] => [[]]
  | y :: ys => if y = c then [] :: cutAt c ys else match cutAt c ys with
    | [] => [[y]]
    | w :: ws => (y :: w) :: ws
theorem cut_ne (c : Nat) (l : List Nat) : cutAt c l ≠ [] := by
  cases l with
  | nil => simp [cutAt]
  | cons y ys =>
    unfold cutAt
    split
    · simp
    · split <;> simp
theorem cut_none {c : Nat} : ∀ {l : List Nat}, c ∉ l → cutAt c l = [l]
  | [], _ => rfl
  | y :: ys, h => by
    unfold cutAt
    rw [if_neg (fun e => h (by rw [e]; exact List.mem_cons_self ..)), cut_none (fun z => h (List.mem_cons_of_mem _ z))]
theorem cut_app {c : Nat} {r : List Nat} : ∀ {p : List Nat}, c ∉ p → cutAt c (p ++ c :: r) = p :: cutAt c r
  | [], _ => by simp [cutAt]
  | y :: p, h => by
    have ih := cut_app (r := r) (fun z => h (List.mem_cons_of_mem _ z) : c ∉ p)
    rw [List.cons_append, cutAt, if_neg (fun e => h (by rw [e]; exact List.mem_cons_self ..)), ih]
theorem first_c {c : Nat} : ∀ {l : List Nat}, c ∈ l → ∃ p r, l = p ++ c :: r ∧ c ∉ p
  | [], h => by cases h
  | y :: ys, h => by
    by_cases e : y = c
    · exact ⟨[], ys, by rw [e]; rfl, by simp⟩
    · rcases List.mem_cons.mp h with z | z
      · exact (e z.symm).elim
      · obtain ⟨p, r, h1, h2⟩ := first_c z
        refine ⟨y :: p, r, by rw [h1]; rfl, ?_⟩
        intro z
        rcases List.mem_cons.mp z with z | z
        · exact e z.symm
        · exact h2 z
theorem sub_ofL (x : Str) (a b : Nat) : strSub x a b = ofL ((x.cps.toList.drop a).take (b - a)) := ext (by rw [strSub_toList, toList_ofL])
theorem parts_eq (x : Str) (c : Nat) : ∀ (n : Nat) (m : List Nat) (a : Nat), m.length ≤ n → x.cps.toList.drop a = m → a + m.length = x.length →
    ((a :: (idxs c m a).map (· + 1)).zip (idxs c m a ++ [x.length])).map (fun p => strSub x p.1 p.2) = (cutAt c m).map ofL := by
  intro n
  induction n with
  | zero =>
    intro m a hn hd hl
    have e : m = [] := List.eq_nil_of_length_eq_zero (by omega)
    subst e
    simp [idxs, cutAt, sub_ofL, hd]
  | succ n ih =>
    intro m a hn hd hl
    by_cases hc : c ∈ m
    · obtain ⟨p, r, e, hp⟩ := first_c hc
      subst e
      have hl2 : a + (p.length + (r.length + 1)) = x.length := by simpa using hl
      have hd2 : x.cps.toList.drop (a + p.length + 1) = r := by
        have e : x.cps.toList.drop (a + p.length + 1) = (x.cps.toList.drop a).drop (p.length + 1) := by rw [List.drop_drop]; congr 1
        rw [e, hd]
        simp
      rw [idxs_app hp, cut_app hp]
      have h := ih r (a + p.length + 1) (by simp only [List.length_append, List.length_cons] at hn; omega) hd2 (by omega)
      show strSub x a (a + p.length) :: List.map (fun p => strSub x p.1 p.2) (((a + p.length + 1) :: (idxs c r (a + p.length + 1)).map (· + 1)).zip (idxs c r (a + p.length + 1) ++ [x.length])) = ofL p :: (cutAt c r).map ofL
      rw [h, sub_ofL, hd]
      have e : a + p.length - a = p.length := by omega
      rw [e]
      simp
    · rw [idxs_none hc, cut_none hc]
      show [strSub x a x.length] = [ofL m]
      rw [sub_ofL, hd]
      have e : x.length - a = m.length := by omega
      rw [e]
      simp
theorem split_sign (x : Str) (c : Nat) (h0 : x.length ≠ 0 → strKind x ≥ strKind ⟨#[c]⟩) : Txt.split x ⟨#[c]⟩ = (cutAt c x.cps.toList).map ofL := by
  unfold Txt.split
  have l1 : (⟨#[c]⟩ : Str).length = 1 := rfl
  rw [occ_sign, l1]
  by_cases hx : x.length = 0
  · have e : x.cps.toList = [] := List.eq_nil_of_length_eq_zero (by rw [len_toList]; exact hx)
    have hlt : (decide (x.length < 1) || decide (strKind x < strKind ⟨#[c]⟩)) = true := by rw [hx]; simp
    rw [if_pos hlt, e]
    show [x] = [ofL []]
    rw [← e, ofL_toList]
  · have hlt : ¬ (decide (x.length < 1) || decide (strKind x < strKind ⟨#[c]⟩)) = true := by
      have := h0 hx
      simp only [Bool.or_eq_true, decide_eq_true_eq]
      omega
    rw [if_neg hlt]
    have hlen : (idxs c x.cps.toList 0).take (x.length + 1) = idxs c x.cps.toList 0 := by
      refine List.take_of_length_le ?_
      have := idxs_len c x.cps.toList 0
      rw [len_toList] at this
      omega
    rw [hlen]
    have key := parts_eq x c x.cps.toList.length x.cps.toList 0 (Nat.le_refl _) (by simp) (by rw [len_toList]; omega)
    by_cases hem : (idxs c x.cps.toList 0).isEmpty = true
    · rw [if_pos hem]
      have e : idxs c x.cps.toList 0 = [] := List.isEmpty_iff.mp hem
      rw [e] at key
      rw [← key]
      show [x] = [strSub x 0 x.length]
      rw [sub_ofL]
      have e2 : (x.cps.toList.drop 0).take (x.length - 0) = x.cps.toList := by
        rw [List.drop_zero]
        exact List.take_of_length_le (by rw [len_toList]; omega)
      rw [e2, ofL_toList]
    · rw [if_neg hem, ← key]
      rfl
theorem part_sign (x : Str) (c : Nat) (p r : List Nat) (h : x.cps.toList = p ++ c :: r) (hp : c ∉ p) : Txt.partition x ⟨#[c]⟩ = (ofL p, ⟨#[c]⟩, ofL r) := by
  unfold Txt.partition
  rw [occ_sign, h, idxs_app hp]
  show (strSub x 0 (0 + p.length), (⟨#[c]⟩ : Str), strSub x (0 + p.length + 1) x.length) = _
  rw [sub_ofL, sub_ofL, h]
  have l : x.length = p.length + (r.length + 1) := by rw [← len_toList, h]; simp
  congr 1
  · simp
  · congr 1
    rw [l]
    have e : (p ++ c :: r).drop (0 + p.length + 1) = r := by
      have e : (0 + p.length + 1) = p.length + 1 := by omega
      rw [e]
      simp
    rw [e]
    congr 2
    refine List.take_of_length_le ?_
    omega
theorem part_none (x : Str) (c : Nat) (h : c ∉ x.cps.toList) : Txt.partition x ⟨#[c]⟩ = (x, Str.empty, Str.empty) := by
  unfold Txt.partition
  rw [occ_sign, idxs_none h]
  rfl
end SL
/-! houses: what their text tells, and how the program keeps it while it reads -/
namespace Hs
open PySem PySem.Spec PyProof.Rows L2
structure Pl where
  name : Str
  room : Nat
  inner : Bool
structure St where
  who : Str
  pl : Str
  a : Nat
  b : Nat
structure Lore where
  days : Nat
  places : List Pl
  prices : List (Nat × Nat)
  stays : List St
def plO (p : Pl) : HO := .tup [.str p.name, .int p.room, .bl p.inner]
def prO (p : Nat × Nat) : HO := .tup [.int p.1, .int p.2]
def stO (s : St) : HO := .tup [.str s.who, .str s.pl, .int s.a, .int s.b]
/-- objects one by one -/
def Refs {α : Type} (f : α → HO) (H : Hp) (rs : List Addr) (xs : List α) : Prop := rs.length = xs.length ∧ ∀ (i : Nat) (r : Addr) (x : α), rs[i]? = some r → xs[i]? = some x → H r = some (f x)
def LstAt {α : Type} (f : α → HO) (H : Hp) (l : Addr) (xs : List α) : Prop := ∃ rs : List Addr, H l = some (.lst (rs.map V.ref)) ∧ Refs f H rs xs
section
variable {α : Type} {f : α → HO} {H H' : Hp} {l : Addr} {xs : List α} {rs : List Addr}
theorem Refs.same (h : Refs f H rs xs) (e : Same H H') : Refs f H' rs xs := ⟨h.1, fun i r x a b => e _ _ (h.2 i r x a b)⟩
theorem LstAt.same (h : LstAt f H l xs) (e : Same H H') : LstAt f H' l xs := by
  obtain ⟨rs, a, b⟩ := h
  exact ⟨rs, e _ _ a, b.same e⟩
theorem Refs.at (h : Refs f H rs xs) {i : Nat} {v : V} (hv : (rs.map V.ref)[i]? = some v) : ∃ r x, v = .ref r ∧ rs[i]? = some r ∧ xs[i]? = some x ∧ H r = some (f x) := by
  rw [List.getElem?_map] at hv
  cases hr : rs[i]? with
  | none => rw [hr] at hv; cases hv
  | some r =>
    rw [hr] at hv
    have e : V.ref r = v := Option.some.inj hv
    have hi : i < xs.length := by
      rw [← h.1]
      exact (List.getElem?_eq_some_iff.mp hr).1
    exact ⟨r, xs[i], e.symm, rfl, List.getElem?_eq_getElem hi, h.2 i r _ hr (List.getElem?_eq_getElem hi)⟩
theorem Refs.nil : Refs f H [] [] := ⟨rfl, fun i r x a => by simp at a⟩
theorem Refs.snoc {r : Addr} {x : α} (h : Refs f H rs xs) (hr : H r = some (f x)) : Refs f H (rs ++ [r]) (xs ++ [x]) := by
  refine ⟨by simp [h.1], fun i q y a b => ?_⟩
  by_cases c : i < rs.length
  · rw [List.getElem?_append_left c] at a
    rw [List.getElem?_append_left (by rw [← h.1]; exact c)] at b
    exact h.2 i q y a b
  · rw [List.getElem?_append_right (by omega)] at a
    rw [List.getElem?_append_right (by rw [← h.1]; omega), ← h.1] at b
    by_cases z : i - rs.length = 0
    · rw [z] at a b
      simp at a b
      rw [← a, ← b]
      exact hr
    · have : ([r] : List Addr)[i - rs.length]? = none := List.getElem?_eq_none (by simp; omega)
      rw [this] at a
      cases a
end
/-- all but what is named stands as it did -/
def Fr (ms : List Addr) (H H' : Hp) : Prop := ∀ b u, H b = some u → b ∉ ms → H' b = some u
theorem Fr.same {ms : List Addr} {H H' : Hp} (e : Same H H') : Fr ms H H' := fun b u h _ => e b u h
theorem Fr.trans {ms : List Addr} {H H1 H2 : Hp} (a : Fr ms H H1) (b : Fr ms H1 H2) : Fr ms H H2 := fun c u e n => b c u (a c u e n) n
def dfs (days : Nat) (lp lt ls : Addr) : List (Str × V) := putF "stays" (.ref ls) (putF "tariffs" (.ref lt) (putF "places" (.ref lp) (putF "days" (.int days) [])))
/-- a draft, its lists -/
structure DraftAt (C : Addr) (H : Hp) (d lp lt ls : Addr) (L : Lore) : Prop where
  ob : ∃ dx, H d = some (.ins C dx (dfs L.days lp lt ls))
  pl : LstAt plO H lp L.places
  pr : LstAt prO H lt L.prices
  st : LstAt stO H ls L.stays
  n1 : lp ≠ lt
  n2 : lp ≠ ls
  n3 : lt ≠ ls
theorem DraftAt.same {C : Addr} {H H' : Hp} {d lp lt ls : Addr} {L : Lore} (h : DraftAt C H d lp lt ls L) (e : Same H H') : DraftAt C H' d lp lt ls L :=
  ⟨by obtain ⟨dx, z⟩ := h.ob; exact ⟨dx, e _ _ z⟩, h.pl.same e, h.pr.same e, h.st.same e, h.n1, h.n2, h.n3⟩
theorem n_dp : ¬ (("days" : Str) = "places") := by decide +kernel
theorem n_dt : ¬ (("days" : Str) = "tariffs") := by decide +kernel
theorem n_ds : ¬ (("days" : Str) = "stays") := by decide +kernel
theorem n_pt : ¬ (("places" : Str) = "tariffs") := by decide +kernel
theorem n_ps : ¬ (("places" : Str) = "stays") := by decide +kernel
theorem n_ts : ¬ (("tariffs" : Str) = "stays") := by decide +kernel
theorem dfs_days (n : Nat) (lp lt ls : Addr) : (dfs n lp lt ls).lookup ("days" : Str) = some (.int n) := by
  unfold dfs
  rw [lookup_putF, if_neg n_ds, lookup_putF, if_neg n_dt, lookup_putF, if_neg n_dp, lookup_putF, if_pos rfl]
theorem dfs_pl (n : Nat) (lp lt ls : Addr) : (dfs n lp lt ls).lookup ("places" : Str) = some (.ref lp) := by
  unfold dfs
  rw [lookup_putF, if_neg n_ps, lookup_putF, if_neg n_pt, lookup_putF, if_pos rfl]
theorem dfs_ta (n : Nat) (lp lt ls : Addr) : (dfs n lp lt ls).lookup ("tariffs" : Str) = some (.ref lt) := by
  unfold dfs
  rw [lookup_putF, if_neg n_ts, lookup_putF, if_pos rfl]
theorem dfs_st (n : Nat) (lp lt ls : Addr) : (dfs n lp lt ls).lookup ("stays" : Str) = some (.ref ls) := by
  unfold dfs
  rw [lookup_putF, if_pos rfl]
theorem dfs_set (n m : Nat) (lp lt ls : Addr) : putF "days" (.int m) (dfs n lp lt ls) = dfs m lp lt ls := by
  have e : dfs n lp lt ls = [(("days" : Str), V.int n), (("places" : Str), V.ref lp), (("tariffs" : Str), V.ref lt), (("stays" : Str), V.ref ls)] := by
    unfold dfs
    simp only [putF, if_neg n_dp, if_neg n_dt, if_neg n_ds, if_neg n_pt, if_neg n_ps, if_neg n_ts]
  have e2 : dfs m lp lt ls = [(("days" : Str), V.int m), (("places" : Str), V.ref lp), (("tariffs" : Str), V.ref lt), (("stays" : Str), V.ref ls)] := by
    unfold dfs
    simp only [putF, if_neg n_dp, if_neg n_dt, if_neg n_ds, if_neg n_pt, if_neg n_ps, if_neg n_ts]
  rw [e, e2]
  simp [putF]
/-- what the class Draft must have -/
structure DC (K : PySem.W.Frag) (C : Addr) : Prop where
  cl : Cls K C
  nD : NoAttr K C "days"
  nP : NoAttr K C "places"
  nT : NoAttr K C "tariffs"
  nS : NoAttr K C "stays"
end Hs
/-! the questions of a draft -/
namespace Hs
open PySem PySem.Spec PyProof.Rows L2 Am
theorem b_any : bootBuiltins "any" = some (.builtin "any") := by decide +kernel
/-- what is asked in vain: nothing but new objects -/
def hasP (L : Lore) (x : Str) : Bool := L.places.any fun p => decide (p.name = x)
def hasF (L : Lore) : Bool := L.places.any fun p => p.inner
def letS (L : Lore) (x : Str) (a b : Nat) : Bool := L.stays.any fun s => decide (s.pl = x) && (decide (s.a < b) && decide (a < s.b))
def Small (L : Lore) : Prop := L.places.length ≤ 4 ∧ L.prices.length ≤ 3 ∧ L.stays.length ≤ 8
def spHasP (C : Addr) : Sp := fun vs H Q _ => ∃ (d lp lt ls : Addr) (L : Lore) (x : Str), vs = [.ref d, .str x] ∧ DraftAt C H d lp lt ls L ∧ Small L ∧ ∀ H', Same H H' → Q (.bl (hasP L x)) H'
def spHasF (C : Addr) : Sp := fun vs H Q _ => ∃ (d lp lt ls : Addr) (L : Lore), vs = [.ref d] ∧ DraftAt C H d lp lt ls L ∧ Small L ∧ ∀ H', Same H H' → Q (.bl (hasF L)) H'
def spIsLet (C : Addr) : Sp := fun vs H Q _ => ∃ (d lp lt ls : Addr) (L : Lore) (x : Str) (a b : Nat), vs = [.ref d, .str x, .int a, .int b] ∧ DraftAt C H d lp lt ls L ∧ Small L ∧ ∀ H', Same H H' → Q (.bl (letS L x a b)) H'
theorem any_map {α : Type} (g : α → Bool) (xs : List α) : (xs.map g).any id = xs.any g := by rw [List.any_map]; rfl
theorem str_eq (x y : Str) : decide (V.str x = V.str y) = decide (x = y) := decide_eq_decide.mpr ⟨V.str.inj, fun h => by rw [h]⟩
/-- what a comprehension holds between its turns -/
def Tk (H1 : Hp) (D : Addr) (ys : List V) (i : Nat) (H : Hp) : Prop := Same H1 H ∧ H D = some (.lst (ys.take i))
theorem Tk.start {H1 : Hp} {D : Addr} {ys : List V} (nD : H1 D = none) : Tk H1 D ys 0 (upd H1 D (.lst [])) := ⟨same_upd nD, by rw [upd_same]; rfl⟩
theorem Tk.step {H1 H H' : Hp} {D : Addr} {ys : List V} {i : Nat} {y : V} (nD : H1 D = none) (h : Tk H1 D ys i H) (e : Same H H') (hy : ys[i]? = some y) (hn : ys.length ≤ 1000) :
    ∃ acc, H' D = some (.lst acc) ∧ acc.length < sizeLine ∧ Tk H1 D ys (i + 1) (upd H' D (.lst (acc ++ [y]))) := by
  refine ⟨_, e _ _ h.2, ?_, ?_, ?_⟩
  · rw [List.length_take]
    exact Nat.lt_of_le_of_lt (Nat.le_trans (Nat.min_le_right _ _) hn) (by decide)
  · intro b o z
    rw [upd_ne (ne_of_none z nD)]
    exact e _ _ (h.1 _ _ z)
  · rw [upd_same, List.take_add_one, hy]
    rfl
theorem Tk.done {H1 H : Hp} {D : Addr} {ys : List V} {n : Nat} (h : Tk H1 D ys n H) (hn : n = ys.length) : H D = some (.lst ys) := by
  have := h.2
  rw [hn, List.take_length] at this
  exact this
section
variable {P : Program} {w : World} {K : PySem.W.Frag} {mg : Str → Option Value} {base : Heap} {C : Addr}
theorem scHasP : FnScope ["self", "name", "place", "room", "inner"] ["self", "name"] (defScope sDrHasP) := ⟨rfl, rfl, rfl, by decide +kernel, rfl, by decide +kernel, by decide +kernel⟩
theorem ok_hasP {f : Addr} {fd : FuncData} (F : Fun K "has_place" "Draft.has_place" sDrHasP f fd) (dc : DC K C) (na : mg "any" = none) : FnOk P w K mg base CX0 1 f fd ["self", "name"] (spHasP C) := by
  refine F.ok scHasP (fun vs H Q E h => ?_) (fun cdv A outer s H vs Q E hr h => ?_)
  · obtain ⟨d, lp, lt, ls, L, x, rfl, _⟩ := h
    rfl
  · obtain ⟨d, lp, lt, ls, L, x, rfl, hd, sm, q⟩ := h
    refine ⟨_, pss_one (ps_ret (pe_callB (cr_any rfl) (by rfl) na b_any (pa_cons (pe_lc (own := [("place", 2), ("room", 3), ("inner", 4)]) (g := gTup K 3 (gCons (gName 2) (gCons (gName 3) (gCons (gName 4) gNil)))) (tt := tYes) rfl scHasP.nd (pi_list (pe_fld (pv 0) rfl))
      (blkOk_by (N := ["self", "name", "place", "room", "inner"]) (sc := defScope sDrHasP) (by decide +kernel))
      (fun _ _ _ _ _ => pg_tup rfl (pgs_cons (pg_name (i := 2) scHasP.nd rfl (.inl rfl)) (pgs_cons (pg_name (i := 3) scHasP.nd rfl (.inl rfl)) (pgs_cons (pg_name (i := 4) scHasP.nd rfl (.inl rfl)) pgs_nil)))) (fun _ _ _ _ _ => pts_nil)
      (fun _ _ _ _ _ => pe_cmpR op_eq (pv 2) (pv 1) (nomark _))) pa_nil))), ?_⟩
    obtain ⟨dx, ob⟩ := hd.ob
    obtain ⟨rs, hl, hrs⟩ := hd.pl
    refine ⟨_, rfl, d, C, dx, _, _, rfl, ob, dc.cl, dc.nP, dfs_pl _ _ _ _, lp, rfl, ⟨_, SqL.of hl⟩, fun D nD => ?_⟩
    refine lc_it (walk_list (xs := rs.map V.ref)) (Pv := Tk H D (L.places.map fun p => V.bl (decide (p.name = x)))) (Tk.start nD) (fun i H' _ hh => SqL.of (hh.1 _ _ hl)) ?_ ?_
    · rintro i v H1 H2 hi hk ⟨rfl, hv⟩
      obtain ⟨r, p, rfl, hr', hp, ho⟩ := hrs.at hv
      refine ⟨r, _, rfl, SqT.of (hk.1 _ _ ho), rfl, _, _, rfl, _, _, rfl, _, _, rfl, rfl, rfl, ?_⟩
      unfold tYes
      refine iteT ⟨_, rfl, _, rfl, rfl, ?_⟩
      rw [str_eq]
      exact hk.step nD (Same.refl _) (by rw [List.getElem?_map, hp]; rfl) (by rw [List.length_map]; have := sm.1; omega)
    · rintro H1 hk
      refine ⟨D, L.places.map fun p => decide (p.name = x), rfl, SqL.of ?_, ?_⟩
      · rw [List.map_map]
        exact hk.done (by simp [hrs.1])
      · rw [any_map]
        exact q H1 hk.1
theorem scHasF : FnScope ["self", "name", "room", "inner"] ["self"] (defScope sDrHasF) := ⟨rfl, rfl, rfl, by decide +kernel, rfl, by decide +kernel, by decide +kernel⟩
theorem ok_hasF {f : Addr} {fd : FuncData} (F : Fun K "has_flat" "Draft.has_flat" sDrHasF f fd) (dc : DC K C) (na : mg "any" = none) : FnOk P w K mg base CX0 1 f fd ["self"] (spHasF C) := by
  refine F.ok scHasF (fun vs H Q E h => ?_) (fun cdv A outer s H vs Q E hr h => ?_)
  · obtain ⟨d, lp, lt, ls, L, rfl, _⟩ := h
    rfl
  · obtain ⟨d, lp, lt, ls, L, rfl, hd, sm, q⟩ := h
    refine ⟨_, pss_one (ps_ret (pe_callB (cr_any rfl) (by rfl) na b_any (pa_cons (pe_lc (own := [("name", 1), ("room", 2), ("inner", 3)]) (g := gTup K 3 (gCons (gName 1) (gCons (gName 2) (gCons (gName 3) gNil)))) (tt := tYes) rfl scHasF.nd (pi_list (pe_fld (pv 0) rfl))
      (blkOk_by (N := ["self", "name", "room", "inner"]) (sc := defScope sDrHasF) (by decide +kernel))
      (fun _ _ _ _ _ => pg_tup rfl (pgs_cons (pg_name (i := 1) scHasF.nd rfl (.inl rfl)) (pgs_cons (pg_name (i := 2) scHasF.nd rfl (.inl rfl)) (pgs_cons (pg_name (i := 3) scHasF.nd rfl (.inl rfl)) pgs_nil)))) (fun _ _ _ _ _ => pts_nil)
      (fun _ _ _ _ _ => pv 3)) pa_nil))), ?_⟩
    obtain ⟨dx, ob⟩ := hd.ob
    obtain ⟨rs, hl, hrs⟩ := hd.pl
    refine ⟨_, rfl, d, C, dx, _, _, rfl, ob, dc.cl, dc.nP, dfs_pl _ _ _ _, lp, rfl, ⟨_, SqL.of hl⟩, fun D nD => ?_⟩
    refine lc_it (walk_list (xs := rs.map V.ref)) (Pv := Tk H D (L.places.map fun p => V.bl p.inner)) (Tk.start nD) (fun i H' _ hh => SqL.of (hh.1 _ _ hl)) ?_ ?_
    · rintro i v H1 H2 hi hk ⟨rfl, hv⟩
      obtain ⟨r, p, rfl, hr', hp, ho⟩ := hrs.at hv
      refine ⟨r, _, rfl, SqT.of (hk.1 _ _ ho), rfl, _, _, rfl, _, _, rfl, _, _, rfl, rfl, rfl, ?_⟩
      unfold tYes
      refine iteT ⟨_, rfl, ?_⟩
      exact hk.step nD (Same.refl _) (by rw [List.getElem?_map, hp]; rfl) (by rw [List.length_map]; have := sm.1; omega)
    · rintro H1 hk
      refine ⟨D, L.places.map fun p => p.inner, rfl, SqL.of ?_, ?_⟩
      · rw [List.map_map]
        exact hk.done (by simp [hrs.1])
      · rw [any_map]
        exact q H1 hk.1
theorem scIsLet : FnScope ["self", "name", "first", "behind", "person", "place", "start", "end"] ["self", "name", "first", "behind"] (defScope sDrIsLet) := ⟨rfl, rfl, rfl, by decide +kernel, rfl, by decide +kernel, by decide +kernel⟩
theorem ok_isLet {f : Addr} {fd : FuncData} (F : Fun K "is_let" "Draft.is_let" sDrIsLet f fd) (dc : DC K C) (na : mg "any" = none) : FnOk P w K mg base CX0 1 f fd ["self", "name", "first", "behind"] (spIsLet C) := by
  refine F.ok scIsLet (fun vs H Q E h => ?_) (fun cdv A outer s H vs Q E hr h => ?_)
  · obtain ⟨d, lp, lt, ls, L, x, a, b, rfl, _⟩ := h
    rfl
  · obtain ⟨d, lp, lt, ls, L, x, a, b, rfl, hd, sm, q⟩ := h
    refine ⟨_, pss_one (ps_ret (pe_callB (cr_any rfl) (by rfl) na b_any (pa_cons (pe_lc (own := [("person", 4), ("place", 5), ("start", 6), ("end", 7)]) (g := gTup K 4 (gCons (gName 4) (gCons (gName 5) (gCons (gName 6) (gCons (gName 7) gNil))))) (tt := tYes) rfl scIsLet.nd (pi_list (pe_fld (pv 0) rfl))
      (blkOk_by (N := ["self", "name", "first", "behind", "person", "place", "start", "end"]) (sc := defScope sDrIsLet) (by decide +kernel))
      (fun _ _ _ _ _ => pg_tup rfl (pgs_cons (pg_name (i := 4) scIsLet.nd rfl (.inl rfl)) (pgs_cons (pg_name (i := 5) scIsLet.nd rfl (.inl rfl)) (pgs_cons (pg_name (i := 6) scIsLet.nd rfl (.inl rfl)) (pgs_cons (pg_name (i := 7) scIsLet.nd rfl (.inl rfl)) pgs_nil))))) (fun _ _ _ _ _ => pts_nil)
      (fun _ _ _ _ _ => pe_and (pe_cmpR op_eq (pv 5) (pv 1) (nomark _)) (pe_and (pe_cmpR op_lt (pv 6) (pv 3) (nomark _)) (pe_one (pe_cmpR op_lt (pv 2) (pv 7) (nomark _)))))) pa_nil))), ?_⟩
    obtain ⟨dx, ob⟩ := hd.ob
    obtain ⟨rs, hl, hrs⟩ := hd.st
    refine ⟨_, rfl, d, C, dx, _, _, rfl, ob, dc.cl, dc.nS, dfs_st _ _ _ _, ls, rfl, ⟨_, SqL.of hl⟩, fun D nD => ?_⟩
    refine lc_it (walk_list (xs := rs.map V.ref)) (Pv := Tk H D (L.stays.map fun s => V.bl (decide (s.pl = x) && (decide (s.a < b) && decide (a < s.b))))) (Tk.start nD) (fun i H' _ hh => SqL.of (hh.1 _ _ hl)) ?_ ?_
    · rintro i v H1 H2 hi hk ⟨rfl, hv⟩
      obtain ⟨r, p, rfl, hr', hp, ho⟩ := hrs.at hv
      refine ⟨r, _, rfl, SqT.of (hk.1 _ _ ho), rfl, _, _, rfl, _, _, rfl, _, _, rfl, _, _, rfl, rfl, rfl, ?_⟩
      unfold tYes
      refine iteT ⟨_, rfl, _, rfl, rfl, _, rfl, ?_⟩
      rw [str_eq]
      have fin : ∀ y : Bool, (decide (p.pl = x) && (decide (p.a < b) && decide (a < p.b))) = y → ∃ acc, H2 D = some (.lst acc) ∧ acc.length < sizeLine ∧ Tk H D (L.stays.map fun s => V.bl (decide (s.pl = x) && (decide (s.a < b) && decide (a < s.b)))) (i + 1) (upd H2 D (.lst (acc ++ [V.bl y]))) := by
        rintro y rfl
        exact hk.step nD (Same.refl _) (by rw [List.getElem?_map, hp]; rfl) (by rw [List.length_map]; have := sm.2.2; omega)
      have d1 : decide ((p.a : Int) < (b : Int)) = decide (p.a < b) := decide_eq_decide.mpr (by omega)
      have d2 : decide ((a : Int) < (p.b : Int)) = decide (a < p.b) := decide_eq_decide.mpr (by omega)
      cases c : decide (p.pl = x) with
      | false => exact iteF (fin _ (by rw [c]; rfl))
      | true =>
        refine iteT ⟨_, rfl, _, rfl, _, _, rfl, rfl, _, rfl, ?_⟩
        rw [d1]
        cases c2 : decide (p.a < b) with
        | false => exact iteF (fin _ (by rw [c, c2]; rfl))
        | true =>
          exact iteT ⟨_, rfl, _, rfl, _, _, rfl, rfl, fin (decide ((a : Int) < (p.b : Int))) (by rw [c, c2, d2]; rfl)⟩
    · rintro H1 hk
      refine ⟨D, L.stays.map fun s => (decide (s.pl = x) && (decide (s.a < b) && decide (a < s.b))), rfl, SqL.of ?_, ?_⟩
      · rw [List.map_map]
        exact hk.done (by simp [hrs.1])
      · rw [any_map]
        exact q H1 hk.1
end
end Hs
namespace Am
open PySem PySem.Spec PyProof.Rows L2
theorem log2_lt {n : Nat} {k : Nat} (hk : 0 < k) (h : n < 2 ^ k) : n.log2 < k := PySem.Flt.log2_lt_of hk h
def GotF (P : Program) (w : World) (K : PySem.W.Frag) (mg : Str → Option Value) (base : Heap) (x : Str) (k : Nat) (ps : List Str) (sp : Sp) : Prop :=
  ∃ (f : Addr) (fd : FuncData), FnOk P w K mg base CX0 k f fd ps sp ∧ Binds K fd ps [] ∧ mg x = some (.ref f) ∧ PySem.W.keepIn K (.ref f) = true
/-- a method of the class -/
def GotM (P : Program) (w : World) (K : PySem.W.Frag) (mg : Str → Option Value) (base : Heap) (C : Addr) (x : Str) (k : Nat) (ps : List Str) (sp : Sp) : Prop :=
  ∃ (f : Addr) (fd : FuncData), FnOk P w K mg base CX0 k f fd ps sp ∧ Binds K fd ps [] ∧ PySem.W.findIn K (.ref C) x = some (some (.ref f)) ∧ PySem.W.isFn K (.ref f) = true
/-- the making of an Amount -/
def GotI (P : Program) (w : World) (K : PySem.W.Frag) (mg : Str → Option Value) (base : Heap) (C : Addr) : Prop :=
  ∃ (f : Addr) (fd : FuncData), FnOk P w K mg base CX0 2 f fd ["self", "number", "under"] (spInit C) ∧ Binds K fd ["self", "number", "under"] [] ∧ (∃ ds, Vals [V.int 1] ds ∧ Binds K fd ["self", "number", "under"] ds) ∧ Mk K C f
theorem Bd.mono {k j : Nat} {n : Int} (h : Bd k n) (hj : k ≤ j) : Bd j n := Nat.lt_of_lt_of_le h (Nat.pow_le_pow_right (by decide) hj)
theorem Bd.neg {k : Nat} {n : Int} (h : Bd k n) : Bd k (-n) := by unfold Bd; rw [Int.natAbs_neg]; exact h
theorem Bd.mul {k j : Nat} {n m : Int} (h : Bd k n) (h' : Bd j m) : Bd (k + j) (n * m) := wide_lt h h'
theorem Bd.add {k : Nat} {n m : Int} (h : Bd k n) (h' : Bd k m) : Bd (k + 1) (n + m) := by
  unfold Bd at *
  have e : 2 ^ (k + 1) = 2 ^ k + 2 ^ k := by omega
  have := Int.natAbs_add_le n m
  omega
theorem Bd.cmul {k : Nat} {n m : Int} (h : Bd k n) (h' : Bd k m) (h0 : 0 < k) (hk : k ≤ 5000) : CMulW n m := wide_mul h h' h0 h0 (by omega)

end Am
/-! texts of amounts: what is read, and what is written -/
namespace Mt
open PySem PySem.NumText SL
/-- the figures of a number -/
def dg (m : Nat) : List Nat := (Nat.toDigits 10 m).map Char.toNat
theorem dg_str (m : Nat) : (Str.ofString (toString ((m : Nat) : Int))).cps.toList = dg m := PySem.W.KIN.signs_num m
theorem dg_val (m : Nat) : digitsVal (dg m) = m := PySem.W.KIN.val_back m
theorem dg_all (m : Nat) : AllDigits (dg m) := by
  intro c hc
  obtain ⟨ch, hch, e⟩ := List.mem_map.mp hc
  have r := PyProof.Rows.digit_range (Nat.isDigit_of_mem_toDigits (by decide) (by decide) hch)
  rw [← e]
  exact r
theorem dg_lt {d : Nat} (h : d < 10) : dg d = [48 + d] := by
  have e := Nat.toDigits_of_lt_base (b := 10) h
  unfold dg
  rw [e]
  match d, h with
  | 0, _ | 1, _ | 2, _ | 3, _ | 4, _ | 5, _ | 6, _ | 7, _ | 8, _ | 9, _ => rfl
theorem dg_step {m d : Nat} (hm : 0 < m) (hd : d < 10) : dg (10 * m + d) = dg m ++ [48 + d] := by
  rw [← dg_lt hd]
  unfold dg
  rw [← List.map_append, Nat.toDigits_append_toDigits (by decide) hm hd]
theorem dg_ne (m : Nat) : dg m ≠ [] := by
  by_cases h : m < 10
  · rw [dg_lt h]; simp
  · have e : m = 10 * (m / 10) + m % 10 := by omega
    rw [e, dg_step (by omega) (by omega)]
    simp
/-- zeros ahead, to k signs -/
def zpad (k : Nat) (l : List Nat) : List Nat := List.replicate (k - l.length) 48 ++ l
theorem dg_len : ∀ (k m : Nat), m < 10 ^ (k + 1) → (dg m).length ≤ k + 1
  | 0, m, h => by rw [dg_lt (by simpa using h)]; simp
  | k + 1, m, h => by
    by_cases c : m < 10
    · rw [dg_lt c]; simp
    · have e : m = 10 * (m / 10) + m % 10 := by omega
      have h2 : m / 10 < 10 ^ (k + 1) := by rw [Nat.pow_succ] at h; omega
      have := dg_len k (m / 10) h2
      rw [e, dg_step (by omega) (by omega)]
      simp only [List.length_append, List.length_cons, List.length_nil]
      omega
theorem dg_block {q : Nat} (hq : 0 < q) : ∀ (k b : Nat), b < 10 ^ (k + 1) → dg (q * 10 ^ (k + 1) + b) = dg q ++ zpad (k + 1) (dg b)
  | 0, b, h => by
    have hb : b < 10 := by simpa using h
    have e : q * 10 ^ (0 + 1) + b = 10 * q + b := by rw [show 10 ^ (0 + 1) = 10 from rfl]; omega
    rw [e, dg_step hq hb, dg_lt hb]
    rfl
  | k + 1, b, h => by
    have hd : b % 10 < 10 := by omega
    have hb : b / 10 < 10 ^ (k + 1) := by rw [Nat.pow_succ] at h; omega
    have e : q * 10 ^ (k + 1 + 1) + b = 10 * (q * 10 ^ (k + 1) + b / 10) + b % 10 := by rw [Nat.pow_succ 10 (k + 1), ← Nat.mul_assoc]; omega
    have pos : 0 < q * 10 ^ (k + 1) + b / 10 := Nat.lt_of_lt_of_le (Nat.mul_pos hq (Nat.pow_pos (by decide))) (Nat.le_add_right _ _)
    rw [e, dg_step pos hd, dg_block hq k (b / 10) hb, List.append_assoc]
    congr 1
    by_cases z : b < 10
    · have e0 : b / 10 = 0 := by omega
      have e1 : b % 10 = b := by omega
      rw [e0, e1, dg_lt z, dg_lt (by decide : 0 < 10)]
      unfold zpad
      show List.replicate (k + 1 - 1) 48 ++ [48] ++ [48 + b] = List.replicate (k + 1 + 1 - 1) 48 ++ [48 + b]
      rw [show k + 1 - 1 = k from rfl, show k + 1 + 1 - 1 = k + 1 from rfl, List.replicate_succ']
    · have e2 : b = 10 * (b / 10) + b % 10 := by omega
      have e3 : dg b = dg (b / 10) ++ [48 + b % 10] := by rw [e2, dg_step (by omega) (by omega)]; congr 2 <;> omega
      have l3 := dg_len k (b / 10) hb
      rw [e3]
      unfold zpad
      rw [List.length_append, List.length_cons, List.length_nil, List.append_assoc]
      congr 2
      omega
theorem fold_lt : ∀ (cs : List Nat) (a : Nat), AllDigits cs → cs.foldl (fun acc c => acc * 10 + (c - 48)) a < (a + 1) * 10 ^ cs.length
  | [], a, _ => by simp
  | c :: cs, a, h => by
    have ih := fold_lt cs (a * 10 + (c - 48)) h.tail
    have hc := h.head
    rw [List.length_cons, Nat.pow_succ, Nat.mul_comm (10 ^ cs.length) 10, ← Nat.mul_assoc]
    exact Nat.lt_of_lt_of_le ih (Nat.mul_le_mul_right _ (by omega))
theorem val_lt {cs : List Nat} (h : AllDigits cs) : digitsVal cs < 10 ^ cs.length := by
  have := fold_lt cs 0 h
  simpa [digitsVal] using this
def digB (c : Nat) : Bool := decide (48 ≤ c ∧ c ≤ 57)
/-- the number that a word writes; -1 if it writes none -/
def num (l : List Nat) : Int := if (!l.isEmpty && l.all digB) = true then (if (l.head? = some 48 ∧ l ≠ [48]) then -1 else (digitsVal l : Int)) else -1
theorem all_dig {l : List Nat} (h : l.all digB = true) : AllDigits l := fun c hc => by
  have := List.all_eq_true.mp h c hc
  exact of_decide_eq_true this
theorem num_lt {l : List Nat} {k : Nat} (h : l.length ≤ k) : (num l).natAbs < 10 ^ k ∨ num l = -1 := by
  unfold num
  split
  · rename_i c
    rw [Bool.and_eq_true] at c
    split
    · exact .inr rfl
    · exact .inl (Nat.lt_of_lt_of_le (val_lt (all_dig c.2)) (Nat.pow_le_pow_right (by decide) h))
  · exact .inr rfl
theorem num_ge (l : List Nat) : -1 ≤ num l := by
  unfold num
  split
  · split
    · omega
    · omega
  · omega
theorem num_not {l : List Nat} {c : Nat} (h : c ∈ l) (hc : digB c = false) : num l = -1 := by
  unfold num
  rw [if_neg]
  intro z
  rw [Bool.and_eq_true] at z
  have := List.all_eq_true.mp z.2 c h
  rw [hc] at this
  cases this
theorem num_dg (m : Nat) : num (dg m) = m := by
  have h : (!(dg m).isEmpty && (dg m).all digB) = true := by
    rw [Bool.and_eq_true]
    refine ⟨?_, List.all_eq_true.mpr fun c hc => decide_eq_true (dg_all m c hc)⟩
    have := dg_ne m
    cases e : dg m with
    | nil => exact absurd e this
    | cons a r => rfl
  unfold num
  rw [if_pos h, if_neg, dg_val]
  rintro ⟨h1, h2⟩
  by_cases z : m < 10
  · rw [dg_lt z] at h1 h2
    have e : 48 + m = 48 := by simpa using h1
    exact h2 (by rw [e])
  · -- the first figure is no nought
    have key : ∀ n, 0 < n → (dg n).head? ≠ some 48 := by
      intro n
      induction n using Nat.strongRecOn with
      | _ n ih =>
        intro hn
        by_cases z : n < 10
        · rw [dg_lt z]
          simp
          omega
        · have e : n = 10 * (n / 10) + n % 10 := by omega
          rw [e, dg_step (by omega) (by omega), List.head?_append]
          have := ih (n / 10) (by omega) (by omega)
          cases q : (dg (n / 10)).head? with
          | none => exact absurd (List.head?_eq_none_iff.mp q) (dg_ne _)
          | some v => rw [q] at this; simpa using this
    exact key m (by omega) h1
/-- the sign ahead left out -/
def bare (l : List Nat) : List Nat := if l.head? = some 45 then l.tail else l
def sgn (l : List Nat) : Bool := decide (l.head? = some 45)
/-- the text of a whole number -/
def intL (n : Int) : List Nat := (Str.ofString (toString n)).cps.toList
def textT (n u : Int) : Str := Str.ofString (toString n) ++ (if u = 1 then ("" : Str) else ("/" : Str) ++ Str.ofString (toString u))
def fin (neg : Bool) (number under : Int) (x : Str) : Option (Int × Int) := if textT (Am.fr (if neg then -number else number) under).1 (Am.fr (if neg then -number else number) under).2 = x then some (Am.fr (if neg then -number else number) under) else none
def readB (x : Str) (l : List Nat) (top : List Nat) (under : Int) : Option (Int × Int) := if num (bare top) < 0 ∨ under < 1 then none else fin (sgn l) (num (bare top)) under x
/-- what the text is read as -/
def readT (x : Str) : Option (Int × Int) :=
  if 47 ∈ x.cps.toList then readB x x.cps.toList (x.cps.toList.takeWhile (fun c => decide (c ≠ 47))) (num (x.cps.toList.dropWhile (fun c => decide (c ≠ 47))).tail)
  else readB x x.cps.toList x.cps.toList 1
theorem intL_pos {n : Int} (h : 0 ≤ n) : intL n = dg n.natAbs := by
  obtain ⟨m, rfl⟩ := Int.eq_ofNat_of_zero_le h
  exact dg_str m
theorem intL_neg {n : Int} (h : n < 0) : intL n = 45 :: dg n.natAbs := by
  unfold intL
  rw [PyProof.Rows.toString_neg h, Int.zero_sub]
  have e : ∀ a b : String, (Str.ofString (a ++ b)).cps.toList = (Str.ofString a).cps.toList ++ (Str.ofString b).cps.toList := fun a b => by
    rw [Str.ofString_eq_toList, Str.ofString_eq_toList, Str.ofString_eq_toList]
    simp
  rw [e]
  have e2 : (Str.ofString (toString (-n))).cps.toList = dg n.natAbs := by
    have z := intL_pos (n := -n) (by omega)
    unfold intL at z
    rw [z, Int.natAbs_neg]
  rw [e2]
  rfl
theorem not_dig {c : Nat} (h : digB c = false) (m : Nat) : c ∉ dg m := fun z => by
  have := dg_all m c z
  unfold digB at h
  rw [decide_eq_true this] at h
  cases h
theorem dg_head {m : Nat} : (dg m).head? ≠ some 45 := by
  intro z
  have : 45 ∈ dg m := List.mem_of_head? z
  exact not_dig (by decide) m this
theorem bare_int (n : Int) : bare (intL n) = dg n.natAbs ∧ sgn (intL n) = decide (n < 0) := by
  by_cases c : n < 0
  · rw [intL_neg c]
    refine ⟨rfl, ?_⟩
    rw [decide_eq_true c]
    rfl
  · rw [intL_pos (by omega)]
    unfold bare sgn
    rw [if_neg dg_head, decide_eq_false c, decide_eq_false dg_head]
    exact ⟨rfl, rfl⟩
theorem no_slash (n : Int) : 47 ∉ intL n := by
  by_cases c : n < 0
  · rw [intL_neg c]
    intro z
    rcases List.mem_cons.mp z with z | z
    · cases z
    · exact not_dig (by decide) _ z
  · rw [intL_pos (by omega)]
    exact not_dig (by decide) _
theorem textT_L (n u : Int) : (textT n u).cps.toList = intL n ++ (if u = 1 then [] else 47 :: intL u) := by
  unfold textT
  rw [Str.cps_append]
  by_cases c : u = 1
  · rw [if_pos c, if_pos c]
    show ((Str.ofString (toString n)).cps ++ #[]).toList = _
    simp [intL]
  · rw [if_neg c, if_neg c, Str.cps_append]
    show ((Str.ofString (toString n)).cps ++ (#[47] ++ (Str.ofString (toString u)).cps)).toList = _
    simp [intL]
theorem take_ne {p r : List Nat} (hp : 47 ∉ p) : (p ++ 47 :: r).takeWhile (fun c => decide (c ≠ 47)) = p ∧ ((p ++ 47 :: r).dropWhile (fun c => decide (c ≠ 47))).tail = r := by
  induction p with
  | nil => simp
  | cons y p ih =>
    have hy : y ≠ 47 := fun e => hp (by rw [e]; exact List.mem_cons_self ..)
    obtain ⟨h1, h2⟩ := ih (fun z => hp (List.mem_cons_of_mem _ z))
    constructor
    · rw [List.cons_append, List.takeWhile_cons, if_pos (decide_eq_true hy), h1]
    · rw [List.cons_append, List.dropWhile_cons, if_pos (decide_eq_true hy), h2]
theorem readT_no {x : Str} (h : 47 ∉ x.cps.toList) : readT x = readB x x.cps.toList x.cps.toList 1 := if_neg h
theorem readT_yes {x : Str} {p r : List Nat} (h : x.cps.toList = p ++ 47 :: r) (hp : 47 ∉ p) : readT x = readB x x.cps.toList p (num r) := by
  unfold readT
  rw [if_pos (by rw [h]; simp), h, (take_ne hp).1, (take_ne hp).2]
theorem sgn_app {p r : List Nat} : sgn (p ++ 47 :: r) = sgn p := by
  cases p with
  | nil => rfl
  | cons y p => rfl
theorem bare_app {p r : List Nat} : bare (p ++ 47 :: r) = bare p ++ 47 :: r := by
  cases p with
  | nil => rfl
  | cons y p =>
    unfold bare
    by_cases c : y = 45
    · rw [if_pos (by rw [c]; rfl), if_pos (by rw [c]; rfl)]
      rfl
    · rw [if_neg (by show ¬ some y = some 45; simpa using c), if_neg (by show ¬ some y = some 45; simpa using c)]
theorem bare_mem {p : List Nat} {c : Nat} (h : c ∈ bare p) : c ∈ p := by
  unfold bare at h
  split at h
  · exact List.mem_of_mem_tail h
  · exact h
theorem bare_len (p : List Nat) : (bare p).length ≤ p.length := by
  unfold bare
  split
  · simp
  · exact Nat.le_refl _
/-- a text that was written is read -/
theorem read_written {n u : Int} (h : Am.Low n u) : readT (textT n u) = some (n, u) := by
  have hL := textT_L n u
  obtain ⟨b1, b2⟩ := bare_int n
  have abs : (if decide (n < 0) = true then -(n.natAbs : Int) else (n.natAbs : Int)) = n := by
    by_cases c : n < 0
    · rw [if_pos (decide_eq_true c)]; omega
    · rw [if_neg (by simpa using c)]; omega
  by_cases c : u = 1
  · subst c
    rw [if_pos rfl, List.append_nil] at hL
    rw [readT_no (by rw [hL]; exact no_slash n)]
    unfold readB
    rw [hL, b1, b2, num_dg, if_neg (by omega)]
    unfold fin
    rw [abs, Am.fr_of_low h, if_pos rfl]
  · rw [if_neg c] at hL
    have hu := h.1
    rw [readT_yes hL (no_slash n)]
    have e : num (intL u) = u := by rw [intL_pos (by omega), num_dg]; omega
    unfold readB
    rw [hL, sgn_app, b1, b2, num_dg, e, if_neg (by omega)]
    unfold fin
    rw [abs, Am.fr_of_low h, if_pos rfl]
/-- the law's own words for the same -/
theorem due_eq (x : Str) : (if (cutAt 47 (bare x.cps.toList)).length > 2 ∨ num ((cutAt 47 (bare x.cps.toList)).headD []) < 0 ∨ (if (cutAt 47 (bare x.cps.toList)).length = 2 then num ((cutAt 47 (bare x.cps.toList)).getLastD []) else 1) < 1 then none
    else fin (sgn x.cps.toList) (num ((cutAt 47 (bare x.cps.toList)).headD [])) (if (cutAt 47 (bare x.cps.toList)).length = 2 then num ((cutAt 47 (bare x.cps.toList)).getLastD []) else 1) x) = readT x := by
  by_cases h : 47 ∈ x.cps.toList
  · obtain ⟨p, r, e, hp⟩ := first_c h
    rw [readT_yes e hp]
    have hb : 47 ∉ bare p := fun z => hp (bare_mem z)
    rw [e, bare_app, sgn_app, cut_app hb]
    by_cases h2 : 47 ∈ r
    · obtain ⟨p2, r2, e2, hp2⟩ := first_c h2
      have l : (bare p :: cutAt 47 r).length > 2 := by
        rw [e2, cut_app hp2]
        have := cut_ne 47 r2
        have : 0 < (cutAt 47 r2).length := List.length_pos_iff.mpr this
        simp only [List.length_cons]
        omega
      rw [if_pos (.inl l)]
      unfold readB
      rw [num_not h2 (by decide), if_pos (.inr (by decide))]
    · rw [cut_none h2]
      have l : ([bare p, r] : List (List Nat)).length = 2 := rfl
      have hd : ([bare p, r] : List (List Nat)).headD [] = bare p := rfl
      have hl : ([bare p, r] : List (List Nat)).getLastD [] = r := rfl
      rw [if_pos l, hd, hl]
      unfold readB
      rw [sgn_app]
      by_cases z : num (bare p) < 0 ∨ num r < 1
      · rw [if_pos z, if_pos (.inr z)]
      · rw [if_neg z, if_neg (by
          rintro (y | y)
          · rw [l] at y; omega
          · exact z y)]
  · rw [readT_no h]
    have hb : 47 ∉ bare x.cps.toList := fun z => h (bare_mem z)
    rw [cut_none hb]
    have l1 : ¬ ([bare x.cps.toList] : List (List Nat)).length = 2 := by simp
    have hd : ([bare x.cps.toList] : List (List Nat)).headD [] = bare x.cps.toList := rfl
    rw [if_neg l1, hd]
    unfold readB
    by_cases z : num (bare x.cps.toList) < 0
    · rw [if_pos (.inr (.inl z)), if_pos (.inl z)]
    · have l3 : ([bare x.cps.toList] : List (List Nat)).length = 1 := rfl
      rw [if_neg (by rw [l3]; omega), if_neg (by omega)]
end Mt
namespace Am
open PySem PySem.Spec PyProof.Rows L2
/-- decimal(word) -/
def spDec : Sp := fun vs H Q _ => ∃ x : Str, vs = [.str x] ∧ x.length ≤ 640 ∧ Q (.int (Mt.num x.cps.toList)) H
theorem digit_asc : ∀ c, c < 128 → Unicode.isDigit c = Mt.digB c := by
  have h : ∀ c : Fin 128, Unicode.isDigit c.val = Mt.digB c.val := by decide +kernel
  exact fun c hc => h ⟨c, hc⟩
theorem ascB (x : Str) : Txt.isascii x = x.cps.toList.all (fun c => decide (c < 128)) := by
  unfold Txt.isascii
  rw [← Array.all_toList]
theorem digB_asc {c : Nat} (h : Mt.digB c = true) : c < 128 := by
  have := of_decide_eq_true h
  omega
theorem decimal_test (x : Str) : (Txt.isascii x && Txt.isdigit x) = (!x.cps.toList.isEmpty && x.cps.toList.all Mt.digB) := by
  rw [ascB]
  unfold Txt.isdigit
  rw [← Array.all_toList]
  have e0 : decide (x.length > 0) = !x.cps.toList.isEmpty := by
    rw [← SL.len_toList]
    cases x.cps.toList <;> simp
  rw [e0]
  generalize x.cps.toList = l
  cases ha : l.all (fun c => decide (c < 128)) with
  | true =>
    have e : l.all Unicode.isDigit = l.all Mt.digB := by
      rw [Bool.eq_iff_iff, List.all_eq_true, List.all_eq_true]
      have h := List.all_eq_true.mp ha
      exact ⟨fun z c hc => by rw [← digit_asc c (of_decide_eq_true (h c hc))]; exact z c hc, fun z c hc => by rw [digit_asc c (of_decide_eq_true (h c hc))]; exact z c hc⟩
    rw [e, Bool.true_and]
  | false =>
    cases hd : l.all Mt.digB with
    | false => simp
    | true =>
      have h := List.all_eq_true.mp hd
      have : l.all (fun c => decide (c < 128)) = true := List.all_eq_true.mpr fun c hc => decide_eq_true (digB_asc (h c hc))
      rw [ha] at this
      cases this
theorem starts0 (x : Str) : Txt.startswith x "0" = decide (x.cps.toList.head? = some 48) := by
  unfold Txt.startswith
  have e : ("0" : Str) = ⟨#[48]⟩ := by decide +kernel
  rw [e]
  have h := StrLaws.subAt_one x 48 0
  rw [Bool.eq_iff_iff, Bool.and_eq_true, decide_eq_true_eq, decide_eq_true_eq, h, List.head?_eq_getElem?]
theorem is0 (x : Str) : decide (V.str x = V.str ("0" : Str)) = decide (x.cps.toList = [48]) := by
  have e : ("0" : Str) = ⟨#[48]⟩ := by decide +kernel
  rw [e]
  refine decide_eq_decide.mpr ⟨fun h => ?_, fun h => ?_⟩
  · rw [V.str.inj h]
  · rw [SL.ext (x := x) (y := ⟨#[48]⟩) h]
section
variable {P : Program} {w : World} {K : PySem.W.Frag} {mg : Str → Option Value} {base : Heap} {C D : Addr}
theorem scDec : FnScope ["word"] ["word"] (defScope sDec) := ⟨rfl, rfl, rfl, by decide +kernel, rfl, by decide +kernel, by decide +kernel⟩
theorem ok_dec {f : Addr} {fd : FuncData} (F : Fun K "decimal" "decimal" sDec f fd) (ni : mg "int" = none) : FnOk P w K mg base CX0 1 f fd ["word"] spDec := by
  refine F.ok scDec (fun vs H Q E h => ?_) (fun cdv A outer s H vs Q E hr h => ?_)
  · obtain ⟨x, rfl, _⟩ := h
    rfl
  · obtain ⟨x, rfl, hl, q⟩ := h
    refine ⟨_, pss_cons (ps_if (pt_not (PW.pt (pw_and (pt_val (pe_bm0 PySem.F.plainAttrs_str PySem.F.slot_str_isascii PySem.F.type_str_isascii mt_isascii (pv 0))) (pw_and1 (pt_val (pe_bm0 PySem.F.plainAttrs_str PySem.F.slot_str_isdigit PySem.F.type_str_isdigit mt_isdigit (pv 0)))))))
        (pss_one (ps_ret (pe_un un_neg pe_int))) pss_nil)
      (pss_cons (ps_if (PW.pt (pw_and (pt_val (pe_bm PySem.F.plainAttrs_str PySem.F.slot_str_startswith PySem.F.type_str_startswith mt_startswith (pv 0) (pa_cons pe_str pa_nil))) (pw_and1 (pt_cmpR op_ne (pv 0) pe_str (nomark _)))))
        (pss_one (ps_ret (pe_un un_neg pe_int))) pss_nil)
      (pss_one (ps_ret (pe_callTy (call_int_str) (by rfl) ni b_int (pa_cons (pv 0) pa_nil))))), ?_⟩
    have key : Mt.num x.cps.toList = if (Txt.isascii x && Txt.isdigit x) = true then (if (x.cps.toList.head? = some 48 ∧ x.cps.toList ≠ [48]) then -1 else (NumText.digitsVal x.cps.toList : Int)) else -1 := by rw [decimal_test]; rfl
    rw [key] at q
    refine ⟨_, rfl, rfl, x, rfl, rfl, trivial, _, rfl, ?_⟩
    cases ha : Txt.isascii x with
    | false =>
      refine iteF (iteT ?_)
      rw [ha, Bool.false_and, if_neg (by decide)] at q
      exact ⟨_, rfl, q⟩
    | true =>
      refine iteT ⟨_, rfl, rfl, x, rfl, rfl, trivial, _, rfl, ?_⟩
      cases hd : Txt.isdigit x with
      | false =>
        refine iteT ?_
        rw [ha, hd, Bool.and_false, if_neg (by decide)] at q
        exact ⟨_, rfl, q⟩
      | true =>
        refine iteF ?_
        have hT : (!x.cps.toList.isEmpty && x.cps.toList.all Mt.digB) = true := by rw [← decimal_test, ha, hd]; rfl
        rw [Bool.and_eq_true] at hT
        have hne : x.cps.toList ≠ [] := by
          intro e
          rw [e] at hT
          exact absurd hT.1 (by decide)
        have hI : PySem.intText? x = some (NumText.digitsVal x.cps.toList : Int) := PySem.intText_digits (Mt.all_dig hT.2) hne (by omega)
        rw [ha, hd, if_pos (by decide)] at q
        have fin : ¬ (x.cps.toList.head? = some 48 ∧ x.cps.toList ≠ [48]) → tRet (tCB (fun xs H Q => ∃ a n, xs = [V.str a] ∧ intText? a = some n ∧ a.length ≤ 640 ∧ Q (V.int n) H) (tCons (tVar 0) tNil)) { nx := fun x H' => Q V.non H', rt := Q } [some (V.str x)] H := by
          intro z
          rw [if_neg z] at q
          exact ⟨_, rfl, x, _, rfl, hI, hl, q⟩
        refine ⟨_, rfl, rfl, x, _, rfl, rfl, _, rfl, ?_⟩
        rw [starts0]
        by_cases h0 : x.cps.toList.head? = some 48
        · rw [decide_eq_true h0]
          refine iteT ⟨_, rfl, rfl, _, rfl, ?_⟩
          rw [is0]
          by_cases h1 : x.cps.toList = [48]
          · rw [decide_eq_true h1]
            exact iteF (fin fun z => z.2 h1)
          · rw [decide_eq_false h1]
            refine iteT ⟨_, rfl, ?_⟩
            rw [if_pos ⟨h0, h1⟩] at q
            exact q
        · rw [decide_eq_false h0]
          exact iteF (iteF (fin fun z => h0 z.1))
end
end Am
/-! promises of defs that are run where no repr is under way (A.guards = some []): such a def may ask repr of its own objects -/
namespace Gu
open PySem PySem.Spec PyProof.Rows L2
structure FnG (P : Program) (w : World) (K : PySem.W.Frag) (mg : Str → Option Value) (base : Heap) (CX : CXT) (k : Nat) (f : Addr) (fd : FuncData) (ps : List Str) (sp : Sp) : Prop where
  len : ∀ vs H Q E, sp vs H Q E → vs.length = ps.length
  go : ∀ (A : Around) (out : List Env) (s : Shared) (H : Hp) (args : Args) (us : List Value) (vs : List V) (Q : VK) (E : XK), Room k A → A.guards = some [] → Env0 P w K mg base A out s H →
    BindsTo s fd args (ps.zip us) → Vals vs us → sp vs H Q E → codeAny (model P w) A (.call (.ref f) args) (CR CX out P w H s Q E) s
section
variable {P : Program} {w : World} {K : PySem.W.Frag} {mg : Str → Option Value} {base : Heap} {CX : CXT} {k : Nat} {f : Addr} {fd : FuncData} {N ps : List Str} {sp : Sp}
theorem FnG.of (F : FnOk P w K mg base CX k f fd ps sp) : FnG P w K mg base CX k f fd ps sp :=
  ⟨F.len, fun A out s H args us vs Q E hr _ => F.run A out s H args us vs Q E hr⟩
/-- a def by its body, where nothing is guarded -/
theorem okG {x qual : Str} {st : Stmt} (F : Fun K x qual st f fd) (S : FnScope N ps (defScope st)) (len : ∀ vs H Q E, sp vs H Q E → vs.length = ps.length)
    (body : ∀ (cdv : Value) (A : Around) (out : List Env) (s : Shared) (H : Hp) (vs : List V) (Q : VK) (E : XK), A.guards = some [] → Room k (A.deeper (envOfC qual (defScope st) s.heap.objs.size f cdv)) → sp vs H Q E →
      ∃ t, PSs (cxOf CX P w K mg base N qual (defScope st) f cdv A out s H E) (defBody st) t ∧ t { nx := fun _ H' => Q .non H', rt := Q } (start N vs) H) : FnG P w K mg base CX (k + 1) f fd ps sp := by
  obtain ⟨oc, od, kV, doc, pm, an, cdv, ct, osl, rfl, at_, code⟩ := F.ex
  constructor
  · exact len
  intro A out s H args us vs Q E room free e0 bind rel want
  have n1 := len _ _ _ _ want
  have inK : K.In s.heap := e0.mod.kin.keeps (fun b o z => (e0.bs b o z).1)
  have noLim : s.heap.NoLimit := e0.mod.nolimit.keeps (fun b o z => (e0.bs b o z).1)
  have kinds : ∀ y ∈ ps.zip us, (defScope st).names.lookup y.1 = some .local ∨ ((defScope st).names.lookup y.1 = some .cell ∧ ((cellsFrom (s.heap.objs.size + 1) (defScope st).names []).lookup y.1).isSome = true) := by
    rintro ⟨n, v⟩ hy
    exact (S.par n (List.of_mem_zip hy).1).imp id fun q => ⟨q, PySem.W.cellsFrom_some _ _ _ (.inl q)⟩
  apply codeAny_call_function room.depth (inK _ _ at_) rfl S.co S.gen rfl (PySem.W.codeRec_of inK code) (bind _ _ _ _ _)
  apply wpAny_newFunctionEnv_cells S.kind kinds
  intro env he s1 x
  subst he
  refine ⟨noLim.keeps x.toInCall.keep, codeAny_func ?_⟩
  obtain ⟨t, run, go⟩ := body cdv A out s H vs Q E free (room.deeper _) want
  have I := inv_start (CX := CX) (E := E) S room.hd e0 n1 rel x
  apply wpAny_mono (run.run [] s1 (start N vs) H _ I go)
  · intro fl s' q
    match fl, q with
    | .ret u, ⟨v, σ', H', J, rv, qv⟩ => exact ⟨v, H', J.os, J.bare, J.base, J.hok, rv, qv⟩
    | .next, ⟨σ', H', J, qv⟩ => exact ⟨.non, H', J.os, J.bare, J.base, J.hok, rfl, qv⟩
    | .brk, ⟨_, _, _, z⟩ => exact z.elim
    | .cont, ⟨_, _, _, z⟩ => exact z.elim
  · exact fun _ _ z => z
/-- the same where nothing is let out -/
theorem okG0 {x qual : Str} {st : Stmt} (F : Fun K x qual st f fd) (S : FnScope N ps (defScope st)) (len : ∀ vs H Q E, sp vs H Q E → vs.length = ps.length)
    (body : ∀ (cdv : Value) (A : Around) (out : List Env) (s : Shared) (H : Hp) (vs : List V) (Q : VK) (E : XK), A.guards = some [] → Room k (A.deeper (envOfC qual (defScope st) s.heap.objs.size f cdv)) → sp vs H Q E →
      ∃ t, PSs (cxOf CX0 P w K mg base N qual (defScope st) f cdv A out s H E).nox (defBody st) t ∧ t { nx := fun _ H' => Q .non H', rt := Q } (start N vs) H) : FnG P w K mg base CX0 (k + 1) f fd ps sp :=
  okG F S len fun cdv A out s H vs Q E free room want => let ⟨t, h, q⟩ := body cdv A out s H vs Q E free room want; ⟨t, h.nox, q⟩
end
section
variable {X : Cx} {CX : CXT} {k : Nat} {f : Addr} {fd : FuncData} {ps : List Str} {sp : Sp} {E : XK} {x : Str} {p pos : Pos} {e : Expr} {es : List Expr} {t : TA}
/-- f(e, ..): a def whose promise wants that nothing is guarded -/
theorem pe_callG (F : FnG X.prog X.w X.K X.mg X.base CX k f fd ps sp) (free : X.A.guards = some []) (hr : Room k X.A) (hg : Gl X x) (hm : X.mg x = some (.ref f)) (hk : PySem.W.keepIn X.K (.ref f) = true) (hb : Binds X.K fd ps []) (hx : Passes CX X E)
    (ha : PA X (e :: es) t) (h1 : (x == ("__debug__" : Str)) = false := by decide) (h2 : starEach (e :: es) X.env = (false, eval e X.env) :: starEach es X.env := by rfl) (h3 : (backTo pos (starEach es X.env)).any (·.1) = false := by rfl) :
    PE X (.Call (.Name x p) (e :: es) [] pos) (tCall sp [] E t) := by
  constructor
  intro pins s σ H Q I want
  refine wpAny_Call_Name_kw (ld_glob I hg hm ?_ h1)
  refine PySem.W.callWith_K (h₀ := X.base) I.ok.mod.kin hk (thn (ha.run pos pins s σ H _ I want) ?_) h2 h3
  rintro us s1 ⟨vs, H1, I1, rel, q⟩
  refine ⟨I1.kIn, wpAny_call ?_⟩
  have q' : sp vs H1 Q E := by simpa using q
  have n1 : us.length = ps.length := by rw [← rel.length]; exact F.len _ _ _ _ q'
  refine codeAny_mono (F.go X.A X.stack s1 H1 ⟨us, []⟩ us vs Q E hr free I1.env0 (by have := hb s1 us I1.kIn (by simpa using n1); simpa using this) rel q') ?_
  intro r s' z
  match r, z with
  | .error e, z => exact hx pins σ H1 s1 e s' I1 z
  | .ok (.ret u), z => exact I1.after z
end

/-- the data that a value stands for, of a heap -/
def rRepr (K : PySem.W.Frag) : List V → Hp → VK → Prop := fun xs H Q => ∃ a d, xs = [.ref a] ∧ Dp K H (.ref a) d ∧ d.showable = true ∧ d.hasDict = false ∧ d.depth ≤ 60 ∧ d.shown.length ≤ sizeLine ∧ Q (.str d.shown) H
theorem call_reprD {X : Cx} (free : X.A.guards = some []) (hu : X.A.units + 64 < cLine) : CallR X (.builtin "repr") (rRepr X.K) := by
  intro pins s σ H xs us Q I rel want
  obtain ⟨a, d, rfl, hd, sh, nd, dp, sz, q⟩ := want
  obtain ⟨u, rfl, ru⟩ := vals1 rel
  cases (show u = Value.ref a from ru)
  obtain ⟨as, r⟩ := Dp.reads I d (.ref a) _ hd rfl
  refine repr_of_reads' r sh (fun z => by rw [nd] at z; cases z) free (by omega) (fun _ _ z => z) ?_ sz
  intro h' t tk kp
  exact ⟨.str d.shown, H, I.kept kp, ⟨t, rfl⟩, q⟩
end Gu
namespace Gu
open PySem PySem.Spec PyProof.Rows L2
section
variable {P : Program} {w : World} {K : PySem.W.Frag} {mg mb : Str → Option Value} {k : Nat} {fa a : Addr} {fd : FuncData} {x : Str} {sp : Sp} {s : Shared} {vs : List Value} {ns : List Int}
/-- the script's object -/
abbrev scr (vs : List Value) : Obj := { cls := .type "list", data := .seq vs.toArray }
/-- what may be known at the law's call: nothing but the script, as it stands -/
def Bare (a : Addr) (vs : List Value) (ns : List Int) (H : Hp) : Prop := ∀ b u, H b = some u → b = a ∧ u = .frz (scr vs) (.lst (ns.map V.int))
theorem from_caller (inK : K.In s.heap) (glob : s.heap.Ns mainGlobals mg) (bi : s.heap.Ns builtinsNs mb) (hbi : ∀ x : Str, x ≠ "__name__" → mb x = bootBuiltins x) (lim : s.heap.NoLimit) (gens : s.gens = #[])
    (script : s.heap.get? a = some (scr vs)) (room : Room k callerA) (F : ∀ base : Heap, K.In base → base.Ns mainGlobals mg → FnG P w K mg base CX0 k fa fd [x] sp)
    (bind : ∀ (s : Shared) (u : Value), BindsTo s fd ⟨[u], []⟩ [(x, u)]) {H : Hp} (bare : Bare a vs ns H) (ok : HOk P w H s.heap) (off : H a ≠ none → K.lookup a = none)
    (want : sp [.ref a] H (fun v _ => v = .bl true) fun _ _ _ => False) :
    codeAny (model P w) callerA (.call (.ref fa) ⟨[.ref a], []⟩) (fun r s' => r = .ok (.ret (.bool true)) ∧ OldK s.heap s'.heap ∧ s'.os = s.os ∧ AllBare s'.gens) s := by
  -- an object whose data is a dict is not the script, so it is not known
  have apart : ∀ {b : Addr} {o : Obj} {es : Array DictEntry} {n : Nat}, s.heap.get? b = some o → o.data = .dict es n → H b = none := by
    intro b o es n e d
    cases z : H b with
    | none => rfl
    | some u =>
      obtain ⟨rfl, _⟩ := bare b u z
      rw [script] at e
      cases e
      cases (show Data.seq vs.toArray _ = Data.dict es n from d)
  have ns' : ∀ {b : Addr} {m : Str → Option Value}, s.heap.Ns b m → (hidT s.heap H).Ns b m := by
    rintro b m ⟨o, es, n, e, d, rest⟩
    exact ⟨o, es, n, hidT_get e (apart e d), d, rest⟩
  have inB : K.In (hidT s.heap H) := by
    intro b o e
    refine hidT_get (inK b o e) ?_
    cases z : H b with
    | none => rfl
    | some u =>
      obtain ⟨rfl, _⟩ := bare b u z
      rw [off (by rw [z]; exact fun q => by cases q)] at e
      cases e
  obtain ⟨mc, l1, l2⟩ := lim
  have e0 : Env0 P w K mg (hidT s.heap H) callerA [] s H := {
    frames := rfl
    mod := ⟨inB, ns' glob, ⟨mb, ns' bi, hbi⟩, ⟨mc, ns' l1, l2⟩⟩
    bs := fun b o e => of_hidT e
    bsz := Nat.le_of_eq (hidT_size _ _)
    funs := trivial
    frf := by intro b hb; cases hb
    hok := ok
    bare := .of_eq gens }
  refine codeAny_mono ((F _ inB (ns' glob)).go callerA [] s H ⟨[.ref a], []⟩ [.ref a] [.ref a] _ _ room rfl e0 (bind s (.ref a)) (.cons rfl .nil) want) ?_
  intro r s' z
  match r, z with
  | .error e, z => exact z.elim
  | .ok (.ret u), ⟨v, H', os, bare', un, ok', rv, q⟩ =>
    have q' : v = .bl true := q
    subst q'
    cases (show u = Value.bool true from rv)
    refine ⟨rfl, OldK.of_keep (fun b o e => ?_), os, bare'⟩
    cases z : H b with
    | none => exact un.keep b o e z (by intro h; cases h) (by intro h; cases h)
    | some u =>
      obtain ⟨rfl, rfl⟩ := bare b u z
      obtain ⟨e1, _⟩ := ok b _ z
      obtain ⟨e2, _⟩ := ok' b _ (un.frzs b _ _ z)
      rw [e] at e1
      cases e1
      exact e2
end
/-- the end of a law's row, from a promise of that kind -/
theorem walkG {l : PySem.W.OpenLaw} {n k : Nat} {q : Program} {loose : List Str} {XP : (Str → Option Value) → Heap → Prop} {YP : World → Heap → Prop} {d : DefRec} {K : Params → PySem.W.Frag} {sp : PySem.W.Frag → Sp} {x : Str}
    (most : l.most = some n) (small : n ≤ sizeLine) (nodef : d.params.defaults = []) (room : Room k callerA) (inK : ∀ (w : World) (h : Heap), YP w h → (K w.params).In h)
    (F : ∀ (w : World) (mg : Str → Option Value) (fa : Addr) (h : Heap), (K w.params).In h → h.Ns mainGlobals mg → mg d.name = some (.ref fa) →
      ∃ fd : FuncData, (∀ (s : Shared) (u : Value), BindsTo s fd ⟨[u], []⟩ [(x, u)]) ∧ ∀ base : Heap, (K w.params).In base → base.Ns mainGlobals mg → FnG l.prog w (K w.params) mg base CX0 k fa fd [x] (sp (K w.params)))
    (want : ∀ (K : PySem.W.Frag) (H : Hp) (a : Addr) (ns : List Int), ns.length ≤ n → SqL K H a (ns.map V.int) → sp K [.ref a] H (fun v _ => v = .bl true) fun _ _ _ => False) :
    PySem.W.WalkO q loose XP YP l.row.toRowW d [] (fun f vs => PySem.call f vs) := by
  refine Att.attach_call most nodef fun w s₀ s mg mb fa o pm cd doc a vs ns G Y ho hd hcd hmg script hints len gens => ?_
  have kin := inK w _ Y
  obtain ⟨fd, bind, hF⟩ := F w mg fa _ kin G.T.g hmg
  have rel : Vals (ns.map V.int) vs := vals_ints hints
  have small' : (ns.map V.int).length ≤ sizeLine := by rw [List.length_map]; exact Nat.le_trans len small
  have small2 : vs.toArray.size ≤ sizeLine := by rw [List.size_toArray, ← rel.length]; exact small'
  cases known : K w.params |>.lookup a with
  | some o' =>
    have e := kin a o' known
    rw [script] at e
    cases e
    refine from_caller (ns := ns) (H := fun _ => none) kin G.T.g G.T.b G.T.builtins G.T.nolimit gens script room hF bind (by intro b u z; cases z) (by intro b u z; cases z) (fun z => (z rfl).elim) ?_
    exact want _ _ a ns len (.inr ⟨_, vs.toArray, _, known, rfl, rfl, rfl, small2, by simpa using rel⟩)
  | none =>
    refine from_caller (ns := ns) (H := upd (fun _ => none) a (.frz (scr vs) (.lst (ns.map V.int)))) kin G.T.g G.T.b G.T.builtins G.T.nolimit gens script room hF bind ?_ ?_ (fun _ => known) ?_
    · intro b u z
      by_cases c : b = a
      · subst c
        rw [upd_same] at z
        exact ⟨rfl, (Option.some.inj z).symm⟩
      · rw [upd_ne c] at z
        cases z
    · intro b u z
      by_cases c : b = a
      · subst c
        rw [upd_same] at z
        cases z
        exact ⟨script, small', vs, _, rel, script⟩
      · rw [upd_ne c] at z
        cases z
    · exact want _ _ a ns len (.inl (.inr ⟨_, upd_same⟩))
end Gu
namespace Am
open PySem PySem.Spec PyProof.Rows L2
/-- all but p stands as it did -/
def Chg (p : Addr) (H H' : Hp) : Prop := ∀ b u, H b = some u → b ≠ p → H' b = some u
theorem Chg.refl (p : Addr) (H : Hp) : Chg p H H := fun _ _ e _ => e
theorem Chg.trans {p : Addr} {H H1 H2 : Hp} (a : Chg p H H1) (b : Chg p H1 H2) : Chg p H H2 := fun c u e n => b c u (a c u e n) n
theorem Chg.of {p : Addr} {H H' : Hp} (s : Same H H') : Chg p H H' := fun b u e _ => s b u e
theorem Chg.upd {p : Addr} {H : Hp} {o : HO} : Chg p H (upd H p o) := fun b u e n => by rw [upd_ne n]; exact e
/-- the law's jar: what is left of the cell's own digits, the mixed number, how often it was asked -/
def JarAt (H : Hp) (p : Addr) (N : Int) : Prop := ∃ o m c : Int, H p = some (.lst [.int o, .int m, .int c]) ∧ 0 ≤ o ∧ (0 ≤ m ∧ m < 2 ^ 61) ∧ 0 ≤ c ∧ c ≤ N
theorem JarAt.mono {H : Hp} {p : Addr} {N M : Int} (h : JarAt H p N) (l : N ≤ M) : JarAt H p M := by
  obtain ⟨o, m, c, h, a, b, d, e⟩ := h
  exact ⟨o, m, c, h, a, b, d, Int.le_trans e l⟩
theorem JarAt.same {H H' : Hp} {p : Addr} {N : Int} (h : JarAt H p N) (e : Same H H') : JarAt H' p N := by
  obtain ⟨o, m, c, h, r⟩ := h
  exact ⟨o, m, c, e _ _ h, r⟩
theorem JarAt.lst {H : Hp} {p : Addr} {N : Int} (h : JarAt H p N) : ∃ xs, H p = some (.lst xs) := by
  obtain ⟨o, m, c, h, _⟩ := h
  exact ⟨_, h⟩
theorem AmAt.chg {C p : Addr} {H H' : Hp} {N : Int} {v : V} {n u : Int} (j : JarAt H p N) (e : Chg p H H') (h : AmAt C H v n u) : AmAt C H' v n u := by
  obtain ⟨l, a, dx, rfl, h⟩ := h
  obtain ⟨xs, hp⟩ := j.lst
  exact ⟨l, a, dx, rfl, e _ _ h (ne_of h hp (by intro z; cases z))⟩
theorem AmV.chg {C p : Addr} {H H' : Hp} {N : Int} {v : V} {n u : Int} (j : JarAt H p N) (e : Chg p H H') (h : AmV C H v n u) : AmV C H' v n u := h.elim (fun h => .inl (h.chg j e)) .inr
theorem tup_chg {p a : Addr} {H H' : Hp} {N : Int} {xs : List V} (j : JarAt H p N) (e : Chg p H H') (h : H a = some (.tup xs)) : H' a = some (.tup xs) := by
  obtain ⟨ys, hp⟩ := j.lst
  exact e _ _ h (ne_of h hp (by intro z; cases z))
theorem atI_in {xs : List V} {i : Int} (h0 : 0 ≤ i) (h1 : i < xs.length) : ∃ v, atI xs i = some v ∧ v ∈ xs := by
  obtain ⟨j, rfl⟩ := Int.eq_ofNat_of_zero_le h0
  have hj : j < xs.length := by omega
  exact ⟨xs[j], atI_nat (List.getElem?_eq_getElem hj), List.getElem_mem hj⟩
structure Nm (mg : Str → Option Value) : Prop where
  len : mg "len" = none
  abs : mg "abs" = none
  int : mg "int" = none
  max : mg "max" = none
  min : mg "min" = none
  range : mg "range" = none
  all : mg "all" = none
  repr : mg "repr" = none
  isi : mg "isinstance" = none
theorem b_abs : bootBuiltins "abs" = some (.builtin "abs") := by decide +kernel
theorem b_repr : bootBuiltins "repr" = some (.builtin "repr") := by decide +kernel
theorem b_max : bootBuiltins "max" = some (.builtin "max") := by decide +kernel
theorem b_min : bootBuiltins "min" = some (.builtin "min") := by decide +kernel
theorem b_all : bootBuiltins "all" = some (.builtin "all") := by decide +kernel
/-- ** of a written base of any size -/
theorem op_powX {X : Cx} : OpR X (binaryOp .Pow) (rI (fun i j => 0 ≤ j ∧ (Builtin.Int.intBits i : Int) * j ≤ 2 ^ 27) fun i j => .int (i ^ j.toNat)) := opI fun i j _ _ _ _ _ hc q => pow_int hc.1 hc.2 q
theorem b01 (b : Bool) : (-(2 ^ 64) : Int) < (if b = true then 1 else 0) ∧ (if b = true then (1 : Int) else 0) < 2 ^ 64 := by cases b <;> decide
theorem b01n (b : Bool) : (0 : Int) ≤ (if b = true then 1 else 0) := by cases b <;> decide
def spJar (K : PySem.W.Frag) : Sp := fun vs H Q _ => ∃ (a : Addr) (ns : List Int) (k : Int), vs = [.ref a, .int k] ∧ SqL K H a (ns.map V.int) ∧ 0 ≤ k ∧ k ≤ 63 ∧ ∀ p H', Same H H' → H p = none → JarAt H' p 0 → Q (.ref p) H'
def spTake : Sp := fun vs H Q _ => ∃ (p : Addr) (u N : Int), vs = [.ref p, .int u] ∧ (0 < u ∧ u < 1073741824) ∧ JarAt H p N ∧ N ≤ 9999 ∧ ∀ d H', (0 ≤ d ∧ d < u) → Chg p H H' → JarAt H' p (N + 1) → Q (.int d) H'
def spOf : Sp := fun vs H Q _ => ∃ (p l : Addr) (xs : List V) (N : Int), vs = [.ref p, .ref l] ∧ H l = some (.lst xs) ∧ l ≠ p ∧ (0 < xs.length ∧ xs.length ≤ 1000) ∧ JarAt H p N ∧ N ≤ 9999 ∧ ∀ v H', v ∈ xs → Chg p H H' → JarAt H' p (N + 1) → Q v H'
theorem sq_bound {k c : Int} (hk : 0 ≤ k) (hk2 : k ≤ 200000) (h0 : 0 ≤ c) (h1 : c ≤ 10000) : 0 ≤ k * c * c ∧ k * c * c ≤ 20000000000000 := by
  have a : 0 ≤ k * c := Int.mul_nonneg hk h0
  refine ⟨Int.mul_nonneg a h0, ?_⟩
  have b : k * c ≤ 200000 * 10000 := Int.mul_le_mul hk2 h1 h0 (by decide)
  have d : k * c * c ≤ 200000 * 10000 * 10000 := Int.mul_le_mul b h1 h0 (by decide)
  omega
section
variable {P : Program} {w : World} {K : PySem.W.Frag} {mg : Str → Option Value} {base : Heap} {C : Addr}
theorem scJar : FnScope ["_law_script", "_law_k", "_law_cell", "_law_own", "_law_blend"] ["_law_script", "_law_k"] (defScope sJar) := ⟨rfl, rfl, rfl, by decide +kernel, rfl, by decide +kernel, by decide +kernel⟩
theorem ok_jar {f : Addr} {fd : FuncData} (F : Fun K "_law_jar" "_law_jar" sJar f fd) (T : Nm mg) : FnOk P w K mg base CX0 1 f fd ["_law_script", "_law_k"] (spJar K) := by
  refine F.ok scJar (fun vs H Q E h => ?_) (fun cdv A outer s H vs Q E hr h => ?_)
  · obtain ⟨a, ns, k, rfl, _⟩ := h
    rfl
  · obtain ⟨a, ns, k, rfl, hS, h0, h1, q⟩ := h
    refine ⟨_, C8.pss_cut (ps_set (i := 2) scJar.nd rfl (.inl rfl) (pe_ifExp (pt_cmpR op_lt (pv 1) (pe_callB call_len_seq (by rfl) T.len PySem.boot_len (pa_cons (pv 0) pa_nil)) (nomark _)) (pe_ix ix_list (pv 0) (pv 1) (fun _ _ => rfl)) (pe_op op_add (pe_op op_mul pe_int (pv 1)) pe_int)))
      (pss_cons (ps_set (i := 3) scJar.nd rfl (.inl rfl) (pe_op op_mul (pe_op op_mod (pe_callTy call_int1 (by rfl) T.int b_int (pa_cons (pe_callB call_abs (by rfl) T.abs b_abs (pa_cons (pv 2) pa_nil)) pa_nil)) (pe_op op_powX (pe_op op_pow pe_int pe_int) pe_int))
        (pe_callTy call_int1 (by rfl) T.int b_int (pa_cons (pe_cmpR op_ge (pe_callB call_abs (by rfl) T.abs b_abs (pa_cons (pv 2) pa_nil)) (pe_op op_pow pe_int pe_int) (nomark _)) pa_nil))))
      (pss_cons (ps_set (i := 4) scJar.nd rfl (.inl rfl) (pe_op op_add (pe_op op_add (pe_op op_mul (pe_op op_mod (pe_callTy call_int1 (by rfl) T.int b_int (pa_cons (pv 2) pa_nil)) pe_int) pe_int) (pe_op op_mul (pe_op op_mul pe_int (pv 1)) (pv 1))) pe_int))
      (pss_one (ps_ret (pe_lst (pa_cons (pv 3) (pa_cons (pe_op op_mod (pe_callTy call_int1 (by rfl) T.int b_int (pa_cons (pv 4) pa_nil)) pe_int) (pa_cons pe_int pa_nil)))))))), ?_⟩
    refine ⟨fun σ' H' => ∃ cell : Int, σ' = [some (.ref a), some (.int k), some (.int cell), none, none] ∧ H' = H, ?_, ?_⟩
    · refine ⟨_, rfl, _, rfl, a, _, rfl, .inl hS, _, _, rfl, rfl, _, rfl, ite2 (fun c => ?_) (fun c => ?_)⟩
      · have c' := of_decide_eq_true c
        rw [List.length_map] at c'
        obtain ⟨v, hv, mv⟩ := atI_in (xs := ns.map V.int) h0 (by rw [List.length_map]; exact c')
        obtain ⟨z, _, rfl⟩ := List.mem_map.mp mv
        exact ⟨_, rfl, _, rfl, a, _, _, _, rfl, rfl, hS, hv, z, rfl, rfl⟩
      · exact ⟨_, rfl, _, _, rfl, rfl, .inl (by decide), _, _, rfl, rfl, _, rfl, rfl⟩
    · rintro σ' H' ⟨cell, rfl, rfl⟩
      have own0 : ∀ x : Int, 0 ≤ x % (((10 : Int) ^ (60 : Int).toNat) ^ (5 : Int).toNat) := fun x => Int.emod_nonneg _ (by decide +kernel)
      refine ⟨_, rfl, cell, rfl, .inl ⟨_, rfl, _, _, rfl, rfl, ⟨by decide, by decide, by decide⟩, _, _, rfl, rfl, (by decide +kernel), _, _, rfl, rfl, (by show (0 : Int) < (10 ^ (60 : Int).toNat) ^ (5 : Int).toNat; decide +kernel), ?_⟩⟩
      refine ⟨_, rfl, cell, rfl, _, _, rfl, rfl, ⟨by decide, by decide, by decide⟩, _, _, rfl, rfl, .inr ⟨_, rfl, _, _, rfl, rfl, .inr (b01 _), ?_⟩⟩
      refine ⟨_, rfl, .inl ⟨_, rfl, _, _, rfl, rfl, (by show (0 : Int) < 2305843009213693951; decide), _, _, rfl, rfl, .inr (by decide), ?_⟩⟩
      refine ⟨_, rfl, _, _, rfl, rfl, .inl (by decide), _, rfl, _, _, rfl, rfl, .inr (by omega), _, _, rfl, rfl, _, _, rfl, rfl, ?_⟩
      refine ⟨_, rfl, _, rfl, .inl ⟨_, rfl, _, _, rfl, rfl, (by show (0 : Int) < 2305843009213693921; decide), (by show 3 ≤ sizeLine; decide), fun p np => ?_⟩⟩
      refine q p _ (same_upd np) np ⟨_, _, _, upd_same, ?_, ⟨Int.emod_nonneg _ (by decide), Int.lt_of_lt_of_le (Int.emod_lt_of_pos _ (by decide)) (by decide)⟩, Int.le_refl _, Int.le_refl _⟩
      exact Int.mul_nonneg (own0 _) (b01n _)
theorem scTake : FnScope ["_law_jar_here", "_law_many", "_law_digit", "_law_big"] ["_law_jar_here", "_law_many"] (defScope sTake) := ⟨rfl, rfl, rfl, by decide +kernel, rfl, by decide +kernel, by decide +kernel⟩
theorem ok_take {f : Addr} {fd : FuncData} (F : Fun K "_law_take" "_law_take" sTake f fd) (T : Nm mg) : FnOk P w K mg base CX0 1 f fd ["_law_jar_here", "_law_many"] spTake := by
  refine F.ok scTake (fun vs H Q E h => ?_) (fun cdv A outer s H vs Q E hr h => ?_)
  · obtain ⟨p, u, N, rfl, _⟩ := h
    rfl
  · obtain ⟨p, u, N, rfl, ⟨u0, u1⟩, ⟨o, m, c, hp, o0, ⟨m0, m1⟩, c0, c1⟩, hN, q⟩ := h
    refine ⟨_, pss_cons (ps_if (pt_cmpR op_gt (pe_ix ix_list (pv 0) pe_int (fun _ _ => rfl)) pe_int (nomark _))
        (pss_cons (ps_set (i := 2) scTake.nd rfl (.inl rfl) (pe_op op_mod (pe_callTy call_int1 (by rfl) T.int b_int (pa_cons (pe_ix ix_list (pv 0) pe_int (fun _ _ => rfl)) pa_nil)) (pv 1)))
        (pss_cons (ps_asg (pe_op op_fdiv (pe_ix ix_list (pv 0) pe_int (fun _ _ => rfl)) (pv 1)) (pg_sub (pv 0) pe_int set_list))
        (pss_one (ps_ret (pv 2))))) pss_nil)
      (pss_cons (ps_asg (pe_op op_add (pe_ix ix_list (pv 0) pe_int (fun _ _ => rfl)) pe_int) (pg_sub (pv 0) pe_int set_list))
      (pss_cons (ps_set (i := 3) scTake.nd rfl (.inl rfl) (pe_op op_mod (pe_callTy call_int1 (by rfl) T.int b_int (pa_cons (pe_op op_mul (pe_op op_add (pe_op op_add (pe_ix ix_list (pv 0) pe_int (fun _ _ => rfl)) (pe_op op_mul (pe_op op_mul pe_int (pe_ix ix_list (pv 0) pe_int (fun _ _ => rfl))) (pe_ix ix_list (pv 0) pe_int (fun _ _ => rfl)))) pe_int) pe_int) pa_nil)) pe_int))
      (pss_cons (ps_set (i := 3) scTake.nd rfl (.inl rfl) (pe_op op_mod (pe_callTy call_int1 (by rfl) T.int b_int (pa_cons (pe_op op_mul (pv 3) (pe_op op_add (pe_op op_mod (pe_callTy call_int1 (by rfl) T.int b_int (pa_cons (pv 3) pa_nil)) pe_int) (pe_op op_mul pe_int (pe_ix ix_list (pv 0) pe_int (fun _ _ => rfl))))) pa_nil)) pe_int))
      (pss_one (ps_ret (pe_op op_mod (pe_callTy call_int1 (by rfl) T.int b_int (pa_cons (pe_op op_add (pe_op op_fdiv (pv 3) pe_int) (pe_op op_fdiv (pv 3) pe_int)) pa_nil)) (pv 1))))))), ?_⟩
    refine ⟨_, rfl, p, _, _, _, rfl, rfl, SqL.of hp, rfl, _, _, rfl, rfl, _, rfl, ite2 (fun z => ?_) (fun _ => ?_)⟩
    · refine ⟨_, rfl, p, _, _, _, rfl, rfl, SqL.of hp, rfl, .inl ⟨_, rfl, _, rfl, _, _, rfl, rfl, u0, ?_⟩⟩
      refine ⟨_, rfl, p, _, _, _, rfl, rfl, SqL.of hp, rfl, _, rfl, _, _, rfl, rfl, ⟨u0, u1⟩, _, rfl, p, _, _, 0, rfl, rfl, hp, rfl, ?_⟩
      refine ⟨_, rfl, q _ _ ⟨Int.emod_nonneg _ (by omega), Int.emod_lt_of_pos _ u0⟩ Chg.upd ⟨_, _, _, upd_same, Int.ediv_nonneg o0 (by omega), ⟨m0, m1⟩, c0, by omega⟩⟩
    · refine ⟨_, rfl, p, _, _, _, rfl, rfl, SqL.of hp, rfl, _, _, rfl, rfl, _, rfl, p, _, _, 2, rfl, rfl, hp, rfl, ?_⟩
      have hp1 : (upd H p (.lst ([V.int o, .int m, .int c].set 2 (.int (c + 1))))) p = some (.lst [V.int o, .int m, .int (c + 1)]) := upd_same
      have k1 : Chg p H (upd H p (.lst ([V.int o, .int m, .int c].set 2 (.int (c + 1))))) := Chg.upd
      generalize (upd H p (.lst ([V.int o, .int m, .int c].set 2 (.int (c + 1))))) = H1 at hp1 k1 ⊢
      have sq := sq_bound (k := 65539) (c := c + 1) (by decide) (by decide) (by omega) (by omega)
      refine ⟨_, rfl, p, _, _, _, rfl, rfl, SqL.of hp1, rfl, ?_⟩
      refine ⟨_, rfl, p, _, _, _, rfl, rfl, SqL.of hp1, rfl, _, _, rfl, rfl, .inl (by decide), ?_⟩
      refine ⟨_, rfl, p, _, _, _, rfl, rfl, SqL.of hp1, rfl, _, _, rfl, rfl, .inr (by omega), ?_⟩
      refine ⟨_, _, rfl, rfl, _, _, rfl, rfl, _, _, rfl, rfl, .inr (by decide), .inl ⟨_, rfl, _, _, rfl, rfl, (by show (0 : Int) < 2305843009213693921; decide), ?_⟩⟩
      have b0 := fun x : Int => Int.emod_nonneg x (b := 2305843009213693921) (by decide)
      have b1 := fun x : Int => Int.emod_lt_of_pos x (b := 2305843009213693921) (by decide)
      have g0 := b0 ((m + 65539 * (c + 1) * (c + 1) + 59) * 48271)
      have g1 := b1 ((m + 65539 * (c + 1) * (c + 1) + 59) * 48271)
      refine ⟨_, rfl, _, rfl, .inl ⟨_, rfl, _, _, rfl, rfl, (by show (0 : Int) < 1000003; decide), ?_⟩⟩
      refine ⟨_, rfl, p, _, _, _, rfl, rfl, SqL.of hp1, rfl, _, _, rfl, rfl, .inl (by decide), _, _, rfl, rfl, _, _, rfl, rfl, .inl ⟨?_, ?_⟩, .inl ⟨_, rfl, _, _, rfl, rfl, (by show (0 : Int) < 2305843009213693907; decide), ?_⟩⟩
      · omega
      · omega
      refine ⟨_, rfl, _, _, rfl, rfl, ⟨by decide, by decide⟩, _, rfl, _, _, rfl, rfl, ⟨by decide, by decide⟩, _, _, rfl, rfl, .inl ⟨_, rfl, _, rfl, _, _, rfl, rfl, u0, ?_⟩⟩
      exact q _ _ ⟨Int.emod_nonneg _ (by omega), Int.emod_lt_of_pos _ u0⟩ k1 ⟨_, _, _, hp1, o0, ⟨m0, m1⟩, by omega, by omega⟩
theorem scOf : FnScope ["_law_jar_here", "_law_some"] ["_law_jar_here", "_law_some"] (defScope sOf) := ⟨rfl, rfl, rfl, by decide +kernel, rfl, by decide +kernel, by decide +kernel⟩
theorem ok_of {f : Addr} {fd : FuncData} (F : Fun K "_law_of" "_law_of" sOf f fd) (T : Nm mg) (GT : GotF P w K mg base "_law_take" 1 ["_law_jar_here", "_law_many"] spTake) : FnOk P w K mg base CX0 2 f fd ["_law_jar_here", "_law_some"] spOf := by
  obtain ⟨fT, fdT, GT, bT, mT, kT⟩ := GT
  refine F.ok scOf (fun vs H Q E h => ?_) (fun cdv A outer s H vs Q E hr h => ?_)
  · obtain ⟨p, l, xs, N, rfl, _⟩ := h
    rfl
  · obtain ⟨p, l, xs, N, rfl, hl, nlp, ⟨x0, x1⟩, hj, hN, q⟩ := h
    refine ⟨_, pss_one (ps_ret (pe_ix ix_list (pv 1) (pe_call GT hr (by rfl) mT kT bT .nil pass0 (pa_cons (pv 0) (pa_cons (pe_callB call_len_seq (by rfl) T.len PySem.boot_len (pa_cons (pv 1) pa_nil)) pa_nil))) (fun _ _ => rfl))), ?_⟩
    refine ⟨_, rfl, _, rfl, _, rfl, l, _, rfl, .inl (SqL.of hl), ?_⟩
    refine ⟨p, _, N, rfl, ⟨by omega, by omega⟩, hj, hN, fun d H' hd k j => ?_⟩
    obtain ⟨v, hv, mv⟩ := atI_in hd.1 hd.2
    exact ⟨l, xs, d, v, rfl, rfl, SqL.of (k _ _ hl nlp), hv, q v H' mv k j⟩
end
end Am
/-! names, and the lines of a house, one by one -/
namespace Hs
open PySem PySem.Spec PyProof.Rows L2 Am
def abc : Str := "abcdefghijklmnopqrstuvwxyz"
def letB (c : Nat) : Bool := decide (97 ≤ c ∧ c ≤ 122)
/-- a name -/
def nameB (x : Str) : Bool := (decide (1 ≤ x.length) && decide (x.length ≤ 8)) && (!(decide (x = "main") || (decide (x = "house") || decide (x = "rest"))) && x.cps.toList.all letB)
theorem in_abc (c : Nat) : decide (c ∈ abc.cps.toList) = letB c := by
  have e : abc.cps.toList = [97, 98, 99, 100, 101, 102, 103, 104, 105, 106, 107, 108, 109, 110, 111, 112, 113, 114, 115, 116, 117, 118, 119, 120, 121, 122] := by decide +kernel
  rw [e]
  refine decide_eq_decide.mpr ⟨fun h => ?_, fun h => ?_⟩
  · simp only [List.mem_cons, List.not_mem_nil, or_false] at h
    omega
  · simp only [List.mem_cons, List.not_mem_nil, or_false]
    omega
/-- the module's words -/
structure Wd (K : PySem.W.Frag) (mg : Str → Option Value) : Prop where
  tk : ∃ T, mg "TAKEN" = some (.ref T) ∧ ∀ H, SqT K H T [V.str "main", V.str "house", V.str "rest"]
  lt : ∃ t, mg "LETTERS" = some (.str abc t)
def spIsName : Sp := fun vs H Q _ => ∃ x : Str, vs = [.str x] ∧ x.length ≤ 900 ∧ ∀ H', Same H H' → Q (.bl (nameB x)) H'
theorem taken_in (x : Str) : inV (V.str x) [V.str "main", V.str "house", V.str "rest"] = (decide (x = "main") || (decide (x = "house") || decide (x = "rest"))) := by
  have e : ∀ y : Str, eqV (V.str y) (V.str x) = decide (x = y) := fun y => by
    show (y == x) = _
    rw [Bool.eq_iff_iff, beq_iff_eq, decide_eq_true_eq]
    exact eq_comm
  show (eqV (V.str "main") (V.str x) || (eqV (V.str "house") (V.str x) || (eqV (V.str "rest") (V.str x) || false))) = _
  rw [e, e, e, Bool.or_false]
section
variable {P : Program} {w : World} {K : PySem.W.Frag} {mg : Str → Option Value} {base : Heap} {C : Addr}
theorem kstr {K : PySem.W.Frag} : PySem.W.kitOne K (.type "str") (.type "str") = some true := kit_ty (show kitB "str" "str" = some true by decide +kernel)
theorem scIsName : FnScope ["value", "letter"] ["value"] (defScope sIsName) := ⟨rfl, rfl, rfl, by decide +kernel, rfl, by decide +kernel, by decide +kernel⟩
theorem ok_isName {f : Addr} {fd : FuncData} (F : Fun K "is_name" "is_name" sIsName f fd) (W : Wd K mg) (T : Nm mg) (ns : mg "str" = none) : FnOk P w K mg base CX0 1 f fd ["value"] spIsName := by
  obtain ⟨⟨tkA, mT, tk⟩, tl, mL⟩ := W
  refine F.ok scIsName (fun vs H Q E h => ?_) (fun cdv A outer s H vs Q E hr h => ?_)
  · obtain ⟨x, rfl, _⟩ := h
    rfl
  · obtain ⟨x, rfl, hl, q⟩ := h
    have b_str : bootBuiltins "str" = some (.type "str") := by decide +kernel
    refine ⟨_, pss_cons (ps_if (PW.pt (pw_or (pt_not (pt_val (pe_callB call_isi (by rfl) T.isi b_isi (pa_cons (pv 0) (pa_cons (pe_bltn (v := .ty "str") (by rfl) ns b_str rfl) pa_nil)))))
          (pw_or1 (pt_not (pt_chain op_le op_le pe_int (pe_callB call_len_str (by rfl) T.len PySem.boot_len (pa_cons (pv 0) pa_nil)) pe_int)))))
        (pss_one (ps_ret pe_bl)) pss_nil)
      (pss_one (ps_ret (pe_and (pe_cmpR op_notIn_seq (pv 0) (pe_glob (v := .ref tkA) (by rfl) mT rfl) (by rfl))
        (pe_one (pe_callB (cr_all rfl) (by rfl) T.all b_all (pa_cons (pe_lc (own := [("letter", 1)]) (g := gName 1) (tt := tYes) rfl scIsName.nd
          (pi_str (pv 0)) (blkOk_by (N := ["value", "letter"]) (sc := defScope sIsName) (by decide +kernel)) (fun _ _ _ _ _ => pg_name (i := 1) scIsName.nd rfl (Or.inl rfl)) (fun _ _ _ _ _ => pts_nil)
          (fun _ _ _ _ _ => pe_cmpR op_in_sign (pv 1) (pe_glob (v := .str abc) (by rfl) mL ⟨_, rfl⟩) (by rfl))) pa_nil)))))), ?_⟩
    have big : ∀ {k : Nat}, k ≤ 4000 → k ≤ sizeLine := fun h => Nat.le_trans h (by decide)
    have no : nameB x = false → tRet (tC (V.bl false)) { nx := fun x H' => Q V.non H', rt := Q } [some (V.str x), none] H := fun e => by
      have := q H (Same.refl _)
      rw [e] at this
      exact this
    refine ⟨_, rfl, .str x, .ty "str", .type "str", .type "str", _, rfl, .ty _, .base (Bk.tyOf (.str x)), kstr, _, rfl, iteF ?_⟩
    refine ⟨_, rfl, x, rfl, big (by omega), _, _, rfl, rfl, _, rfl, ?_⟩
    have d1 : decide ((1 : Int) ≤ (x.length : Int)) = decide (1 ≤ x.length) := decide_eq_decide.mpr (by omega)
    have d2 : decide ((x.length : Int) ≤ (8 : Int)) = decide (x.length ≤ 8) := decide_eq_decide.mpr (by omega)
    rw [d1]
    cases c1 : decide (1 ≤ x.length) with
    | false =>
      refine iteF ⟨_, rfl, iteT (no ?_)⟩
      unfold nameB
      rw [c1]
      rfl
    | true =>
      refine iteT ⟨_, _, rfl, rfl, _, rfl, ?_⟩
      rw [d2]
      cases c2 : decide (x.length ≤ 8) with
      | false =>
        refine iteT (no ?_)
        unfold nameB
        rw [c1, c2]
        rfl
      | true =>
        refine iteF ?_
        refine ⟨_, rfl, tkA, _, rfl, .inr (tk H), rfl, rfl, _, rfl, ?_⟩
        rw [if_pos rfl, taken_in]
        cases c3 : (decide (x = "main") || (decide (x = "house") || decide (x = "rest"))) with
        | true =>
          refine iteF ?_
          have := q H (Same.refl _)
          unfold nameB at this
          rw [c1, c2, c3] at this
          exact this
        | false =>
          refine iteT ⟨_, rfl, x, rfl, fun D nD => ?_⟩
          have hsz : x.cps.size = x.cps.toList.length := by simp
          refine lc_it (walk_str (z := x)) (Pv := Tk H D (x.cps.toList.map fun c => V.bl (letB c))) (Tk.start nD) (fun _ _ _ _ => trivial) ?_ ?_
          · rintro i v H1 H2 hi hk ⟨rfl, c, hc, rfl⟩
            refine ⟨rfl, ?_⟩
            unfold tYes
            refine iteT ⟨_, rfl, c, _, rfl, rfl, ?_⟩
            rw [in_abc]
            have hc' : x.cps.toList[i]? = some c := by rw [Array.getElem?_toList]; exact hc
            exact hk.step nD (Same.refl _) (by rw [List.getElem?_map, hc']; rfl) (by rw [List.length_map, SL.len_toList]; omega)
          · rintro H1 hk
            refine ⟨D, x.cps.toList.map letB, rfl, SqL.of ?_, ?_⟩
            · rw [List.map_map]
              exact hk.done (by rw [hsz, List.length_map])
            · have := q H1 hk.1
              unfold nameB at this
              rw [c1, c2, c3] at this
              rw [List.all_map]
              exact this
end
end Hs
/-! a, *b = a list -/
namespace Stt
open PySem PySem.Spec PyProof.Rows L2
section
variable {prog : Program} {w : World} {A : Around} {E : Value → Shared → Prop} {s : Shared}
theorem parts_of_list {l : Addr} {v0 : Value} {vr : List Value} {R : List Value → Shared → Prop} (at_ : s.heap.IsList l (v0 :: vr).toArray) (calm : A.handled = none) (small : vr.length ≤ 16000)
    (next : ∀ (hp : Heap) (tk : Nat), (∀ b o, s.heap.get? b = some o → hp.get? b = some o) → R [v0, .ref hp.objs.size] { s with heap := hp.push { cls := .type "list", data := .seq vr.toArray }, toks := tk }) :
    wpAny (model prog w) A (unpackItems (.ref l) 2 (some 1)) R E s := by
  obtain ⟨ol, eol, _⟩ := id at_
  have below := Heap.lt_size eol
  have apart : l ≠ s.heap.objs.size := Nat.ne_of_lt below
  have iter0 : wpAny (model prog w) A (notIterableAtAll (.ref l)) (fun b s' => b = false ∧ s' = s) E s := by
    unfold notIterableAtAll
    exact wpAny_bind (wpAny_specialOf at_.typeIs slot_list_iter.lookup (wpAny_pure ⟨rfl, rfl⟩))
  unfold unpackItems
  refine wpAny_bind (wpAny_mono iter0 (fun b s' z => ?_) fun _ _ z => z)
  obtain ⟨rfl, rfl⟩ := z
  simp only [Bool.false_eq_true, if_false]
  refine wpAny_bind (wpAny_holding (wpAny_pyIter_list at_ ?_))
  have size2 : (v0 :: vr).toArray.size = vr.length + 1 := by simp
  refine wpAny_bind (wpAny_holding (PySem.W.kun_draw apart 1 0 _ _ ⟨_, Heap.get?_push_size _ rfl, rfl, rfl⟩ (at_.push _) (by rw [size2]; omega) ?_))
  intro g1 it1 sb1
  have at1 : g1.IsList l (v0 :: vr).toArray := (at_.push _).extBut sb1.extBut apart
  obtain ⟨o1, eo1, _⟩ := id at1
  obtain ⟨oi, eoi, _⟩ := id it1
  rw [if_neg (show ¬ (((v0 :: vr).toArray.toList.drop 0).take 1).length < 1 by simp)]
  have k1 : 1 ≤ (v0 :: vr).toArray.size := by rw [size2]; omega
  have z1 : (v0 :: vr).toArray.size ≤ sizeLine := by rw [size2]; exact Nat.le_trans (show _ ≤ 16001 by omega) (by decide)
  refine wpAny_bind (wpAny_holding (PySem.W.kun_collect (s := { s' with heap := g1 }) (T := "list_iterator") (.inr (.inr (.inl rfl))) (Walks.list (A := A.in1) calm s'.heap.objs.size l apart _) (fun j u st => st.1.typeIs) k1 ⟨it1, at1⟩ (Heap.lt_size eoi) (Heap.lt_size eo1) ?_ z1))
  intro g2 tk keep
  have whole : ∀ b o, s'.heap.get? b = some o → g2.get? b = some o := fun b o e => by
    have nb : b ≠ s'.heap.objs.size := Nat.ne_of_lt (Heap.lt_size e)
    exact keep b o nb (sb1.extBut b o nb (Heap.get?_push_of_some _ e))
  have e1 : (v0 :: vr).toArray.toList.drop 1 = vr := by simp
  have e0 : ((v0 :: vr).toArray.toList.drop 0).take 1 = [v0] := by simp
  rw [e1, e0]
  rw [if_neg (show ¬ vr.length < 2 - 1 - 1 by omega)]
  have et : vr.take (vr.length - (2 - 1 - 1)) = vr := List.take_of_length_le (by omega)
  have ed : vr.drop (vr.length - (2 - 1 - 1)) = [] := List.drop_of_length_le (by omega)
  rw [et, ed]
  refine wpAny_bind (wpAny_newList (wpAny_pure ?_) (Nat.le_trans small (by decide)))
  exact next g2 tk whole
end
section
variable {X : Cx}
theorem pgs_star {t : Expr} {sp : Pos} {g : TG} (h : PG X t g) (hs : (assignEach [.Starred t sp] X.env).map (·.2) = [assign t X.env] := by rfl) : PGs X [.Starred t sp] (gCons g gNil) := by
  refine ⟨fun pins s σ H vs us Q I r want => ?_⟩
  obtain ⟨v, vr, rfl, want⟩ := want
  cases r with
  | cons r rr =>
    rw [hs]
    refine assignInOrder_cons (thn (h.run pins s σ H _ _ _ I r want) fun _ s1 ⟨σ1, H1, I1, e, q1⟩ => ?_)
    subst e
    cases rr
    exact assignInOrder_nil ⟨σ1, H1, I1, q1⟩
/-- the first of a list, and a new list of the others -/
def gStar (K : PySem.W.Frag) (t : TGs) : TG := fun v σ H Q => ∃ l x xs, v = .ref l ∧ SqL K H l (x :: xs) ∧ xs.length ≤ 1000 ∧ ∀ D, H D = none → t [x, .ref D] σ (upd H D (.lst xs)) Q
theorem pg_star {es : List Expr} {k : Nat} {t : TGs} {pos : Pos} (hc : X.calm = true) (h : PGs X es t) (hn : (assignEach es X.env).length = 2 := by rfl) (hst : (assignEach es X.env).findIdx? (·.1) = some 1 := by rfl) : PG X (.Tuple es k pos) (gStar X.K t) := by
  refine ⟨fun pins s σ H v u Q I r want => ?_⟩
  obtain ⟨l, x, xs, rfl, hl, hx, want⟩ := want
  cases r
  obtain ⟨its, rv, pl, hz⟩ := I.list hl
  cases rv with
  | cons r0 rr =>
    rename_i v0 vr
    rw [assign_Tuple]
    refine wpAny_bind (wpAny_standAt ?_)
    unfold unpack
    rw [hn, hst]
    refine wpAny_bind (wpAny_holding (parts_of_list pl.isList (I.ok.hd hc) (by rw [← rr.length]; omega) fun hp tk keep => ?_))
    have I1 : Inv X pins σ H { s with heap := hp, toks := tk } := I.kept keep
    have hf : H hp.objs.size = none := I1.hok.fresh (Nat.le_refl _)
    refine h.run pins _ σ _ [x, .ref hp.objs.size] [v0, .ref hp.objs.size] Q (I1.laid (t' := tk) (o := .lst xs) (fun b u e => Heap.get?_push_of_some _ e) (Nat.le_refl _) ?_) (.cons r0 (.cons rfl .nil)) (want _ hf)
    exact ⟨Nat.le_trans hx (by decide), vr, 0, rr, Heap.get?_push_size _ rfl⟩
end
end Stt
/-! the lines of a house -/
namespace Hs
open PySem PySem.Spec PyProof.Rows L2 Am
/-- a list of texts -/
def WdAt (H : Hp) (l : Addr) (ws : List Str) : Prop := H l = some (.lst (ws.map V.str))
def spDays (C : Addr) : Sp := fun vs H Q _ => ∃ (d lp lt ls lw : Addr) (L : Lore) (w : Str) (n : Nat), vs = [.ref d, .ref lw] ∧ DraftAt C H d lp lt ls L ∧ WdAt H lw [w] ∧ L.days = 0 ∧ w.length ≤ 600 ∧ Mt.num w.cps.toList = n ∧ (1 ≤ n ∧ n ≤ 14) ∧
  ∀ H', Fr [d] H H' → DraftAt C H' d lp lt ls { L with days := n } → Q (.bl true) H'
theorem Fr.upd {ms : List Addr} {H : Hp} {d : Addr} {o : HO} (h : d ∈ ms) : Fr ms H (upd H d o) := fun b u e n => by
  rw [upd_ne (fun z => n (by rw [z]; exact h))]
  exact e
theorem Fr.mono {ms ns : List Addr} {H H' : Hp} (h : Fr ms H H') (e : ∀ x ∈ ms, x ∈ ns) : Fr ns H H' := fun b u z n => h b u z (fun y => n (e b y))
theorem dfs_len (n : Nat) (lp lt ls : Addr) : (dfs n lp lt ls).length = 4 := by
  unfold dfs
  simp only [putF, if_neg n_dp, if_neg n_dt, if_neg n_ds, if_neg n_pt, if_neg n_ps, if_neg n_ts]
  rfl
section
variable {P : Program} {w : World} {K : PySem.W.Frag} {mg : Str → Option Value} {base : Heap} {C : Addr}
theorem DraftAt.fld {H : Hp} {d lp lt ls : Addr} {L : Lore} (h : DraftAt C H d lp lt ls L) : ∃ dx, H d = some (.ins C dx (dfs L.days lp lt ls)) := h.ob
theorem DraftAt.d_ne {H : Hp} {d lp lt ls : Addr} {L : Lore} (h : DraftAt C H d lp lt ls L) : d ≠ lp ∧ d ≠ lt ∧ d ≠ ls := by
  obtain ⟨dx, ob⟩ := h.ob
  obtain ⟨r1, l1, _⟩ := h.pl
  obtain ⟨r2, l2, _⟩ := h.pr
  obtain ⟨r3, l3, _⟩ := h.st
  exact ⟨ne_of ob l1 (by intro z; cases z), ne_of ob l2 (by intro z; cases z), ne_of ob l3 (by intro z; cases z)⟩
theorem LstAt.keep {α : Type} {f : α → HO} {H H' : Hp} {l : Addr} {xs : List α} {ms : List Addr} (h : LstAt f H l xs) (e : Fr ms H H') (hl : l ∉ ms) (ho : ∀ r x, H r = some (f x) → r ∉ ms) : LstAt f H' l xs := by
  obtain ⟨rs, a, b, c⟩ := h
  exact ⟨rs, e _ _ a hl, b, fun i r x h1 h2 => e _ _ (c i r x h1 h2) (ho r x (c i r x h1 h2))⟩
theorem scDays : FnScope ["self", "words", "days"] ["self", "words"] (defScope sDrDays) := ⟨rfl, rfl, rfl, by decide +kernel, rfl, by decide +kernel, by decide +kernel⟩
theorem ok_days {f : Addr} {fd : FuncData} (F : Fun K "take_days" "Draft.take_days" sDrDays f fd) (dc : DC K C) (T : Nm mg) (GD : GotF P w K mg base "decimal" 1 ["word"] spDec) : FnOk P w K mg base CX0 2 f fd ["self", "words"] (spDays C) := by
  obtain ⟨fD, fdD, GD, bD, mD, kD⟩ := GD
  refine F.ok scDays (fun vs H Q E h => ?_) (fun cdv A outer s H vs Q E hr h => ?_)
  · obtain ⟨d, lp, lt, ls, lw, L, x, n, rfl, _⟩ := h
    rfl
  · obtain ⟨d, lp, lt, ls, lw, L, x, n, rfl, hd, hw, z0, lx, hn, ⟨n1, n14⟩, q⟩ := h
    refine ⟨_, pss_cons (ps_if (PW.pt (pw_or (pt_cmpR op_gt (pe_fld (pv 0) rfl) pe_int (nomark _)) (pw_or1 (pt_cmpR op_ne (pe_callB call_len_seq (by rfl) T.len PySem.boot_len (pa_cons (pv 1) pa_nil)) pe_int (nomark _))))) (pss_one (ps_ret pe_bl)) pss_nil)
      (pss_cons (ps_set (i := 2) scDays.nd rfl (.inl rfl) (pe_call GD hr (by rfl) mD kD bD .nil pass0 (pa_cons (pe_ix ix_list (pv 1) pe_int (fun _ _ => rfl)) pa_nil)))
      (pss_cons (ps_if (pt_not (pt_chain op_le op_le pe_int (pv 2) pe_int)) (pss_one (ps_ret pe_bl)) pss_nil)
      (pss_cons (ps_fld (pv 0) (pv 2) rfl)
      (pss_one (ps_ret pe_bl))))), ?_⟩
    obtain ⟨dx, ob⟩ := hd.ob
    refine ⟨_, rfl, d, C, dx, _, _, rfl, ob, dc.cl, dc.nD, dfs_days _ _ _ _, _, _, rfl, rfl, _, rfl, ?_⟩
    rw [z0, show decide (((0 : Nat) : Int) > 0) = false from rfl]
    refine iteF ⟨_, rfl, lw, _, rfl, .inl (SqL.of hw), rfl, _, rfl, iteF ?_⟩
    refine ⟨_, rfl, lw, _, _, _, rfl, rfl, SqL.of hw, rfl, x, rfl, by omega, ?_⟩
    rw [hn]
    refine ⟨_, rfl, _, _, rfl, rfl, _, rfl, ?_⟩
    rw [show decide ((1 : Int) ≤ (n : Int)) = true from decide_eq_true (by omega)]
    refine iteT ⟨_, _, rfl, rfl, _, rfl, ?_⟩
    rw [show decide ((n : Int) ≤ (14 : Int)) = true from decide_eq_true (by omega)]
    refine iteF ?_
    obtain ⟨ne1, ne2, ne3⟩ := hd.d_ne
    refine ⟨_, rfl, _, rfl, d, C, dx, _, rfl, ob, dc.cl, dc.nD, by rw [dfs_len]; decide, ?_⟩
    rw [dfs_set]
    have no : ∀ {α : Type} {f : α → HO} (hf : ∀ x, f x ≠ .ins C dx (dfs L.days lp lt ls)) (r : Addr) (x : α), H r = some (f x) → r ∉ [d] := by
      intro α f hf r x e z
      rw [List.mem_singleton.mp z, ob] at e
      exact hf x (Option.some.inj e).symm
    have fr : Fr [d] H (upd H d (.ins C dx (dfs n lp lt ls))) := Fr.upd (by simp)
    refine q _ fr ⟨⟨dx, upd_same⟩, ?_, ?_, ?_, hd.n1, hd.n2, hd.n3⟩
    · exact hd.pl.keep fr (by simpa using ne1.symm) (no (fun x z => by unfold plO at z; cases z))
    · exact hd.pr.keep fr (by simpa using ne2.symm) (no (fun x z => by unfold prO at z; cases z))
    · exact hd.st.keep fr (by simpa using ne3.symm) (no (fun x z => by unfold stO at z; cases z))
end
end Hs
namespace Hs
open PySem PySem.Spec PyProof.Rows L2 Am
def spPlace (C : Addr) : Sp := fun vs H Q _ => ∃ (d lp lt ls lw : Addr) (L : Lore) (x r : Str) (n : Nat) (inner : Bool), vs = [.ref d, .ref lw, .bl inner] ∧ DraftAt C H d lp lt ls L ∧ Small L ∧ WdAt H lw [x, r] ∧ L.days ≠ 0 ∧ L.prices = [] ∧ L.stays = [] ∧ x.length ≤ 600 ∧ r.length ≤ 600 ∧
  nameB x = true ∧ hasP L x = false ∧ Mt.num r.cps.toList = n ∧ (1 ≤ n ∧ n ≤ 9) ∧ L.places.length < 4 ∧ (L.places.length = 3 → inner = true ∨ hasF L = true) ∧
  ∀ H', Fr [lp] H H' → DraftAt C H' d lp lt ls { L with places := L.places ++ [⟨x, n, inner⟩] } → Q (.bl true) H'
def spPrice (C : Addr) : Sp := fun vs H Q _ => ∃ (d lp lt ls lw : Addr) (L : Lore) (x y : Str) (a n : Nat), vs = [.ref d, .ref lw] ∧ DraftAt C H d lp lt ls L ∧ Small L ∧ WdAt H lw [x, y] ∧ hasF L = true ∧ L.stays = [] ∧ L.prices.length < 3 ∧ x.length ≤ 600 ∧ y.length ≤ 600 ∧
  Mt.num x.cps.toList = a ∧ Mt.num y.cps.toList = n ∧ (∀ p, L.prices.getLast? = some p → p.1 < a) ∧ a < L.days ∧ n ≤ 99 ∧
  ∀ H', Fr [lt] H H' → DraftAt C H' d lp lt ls { L with prices := L.prices ++ [(a, n)] } → Q (.bl true) H'
def spStay (C : Addr) : Sp := fun vs H Q _ => ∃ (d lp lt ls lw : Addr) (L : Lore) (x y u v : Str) (a b : Nat), vs = [.ref d, .ref lw] ∧ DraftAt C H d lp lt ls L ∧ Small L ∧ WdAt H lw [x, y, u, v] ∧ hasF L = true ∧ L.stays.length < 8 ∧ x.length ≤ 600 ∧ y.length ≤ 600 ∧ u.length ≤ 600 ∧ v.length ≤ 600 ∧
  nameB x = true ∧ hasP L y = true ∧ Mt.num u.cps.toList = a ∧ Mt.num v.cps.toList = b ∧ a < b ∧ b ≤ L.days ∧ letS L y a b = false ∧
  ∀ H', Fr [ls] H H' → DraftAt C H' d lp lt ls { L with stays := L.stays ++ [⟨x, y, a, b⟩] } → Q (.bl true) H'
/-- a method of Draft, its promise known -/
def GotD (P : Program) (w : World) (K : PySem.W.Frag) (mg : Str → Option Value) (base : Heap) (C : Addr) (x : Str) (k : Nat) (ps : List Str) (sp : Sp) : Prop :=
  ∃ (f : Addr) (fd : FuncData), FnOk P w K mg base CX0 k f fd ps sp ∧ Binds K fd ps [] ∧ Meth K C x f
theorem dfs_none {x : Str} (n : Nat) (lp lt ls : Addr) (h1 : ¬ x = "days") (h2 : ¬ x = "places") (h3 : ¬ x = "tariffs") (h4 : ¬ x = "stays") : (dfs n lp lt ls).lookup x = none := by
  unfold dfs
  rw [lookup_putF, if_neg h4, lookup_putF, if_neg h3, lookup_putF, if_neg h2, lookup_putF, if_neg h1]
  rfl
section
variable {P : Program} {w : World} {K : PySem.W.Frag} {mg : Str → Option Value} {base : Heap} {C : Addr}
theorem dfs_m (n : Nat) (lp lt ls : Addr) : (dfs n lp lt ls).lookup ("has_place" : Str) = none ∧ (dfs n lp lt ls).lookup ("has_flat" : Str) = none ∧ (dfs n lp lt ls).lookup ("is_let" : Str) = none ∧ (dfs n lp lt ls).lookup ("take_days" : Str) = none ∧
    (dfs n lp lt ls).lookup ("take_place" : Str) = none ∧ (dfs n lp lt ls).lookup ("take_price" : Str) = none ∧ (dfs n lp lt ls).lookup ("take_stay" : Str) = none ∧ (dfs n lp lt ls).lookup ("take" : Str) = none :=
  ⟨dfs_none _ _ _ _ (by decide +kernel) (by decide +kernel) (by decide +kernel) (by decide +kernel), dfs_none _ _ _ _ (by decide +kernel) (by decide +kernel) (by decide +kernel) (by decide +kernel), dfs_none _ _ _ _ (by decide +kernel) (by decide +kernel) (by decide +kernel) (by decide +kernel),
   dfs_none _ _ _ _ (by decide +kernel) (by decide +kernel) (by decide +kernel) (by decide +kernel), dfs_none _ _ _ _ (by decide +kernel) (by decide +kernel) (by decide +kernel) (by decide +kernel), dfs_none _ _ _ _ (by decide +kernel) (by decide +kernel) (by decide +kernel) (by decide +kernel),
   dfs_none _ _ _ _ (by decide +kernel) (by decide +kernel) (by decide +kernel) (by decide +kernel), dfs_none _ _ _ _ (by decide +kernel) (by decide +kernel) (by decide +kernel) (by decide +kernel)⟩
/-- the truth of a list -/
theorem tru_lst {X : Cx} {H : Hp} {l : Addr} {xs : List V} (h : H l = some (.lst xs)) : TruV X.K (.ref l) H (!xs.isEmpty) := .inl ⟨xs, SqL.of h, rfl⟩
theorem int_eq (x y : Int) : decide (V.int x = V.int y) = decide (x = y) := decide_eq_decide.mpr ⟨V.int.inj, fun h => by rw [h]⟩
/-- a list grows by a new object -/
theorem LstAt.grow {α : Type} {f : α → HO} {H : Hp} {l : Addr} {xs : List α} {rs : List Addr} {D : Addr} {x : α} (hl : H l = some (.lst (rs.map V.ref))) (h : Refs f H rs xs) (nD : H D = none) (hf : ∀ x ys, f x ≠ .lst ys) :
    LstAt f (upd (upd H D (f x)) l (.lst (rs.map V.ref ++ [.ref D]))) l (xs ++ [x]) ∧ Fr [l] H (upd (upd H D (f x)) l (.lst (rs.map V.ref ++ [.ref D]))) := by
  have nl : D ≠ l := fun z => by rw [← z, nD] at hl; cases hl
  have fr : Fr [l] H (upd (upd H D (f x)) l (.lst (rs.map V.ref ++ [.ref D]))) := fun b u e n => by
    rw [upd_ne (fun z => n (by rw [z]; simp)), upd_ne (ne_of_none e nD)]
    exact e
  refine ⟨⟨rs ++ [D], by rw [upd_same, List.map_append]; rfl, Refs.snoc ⟨h.1, fun i r y a b => fr _ _ (h.2 i r y a b) ?_⟩ (by rw [upd_ne nl, upd_same])⟩, fr⟩
  intro z
  have e := h.2 i r y a b
  rw [List.mem_singleton.mp z, hl] at e
  exact hf y _ (Option.some.inj e).symm
theorem plO_nl (x : Pl) (ys : List V) : plO x ≠ .lst ys := fun z => by unfold plO at z; cases z
theorem prO_nl (x : Nat × Nat) (ys : List V) : prO x ≠ .lst ys := fun z => by unfold prO at z; cases z
theorem stO_nl (x : St) (ys : List V) : stO x ≠ .lst ys := fun z => by unfold stO at z; cases z
theorem at_nl {α : Type} {f : α → HO} {H : Hp} {l : Addr} {zs : List V} (hl : H l = some (.lst zs)) (hf : ∀ x ys, f x ≠ .lst ys) (r : Addr) (x : α) (e : H r = some (f x)) : r ∉ [l] := fun z => by
  rw [List.mem_singleton.mp z, hl] at e
  exact hf x _ (Option.some.inj e).symm
theorem DraftAt.pushP {H : Hp} {d lp lt ls D : Addr} {L : Lore} {rp : List Addr} {p : Pl} (h : DraftAt C H d lp lt ls L) (hl : H lp = some (.lst (rp.map V.ref))) (hr : Refs plO H rp L.places) (nD : H D = none) :
    DraftAt C (upd (upd H D (plO p)) lp (.lst (rp.map V.ref ++ [.ref D]))) d lp lt ls { L with places := L.places ++ [p] } ∧ Fr [lp] H (upd (upd H D (plO p)) lp (.lst (rp.map V.ref ++ [.ref D]))) := by
  obtain ⟨a, fr⟩ := LstAt.grow (x := p) hl hr nD plO_nl
  obtain ⟨dx, ob⟩ := h.ob
  obtain ⟨e1, e2, e3⟩ := h.d_ne
  exact ⟨⟨⟨dx, fr _ _ ob (by simpa using e1)⟩, a, h.pr.keep fr (by simpa using h.n1.symm) (at_nl hl prO_nl), h.st.keep fr (by simpa using h.n2.symm) (at_nl hl stO_nl), h.n1, h.n2, h.n3⟩, fr⟩
theorem DraftAt.pushT {H : Hp} {d lp lt ls D : Addr} {L : Lore} {rp : List Addr} {p : Nat × Nat} (h : DraftAt C H d lp lt ls L) (hl : H lt = some (.lst (rp.map V.ref))) (hr : Refs prO H rp L.prices) (nD : H D = none) :
    DraftAt C (upd (upd H D (prO p)) lt (.lst (rp.map V.ref ++ [.ref D]))) d lp lt ls { L with prices := L.prices ++ [p] } ∧ Fr [lt] H (upd (upd H D (prO p)) lt (.lst (rp.map V.ref ++ [.ref D]))) := by
  obtain ⟨a, fr⟩ := LstAt.grow (x := p) hl hr nD prO_nl
  obtain ⟨dx, ob⟩ := h.ob
  obtain ⟨e1, e2, e3⟩ := h.d_ne
  exact ⟨⟨⟨dx, fr _ _ ob (by simpa using e2)⟩, h.pl.keep fr (by simpa using h.n1) (at_nl hl plO_nl), a, h.st.keep fr (by simpa using h.n3.symm) (at_nl hl stO_nl), h.n1, h.n2, h.n3⟩, fr⟩
theorem DraftAt.pushS {H : Hp} {d lp lt ls D : Addr} {L : Lore} {rp : List Addr} {p : St} (h : DraftAt C H d lp lt ls L) (hl : H ls = some (.lst (rp.map V.ref))) (hr : Refs stO H rp L.stays) (nD : H D = none) :
    DraftAt C (upd (upd H D (stO p)) ls (.lst (rp.map V.ref ++ [.ref D]))) d lp lt ls { L with stays := L.stays ++ [p] } ∧ Fr [ls] H (upd (upd H D (stO p)) ls (.lst (rp.map V.ref ++ [.ref D]))) := by
  obtain ⟨a, fr⟩ := LstAt.grow (x := p) hl hr nD stO_nl
  obtain ⟨dx, ob⟩ := h.ob
  obtain ⟨e1, e2, e3⟩ := h.d_ne
  exact ⟨⟨⟨dx, fr _ _ ob (by simpa using e3)⟩, h.pl.keep fr (by simpa using h.n2) (at_nl hl plO_nl), h.pr.keep fr (by simpa using h.n3) (at_nl hl prO_nl), a, h.n1, h.n2, h.n3⟩, fr⟩
theorem Fr.of {ms : List Addr} {H H1 H2 : Hp} (a : Same H H1) (b : Fr ms H1 H2) : Fr ms H H2 := fun c u e n => b c u (a c u e) n
theorem scPlace : FnScope ["self", "words", "inner", "name", "room", "many"] ["self", "words", "inner"] (defScope sDrPlace) := ⟨rfl, rfl, rfl, by decide +kernel, rfl, by decide +kernel, by decide +kernel⟩
theorem ok_place {f : Addr} {fd : FuncData} (F : Fun K "take_place" "Draft.take_place" sDrPlace f fd) (dc : DC K C) (T : Nm mg) (GD : GotF P w K mg base "decimal" 1 ["word"] spDec) (GN : GotF P w K mg base "is_name" 1 ["value"] spIsName) (GP : GotD P w K mg base C "has_place" 1 ["self", "name"] (spHasP C)) (GFl : GotD P w K mg base C "has_flat" 1 ["self"] (spHasF C)) :
    FnOk P w K mg base CX0 2 f fd ["self", "words", "inner"] (spPlace C) := by
  obtain ⟨fD, fdD, GD, bD, mD, kD⟩ := GD
  obtain ⟨fN, fdN, GN, bN, mN, kN⟩ := GN
  obtain ⟨fP, fdP, GP, bP, mP⟩ := GP
  obtain ⟨fL, fdL, GFl, bL, mL⟩ := GFl
  refine F.ok scPlace (fun vs H Q E h => ?_) (fun cdv A outer s H vs Q E hr h => ?_)
  · obtain ⟨d, lp, lt, ls, lw, L, x, r, n, inner, rfl, _⟩ := h
    rfl
  · obtain ⟨d, lp, lt, ls, lw, L, x, r, n, inner, rfl, hd, sm, hw, nz, p0, s0, lx, lr, hx, hp, hn, ⟨n1, n9⟩, l4, l3, q⟩ := h
    refine ⟨_, pss_cons (ps_if (PW.pt (pw_or (pt_cmpR op_eq (pe_fld (pv 0) rfl) pe_int (nomark _)) (pw_or (pt_truth (pe_fld (pv 0) rfl) (fun _ => rfl)) (pw_or (pt_truth (pe_fld (pv 0) rfl) (fun _ => rfl)) (pw_or1 (pt_cmpR op_ne (pe_callB call_len_seq (by rfl) T.len PySem.boot_len (pa_cons (pv 1) pa_nil)) pe_int (nomark _))))))) (pss_one (ps_ret pe_bl)) pss_nil)
      (pss_cons (ps_par (by rfl) scPlace.nd (i := 3) (j := 4) rfl rfl (by decide) rfl rfl (pa_cons (pe_ix ix_list (pv 1) pe_int (fun _ _ => rfl)) (pa_cons (pe_call GD hr (by rfl) mD kD bD .nil pass0 (pa_cons (pe_ix ix_list (pv 1) pe_int (fun _ _ => rfl)) pa_nil)) pa_nil)) (by rfl))
      (pss_cons (ps_if (PW.pt (pw_or (pt_not (pt_val (pe_call GN hr (by rfl) mN kN bN .nil pass0 (pa_cons (pv 3) pa_nil)))) (pw_or (pt_val (pe_meth (pv 0) dc.cl mP GP hr bP .nil pass0 (pa_cons (pv 3) pa_nil))) (pw_or1 (pt_not (pt_chain op_le op_le pe_int (pv 4) pe_int)))))) (pss_one (ps_ret pe_bl)) pss_nil)
      (pss_cons (ps_set (i := 5) scPlace.nd rfl (.inl rfl) (pe_callB call_len_seq (by rfl) T.len PySem.boot_len (pa_cons (pe_fld (pv 0) rfl) pa_nil)))
      (pss_cons (ps_if (PW.pt (pw_or (pt_cmpR op_eq (pv 5) pe_int (nomark _)) (pw_or1 (PW.pt (pw_and (pt_cmpR op_eq (pv 5) pe_int (nomark _)) (pw_and (pt_not (pt_val (pv 2))) (pw_and1 (pt_not (pt_val (pe_meth0 (pv 0) dc.cl mL GFl hr bL .nil pass0)))))))))) (pss_one (ps_ret pe_bl)) pss_nil)
      (pss_cons (ps_expr (pe_bm PySem.F.plainAttrs_list PySem.F.slot_list_append PySem.F.type_list_append mt_append (pe_fld (pv 0) rfl) (pa_cons (pe_tup (pa_cons (pv 3) (pa_cons (pv 4) (pa_cons (pv 2) pa_nil)))) pa_nil)))
      (pss_one (ps_ret pe_bl))))))), ?_⟩
    obtain ⟨dx, ob⟩ := hd.ob
    obtain ⟨rp, hlp, hrp⟩ := hd.pl
    obtain ⟨rt, hlt, hrt⟩ := hd.pr
    obtain ⟨rs, hls, hrs⟩ := hd.st
    obtain rfl : rt = [] := by have := hrt.1; rw [p0] at this; exact List.eq_nil_of_length_eq_zero this
    obtain rfl : rs = [] := by have := hrs.1; rw [s0] at this; exact List.eq_nil_of_length_eq_zero this
    obtain ⟨m1, m2, m3, m4, m5, m6, m7, m8⟩ := dfs_m L.days lp lt ls
    refine ⟨_, rfl, d, C, dx, _, _, rfl, ob, dc.cl, dc.nD, dfs_days _ _ _ _, rfl, _, rfl, ?_⟩
    rw [int_eq, show decide ((L.days : Int) = 0) = false from decide_eq_false (by omega)]
    refine iteF ⟨_, rfl, d, C, dx, _, _, rfl, ob, dc.cl, dc.nT, dfs_ta _ _ _ _, false, tru_lst hlt, iteF ?_⟩
    refine ⟨_, rfl, d, C, dx, _, _, rfl, ob, dc.cl, dc.nS, dfs_st _ _ _ _, false, tru_lst hls, iteF ?_⟩
    refine ⟨_, rfl, lw, _, rfl, .inl (SqL.of hw), rfl, _, rfl, iteF ?_⟩
    refine ⟨_, rfl, lw, _, _, _, rfl, rfl, SqL.of hw, rfl, ?_⟩
    refine ⟨_, rfl, lw, _, _, _, rfl, rfl, SqL.of hw, rfl, r, rfl, by omega, ?_⟩
    rw [hn]
    refine ⟨_, _, rfl, _, rfl, x, rfl, by omega, fun H1 e1 => ⟨_, rfl, ?_⟩⟩
    rw [hx]
    refine iteF ⟨_, rfl, d, dx, _, rfl, e1 _ _ ob, m1, _, rfl, d, lp, lt, ls, L, x, rfl, hd.same e1, sm, fun H2 e2 => ⟨_, rfl, ?_⟩⟩
    rw [hp]
    have e02 := e1.trans e2
    refine iteF ⟨_, rfl, _, _, rfl, rfl, _, rfl, ?_⟩
    rw [show decide ((1 : Int) ≤ (n : Int)) = true from decide_eq_true (by omega)]
    refine iteT ⟨_, _, rfl, rfl, _, rfl, ?_⟩
    rw [show decide ((n : Int) ≤ (9 : Int)) = true from decide_eq_true (by omega)]
    refine iteF ?_
    refine ⟨_, rfl, d, C, dx, _, _, rfl, e02 _ _ ob, dc.cl, dc.nP, dfs_pl _ _ _ _, lp, _, rfl, .inl (SqL.of (e02 _ _ hlp)), ?_⟩
    rw [List.length_map, hrp.1]
    refine ⟨_, rfl, rfl, _, rfl, ?_⟩
    rw [int_eq, show decide ((L.places.length : Int) = 4) = false from decide_eq_false (by omega)]
    refine iteF ⟨_, rfl, rfl, _, rfl, ?_⟩
    rw [int_eq]
    cases c3 : decide ((L.places.length : Int) = 3) with
    | false => 
      refine iteF (iteF ?_)
      have e03 := e02
      refine ⟨_, rfl, d, C, dx, _, _, rfl, e03 _ _ ob, dc.cl, dc.nP, dfs_pl _ _ _ _, .inl ⟨rfl, _, SqL.of (e03 _ _ hlp)⟩, ?_⟩
      refine ⟨_, rfl, _, rfl, _, rfl, (show 3 ≤ sizeLine by decide), fun D nD => ?_⟩
      obtain ⟨hd', fr⟩ := (hd.same e03).pushP (p := ⟨x, n, inner⟩) (e03 _ _ hlp) (hrp.same e03) nD
      refine ⟨lp, _, _, rfl, rfl, ?_, ?_, q _ (Fr.of e03 fr) hd'⟩
      · rw [upd_ne (ne_of_none (e03 _ _ hlp) nD)]
        exact e03 _ _ hlp
      · rw [List.length_map, hrp.1]
        exact Nat.lt_of_lt_of_le l4 (by decide)
    | true => 
      refine iteT ⟨_, rfl, _, rfl, ?_⟩
      have l3' : L.places.length = 3 := by have := of_decide_eq_true c3; omega
      cases inner with
      | true => 
        refine iteF (iteF ?_)
        have e03 := e02
        refine ⟨_, rfl, d, C, dx, _, _, rfl, e03 _ _ ob, dc.cl, dc.nP, dfs_pl _ _ _ _, .inl ⟨rfl, _, SqL.of (e03 _ _ hlp)⟩, ?_⟩
        refine ⟨_, rfl, _, rfl, _, rfl, (show 3 ≤ sizeLine by decide), fun D nD => ?_⟩
        obtain ⟨hd', fr⟩ := (hd.same e03).pushP (p := ⟨x, n, true⟩) (e03 _ _ hlp) (hrp.same e03) nD
        refine ⟨lp, _, _, rfl, rfl, ?_, ?_, q _ (Fr.of e03 fr) hd'⟩
        · rw [upd_ne (ne_of_none (e03 _ _ hlp) nD)]
          exact e03 _ _ hlp
        · rw [List.length_map, hrp.1]
          exact Nat.lt_of_lt_of_le l4 (by decide)
      | false =>
        refine iteT ⟨_, rfl, d, dx, _, rfl, e02 _ _ ob, m2, d, lp, lt, ls, L, rfl, hd.same e02, sm, fun H3 e3 => ⟨_, rfl, ?_⟩⟩
        have e03 := e02.trans e3
        rw [(l3 l3').resolve_left (by decide)]
        refine iteF ?_
        refine ⟨_, rfl, d, C, dx, _, _, rfl, e03 _ _ ob, dc.cl, dc.nP, dfs_pl _ _ _ _, .inl ⟨rfl, _, SqL.of (e03 _ _ hlp)⟩, ?_⟩
        refine ⟨_, rfl, _, rfl, _, rfl, (show 3 ≤ sizeLine by decide), fun D nD => ?_⟩
        obtain ⟨hd', fr⟩ := (hd.same e03).pushP (p := ⟨x, n, false⟩) (e03 _ _ hlp) (hrp.same e03) nD
        refine ⟨lp, _, _, rfl, rfl, ?_, ?_, q _ (Fr.of e03 fr) hd'⟩
        · rw [upd_ne (ne_of_none (e03 _ _ hlp) nD)]
          exact e03 _ _ hlp
        · rw [List.length_map, hrp.1]
          exact Nat.lt_of_lt_of_le l4 (by decide)
end
end Hs
namespace Hs
open PySem PySem.Spec PyProof.Rows L2 Am
section
variable {P : Program} {w : World} {K : PySem.W.Frag} {mg : Str → Option Value} {base : Heap} {C : Addr}
theorem scPrice : FnScope ["self", "words", "day", "number", "ahead"] ["self", "words"] (defScope sDrPrice) := ⟨rfl, rfl, rfl, by decide +kernel, rfl, by decide +kernel, by decide +kernel⟩
theorem atI_last {xs : List V} {v : V} : atI (xs ++ [v]) (-1) = some v := by
  have e : ixN (xs.length + 1) (-1) = some xs.length := by
    unfold ixN
    rw [if_neg (by decide), if_pos (by omega)]
    exact congrArg some (by omega)
  simp only [atI, List.length_append, List.length_singleton, e, Option.bind_some]
  simp
theorem if_val {c : Bool} {tA tB : TE} {σ : L2.St} {H : Hp} {Q : VK} (v : V) (h : Q v H) (hA : c = true → ∀ Q', Q' v H → tA σ H Q') (hB : c = false → ∀ Q', Q' v H → tB σ H Q') : if c = true then tA σ H Q else tB σ H Q := by
  cases c with
  | true => exact iteT (hA rfl _ h)
  | false => exact iteF (hB rfl _ h)
def ahd (ps : List (Nat × Nat)) : Int := match ps.getLast? with | some p => (p.1 : Int) | none => -1
theorem ok_price {f : Addr} {fd : FuncData} (F : Fun K "take_price" "Draft.take_price" sDrPrice f fd) (dc : DC K C) (T : Nm mg) (GD : GotF P w K mg base "decimal" 1 ["word"] spDec) (GFl : GotD P w K mg base C "has_flat" 1 ["self"] (spHasF C)) :
    FnOk P w K mg base CX0 2 f fd ["self", "words"] (spPrice C) := by
  obtain ⟨fD, fdD, GD, bD, mD, kD⟩ := GD
  obtain ⟨fL, fdL, GFl, bL, mL⟩ := GFl
  refine F.ok scPrice (fun vs H Q E h => ?_) (fun cdv A outer s H vs Q E hr h => ?_)
  · obtain ⟨d, lp, lt, ls, lw, L, x, y, a, n, rfl, _⟩ := h
    rfl
  · obtain ⟨d, lp, lt, ls, lw, L, x, y, a, n, rfl, hd, sm, hw, hf, s0, l3, lx, ly, hx, hy, hlast, ha, hn, q⟩ := h
    refine ⟨_, pss_cons (ps_if (PW.pt (pw_or (pt_not (pt_val (pe_meth0 (pv 0) dc.cl mL GFl hr bL .nil pass0))) (pw_or (pt_truth (pe_fld (pv 0) rfl) (fun _ => rfl)) (pw_or (pt_cmpR op_eq (pe_callB call_len_seq (by rfl) T.len PySem.boot_len (pa_cons (pe_fld (pv 0) rfl) pa_nil)) pe_int (nomark _)) (pw_or1 (pt_cmpR op_ne (pe_callB call_len_seq (by rfl) T.len PySem.boot_len (pa_cons (pv 1) pa_nil)) pe_int (nomark _))))))) (pss_one (ps_ret pe_bl)) pss_nil)
      (pss_cons (ps_par (by rfl) scPrice.nd (i := 2) (j := 3) rfl rfl (by decide) rfl rfl (pa_cons (pe_call GD hr (by rfl) mD kD bD .nil pass0 (pa_cons (pe_ix ix_list (pv 1) pe_int (fun _ _ => rfl)) pa_nil)) (pa_cons (pe_call GD hr (by rfl) mD kD bD .nil pass0 (pa_cons (pe_ix ix_list (pv 1) pe_int (fun _ _ => rfl)) pa_nil)) pa_nil)) (by rfl))
      (pss_cons (ps_set (i := 4) scPrice.nd rfl (.inl rfl) (pe_ifExp (pt_truth (pe_fld (pv 0) rfl) (fun _ => rfl)) (pe_ix ix_tup (pe_ix ix_list (pe_fld (pv 0) rfl) (pe_un un_neg pe_int) (fun _ _ => rfl)) pe_int (fun _ _ => rfl)) (pe_un un_neg pe_int)))
      (pss_cons (ps_if (PW.pt (pw_or (pt_not (pt_chain op_lt op_lt (pv 4) (pv 2) (pe_fld (pv 0) rfl))) (pw_or1 (pt_not (pt_chain op_le op_le pe_int (pv 3) pe_int))))) (pss_one (ps_ret pe_bl)) pss_nil)
      (pss_cons (ps_expr (pe_bm PySem.F.plainAttrs_list PySem.F.slot_list_append PySem.F.type_list_append mt_append (pe_fld (pv 0) rfl) (pa_cons (pe_tup (pa_cons (pv 2) (pa_cons (pv 3) pa_nil))) pa_nil)))
      (pss_one (ps_ret pe_bl)))))), ?_⟩
    obtain ⟨dx, ob⟩ := hd.ob
    obtain ⟨rt, hlt, hrt⟩ := hd.pr
    obtain ⟨rs, hls, hrs⟩ := hd.st
    obtain rfl : rs = [] := by have := hrs.1; rw [s0] at this; exact List.eq_nil_of_length_eq_zero this
    obtain ⟨m1, m2, m3, m4, m5, m6, m7, m8⟩ := dfs_m L.days lp lt ls
    refine ⟨_, rfl, d, dx, _, rfl, ob, m2, d, lp, lt, ls, L, rfl, hd, sm, fun H1 e1 => ⟨_, rfl, ?_⟩⟩
    rw [hf]
    refine iteF ⟨_, rfl, d, C, dx, _, _, rfl, e1 _ _ ob, dc.cl, dc.nS, dfs_st _ _ _ _, false, tru_lst (e1 _ _ hls), iteF ?_⟩
    refine ⟨_, rfl, d, C, dx, _, _, rfl, e1 _ _ ob, dc.cl, dc.nT, dfs_ta _ _ _ _, lt, _, rfl, .inl (SqL.of (e1 _ _ hlt)), ?_⟩
    rw [List.length_map, hrt.1]
    refine ⟨rfl, _, rfl, ?_⟩
    rw [int_eq, show decide ((L.prices.length : Int) = 3) = false from decide_eq_false (by omega)]
    refine iteF ⟨_, rfl, lw, _, rfl, .inl (SqL.of (e1 _ _ hw)), rfl, _, rfl, iteF ?_⟩
    refine ⟨_, rfl, lw, _, _, _, rfl, rfl, SqL.of (e1 _ _ hw), rfl, x, rfl, by omega, ?_⟩
    refine ⟨_, rfl, lw, _, _, _, rfl, rfl, SqL.of (e1 _ _ hw), rfl, y, rfl, by omega, ?_⟩
    rw [hx, hy]
    refine ⟨_, _, rfl, _, rfl, d, C, dx, _, _, rfl, e1 _ _ ob, dc.cl, dc.nT, dfs_ta _ _ _ _, _, tru_lst (e1 _ _ hlt), ?_⟩
    refine if_val (V.int (ahd L.prices)) ?_ (fun hc Q' q' => ?_) (fun hc Q' q' => ?_)
    · have lt1 : ahd L.prices < (a : Int) := by
        unfold ahd
        cases hg : L.prices.getLast? with
        | none => show (-1 : Int) < _; omega
        | some p => have := hlast p hg; show (p.1 : Int) < _; omega
      refine ⟨_, rfl, _, rfl, _, _, rfl, rfl, _, rfl, ?_⟩
      rw [show decide (ahd L.prices < (a : Int)) = true from decide_eq_true lt1]
      refine iteT ⟨_, rfl, d, C, dx, _, _, rfl, e1 _ _ ob, dc.cl, dc.nD, dfs_days _ _ _ _, _, _, rfl, rfl, _, rfl, ?_⟩
      rw [show decide ((a : Int) < (L.days : Int)) = true from decide_eq_true (by omega)]
      refine iteF ⟨_, rfl, _, _, rfl, rfl, _, rfl, ?_⟩
      rw [show decide ((0 : Int) ≤ (n : Int)) = true from decide_eq_true (by omega)]
      refine iteT ⟨_, _, rfl, rfl, _, rfl, ?_⟩
      rw [show decide ((n : Int) ≤ (99 : Int)) = true from decide_eq_true (by omega)]
      refine iteF ?_
      refine ⟨_, rfl, d, C, dx, _, _, rfl, e1 _ _ ob, dc.cl, dc.nT, dfs_ta _ _ _ _, .inl ⟨rfl, _, SqL.of (e1 _ _ hlt)⟩, ?_⟩
      refine ⟨_, rfl, _, rfl, (show 2 ≤ sizeLine by decide), fun D nD => ?_⟩
      obtain ⟨hd', fr⟩ := (hd.same e1).pushT (p := (a, n)) (e1 _ _ hlt) (hrt.same e1) nD
      refine ⟨lt, _, _, rfl, rfl, ?_, ?_, q _ (Fr.of e1 fr) hd'⟩
      · rw [upd_ne (ne_of_none (e1 _ _ hlt) nD)]
        exact e1 _ _ hlt
      · rw [List.length_map, hrt.1]
        exact Nat.lt_of_lt_of_le l3 (by decide)
    · rcases List.eq_nil_or_concat L.prices with hz | ⟨ys, p, hz⟩
      · obtain rfl : rt = [] := by have := hrt.1; rw [hz] at this; exact List.eq_nil_of_length_eq_zero this
        cases hc
      · rw [List.concat_eq_append] at hz
        obtain ⟨hle, hat⟩ := id hrt
        rcases List.eq_nil_or_concat rt with hz2 | ⟨rs, r, hz2⟩
        · rw [hz, hz2] at hle
          simp at hle
        rw [List.concat_eq_append] at hz2
        subst hz2
        rw [hz] at hle hat
        have hle' : rs.length = ys.length := by simpa using hle
        have ho := hat rs.length r p (by simp) (by rw [hle']; simp)
        have ev : ahd L.prices = (p.1 : Int) := by
          unfold ahd
          rw [hz, List.getLast?_append]
          rfl
        rw [ev] at q'
        refine ⟨_, rfl, d, C, dx, _, _, rfl, e1 _ _ ob, dc.cl, dc.nT, dfs_ta _ _ _ _, _, rfl, lt, _, _, .ref r, rfl, rfl, SqL.of (e1 _ _ hlt), by rw [List.map_append]; exact atI_last, r, _, _, _, rfl, rfl, SqT.of (e1 _ _ ho), rfl, q'⟩
    · rcases List.eq_nil_or_concat L.prices with hz | ⟨ys, p, hz⟩
      · rw [hz] at q'
        exact ⟨_, rfl, q'⟩
      · have := hrt.1
        rw [hz, List.concat_eq_append, List.length_append, List.length_singleton] at this
        have he : rt ≠ [] := fun z => by rw [z] at this; simp at this
        cases rt with
        | nil => exact absurd rfl he
        | cons _ _ => cases hc
end
end Hs
/-! chains of comparisons, however long -/
namespace Chn
open PySem PySem.Spec PyProof.Rows L2
structure PCh (X : Cx) (ops : List CmpOp) (es : List Expr) (t : V → TT) : Prop where
  run : ∀ (pins : List (Addr × Obj)) (s : Shared) (σ : L2.St) (H : Hp) (Q : Bool → Hp → Prop) (pos : Pos) (x : V) (v : Value), L2.Inv X pins σ H s → L2.RelV x v → t x σ H Q →
    wpAny (model X.prog X.w) X.A (testChain pos v ops (evalEach es X.env)) (TP X pins σ Q) X.xe s
def cLast (r : R2) (tb : TE) : V → TT := fun x σ H Q => tb σ H fun y H2 => r x y H2 fun z H3 => ∃ k, z = .bl k ∧ Q k H3
def cLink (r : R2) (tb : TE) (t : V → TT) : V → TT := fun x σ H Q => tb σ H fun y H2 => r x y H2 fun z H3 => ∃ k, z = .bl k ∧ if k = true then t y σ H3 Q else Q false H3
def tChn (ta : TE) (t : V → TT) : TT := fun σ H Q => ta σ H fun x H1 => t x σ H1 Q
variable {X : Cx}
theorem c_last {op : CmpOp} {b : Expr} {r : R2} {tb : TE} (ho : OpR X (compareOp op) r) (hb : PE X b tb) : PCh X [op] [b] (cLast r tb) := by
  refine ⟨fun pins s σ H Q pos x v I rv q => test_last (thn (hb.run pins s σ H _ I q) ?_)⟩
  rintro u s2 ⟨y, H2, I2, r2, q2⟩
  refine thn (ho pins s2 σ H2 x y v u _ I2 rv r2 q2) ?_
  rintro d s3 ⟨z, H3, I3, r3, k, rfl, q3⟩
  cases r3
  exact wpAny_truthy_bool ⟨H3, I3, q3⟩
theorem c_link {op op' : CmpOp} {ops : List CmpOp} {b b' : Expr} {bs : List Expr} {r : R2} {tb : TE} {t : V → TT} (ho : OpR X (compareOp op) r) (hb : PE X b tb) (h : PCh X (op' :: ops) (b' :: bs) t) : PCh X (op :: op' :: ops) (b :: b' :: bs) (cLink r tb t) := by
  refine ⟨fun pins s σ H Q pos x v I rv q => test_link (thn (hb.run pins s σ H _ I q) ?_)⟩
  rintro u s2 ⟨y, H2, I2, r2, q2⟩
  refine thn (ho pins s2 σ H2 x y v u _ I2 rv r2 q2) ?_
  rintro d s3 ⟨z, H3, I3, r3, k, rfl, q3⟩
  cases r3
  refine wpAny_truthy_bool ?_
  cases k with
  | true => exact ite_tt (h.run pins s3 σ H3 Q pos y u I3 r2 q3)
  | false => exact ite_ff ⟨H3, I3, q3⟩
theorem pt_chn {a b b' : Expr} {bs : List Expr} {op op' : CmpOp} {ops : List CmpOp} {ta : TE} {t : V → TT} {pos : Pos} (ha : PE X a ta) (h : PCh X (op :: op' :: ops) (b :: b' :: bs) t) (hm : lastMarks (op :: op' :: ops) (b :: b' :: bs) = false := by rfl) :
    PT X (a.Compare (op :: op' :: ops) (b :: b' :: bs) pos) (tChn ta t) := by
  refine ⟨fun pins s σ H Q I q => isTrue_chain (thn (ha.run pins s σ H _ I q) ?_) hm⟩
  rintro v s1 ⟨x, H1, I1, r1, q1⟩
  exact h.run pins s1 σ H1 Q pos x v I1 r1 q1
end Chn
namespace Hs
open PySem PySem.Spec PyProof.Rows L2 Am
section
variable {P : Program} {w : World} {K : PySem.W.Frag} {mg : Str → Option Value} {base : Heap} {C : Addr}
theorem scStay : FnScope ["self", "words", "person", "place", "first", "behind"] ["self", "words"] (defScope sDrStay) := ⟨rfl, rfl, rfl, by decide +kernel, rfl, by decide +kernel, by decide +kernel⟩
theorem ok_stay {f : Addr} {fd : FuncData} (F : Fun K "take_stay" "Draft.take_stay" sDrStay f fd) (dc : DC K C) (T : Nm mg) (GD : GotF P w K mg base "decimal" 1 ["word"] spDec) (GN : GotF P w K mg base "is_name" 1 ["value"] spIsName) (GP : GotD P w K mg base C "has_place" 1 ["self", "name"] (spHasP C)) (GFl : GotD P w K mg base C "has_flat" 1 ["self"] (spHasF C)) (GL : GotD P w K mg base C "is_let" 1 ["self", "name", "first", "behind"] (spIsLet C)) :
    FnOk P w K mg base CX0 2 f fd ["self", "words"] (spStay C) := by
  obtain ⟨fD, fdD, GD, bD, mD, kD⟩ := GD
  obtain ⟨fN, fdN, GN, bN, mN, kN⟩ := GN
  obtain ⟨fP, fdP, GP, bP, mP⟩ := GP
  obtain ⟨fL, fdL, GFl, bL, mL⟩ := GFl
  obtain ⟨fI, fdI, GL, bI, mI⟩ := GL
  refine F.ok scStay (fun vs H Q E h => ?_) (fun cdv A outer s H vs Q E hr h => ?_)
  · obtain ⟨d, lp, lt, ls, lw, L, x, y, u, v, a, b, rfl, _⟩ := h
    rfl
  · obtain ⟨d, lp, lt, ls, lw, L, x, y, u, v, a, b, rfl, hd, sm, hw, hf, l8, lx, ly, lu, lv, hx, hy, hu, hv, hab, hb, hlet, q⟩ := h
    refine ⟨_, pss_cons (ps_if (PW.pt (pw_or (pt_not (pt_val (pe_meth0 (pv 0) dc.cl mL GFl hr bL .nil pass0))) (pw_or (pt_cmpR op_eq (pe_callB call_len_seq (by rfl) T.len PySem.boot_len (pa_cons (pe_fld (pv 0) rfl) pa_nil)) pe_int (nomark _)) (pw_or1 (pt_cmpR op_ne (pe_callB call_len_seq (by rfl) T.len PySem.boot_len (pa_cons (pv 1) pa_nil)) pe_int (nomark _)))))) (pss_one (ps_ret pe_bl)) pss_nil)
      (pss_cons (ps_asg (g := gTup K 4 (gCons (gName 2) (gCons (gName 3) (gCons (gName 4) (gCons (gName 5) gNil))))) (pe_tup (pa_cons (pe_ix ix_list (pv 1) pe_int (fun _ _ => rfl)) (pa_cons (pe_ix ix_list (pv 1) pe_int (fun _ _ => rfl)) (pa_cons (pe_call GD hr (by rfl) mD kD bD .nil pass0 (pa_cons (pe_ix ix_list (pv 1) pe_int (fun _ _ => rfl)) pa_nil)) (pa_cons (pe_call GD hr (by rfl) mD kD bD .nil pass0 (pa_cons (pe_ix ix_list (pv 1) pe_int (fun _ _ => rfl)) pa_nil)) pa_nil)))))
        (pg_tup rfl (pgs_cons (pg_name (i := 2) scStay.nd rfl (.inl rfl)) (pgs_cons (pg_name (i := 3) scStay.nd rfl (.inl rfl)) (pgs_cons (pg_name (i := 4) scStay.nd rfl (.inl rfl)) (pgs_cons (pg_name (i := 5) scStay.nd rfl (.inl rfl)) pgs_nil))))))
      (pss_cons (ps_if (PW.pt (pw_or (pt_not (pt_val (pe_call GN hr (by rfl) mN kN bN .nil pass0 (pa_cons (pv 2) pa_nil)))) (pw_or1 (pt_not (pt_val (pe_meth (pv 0) dc.cl mP GP hr bP .nil pass0 (pa_cons (pv 3) pa_nil))))))) (pss_one (ps_ret pe_bl)) pss_nil)
      (pss_cons (ps_if (PW.pt (pw_or (pt_not (Chn.pt_chn pe_int (Chn.c_link op_le (pv 4) (Chn.c_link op_lt (pv 5) (Chn.c_last op_le (pe_fld (pv 0) rfl)))))) (pw_or1 (pt_val (pe_meth (pv 0) dc.cl mI GL hr bI .nil pass0 (pa_cons (pv 3) (pa_cons (pv 4) (pa_cons (pv 5) pa_nil)))))))) (pss_one (ps_ret pe_bl)) pss_nil)
      (pss_cons (ps_expr (pe_bm PySem.F.plainAttrs_list PySem.F.slot_list_append PySem.F.type_list_append mt_append (pe_fld (pv 0) rfl) (pa_cons (pe_tup (pa_cons (pv 2) (pa_cons (pv 3) (pa_cons (pv 4) (pa_cons (pv 5) pa_nil))))) pa_nil)))
      (pss_one (ps_ret pe_bl)))))), ?_⟩
    obtain ⟨dx, ob⟩ := hd.ob
    obtain ⟨rs, hls, hrs⟩ := hd.st
    obtain ⟨m1, m2, m3, m4, m5, m6, m7, m8⟩ := dfs_m L.days lp lt ls
    have lens : L.stays.length ≤ 8 := by omega
    refine ⟨_, rfl, d, dx, _, rfl, ob, m2, d, lp, lt, ls, L, rfl, hd, sm, fun H1 e1 => ⟨_, rfl, ?_⟩⟩
    rw [hf]
    refine iteF ⟨_, rfl, d, C, dx, _, _, rfl, e1 _ _ ob, dc.cl, dc.nS, dfs_st _ _ _ _, ls, _, rfl, .inl (SqL.of (e1 _ _ hls)), ?_⟩
    rw [List.length_map, hrs.1]
    refine ⟨rfl, _, rfl, ?_⟩
    rw [int_eq, show decide ((L.stays.length : Int) = 8) = false from decide_eq_false (by omega)]
    refine iteF ⟨_, rfl, lw, _, rfl, .inl (SqL.of (e1 _ _ hw)), rfl, _, rfl, iteF ?_⟩
    refine ⟨_, rfl, lw, _, _, _, rfl, rfl, SqL.of (e1 _ _ hw), rfl, ?_⟩
    refine ⟨_, rfl, lw, _, _, _, rfl, rfl, SqL.of (e1 _ _ hw), rfl, ?_⟩
    refine ⟨_, rfl, lw, _, _, _, rfl, rfl, SqL.of (e1 _ _ hw), rfl, u, rfl, by omega, ?_⟩
    refine ⟨_, rfl, lw, _, _, _, rfl, rfl, SqL.of (e1 _ _ hw), rfl, v, rfl, by omega, ?_⟩
    rw [hu, hv]
    refine ⟨(show 4 ≤ sizeLine by decide), fun D0 nD0 => ?_⟩
    have e01 := e1.trans (same_upd (o := .tup [.str x, .str y, .int a, .int b]) nD0)
    refine ⟨D0, _, rfl, SqT.of upd_same, rfl, _, _, rfl, _, _, rfl, _, _, rfl, _, _, rfl, rfl, ?_⟩
    refine ⟨_, rfl, x, rfl, by omega, fun H2 e2 => ⟨_, rfl, ?_⟩⟩
    rw [hx]
    have e02 := e01.trans e2
    refine iteF ⟨_, rfl, d, dx, _, rfl, e02 _ _ ob, m1, _, rfl, d, lp, lt, ls, L, y, rfl, hd.same e02, sm, fun H3 e3 => ⟨_, rfl, ?_⟩⟩
    rw [hy]
    have e03 := e02.trans e3
    refine iteF ?_
    refine ⟨_, rfl, _, _, rfl, rfl, _, rfl, ?_⟩
    rw [show decide ((0 : Int) ≤ (a : Int)) = true from decide_eq_true (by omega)]
    refine iteT ⟨_, rfl, _, _, rfl, rfl, _, rfl, ?_⟩
    rw [show decide ((a : Int) < (b : Int)) = true from decide_eq_true (by omega)]
    refine iteT ⟨_, rfl, d, C, dx, _, _, rfl, e03 _ _ ob, dc.cl, dc.nD, dfs_days _ _ _ _, _, _, rfl, rfl, _, rfl, ?_⟩
    rw [show decide ((b : Int) ≤ (L.days : Int)) = true from decide_eq_true (by omega)]
    refine iteF ⟨_, rfl, d, dx, _, rfl, e03 _ _ ob, m3, _, rfl, _, rfl, _, rfl, d, lp, lt, ls, L, y, a, b, rfl, hd.same e03, sm, fun H4 e4 => ⟨_, rfl, ?_⟩⟩
    rw [hlet]
    have e04 := e03.trans e4
    refine iteF ⟨_, rfl, d, C, dx, _, _, rfl, e04 _ _ ob, dc.cl, dc.nS, dfs_st _ _ _ _, .inl ⟨rfl, _, SqL.of (e04 _ _ hls)⟩, ?_⟩
    refine ⟨_, rfl, _, rfl, _, rfl, _, rfl, (show 4 ≤ sizeLine by decide), fun D nD => ?_⟩
    obtain ⟨hd', fr⟩ := (hd.same e04).pushS (p := ⟨x, y, a, b⟩) (e04 _ _ hls) (hrs.same e04) nD
    refine ⟨ls, _, _, rfl, rfl, ?_, ?_, q _ (Fr.of e04 fr) hd'⟩
    · rw [upd_ne (ne_of_none (e04 _ _ hls) nD)]
      exact e04 _ _ hls
    · rw [List.length_map, hrs.1]
      exact Nat.lt_of_lt_of_le l8 (by decide)
end
end Hs
namespace Hs
open PySem PySem.Spec PyProof.Rows L2 Am
/-- a line that may stand behind what is told -/
inductive Step (L : Lore) (ln : Str) : Lore → Prop
  | days {x : Str} {n : Nat} : Txt.split ln " " = [("days" : Str), x] → L.days = 0 → x.length ≤ 600 → Mt.num x.cps.toList = n → (1 ≤ n ∧ n ≤ 14) → Step L ln { L with days := n }
  | place {x r : Str} {n : Nat} {inner : Bool} : Txt.split ln " " = [(if inner then ("flat" : Str) else ("bare" : Str)), x, r] → L.days ≠ 0 → L.prices = [] → L.stays = [] → x.length ≤ 600 → r.length ≤ 600 → nameB x = true → hasP L x = false → Mt.num r.cps.toList = n → (1 ≤ n ∧ n ≤ 9) →
      L.places.length < 4 → (L.places.length = 3 → inner = true ∨ hasF L = true) → Step L ln { L with places := L.places ++ [⟨x, n, inner⟩] }
  | price {x y : Str} {a n : Nat} : Txt.split ln " " = [("price" : Str), x, y] → hasF L = true → L.stays = [] → L.prices.length < 3 → x.length ≤ 600 → y.length ≤ 600 → Mt.num x.cps.toList = a → Mt.num y.cps.toList = n → (∀ p, L.prices.getLast? = some p → p.1 < a) → a < L.days → n ≤ 99 → Step L ln { L with prices := L.prices ++ [(a, n)] }
  | stay {x y u v : Str} {a b : Nat} : Txt.split ln " " = [("lives" : Str), x, y, u, v] → hasF L = true → L.stays.length < 8 → x.length ≤ 600 → y.length ≤ 600 → u.length ≤ 600 → v.length ≤ 600 → nameB x = true → hasP L y = true → Mt.num u.cps.toList = a → Mt.num v.cps.toList = b → a < b → b ≤ L.days → letS L y a b = false → Step L ln { L with stays := L.stays ++ [⟨x, y, a, b⟩] }
theorem Step.small {L L' : Lore} {ln : Str} (h : Step L ln L') (s : Small L) : Small L' := by
  obtain ⟨a, b, c⟩ := s
  cases h with
  | days => exact ⟨a, b, c⟩
  | place => exact ⟨by simp only [List.length_append, List.length_singleton]; omega, b, c⟩
  | price => exact ⟨a, by simp only [List.length_append, List.length_singleton]; omega, c⟩
  | stay => exact ⟨a, b, by simp only [List.length_append, List.length_singleton]; omega⟩
def spTake (C : Addr) : Sp := fun vs H Q _ => ∃ (d lp lt ls : Addr) (L L' : Lore) (ln : Str), vs = [.ref d, .str ln] ∧ DraftAt C H d lp lt ls L ∧ Small L ∧ ln.length ≤ 4000 ∧ Step L ln L' ∧
  ∀ H', Fr [d, lp, lt, ls] H H' → DraftAt C H' d lp lt ls L' → Q (.bl true) H'
section
variable {P : Program} {w : World} {K : PySem.W.Frag} {mg : Str → Option Value} {base : Heap} {C : Addr}
theorem scTake : FnScope ["self", "line", "kind", "words"] ["self", "line"] (defScope sDrTake) := ⟨rfl, rfl, rfl, by decide +kernel, rfl, by decide +kernel, by decide +kernel⟩
theorem ok_take {f : Addr} {fd : FuncData} (F : Fun K "take" "Draft.take" sDrTake f fd) (dc : DC K C) (G1 : GotD P w K mg base C "take_days" 2 ["self", "words"] (spDays C)) (G2 : GotD P w K mg base C "take_place" 2 ["self", "words", "inner"] (spPlace C)) (G3 : GotD P w K mg base C "take_price" 2 ["self", "words"] (spPrice C)) (G4 : GotD P w K mg base C "take_stay" 2 ["self", "words"] (spStay C)) :
    FnOk P w K mg base CX0 3 f fd ["self", "line"] (spTake C) := by
  obtain ⟨f1, fd1, G1, b1, k1⟩ := G1
  obtain ⟨f2, fd2, G2, b2, k2⟩ := G2
  obtain ⟨f3, fd3, G3, b3, k3⟩ := G3
  obtain ⟨f4, fd4, G4, b4, k4⟩ := G4
  refine F.ok scTake (fun vs H Q E h => ?_) (fun cdv A outer s H vs Q E hr h => ?_)
  · obtain ⟨d, lp, lt, ls, L, L', ln, rfl, _⟩ := h
    rfl
  · obtain ⟨d, lp, lt, ls, L, L', ln, rfl, hd, sm, hln, st, q⟩ := h
    refine ⟨_, pss_cons (ps_asg (g := Stt.gStar K (gCons (gName 2) (gCons (gName 3) gNil))) (pe_split (pv 1) pe_str) (Stt.pg_star rfl (pgs_cons (pg_name (i := 2) scTake.nd rfl (.inl rfl)) (Stt.pgs_star (pg_name (i := 3) scTake.nd rfl (.inl rfl))))))
      (pss_cons (ps_if (pt_cmpR op_eq (pv 2) pe_str (nomark _)) (pss_one (ps_ret (pe_meth (pv 0) dc.cl k1 G1 hr b1 .nil pass0 (pa_cons (pv 3) pa_nil)))) pss_nil)
      (pss_cons (ps_if (PW.pt (pw_or (pt_cmpR op_eq (pv 2) pe_str (nomark _)) (pw_or1 (pt_cmpR op_eq (pv 2) pe_str (nomark _))))) (pss_one (ps_ret (pe_meth (pv 0) dc.cl k2 G2 hr b2 .nil pass0 (pa_cons (pv 3) (pa_cons (pe_cmpR op_eq (pv 2) pe_str (nomark _)) pa_nil))))) pss_nil)
      (pss_cons (ps_if (pt_cmpR op_eq (pv 2) pe_str (nomark _)) (pss_one (ps_ret (pe_meth (pv 0) dc.cl k3 G3 hr b3 .nil pass0 (pa_cons (pv 3) pa_nil)))) pss_nil)
      (pss_cons (ps_if (pt_cmpR op_eq (pv 2) pe_str (nomark _)) (pss_one (ps_ret (pe_meth (pv 0) dc.cl k4 G4 hr b4 .nil pass0 (pa_cons (pv 3) pa_nil)))) pss_nil)
      (pss_one (ps_ret pe_bl)))))), ?_⟩
    obtain ⟨dx, ob⟩ := hd.ob
    obtain ⟨m1, m2, m3, m4, m5, m6, m7, m8⟩ := dfs_m L.days lp lt ls
    refine ⟨_, rfl, ⟨_, rfl⟩, _, _, rfl, rfl, by decide +kernel, Nat.le_trans (show ln.length + 2 ≤ 4002 by omega) (by decide), fun D nD => ?_⟩
    have e1 := same_upd (o := .lst ((Txt.split ln " ").map V.str)) nD
    have no : ∀ {u v : Str} {A B : Prop}, ¬ u = v → B → if (decide (V.str u = V.str v)) = true then A else B := fun h b => by
      rw [str_eq, decide_eq_false h]
      exact iteF b
    have big : ∀ {k : Nat}, k ≤ 10 → k ≤ 1000 := fun h => by omega
    cases st with
    | @days x n hs h0 lx hx hn =>
      rw [hs] at e1 ⊢
      refine ⟨D, _, _, rfl, SqL.of upd_same, big (show 1 ≤ 10 by decide), fun D2 nD2 => ?_⟩
      have e2 := e1.trans (same_upd (o := .lst [V.str x]) nD2)
      refine ⟨_, _, rfl, _, _, rfl, rfl, ⟨_, rfl, rfl, _, rfl, iteT ?_⟩⟩
      exact ⟨_, rfl, d, dx, _, rfl, e2 _ _ ob, m4, _, rfl, d, lp, lt, ls, D2, L, x, n, rfl, hd.same e2, upd_same, h0, lx, hx, hn, fun H' fr hd' => q _ (Fr.mono (Fr.of e2 fr) (by simp)) hd'⟩
    | @place x r n inner hs h0 p0 s0 lx lr hx hp hn n19 l4 l3 =>
      rw [hs] at e1 ⊢
      refine ⟨D, _, _, rfl, SqL.of upd_same, big (show 2 ≤ 10 by decide), fun D2 nD2 => ?_⟩
      have e2 := e1.trans (same_upd (o := .lst [V.str x, V.str r]) nD2)
      refine ⟨_, _, rfl, _, _, rfl, rfl, ⟨_, rfl, rfl, _, rfl, no (by cases inner <;> decide +kernel) ?_⟩⟩
      cases inner with
      | true =>
        refine ⟨_, rfl, rfl, _, rfl, iteT (iteT ?_)⟩
        exact ⟨_, rfl, d, dx, _, rfl, e2 _ _ ob, m5, _, rfl, _, rfl, rfl, d, lp, lt, ls, D2, L, x, r, n, true, rfl, hd.same e2, sm, upd_same, h0, p0, s0, lx, lr, hx, hp, hn, n19, l4, l3, fun H' fr hd' => q _ (Fr.mono (Fr.of e2 fr) (by simp)) hd'⟩
      | false =>
        refine ⟨_, rfl, rfl, _, rfl, iteF ⟨_, rfl, rfl, _, rfl, iteT ?_⟩⟩
        exact ⟨_, rfl, d, dx, _, rfl, e2 _ _ ob, m5, _, rfl, _, rfl, rfl, d, lp, lt, ls, D2, L, x, r, n, false, rfl, hd.same e2, sm, upd_same, h0, p0, s0, lx, lr, hx, hp, hn, n19, l4, l3, fun H' fr hd' => q _ (Fr.mono (Fr.of e2 fr) (by simp)) hd'⟩
    | @price x y a n hs hf s0 l3 lx ly hx hy hl ha hn =>
      rw [hs] at e1 ⊢
      refine ⟨D, _, _, rfl, SqL.of upd_same, big (show 2 ≤ 10 by decide), fun D2 nD2 => ?_⟩
      have e2 := e1.trans (same_upd (o := .lst [V.str x, V.str y]) nD2)
      refine ⟨_, _, rfl, _, _, rfl, rfl, ⟨_, rfl, rfl, _, rfl, no (by decide +kernel) ?_⟩⟩
      refine ⟨_, rfl, rfl, _, rfl, no (by decide +kernel) ⟨_, rfl, rfl, _, rfl, no (by decide +kernel) ⟨_, rfl, rfl, _, rfl, iteT ?_⟩⟩⟩
      exact ⟨_, rfl, d, dx, _, rfl, e2 _ _ ob, m6, _, rfl, d, lp, lt, ls, D2, L, x, y, a, n, rfl, hd.same e2, sm, upd_same, hf, s0, l3, lx, ly, hx, hy, hl, ha, hn, fun H' fr hd' => q _ (Fr.mono (Fr.of e2 fr) (by simp)) hd'⟩
    | @stay x y u v a b hs hf l8 lx ly lu lv hx hy hu hv hab hb hl =>
      rw [hs] at e1 ⊢
      refine ⟨D, _, _, rfl, SqL.of upd_same, big (show 4 ≤ 10 by decide), fun D2 nD2 => ?_⟩
      have e2 := e1.trans (same_upd (o := .lst [V.str x, V.str y, V.str u, V.str v]) nD2)
      refine ⟨_, _, rfl, _, _, rfl, rfl, ⟨_, rfl, rfl, _, rfl, no (by decide +kernel) ?_⟩⟩
      refine ⟨_, rfl, rfl, _, rfl, no (by decide +kernel) ⟨_, rfl, rfl, _, rfl, no (by decide +kernel) ⟨_, rfl, rfl, _, rfl, no (by decide +kernel) ⟨_, rfl, rfl, _, rfl, iteT ?_⟩⟩⟩⟩
      exact ⟨_, rfl, d, dx, _, rfl, e2 _ _ ob, m7, _, rfl, d, lp, lt, ls, D2, L, x, y, u, v, a, b, rfl, hd.same e2, sm, upd_same, hf, l8, lx, ly, lu, lv, hx, hy, hu, hv, hab, hb, hl, fun H' fr hd' => q _ (Fr.mono (Fr.of e2 fr) (by simp)) hd'⟩
end
end Hs
/-! for k, x in enumerate(xs, start=..) -/
namespace Enu
open PySem PySem.Spec PyProof.Rows L2
theorem callWith_type_kwB {M : Model} {A : Around} {E : Value → Shared → Prop} {s : Shared} {pos : Pos} {T : String} {first : List Value} {args : List (Bool × Sem Value)} {keywords : List (Option Str × Sem Value)} {Q : Value → Shared → Prop}
    (hplain : (args.any fun x => x.fst) = false) (hkw : (keywords.any fun x => x.fst.isNone) = false)
    (h : wpAny M A (evalArgs (Value.type T) true args keywords) (fun a s₁ => wpAny M A (call (Value.type T) (first ++ a.pos) a.kw) Q E s₁) E s) : wpAny M A (callWith pos (Value.type T) first args keywords) Q E s := by
  unfold callWith
  refine wpAny_bind (wpAny_holding (wpAny_mono h (fun a s₁ h₁ => ?_) fun _ _ z => z))
  refine wpAny_bind (wpAny_standAt ?_)
  simp only [hplain, hkw, Bool.or_false]
  refine wpAny_bind (wpAny_pure ?_)
  refine wpAny_bind (wpAny_mono h₁ (fun r s₂ hr => wpAny_bind (wpAny_holding (wpAny_point (wpAny_pure hr)))) fun _ _ z => z)
def IteF (K : PySem.W.Frag) (a : Addr) (k : Int) : It :=
  { go := fun i H => ∃ xs x, SqL K H a xs ∧ xs[i]? = some x
    yld := fun i H v H' => ∃ T x, v = V.ref T ∧ H T = none ∧ H' = upd H T (HO.tup [V.int (k + i), x]) ∧ ∀ (xs : List V), SqL K H a xs → xs[i]? = some x
    stop := fun i H => ∃ xs, SqL K H a xs ∧ xs.length = i }
theorem turn_enumF {P : Program} {w : World} {K : PySem.W.Frag} {elts : List Expr} {kk : Nat} {tpos : Pos} (a e it : Addr) (k : Int) :
    Turn P w K (Expr.Tuple elts kk tpos) (IteF K a k) [e, it] e fun i h => (∃ old, IsEnum h e it (k + i) old) ∧ h.IsListIter it a i ∧ e ≠ it := by
  refine ⟨by simp, ?_, ?_, ?_, ?_, ?_⟩
  · rintro i h ⟨⟨old, he⟩, ⟨o, ho, hc, hd⟩, ne⟩ b hb
    have e' : b = e ∨ b = it := by simpa using hb
    rcases e' with rfl | rfl
    · exact ⟨_, he, fun v q => nomatch q⟩
    · exact ⟨o, ho, fun v q => by rw [hd] at q; exact nomatch q⟩
  · rintro i h h' ⟨⟨old, he⟩, hi, ne⟩ kp
    exact ⟨⟨old, kp e (by simp) _ he⟩, hi.at fun o q => kp it (by simp) o q, ne⟩
  · rintro X rfl rfl rfl hc i pins s σ H E I hf ⟨⟨old, he⟩, hit, ne⟩ ⟨xs, x, hq, hx⟩
    obtain ⟨its, rv, p, hz⟩ := I.list hq
    obtain ⟨u, hu, ru⟩ := Vals.get rv hx
    have hel := Heap.lt_size he
    have hil : it < s.heap.objs.size := by obtain ⟨w, q, _⟩ := hit; exact Heap.lt_size q
    have hal : s.heap.IsList a its.toArray := p.isList
    have nai : a ≠ it := by
      rintro rfl
      obtain ⟨o1, q1, c1, _⟩ := id hit
      obtain ⟨o2, q2, c2, _⟩ := id hal
      rw [q1] at q2
      cases q2
      rw [c1] at c2
      exact absurd c2 (by decide)
    have nae : a ≠ e := by
      rintro rfl
      obtain ⟨o2, q2, c2, _⟩ := id hal
      have := he.symm.trans q2
      cases this
      exact absurd (show Value.type "enumerate" = Value.type "list" from c2) (by decide)
    have G := GoesN.enumFrom (elts := elts) (x1 := kk) (pos := tpos) k (Draws.list (prog := X.prog) (w := X.w) (A := X.A.in1) (I.ok.hd hc) it a nai its.toArray) e ne (by simp [ne, nae.symm]) (by simp)
    have ilt : i < its.toArray.size := by
      have h1 := (List.getElem?_eq_some_iff.mp hu).1
      simpa using h1
    refine G.goes i s _ E ilt ⟨⟨old, he⟩, hit, hal⟩ ?_
    rintro v h' tk ⟨T, t, y, rfl, hT, hy, hTu⟩ ⟨hen, hit', hal'⟩ kp htk
    have ey : y = u := by
      have h1 : its.toArray[i]? = some u := by rw [List.getElem?_toArray]; exact hu
      exact Option.some.inj (hy.symm.trans h1)
    subst ey
    obtain ⟨oT, qT, cT, nT, dT⟩ := hTu
    refine ⟨.ref T, upd H T (.tup [.int (k + i), x]), Inv.turnedNew (ch := [e, it]) I (fun b o nb z => kp b o nb z) hf hT ?_, rfl, ⟨T, x, rfl, I.hok.fresh hT, rfl, fun ys hys => ?_⟩, ⟨?_, hit', ne⟩, fun b hb => ?_⟩
    · exact ⟨(show 2 ≤ sizeLine by decide), [Value.int (k + i) t, y], .cons ⟨t, rfl⟩ (.cons ru .nil), oT, qT, cT, nT, dT⟩
    · rw [I.list_inj hys hq]
      exact hx
    · exact hen
    · have e' : b = e ∨ b = it := by simpa using hb
      have hlt : b < s.heap.objs.size := by rcases e' with rfl | rfl <;> assumption
      rw [upd_ne (Nat.ne_of_lt (Nat.lt_of_lt_of_le hlt hT))]
      exact (hf b hb).1
  · rintro X rfl rfl rfl hc i pins s σ H E I hf ⟨⟨old, he⟩, hit, ne⟩ ⟨xs, hq, hx⟩
    obtain ⟨its, rv, p, hz⟩ := I.list hq
    have hal : s.heap.IsList a its.toArray := p.isList
    have nai : a ≠ it := by
      rintro rfl
      obtain ⟨o1, q1, c1, _⟩ := id hit
      obtain ⟨o2, q2, c2, _⟩ := id hal
      rw [q1] at q2
      cases q2
      rw [c1] at c2
      exact absurd c2 (by decide)
    have nae : a ≠ e := by
      rintro rfl
      obtain ⟨o2, q2, c2, _⟩ := id hal
      have := he.symm.trans q2
      cases this
      exact absurd (show Value.type "enumerate" = Value.type "list" from c2) (by decide)
    have G := GoesN.enumFrom (elts := elts) (x1 := kk) (pos := tpos) k (Draws.list (prog := X.prog) (w := X.w) (A := X.A.in1) (I.ok.hd hc) it a nai its.toArray) e ne (by simp [ne, nae.symm]) (by simp)
    have en : its.toArray.size = i := by
      rw [← hx, rv.length]
      simp
    rw [← en] at he hit
    refine wpAny_mono (G.stops s (fun s1 => L2.Inv X pins σ H s1) E ⟨⟨old, he⟩, hit, hal⟩ ?_) (fun _ _ z => z) fun _ _ z => z
    intro h' tk kp htk
    exact I.turnedL (ch := [e, it]) (fun b o nb z => kp b o nb z) hf
  · rintro A i s Q E ⟨⟨old, he⟩, _⟩ q
    exact wpAny_pyIter_enum he q
theorem walk_enumF {K : PySem.W.Frag} {a : Addr} {xs : List V} {k : Int} : Walk (IteF K a k) xs.length (fun H => SqL K H a xs) (YPair (fun i => some (V.int (k + i))) fun i => xs[i]?) := by
  refine ⟨fun i H hi g => ⟨xs, xs[i], g, List.getElem?_eq_getElem hi⟩, fun H g => ⟨xs, g, rfl⟩, ?_⟩
  rintro i H x H' hi g ⟨T, y, rfl, nT, rfl, hy⟩
  exact ⟨T, _, y, rfl, nT, rfl, rfl, hy xs g⟩
def iEnumS (K : PySem.W.Frag) (ta tk : TA) : TI := fun σ H R => ta σ H fun vs H1 => tk σ H1 fun zs H2 => ∃ a xs k, vs = [V.ref a] ∧ zs = [V.int k] ∧ -2 ^ 63 ≤ k ∧ k < 2 ^ 63 ∧ SqL K H2 a xs ∧ R (IteF K a k) H2
theorem pi_enumS {X : Cx} {e : Expr} {ta tk : TA} {p pos tpos : Pos} {elts : List Expr} {kk : Nat} {kws : List Keyword} (hg : Gl X "enumerate") (hm : X.mg "enumerate" = none) (ha : PA X [e] ta) (hk : PK X kws tk)
    (he : backTo pos (starEach [e] X.env) = [(false, eval e X.env)] := by rfl)
    (hpl : ((backTo pos (starEach [e] X.env)).any fun x => x.fst) = false := by rfl)
    (hall : ((backToKw pos (keywordEach kws X.env)).all fun x => x.fst.isSome) = true := by rfl)
    (hnone : ((backToKw pos (keywordEach kws X.env)).any fun x => x.fst.isNone) = false := by rfl)
    (hks : List.filterMap (fun x => x.fst) (backToKw pos (keywordEach kws X.env)) = [("start" : Str)] := by rfl) :
    PI X (Expr.Tuple elts kk tpos) ((Expr.Name "enumerate" p).Call [e] kws pos) (iEnumS X.K ta tk) := by
  refine ⟨fun pins s σ H R I h => wpAny_Call_Name_kw (ld_blt I hg hm boot_enumerate (callWith_type_kwB hpl hnone ?_) (by decide +kernel) (by decide +kernel))⟩
  rw [he]
  refine evalArgs_kwB hall ?_
  have h0 := ha.run pos pins s σ H _ I h
  rw [he] at h0
  refine thn h0 ?_
  rintro us s1 ⟨vs, H1, I1, r1, q1⟩
  refine thn (hk.run pos pins s1 σ H1 _ I1 q1) ?_
  rintro ws s2 ⟨zs, H2, I2, r2, a, xs, k, rfl, rfl, k1, k2, hq, q⟩
  rw [hks]
  cases r1 with
  | cons ra rra =>
  cases rra
  cases ra
  cases r2 with
  | cons rk rrk =>
  cases rrk
  obtain ⟨tt, rfl⟩ := rk
  obtain ⟨its, rv, p', hz⟩ := I2.list hq
  refine enum_begins_start (begins_list a its.toArray) p'.isList k1 k2 ?_
  intro h' hen hit hsz hkp
  have I3 := I2.kept (t' := s2.toks) hkp
  refine wpAny_pyIter_enum hen ?_
  refine ⟨s2.heap.objs.size + 1, [s2.heap.objs.size + 1, s2.heap.objs.size], _, IteF X.K a k, H2, rfl, I3, turn_enumF a (s2.heap.objs.size + 1) s2.heap.objs.size k, ⟨⟨Value.none, ?_⟩, ?_, Nat.succ_ne_self _⟩, fun b hb => ?_, q⟩
  · rw [show k + ((0 : Nat) : Int) = k from Int.add_zero k]
    exact hen
  · exact ⟨_, hit, rfl, rfl⟩
  · have e' : b = s2.heap.objs.size + 1 ∨ b = s2.heap.objs.size := by simpa using hb
    have hle : s2.heap.objs.size ≤ b := by
      rcases e' with z | z
      · rw [z]; exact Nat.le_add_right _ 1
      · rw [z]; exact Nat.le_refl _
    exact Inv.fpOk I2 hle (HOk.fresh I2.hok hle)
end Enu
namespace Hs
open PySem PySem.Spec PyProof.Rows L2 Am
def L0 : Lore := ⟨0, [], [], []⟩
inductive Steps : Lore → List Str → Lore → Prop
  | nil {L : Lore} : Steps L [] L
  | cons {L L1 L2 : Lore} {l : Str} {ls : List Str} : Step L l L1 → Steps L1 ls L2 → Steps L (l :: ls) L2
def spInitD (C : Addr) : Sp := fun vs H Q _ => ∃ x dx, vs = [.ref x] ∧ H x = some (.ins C dx []) ∧
  ∀ H' lp lt ls, Fr [x] H H' → DraftAt C H' x lp lt ls L0 → H lp = none → H lt = none → H ls = none → Q .non H'
section
variable {P : Program} {w : World} {K : PySem.W.Frag} {mg : Str → Option Value} {base : Heap} {C : Addr}
theorem scDrInit : FnScope ["self"] ["self"] (defScope sDrInit) := ⟨rfl, rfl, rfl, by decide +kernel, rfl, by decide +kernel, by decide +kernel⟩
theorem LstAt.nil {α : Type} {f : α → HO} {H : Hp} {l : Addr} (h : H l = some (.lst [])) : LstAt f H l [] := ⟨[], h, Refs.nil⟩
theorem none_of {H : Hp} {a b : Addr} {o : HO} (h : upd H a o b = none) : b ≠ a ∧ H b = none := by
  have n : b ≠ a := fun z => by rw [z, upd_same] at h; cases h
  exact ⟨n, by rw [upd_ne n] at h; exact h⟩
theorem ok_drInit {f : Addr} {fd : FuncData} (F : Fun K "__init__" "Draft.__init__" sDrInit f fd) (dc : DC K C) : FnOk P w K mg base CX0 1 f fd ["self"] (spInitD C) := by
  refine F.ok scDrInit (fun vs H Q E h => ?_) (fun cdv A outer s H vs Q E hr h => ?_)
  · obtain ⟨x, dx, rfl, _⟩ := h
    rfl
  · obtain ⟨x, dx, rfl, ob, q⟩ := h
    refine ⟨_, pss_cons (ps_fld (pv 0) pe_int rfl) (pss_cons (ps_fld (pv 0) (pe_lst pa_nil) rfl) (pss_cons (ps_fld (pv 0) (pe_lst pa_nil) rfl) (pss_one (ps_fld (pv 0) (pe_lst pa_nil) rfl)))), ?_⟩
    refine ⟨_, rfl, x, C, dx, _, rfl, ob, dc.cl, dc.nD, by decide, ?_⟩
    refine ⟨by decide, fun lp nlp => ⟨_, rfl, x, C, dx, _, rfl, (by rw [upd_ne (ne_of_none upd_same nlp)]; exact upd_same), dc.cl, dc.nP, by decide +kernel, ?_⟩⟩
    refine ⟨by decide, fun lt nlt => ⟨_, rfl, x, C, dx, _, rfl, (by rw [upd_ne (ne_of_none upd_same nlt)]; exact upd_same), dc.cl, dc.nT, ?_, ?_⟩⟩
    · simp only [putF, if_neg n_dp]
      show 2 < 1000
      decide
    refine ⟨by decide, fun ls nls => ⟨_, rfl, x, C, dx, _, rfl, (by rw [upd_ne (ne_of_none upd_same nls)]; exact upd_same), dc.cl, dc.nS, ?_, ?_⟩⟩
    · simp only [putF, if_neg n_dp, if_neg n_dt, if_neg n_pt]
      show 3 < 1000
      decide
    obtain ⟨p1, p2⟩ := none_of nlp
    obtain ⟨t1, t2⟩ := none_of nlt
    obtain ⟨t3, t4⟩ := none_of t2
    obtain ⟨_, t5⟩ := none_of t4
    obtain ⟨s1, s2⟩ := none_of nls
    obtain ⟨s3, s4⟩ := none_of s2
    obtain ⟨_, s5⟩ := none_of s4
    obtain ⟨s6, s7⟩ := none_of s5
    obtain ⟨_, s8⟩ := none_of s7
    refine q _ lp lt ls (fun b u e nb => ?_) ⟨⟨dx, upd_same⟩, LstAt.nil ?_, LstAt.nil ?_, LstAt.nil ?_, Ne.symm t3, Ne.symm s6, Ne.symm s3⟩ p2 t5 s8
    · have n0 : b ≠ x := fun z => nb (by rw [z]; simp)
      have n1 := ne_of_none e p2
      have n2 := ne_of_none e t5
      have n3 := ne_of_none e s8
      rw [upd_ne n0, upd_ne n3, upd_ne n0, upd_ne n2, upd_ne n0, upd_ne n1, upd_ne n0]
      exact e
    · rw [upd_ne p1, upd_ne (Ne.symm s6), upd_ne p1, upd_ne (Ne.symm t3), upd_ne p1, upd_same]
    · rw [upd_ne t1, upd_ne (Ne.symm s3), upd_ne t1, upd_same]
    · rw [upd_ne s1, upd_same]
end
end Hs
namespace Hs
open PySem PySem.Spec PyProof.Rows L2 Am
/-- a text that tells a house -/
structure Told (x : Str) (L : Lore) : Prop where
  st : Steps L0 (Txt.split x "\n") L
  hf : hasF L = true
  ls : ∀ l ∈ Txt.split x "\n", l.length ≤ 4000
  n : (Txt.split x "\n").length ≤ 1000
  len : x.length ≤ 100000
def spDrafted (C : Addr) : Sp := fun vs H Q _ => ∃ (x : Str) (L : Lore), vs = [.str x] ∧ Told x L ∧
  ∀ H' d lp lt ls, Same H H' → DraftAt C H' d lp lt ls L → H d = none → H lp = none → H lt = none → H ls = none → Small L → Q (.ref d) H'
theorem L0_small : Small L0 := ⟨by decide, by decide, by decide⟩
section
variable {P : Program} {w : World} {K : PySem.W.Frag} {mg : Str → Option Value} {base : Heap} {C : Addr}
theorem scDrafted : FnScope ["text", "draft", "lines", "at", "line"] ["text"] (defScope sDrafted) := ⟨rfl, rfl, rfl, by decide +kernel, rfl, by decide +kernel, by decide +kernel⟩
theorem ok_drafted {f fi : Addr} {fd fdi : FuncData} (F : Fun K "drafted" "drafted" sDrafted f fd) (dc : DC K C) (T : Nm mg) (ns : mg "str" = none) (ne : mg "enumerate" = none)
    (M : Mk K C fi) (GI : FnOk P w K mg base CX0 1 fi fdi ["self"] (spInitD C)) (bI : Binds K fdi ["self"] []) (mC : mg "Draft" = some (.ref C))
    (GT : GotD P w K mg base C "take" 3 ["self", "line"] (spTake C)) (GFl : GotD P w K mg base C "has_flat" 1 ["self"] (spHasF C)) : FnOk P w K mg base CX0 4 f fd ["text"] (spDrafted C) := by
  obtain ⟨f1, fd1, GT, b1, k1⟩ := GT
  obtain ⟨fL, fdL, GFl, bL, mL⟩ := GFl
  refine F.ok scDrafted (fun vs H Q E h => ?_) (fun cdv A outer s H vs Q E hr h => ?_)
  · obtain ⟨x, L, rfl, _⟩ := h
    rfl
  · obtain ⟨x, L, rfl, td, q⟩ := h
    have b_str : bootBuiltins "str" = some (.type "str") := by decide +kernel
    have hr2 : Room 2 _ := hr.mono (by decide)
    have hr1 : Room 1 _ := hr.mono (by decide)
    refine ⟨_, pss_cons (ps_if (pt_not (pt_val (pe_callB call_isi (by rfl) T.isi b_isi (pa_cons (pv 0) (pa_cons (pe_bltn (v := .ty "str") (by rfl) ns b_str rfl) pa_nil))))) (pss_one ps_never) pss_nil)
      (pss_cons (ps_par (by rfl) scDrafted.nd (i := 1) (j := 2) rfl rfl (by decide) rfl rfl (pa_cons (pe_make0 M GI hr2 (by rfl) mC bI .nil pass0) (pa_cons (pe_split (pv 0) pe_str) pa_nil)) (by rfl))
      (pss_cons (ps_for (g := gTup K 2 (gCons (gName 3) (gCons (gName 4) gNil))) PassesOwn.never rfl (Enu.pi_enumS (by rfl) ne (pa_cons (pv 2) pa_nil) (pk_cons pe_int pk_nil))
        (pg_tup rfl (pgs_cons (pg_name (i := 3) scDrafted.nd rfl (.inl rfl)) (pgs_cons (pg_name (i := 4) scDrafted.nd rfl (.inl rfl)) pgs_nil)))
        (pss_one (ps_if (pt_not (pt_val (pe_meth (pv 1) dc.cl k1 GT hr b1 .nil pass0 (pa_cons (pv 4) pa_nil)))) (pss_one ps_never) pss_nil)))
      (pss_cons (ps_if (pt_not (pt_val (pe_meth0 (pv 1) dc.cl mL GFl hr1 bL .nil pass0))) (pss_one ps_never) pss_nil)
      (pss_one (ps_ret (pv 1)))))), ?_⟩
    refine ⟨_, rfl, .str x, .ty "str", .type "str", .type "str", _, rfl, .ty _, .base (Bk.tyOf (.str x)), kstr, _, rfl, iteF ?_⟩
    intro d dx nd ndx ndd
    have e0 : Same H (upd (upd H dx (.own d)) d (.ins C dx [])) := (same_upd ndx).trans (same_upd (by rw [upd_ne (Ne.symm ndd)]; exact nd))
    refine ⟨d, dx, rfl, upd_same, fun H1 lp lt ls fr1 hd z1 z2 z3 => ⟨rfl, ?_⟩⟩
    have e01 : Same H H1 := fun b u e => fr1 b u (e0 b u e) (by simpa using ne_of_none e nd)
    have hlp := (none_of (none_of z1).2).2
    have hlt := (none_of (none_of z2).2).2
    have hls := (none_of (none_of z3).2).2
    refine ⟨_, rfl, ⟨_, rfl⟩, _, _, rfl, rfl, by decide +kernel, Nat.le_trans (show x.length + 2 ≤ 100002 by have := td.len; omega) (by decide), fun l nl => ⟨_, _, rfl, ?_⟩⟩
    have e2 := same_upd (o := .lst ((Txt.split x "\n").map V.str)) nl
    have nld : l ≠ d ∧ l ≠ lp ∧ l ≠ lt ∧ l ≠ ls := by
      obtain ⟨dy, ob⟩ := hd.ob
      obtain ⟨_, a1, _⟩ := hd.pl
      obtain ⟨_, a2, _⟩ := hd.pr
      obtain ⟨_, a3, _⟩ := hd.st
      exact ⟨(ne_of_none ob nl).symm, (ne_of_none a1 nl).symm, (ne_of_none a2 nl).symm, (ne_of_none a3 nl).symm⟩
    have qn := td.n
    have qs := td.st
    have ql := td.ls
    generalize hlines : Txt.split x "\n" = lines at e2 qn qs ql ⊢
    refine ⟨_, rfl, l, _, 1, rfl, rfl, by decide, by decide, SqL.of upd_same, for_it (Enu.walk_enumF (xs := lines.map V.str)) (fun i σ H' => ∃ Li s3 s4, σ = [some (.str x), some (.ref d), some (.ref l), s3, s4] ∧ Steps Li (lines.drop i) L ∧ DraftAt C H' d lp lt ls Li ∧ Small Li ∧ Same H H' ∧ H' l = some (.lst (lines.map V.str))) ?_ ?_ ?_ ?_⟩
    · exact ⟨L0, _, _, rfl, qs, hd.same e2, L0_small, e01.trans e2, upd_same⟩
    · rintro i σ H' _ ⟨_, _, _, _, _, _, _, _, h⟩
      exact SqL.of h
    · rintro i v σ H2 H3 hi ⟨Li, s3, s4, rfl, hst, hdi, smi, esi, hli⟩ ⟨T, v1, v2, rfl, nT, rfl, hv1, hv2⟩
      have hi' : i < lines.length := by simpa using hi
      obtain rfl : v2 = .str lines[i] := by
        replace hv2 : (lines.map V.str)[i]? = some v2 := hv2
        rw [List.getElem?_map, List.getElem?_eq_getElem hi'] at hv2
        exact (Option.some.inj hv2).symm
      rw [List.drop_eq_getElem_cons hi'] at hst
      cases hst with
      | @cons _ L1 _ _ _ st1 st2 =>
      have e3 := same_upd (o := .tup [v1, .str lines[i]]) nT
      obtain ⟨dy, ob⟩ := (hdi.same e3).ob
      obtain ⟨m1, m2, m3, m4, m5, m6, m7, m8⟩ := dfs_m Li.days lp lt ls
      refine ⟨T, _, rfl, SqT.of upd_same, rfl, _, _, rfl, _, _, rfl, rfl, ?_⟩
      refine ⟨_, rfl, d, dy, _, rfl, ob, m8, _, rfl, d, lp, lt, ls, Li, L1, lines[i], rfl, hdi.same e3, smi, ql _ (List.getElem_mem hi'), st1, fun H4 fr4 hd4 => ⟨_, rfl, iteF ?_⟩⟩
      refine ⟨L1, _, _, rfl, st2, hd4, st1.small smi, fun b u e => fr4 b u (e3 b u (esi b u e)) ?_, fr4 _ _ (e3 _ _ hli) (by simp [nld.1, nld.2.1, nld.2.2.1, nld.2.2.2])⟩
      have a0 := ne_of_none e nd
      have a1 := ne_of_none e hlp
      have a2 := ne_of_none e hlt
      have a3 := ne_of_none e hls
      simp [a0, a1, a2, a3]
    · rintro σ H2 ⟨Li, s3, s4, rfl, hst, hdi, smi, esi, hli⟩
      rw [show lines.drop (lines.map V.str).length = [] from by rw [List.length_map]; exact List.drop_length] at hst
      cases hst
      obtain ⟨dy, ob⟩ := hdi.ob
      obtain ⟨m1, m2, m3, m4, m5, m6, m7, m8⟩ := dfs_m L.days lp lt ls
      refine ⟨_, rfl, d, dy, _, rfl, ob, m2, d, lp, lt, ls, L, rfl, hdi, smi, fun H3 e3 => ⟨_, rfl, ?_⟩⟩
      rw [td.hf]
      refine iteF ⟨_, rfl, ?_⟩
      exact q _ d lp lt ls (esi.trans e3) (hdi.same e3) nd hlp hlt hls smi
end
end Hs
/-! who lives where, and what a unit costs, day by day -/
namespace Hs
open PySem PySem.Spec PyProof.Rows L2 Am
def tenD (ss : List St) (x : Str) (k : Nat) : Str := ss.foldl (fun acc s => if s.pl = x ∧ (s.a ≤ k ∧ k < s.b) then s.who else acc) "house"
def priD (ps : List (Nat × Nat)) (k : Nat) : Nat := ps.foldl (fun acc p => if p.1 ≤ k then p.2 else acc) 1
def row {α : Type} (n : Nat) (g : α → V) (f : Nat → α) : List V := (List.range n).map fun k => g (f k)
structure Good (L : Lore) : Prop where
  d : L.days ≤ 14
  st : ∀ s ∈ L.stays, s.a < s.b ∧ s.b ≤ L.days
  pr : ∀ p ∈ L.prices, p.1 < L.days
theorem row_len {α : Type} {n : Nat} {g : α → V} {f : Nat → α} : (row n g f).length = n := by unfold row; simp
theorem row_set {α : Type} {n : Nat} {g : α → V} {f f' : Nat → α} {m : Nat} {v : α} (h : ∀ k, f' k = if k = m then v else f k) : (row n g f).set m (g v) = row n g f' := by
  apply List.ext_getElem?
  intro k
  unfold row
  rw [List.getElem?_set, List.getElem?_map, List.getElem?_map, List.length_map, List.length_range]
  by_cases c : m = k
  · subst c
    by_cases z : m < n
    · rw [if_pos rfl, if_pos z, List.getElem?_range z]
      simp [h]
    · rw [if_pos rfl, if_neg z, List.getElem?_eq_none (by simpa using z)]
      rfl
  · rw [if_neg c]
    cases hk : (List.range n)[k]? with
    | none => rfl
    | some j =>
      have e : j = k := by
        rw [List.getElem?_eq_some_iff] at hk
        obtain ⟨z, hz⟩ := hk
        simp at hz
        exact hz.symm
      subst e
      simp [h, Ne.symm c]
theorem rep_row {α : Type} (n : Nat) (g : α → V) (a : α) : (List.replicate n [g a]).flatten = row n g (fun _ => a) := by
  unfold row
  induction n with
  | zero => rfl
  | succ n ih => rw [List.replicate_succ', List.flatten_append, ih, List.range_succ, List.map_append]; rfl
theorem tenD_step {ss : List St} {x : Str} {k i : Nat} {s : St} (h : ss[i]? = some s) : tenD (ss.take (i + 1)) x k = if s.pl = x ∧ (s.a ≤ k ∧ k < s.b) then s.who else tenD (ss.take i) x k := by
  unfold tenD
  rw [List.take_add_one, h, List.foldl_append]
  rfl
theorem priD_step {ss : List (Nat × Nat)} {k i : Nat} {s : Nat × Nat} (h : ss[i]? = some s) : priD (ss.take (i + 1)) k = if s.1 ≤ k then s.2 else priD (ss.take i) k := by
  unfold priD
  rw [List.take_add_one, h, List.foldl_append]
  rfl
theorem ixN_of {n k : Nat} (h : k < n) : ixN n (k : Int) = some k := by
  unfold ixN
  rw [if_pos (by omega), if_pos (by omega)]
  exact congrArg some (by omega)
def spTen (C : Addr) : Sp := fun vs H Q _ => ∃ (d lp lt ls : Addr) (L : Lore) (x : Str), vs = [.str x, .ref d] ∧ DraftAt C H d lp lt ls L ∧ Small L ∧ Good L ∧
  ∀ H' t, Same H H' → H t = none → H' t = some (.tup (row L.days V.str (tenD L.stays x))) → Q (.ref t) H'
def spPri (C : Addr) : Sp := fun vs H Q _ => ∃ (d lp lt ls : Addr) (L : Lore), vs = [.ref d] ∧ DraftAt C H d lp lt ls L ∧ Small L ∧ Good L ∧
  ∀ H' t, Same H H' → H t = none → H' t = some (.tup (row L.days (fun n : Nat => V.int n) (priD L.prices))) → Q (.ref t) H'
section
variable {P : Program} {w : World} {K : PySem.W.Frag} {mg : Str → Option Value} {base : Heap} {C : Addr}
theorem scTenants : FnScope ["name", "draft", "row", "person", "place", "first", "behind", "day"] ["name", "draft"] (defScope sTenants) := ⟨rfl, rfl, rfl, by decide +kernel, rfl, by decide +kernel, by decide +kernel⟩
theorem ok_tenants {f : Addr} {fd : FuncData} (F : Fun K "tenants" "tenants" sTenants f fd) (dc : DC K C) (T : Nm mg) (nt : mg "tuple" = none) (mN : ∃ t, mg "NOBODY" = some (.str "house" t)) : FnOk P w K mg base CX0 1 f fd ["name", "draft"] (spTen C) := by
  obtain ⟨tN, mN⟩ := mN
  refine F.ok scTenants (fun vs H Q E h => ?_) (fun cdv A outer s H vs Q E hr h => ?_)
  · obtain ⟨d, lp, lt, ls, L, x, rfl, _⟩ := h
    rfl
  · obtain ⟨d, lp, lt, ls, L, x, rfl, hd, sm, gd, q⟩ := h
    refine ⟨_, pss_cons (ps_set (i := 2) scTenants.nd rfl (.inl rfl) (pe_op op_rep (pe_lst (pa_cons (pe_glob (v := .str "house") (by rfl) mN ⟨_, rfl⟩) pa_nil)) (pe_fld (pv 1) rfl)))
      (pss_cons (ps_for (g := gTup K 4 (gCons (gName 3) (gCons (gName 4) (gCons (gName 5) (gCons (gName 6) gNil))))) PassesOwn.never rfl (pi_list (pe_fld (pv 1) rfl))
        (pg_tup rfl (pgs_cons (pg_name (i := 3) scTenants.nd rfl (.inl rfl)) (pgs_cons (pg_name (i := 4) scTenants.nd rfl (.inl rfl)) (pgs_cons (pg_name (i := 5) scTenants.nd rfl (.inl rfl)) (pgs_cons (pg_name (i := 6) scTenants.nd rfl (.inl rfl)) pgs_nil)))))
        (pss_one (ps_if (pt_cmpR op_eq (pv 4) (pv 0) (nomark _)) (pss_one (ps_for PassesOwn.never rfl (pi_range2 (by rfl) T.range (pa_cons (pv 5) (pa_cons (pv 6) pa_nil))) (pg_name (i := 7) scTenants.nd rfl (.inl rfl))
          (pss_one (ps_asg (pv 3) (pg_sub (pv 2) (pv 7) set_list))))) pss_nil)))
      (pss_one (ps_ret (pe_tupleOf (by rfl) nt (pv 2))))), ?_⟩
    obtain ⟨dx, ob⟩ := hd.ob
    obtain ⟨rs, hls, hrs⟩ := hd.st
    refine ⟨by decide, fun D nD => ⟨_, rfl, d, C, dx, _, _, rfl, same_upd nD _ _ ob, dc.cl, dc.nD, dfs_days _ _ _ _, ?_⟩⟩
    have e1 := same_upd (o := .lst [V.str "house"]) nD
    refine ⟨D, (L.days : Int), _, rfl, rfl, upd_same, by omega, by have := gd.d; omega, ?_, fun r nr => ?_⟩
    · have := gd.d
      exact Nat.le_trans (show 1 * L.days ≤ 14 by omega) (by decide)
    rw [show ((L.days : Int)).toNat = L.days from rfl, rep_row L.days V.str ("house" : Str)]
    have nrH : H r = none := (none_of nr).2
    have e2 := e1.trans (same_upd (o := .lst (row L.days V.str fun _ => ("house" : Str))) nr)
    refine ⟨_, rfl, d, C, dx, _, _, rfl, e2 _ _ ob, dc.cl, dc.nS, dfs_st _ _ _ _, ls, rfl, ⟨_, SqL.of (e2 _ _ hls)⟩, ?_⟩
    refine for_it (walk_list (xs := rs.map V.ref)) (fun i σ H' => ∃ s3 s4 s5 s6 s7, σ = [some (.str x), some (.ref d), some (.ref r), s3, s4, s5, s6, s7] ∧ Same H H' ∧ H' r = some (.lst (row L.days V.str (tenD (L.stays.take i) x)))) ?_ ?_ ?_ ?_
    · exact ⟨_, _, _, _, _, rfl, e2, upd_same⟩
    · rintro i σ H' _ ⟨_, _, _, _, _, _, es, _⟩
      exact SqL.of (es _ _ hls)
    · rintro i v σ H1 H2 hi ⟨s3, s4, s5, s6, s7, rfl, es, hr⟩ ⟨rfl, hv⟩
      obtain ⟨p, s, rfl, hp', hs, ho⟩ := hrs.at hv
      obtain ⟨g1, g2⟩ := gd.st s (List.mem_of_getElem? hs)
      have gd14 := gd.d
      refine ⟨p, _, rfl, SqT.of (es _ _ ho), rfl, _, _, rfl, _, _, rfl, _, _, rfl, _, _, rfl, rfl, ?_⟩
      refine ⟨_, rfl, _, rfl, rfl, _, rfl, ?_⟩
      rw [str_eq]
      cases c : decide (s.pl = x) with
      | false =>
        refine iteF ⟨_, _, _, _, _, rfl, es, ?_⟩
        have c' := of_decide_eq_false c
        rw [hr]
        congr 2
        unfold row
        apply List.map_congr_left
        intro k _
        rw [tenD_step hs, if_neg (fun z => c' z.1)]
      | true =>
        have c' := of_decide_eq_true c
        refine iteT ⟨_, rfl, _, rfl, (s.a : Int), (s.b : Int), rfl, ⟨by omega, by omega, by omega, by omega⟩, ?_⟩
        refine for_it walk_range (fun j σ H' => ∃ s7, σ = [some (.str x), some (.ref d), some (.ref r), some (.str s.who), some (.str s.pl), some (.int s.a), some (.int s.b), s7] ∧ Same H H' ∧ H' r = some (.lst (row L.days V.str fun k => if s.a ≤ k ∧ k < s.a + j then s.who else tenD (L.stays.take i) x k))) ?_ (fun _ _ _ _ _ => trivial) ?_ ?_
        · refine ⟨_, rfl, es, ?_⟩
          rw [hr]
          congr 2
          unfold row
          apply List.map_congr_left
          intro k _
          show V.str _ = V.str (if s.a ≤ k ∧ k < s.a + 0 then s.who else tenD (List.take i L.stays) x k)
          rw [if_neg (by omega)]
        · rintro j v σ H3 H4 hj ⟨s7, rfl, es3, hr3⟩ ⟨rfl, rfl⟩
          have hj' : s.a + j < L.days := by omega
          refine ⟨_, rfl, _, rfl, _, rfl, r, _, _, s.a + j, rfl, rfl, hr3, ?_, ?_⟩
          · rw [row_len, show (s.a : Int) + (j : Int) = ((s.a + j : Nat) : Int) by omega]
            exact ixN_of hj'
          · refine ⟨_, rfl, fun b u e => ?_, ?_⟩
            · rw [upd_ne (ne_of_none e nrH)]
              exact es3 _ _ e
            · rw [upd_same]
              congr 2
              refine row_set fun k => ?_
              by_cases c1 : k = s.a + j
              · rw [if_pos c1, if_pos (by omega)]
              · rw [if_neg c1]
                by_cases c2 : s.a ≤ k ∧ k < s.a + j
                · rw [if_pos c2, if_pos (by omega)]
                · rw [if_neg c2, if_neg (by omega)]
        · rintro σ H3 ⟨s7, rfl, es3, hr3⟩
          refine ⟨_, _, _, _, _, rfl, es3, ?_⟩
          rw [hr3]
          congr 2
          unfold row
          apply List.map_congr_left
          intro k _
          show V.str (if s.a ≤ k ∧ k < s.a + ((s.b : Int) - (s.a : Int)).toNat then s.who else tenD (List.take i L.stays) x k) = _
          rw [tenD_step hs, show s.a + ((s.b : Int) - (s.a : Int)).toNat = s.b by omega]
          by_cases c2 : s.a ≤ k ∧ k < s.b
          · rw [if_pos c2, if_pos ⟨c', c2⟩]
          · rw [if_neg c2, if_neg (fun z => c2 z.2)]
    · rintro σ H1 ⟨s3, s4, s5, s6, s7, rfl, es, hr⟩
      rw [show L.stays.take (rs.map V.ref).length = L.stays from by rw [List.length_map, hrs.1]; exact List.take_length] at hr
      refine ⟨_, rfl, .inl ⟨r, _, rfl, SqL.of hr, fun t nt => ?_⟩⟩
      refine q _ t (es.trans (same_upd nt)) ?_ upd_same
      cases ht : H t with
      | none => rfl
      | some u => rw [es _ _ ht] at nt; cases nt
end
end Hs
namespace Hs
open PySem PySem.Spec PyProof.Rows L2 Am
section
variable {P : Program} {w : World} {K : PySem.W.Frag} {mg : Str → Option Value} {base : Heap} {C : Addr}
theorem scPrices : FnScope ["draft", "row", "first", "number", "day"] ["draft"] (defScope sPricesOf) := ⟨rfl, rfl, rfl, by decide +kernel, rfl, by decide +kernel, by decide +kernel⟩
theorem ok_prices {f : Addr} {fd : FuncData} (F : Fun K "prices" "prices" sPricesOf f fd) (dc : DC K C) (T : Nm mg) (nt : mg "tuple" = none) (mF : ∃ i t, mg "FIRST_PRICE" = some (.int i t) ∧ i = 1) : FnOk P w K mg base CX0 1 f fd ["draft"] (spPri C) := by
  obtain ⟨_, tF, mF, rfl⟩ := mF
  refine F.ok scPrices (fun vs H Q E h => ?_) (fun cdv A outer s H vs Q E hr h => ?_)
  · obtain ⟨d, lp, lt, ls, L, rfl, _⟩ := h
    rfl
  · obtain ⟨d, lp, lt, ls, L, rfl, hd, sm, gd, q⟩ := h
    refine ⟨_, pss_cons (ps_set (i := 1) scPrices.nd rfl (.inl rfl) (pe_op op_rep (pe_lst (pa_cons (pe_glob (v := .int 1) (by rfl) mF ⟨_, rfl⟩) pa_nil)) (pe_fld (pv 0) rfl)))
      (pss_cons (ps_for (g := gTup K 2 (gCons (gName 2) (gCons (gName 3) gNil))) PassesOwn.never rfl (pi_list (pe_fld (pv 0) rfl))
        (pg_tup rfl (pgs_cons (pg_name (i := 2) scPrices.nd rfl (.inl rfl)) (pgs_cons (pg_name (i := 3) scPrices.nd rfl (.inl rfl)) pgs_nil)))
        (pss_one (ps_for PassesOwn.never rfl (pi_range2 (by rfl) T.range (pa_cons (pv 2) (pa_cons (pe_fld (pv 0) rfl) pa_nil))) (pg_name (i := 4) scPrices.nd rfl (.inl rfl))
          (pss_one (ps_asg (pv 3) (pg_sub (pv 1) (pv 4) set_list))))))
      (pss_one (ps_ret (pe_tupleOf (by rfl) nt (pv 1))))), ?_⟩
    obtain ⟨dx, ob⟩ := hd.ob
    obtain ⟨rs, hls, hrs⟩ := hd.pr
    refine ⟨by decide, fun D nD => ⟨_, rfl, d, C, dx, _, _, rfl, same_upd nD _ _ ob, dc.cl, dc.nD, dfs_days _ _ _ _, ?_⟩⟩
    have e1 := same_upd (o := .lst [V.int 1]) nD
    refine ⟨D, (L.days : Int), _, rfl, rfl, upd_same, by omega, by have := gd.d; omega, ?_, fun r nr => ?_⟩
    · have := gd.d
      exact Nat.le_trans (show 1 * L.days ≤ 14 by omega) (by decide)
    rw [show ((L.days : Int)).toNat = L.days from rfl, show (V.int 1) = (fun n : Nat => V.int n) 1 from rfl, rep_row L.days (fun n : Nat => V.int n) 1]
    have nrH : H r = none := (none_of nr).2
    have e2 := e1.trans (same_upd (o := .lst (row L.days (fun n : Nat => V.int n) fun _ => 1)) nr)
    refine ⟨_, rfl, d, C, dx, _, _, rfl, e2 _ _ ob, dc.cl, dc.nT, dfs_ta _ _ _ _, lt, rfl, ⟨_, SqL.of (e2 _ _ hls)⟩, ?_⟩
    refine for_it (walk_list (xs := rs.map V.ref)) (fun i σ H' => ∃ s3 s4 s5, σ = [some (.ref d), some (.ref r), s3, s4, s5] ∧ Same H H' ∧ H' r = some (.lst (row L.days (fun n : Nat => V.int n) (priD (L.prices.take i))))) ?_ ?_ ?_ ?_
    · exact ⟨_, _, _, rfl, e2, upd_same⟩
    · rintro i σ H' _ ⟨_, _, _, _, es, _⟩
      exact SqL.of (es _ _ hls)
    · rintro i v σ H1 H2 hi ⟨s3, s4, s5, rfl, es, hr⟩ ⟨rfl, hv⟩
      obtain ⟨p, s, rfl, hp', hs, ho⟩ := hrs.at hv
      have g1 := gd.pr s (List.mem_of_getElem? hs)
      have gd14 := gd.d
      refine ⟨p, _, rfl, SqT.of (es _ _ ho), rfl, _, _, rfl, _, _, rfl, rfl, ?_⟩
      refine ⟨_, rfl, _, rfl, d, C, dx, _, _, rfl, es _ _ ob, dc.cl, dc.nD, dfs_days _ _ _ _, (s.1 : Int), (L.days : Int), rfl, ⟨by omega, by omega, by omega, by omega⟩, ?_⟩
      refine for_it walk_range (fun j σ H' => ∃ s5, σ = [some (.ref d), some (.ref r), some (.int s.1), some (.int s.2), s5] ∧ Same H H' ∧ H' r = some (.lst (row L.days (fun n : Nat => V.int n) fun k => if s.1 ≤ k ∧ k < s.1 + j then s.2 else priD (L.prices.take i) k))) ?_ (fun _ _ _ _ _ => trivial) ?_ ?_
      · refine ⟨_, rfl, es, ?_⟩
        rw [hr]
        congr 2
        unfold row
        apply List.map_congr_left
        intro k _
        show V.int _ = V.int ((if s.1 ≤ k ∧ k < s.1 + 0 then s.2 else priD (L.prices.take i) k : Nat) : Int)
        rw [if_neg (by omega)]
      · rintro j v σ H3 H4 hj ⟨s5, rfl, es3, hr3⟩ ⟨rfl, rfl⟩
        have hj' : s.1 + j < L.days := by omega
        refine ⟨_, rfl, _, rfl, _, rfl, r, _, _, s.1 + j, rfl, rfl, hr3, ?_, ?_⟩
        · rw [row_len, show (s.1 : Int) + (j : Int) = ((s.1 + j : Nat) : Int) by omega]
          exact ixN_of hj'
        · refine ⟨_, rfl, fun b u e => ?_, ?_⟩
          · rw [upd_ne (ne_of_none e nrH)]
            exact es3 _ _ e
          · rw [upd_same]
            congr 2
            refine row_set (g := fun n : Nat => V.int n) fun k => ?_
            by_cases c1 : k = s.1 + j
            · rw [if_pos c1, if_pos (by omega)]
            · rw [if_neg c1]
              by_cases c2 : s.1 ≤ k ∧ k < s.1 + j
              · rw [if_pos c2, if_pos (by omega)]
              · rw [if_neg c2, if_neg (by omega)]
      · rintro σ H3 ⟨s5, rfl, es3, hr3⟩
        refine ⟨_, _, _, rfl, es3, ?_⟩
        rw [hr3]
        congr 2
        unfold row
        apply List.map_congr_left
        intro k hk
        have hk' : k < L.days := by simpa using hk
        show V.int ((if s.1 ≤ k ∧ k < s.1 + ((L.days : Int) - (s.1 : Int)).toNat then s.2 else priD (L.prices.take i) k : Nat) : Int) = V.int ((priD (L.prices.take (i + 1)) k : Nat) : Int)
        rw [priD_step hs, show s.1 + ((L.days : Int) - (s.1 : Int)).toNat = L.days by omega]
        by_cases c2 : s.1 ≤ k
        · rw [if_pos ⟨c2, hk'⟩, if_pos c2]
        · rw [if_neg (fun z => c2 z.1), if_neg c2]
    · rintro σ H1 ⟨s3, s4, s5, rfl, es, hr⟩
      rw [show L.prices.take (rs.map V.ref).length = L.prices from by rw [List.length_map, hrs.1]; exact List.take_length] at hr
      refine ⟨_, rfl, .inl ⟨r, _, rfl, SqL.of hr, fun t nt => ?_⟩⟩
      refine q _ t (es.trans (same_upd nt)) ?_ upd_same
      cases ht : H t with
      | none => rfl
      | some u => rw [es _ _ ht] at nt; cases nt
end
end Hs
/-! {k: v for x in ..} by a walk -/
namespace DCi
open PySem PySem.Spec PyProof.Rows L2
theorem dc_it {J : It} {n : Nat} {G : Hp → Prop} {Y : Nat → Hp → V → Hp → Prop} (hw : Walk J n G Y) {g : TG} {tt : TT} {tk tv : TE} {vs : List Nat} {σ : L2.St} {H1 : Hp} {D : Addr} {Qd : Hp → Prop} (Pv : Nat → Hp → Prop)
    (h0 : Pv 0 (upd H1 D (HO.dK []))) (hG : ∀ (i : Nat) (H : Hp), i ≤ n → Pv i H → G H)
    (hs : ∀ (i : Nat) (x : V) (H H' : Hp), i < n → Pv i H → Y i H x H' →
      g x (wipe σ vs) H' fun σ2 H2 => wipe σ2 vs = wipe σ vs ∧ tt σ2 H2 fun b H3 =>
        if b = true then tk σ2 H3 fun y H4 => tv σ2 H4 fun z H5 => ∃ kvs k, y = kV k ∧ H5 D = some (HO.dK kvs) ∧ kvs.length < sizeLine ∧ Pv (i + 1) (upd H5 D (HO.dK (putK kvs k z))) else Pv (i + 1) H3)
    (hq : ∀ (H : Hp), Pv n H → Qd H) :
    ∃ W : Nat → Nat → Hp → Prop, (∃ m, W 0 m (upd H1 D (HO.dK []))) ∧ ∀ (i m : Nat) (H : Hp), W i m H → (J.stop i H ∧ Qd H) ∨ (J.go i H ∧ ∃ Nx : Hp → Prop, (∀ (H' : Hp), Nx H' → ∃ m', m' < m ∧ W (i + 1) m' H') ∧
      ∀ (x : V) (H' : Hp), J.yld i H x H' → g x (wipe σ vs) H' fun σ2 H2 => wipe σ2 vs = wipe σ vs ∧ tt σ2 H2 fun b H3 =>
        if b = true then tk σ2 H3 fun y H4 => tv σ2 H4 fun z H5 => ∃ kvs k, y = kV k ∧ H5 D = some (HO.dK kvs) ∧ kvs.length < sizeLine ∧ Nx (upd H5 D (HO.dK (putK kvs k z))) else Nx H3) := by
  refine ⟨fun i m H => i ≤ n ∧ m = n - i ∧ Pv i H, ⟨_, Nat.zero_le _, rfl, h0⟩, ?_⟩
  rintro i m H ⟨hi, rfl, hp⟩
  by_cases c : i = n
  · subst c
    exact .inl ⟨hw.stops H (hG _ _ hi hp), hq H hp⟩
  · have lt : i < n := by omega
    refine .inr ⟨hw.goes i H lt (hG _ _ hi hp), Pv (i + 1), fun H' h => ⟨_, by omega, by omega, rfl, h⟩, fun x H' hy => hs i x H H' lt hp (hw.yields i H x H' lt (hG _ _ hi hp) hy)⟩
theorem ps_setDc {X : Cx} {i : Nat} {y : Str} {py : Pos} {kx vx tg iter : Expr} {ifs : List Expr} {scope : Scope} {own : List (Str × Nat)} {pos spos : Pos} {wi : TI} {g : TG} {tt : TT} {tk tv : TE}
    (hc : X.calm = true) (hN : X.N.Nodup) (hy : X.N[i]? = some y) (hyl : X.env.scope.names.lookup y = some .local)
    (hsw : swapsWith (kx.DictComp vx [{ target := tg, iter := iter, ifs := ifs, is_async := 0 }] scope pos) (some (Expr.Name y py)) spos.line X.env = pure true)
    (hi : PI X tg iter wi) (ok : BlkOk X.N X.env.scope scope own)
    (hg : ∀ (s : Shared) (H : Hp) (C : Addr) (cl : List (Str × Addr)) (fp : List Addr), PG (X.blk s H scope (compEnvC scope cl C X.env) fp) tg g)
    (ht : ∀ (s : Shared) (H : Hp) (C : Addr) (cl : List (Str × Addr)) (fp : List Addr), PTs (X.blk s H scope (compEnvC scope cl C X.env) fp) ifs tt)
    (hk : ∀ (s : Shared) (H : Hp) (C : Addr) (cl : List (Str × Addr)) (fp : List Addr), PE (X.blk s H scope (compEnvC scope cl C X.env) fp) kx tk)
    (he : ∀ (s : Shared) (H : Hp) (C : Addr) (cl : List (Str × Addr)) (fp : List Addr), PE (X.blk s H scope (compEnvC scope cl C X.env) fp) vx tv)
    (hs : ∀ (x : Value), foldedSetIterable iter X.env x = pure x := by intro _; rfl) :
    PS X (Stmt.Assign [Expr.Name y py] (kx.DictComp vx [{ target := tg, iter := iter, ifs := ifs, is_async := 0 }] scope pos) spos) (tAsg (tDc wi g tt tk tv (List.map (fun x => x.snd) own)) (gName i)) := by
  refine ⟨fun pins s σ H D I h => ?_⟩
  rw [exec_Assign_Name_used y py _ spos hsw]
  refine wpAny_bind (wpAny_standAt (wpAny_bind ?_))
  refine wpAny_bind (thn (dc_core hc hN I hi ok hg ht hk he hs h ?_) fun x s' hq => wpAny_pure (wpAny_pure hq))
  intro L C s' m H' I' q hn f
  show wpAny _ _ _ _ _ _
  refine wpAny_assign_Name (store_ok2 (v := V.ref L) I' hN hy (Or.inl hyl) rfl (fun s2 I2 x => ?_) (Or.inr hyl))
  obtain ⟨a, sb, ha⟩ := x
  obtain ⟨f0, f1, f2, f3, f4, f5⟩ := f
  have haC : C ≠ a := by
    rcases ha with z | z
    · rw [z]; exact f1
    · exact fun e => f4 y a z e.symm
  exact ⟨m, hn.sameBut sb haC, fun h3 sb3 => ⟨List.set σ i (some (V.ref L)), H', I2.turned (fun b o hb e => (sb3.right b hb).trans e) f0 f1 f3 f4 f5, q⟩⟩
end DCi
/-! texts, ascending, each once -/
namespace Hs
open PySem PySem.Spec PyProof.Rows L2 Am
def ltS (a b : Str) : Prop := a.cps.toList < b.cps.toList
theorem ltS_trans {a b c : Str} (h : ltS a b) (k : ltS b c) : ltS a c := List.lt_trans h k
theorem ltS_irrefl (a : Str) : ¬ ltS a a := List.lt_irrefl _
theorem ltS_of {a b : Str} (h : ¬ ltS b a) (n : a ≠ b) : ltS a b := by
  by_cases c : ltS a b
  · exact c
  · exact absurd (SL.ext (List.le_antisymm (List.not_lt.mp h) (List.not_lt.mp c))) n
theorem rising_pw : ∀ (r : List Str) (x : Str), risingS x r = true → (x :: r).Nodup → (x :: r).Pairwise ltS
  | [], x, _, _ => by simp
  | y :: r, x, h, n => by
    have h' : (!(ltCps y.cps.toList x.cps.toList) && risingS y r) = true := h
    rw [Bool.and_eq_true] at h'
    obtain ⟨a, b⟩ := h'
    rw [List.nodup_cons] at n
    have ih := rising_pw r y b n.2
    have lt : ltS x y := by
      refine ltS_of (fun z => ?_) (fun z => n.1 (by rw [z]; simp))
      rw [ltCps_eq] at a
      have : decide (y.cps.toList < x.cps.toList) = true := decide_eq_true z
      rw [this] at a
      cases a
    refine List.pairwise_cons.mpr ⟨fun z hz => ?_, ih⟩
    rcases List.mem_cons.mp hz with rfl | hz
    · exact lt
    · exact ltS_trans lt ((List.pairwise_cons.mp ih).1 z hz)
theorem sorted_pw {ys : List Str} (h : sortedS ys = true) (n : ys.Nodup) : ys.Pairwise ltS := by
  cases ys with
  | nil => simp
  | cons x r => exact rising_pw r x h n
/-- xs, ascending, each once -/
structure AscOf (xs ys : List Str) : Prop where
  pw : ys.Pairwise ltS
  mem : ∀ n, n ∈ ys ↔ n ∈ xs
theorem asc_unique : ∀ {ys zs : List Str}, ys.Pairwise ltS → zs.Pairwise ltS → (∀ n, n ∈ ys ↔ n ∈ zs) → ys = zs
  | [], [], _, _, _ => rfl
  | [], z :: zs, _, _, h => absurd ((h z).mpr (by simp)) (by simp)
  | y :: ys, [], _, _, h => absurd ((h y).mp (by simp)) (by simp)
  | y :: ys, z :: zs, p, q, h => by
    obtain ⟨p1, p2⟩ := List.pairwise_cons.mp p
    obtain ⟨q1, q2⟩ := List.pairwise_cons.mp q
    have e : y = z := by
      rcases List.mem_cons.mp ((h y).mp (by simp)) with a | a
      · exact a
      · rcases List.mem_cons.mp ((h z).mpr (by simp)) with b | b
        · exact b.symm
        · exact absurd (ltS_trans (q1 y a) (p1 z b)) (ltS_irrefl _)
    subst e
    refine congrArg (y :: ·) (asc_unique p2 q2 fun n => ⟨fun hn => ?_, fun hn => ?_⟩)
    · rcases List.mem_cons.mp ((h n).mp (by simp [hn])) with a | a
      · exact absurd (by rw [a] at hn; exact p1 y hn) (ltS_irrefl _)
      · exact a
    · rcases List.mem_cons.mp ((h n).mpr (by simp [hn])) with a | a
      · exact absurd (by rw [a] at hn; exact q1 y hn) (ltS_irrefl _)
      · exact a
theorem AscOf.unique {xs ys zs : List Str} (a : AscOf xs ys) (b : AscOf xs zs) : ys = zs := asc_unique a.pw b.pw fun n => (a.mem n).trans (b.mem n).symm
/-- the keys, in the sequence of their first -/
def keysOf (xs : List Str) : List Str := xs.foldl (fun acc x => if x ∈ acc then acc else acc ++ [x]) []
theorem keys_snoc (xs : List Str) (x : Str) : keysOf (xs ++ [x]) = if x ∈ keysOf xs then keysOf xs else keysOf xs ++ [x] := by
  unfold keysOf
  rw [List.foldl_append]
  rfl
theorem keys_all : ∀ (k : Nat) (xs : List Str), xs.length = k → (keysOf xs).Nodup ∧ (keysOf xs).length ≤ xs.length ∧ ∀ n, n ∈ keysOf xs ↔ n ∈ xs := by
  intro k
  induction k with
  | zero => intro xs h; rw [List.eq_nil_of_length_eq_zero h]; exact ⟨by simp [keysOf], by simp [keysOf], fun n => Iff.rfl⟩
  | succ k ih =>
    intro xs h
    rcases List.eq_nil_or_concat xs with rfl | ⟨ys, y, rfl⟩
    · exact ⟨by simp [keysOf], by simp [keysOf], fun n => Iff.rfl⟩
    rw [List.concat_eq_append] at h ⊢
    have h' : ys.length = k := by simpa using h
    rw [keys_snoc]
    obtain ⟨i1, i2, i3⟩ := ih ys h'
    by_cases c : y ∈ keysOf ys
    · rw [if_pos c]
      refine ⟨i1, by simp; omega, fun n => ?_⟩
      rw [i3, List.mem_append, List.mem_singleton]
      exact ⟨.inl, fun z => z.elim id fun e => by rw [e]; exact (i3 y).mp c⟩
    · rw [if_neg c]
      refine ⟨?_, by simp; omega, fun n => ?_⟩
      · rw [List.nodup_append]
        refine ⟨i1, by simp, fun a ha b hb e => ?_⟩
        rw [List.mem_singleton.mp hb] at e
        exact c (e ▸ ha)
      · rw [List.mem_append, List.mem_append, i3]
def kd (ks : List Str) : List (Key × V) := ks.map fun k => (.inr k, .bl true)
theorem putK_kd (ks : List Str) (x : Str) : putK (kd ks) (.inr x : Key) (.bl true) = kd (if x ∈ ks then ks else ks ++ [x]) := by
  unfold putK
  have e : ((kd ks).any fun kv => decide (kv.1 = (.inr x : Key))) = decide (x ∈ ks) := by
    unfold kd
    rw [List.any_map]
    rw [Bool.eq_iff_iff, List.any_eq_true, decide_eq_true_iff]
    constructor
    · rintro ⟨y, hy, h⟩
      have := of_decide_eq_true h
      cases this
      exact hy
    · intro h
      exact ⟨x, h, decide_eq_true rfl⟩
  rw [e]
  by_cases c : x ∈ ks
  · rw [decide_eq_true c, if_pos rfl, if_pos c]
    unfold kd
    rw [List.map_map]
    apply List.map_congr_left
    intro k _
    show (if (Sum.inr k : Key) = Sum.inr x then _ else _) = _
    by_cases z : (Sum.inr k : Key) = Sum.inr x
    · rw [if_pos z]
    · rw [if_neg z]
  · rw [decide_eq_false c, if_neg (by decide), if_neg c]
    unfold kd
    rw [List.map_append]
    rfl
def spAsc : Sp := fun vs H Q _ => ∃ (a : Addr) (xs : List Str), vs = [.ref a] ∧ H a = some (.lst (xs.map V.str)) ∧ xs.length ≤ 60 ∧
  ∀ H' t ys, Same H H' → H t = none → H' t = some (.tup (ys.map V.str)) → AscOf xs ys → Q (.ref t) H'
section
variable {P : Program} {w : World} {K : PySem.W.Frag} {mg : Str → Option Value} {base : Heap} {C : Addr}
theorem scAsc : FnScope ["words", "kept", "word"] ["words"] (defScope sAsc) := ⟨rfl, rfl, rfl, by decide +kernel, rfl, by decide +kernel, by decide +kernel⟩
theorem ok_asc {f : Addr} {fd : FuncData} (F : Fun K "ascending" "ascending" sAsc f fd) (nt : mg "tuple" = none) (ns : mg "sorted" = none) (nst : mg "str" = none) : FnOk P w K mg base CX0 1 f fd ["words"] spAsc := by
  refine F.ok scAsc (fun vs H Q E h => ?_) (fun cdv A outer s H vs Q E hr h => ?_)
  · obtain ⟨a, xs, rfl, _⟩ := h
    rfl
  · obtain ⟨a, xs, rfl, ha, hl, q⟩ := h
    have b_str : bootBuiltins "str" = some (.type "str") := by decide +kernel
    have b_sorted : bootBuiltins "sorted" = some (.builtin "sorted") := by decide +kernel
    refine ⟨_, pss_cons (DCi.ps_setDc (i := 1) (own := [("word", 2)]) (g := gName 2) (tt := tYes) rfl scAsc.nd rfl rfl rfl (pi_list (pv 0)) (blkOk_by (N := ["words", "kept", "word"]) (sc := defScope sAsc) (by decide +kernel))
        (fun _ _ _ _ _ => pg_name (i := 2) scAsc.nd rfl (Or.inl rfl)) (fun _ _ _ _ _ => pts_nil) (fun _ _ _ _ _ => pv 2) (fun _ _ _ _ _ => pe_bl))
      (pss_one (ps_ret (pe_tupleOf (by rfl) nt (pe_callB cr_sortedS (by rfl) ns b_sorted (pa_cons (pe_lock (pe_lc (own := [("word", 2)]) (g := gName 2) (tt := tYes) rfl scAsc.nd (pi_keys (pv 1)) (blkOk_by (N := ["words", "kept", "word"]) (sc := defScope sAsc) (by decide +kernel))
        (fun _ _ _ _ _ => pg_name (i := 2) scAsc.nd rfl (Or.inl rfl)) (fun _ _ _ _ _ => pts_nil) (fun _ _ _ _ _ => pe_callTy SkE.call_str_str (by rfl) nst b_str (pa_cons (pv 2) pa_nil)))) pa_nil))))), ?_⟩
    refine ⟨_, rfl, a, rfl, ⟨_, SqL.of ha⟩, fun D nD => ?_⟩
    refine DCi.dc_it (walk_list (xs := xs.map V.str)) (fun i H' => Same H H' ∧ H' D = some (.dK (kd (keysOf (xs.take i))))) ?_ (fun i H' _ h => SqL.of (h.1 _ _ ha)) ?_ ?_
    · exact ⟨same_upd nD, by rw [upd_same]; rfl⟩
    · rintro i v H1 H2 hi ⟨es, hD⟩ ⟨rfl, hv⟩
      have hi' : i < xs.length := by simpa using hi
      rw [List.getElem?_map, List.getElem?_eq_getElem hi'] at hv
      obtain rfl : V.str xs[i] = v := Option.some.inj hv
      refine ⟨rfl, ?_⟩
      unfold tYes
      refine iteT ⟨_, rfl, _, .inr xs[i], rfl, hD, ?_, ?_, ?_⟩
      · have := (keys_all _ (xs.take i) rfl).2.1
        rw [List.length_take] at this
        unfold kd
        rw [List.length_map]
        exact Nat.lt_of_le_of_lt (Nat.le_trans this (Nat.le_trans (Nat.min_le_right _ _) hl)) (by decide)
      · intro b u e
        rw [upd_ne (ne_of_none e nD)]
        exact es _ _ e
      · rw [upd_same, putK_kd, List.take_add_one, List.getElem?_eq_getElem hi', show (some xs[i]).toList = [xs[i]] from rfl, keys_snoc]
    · rintro H1 ⟨es, hD⟩
      rw [show xs.take (xs.map V.str).length = xs from by rw [List.length_map]; exact List.take_length] at hD
      obtain ⟨kn, klen, kmem⟩ := keys_all _ xs rfl
      refine ⟨D, _, hD, trivial, fun od => ?_⟩
      have nDH : H D = none := nD
      have e1 : Same H (upd H1 D (.frz od (.dK (kd (keysOf xs))))) := fun b u e => by
        rw [upd_ne (ne_of_none e nDH)]
        exact es _ _ e
      refine ⟨_, rfl, D, od, rfl, .inl ⟨_, upd_same, fun D2 nD2 => ?_⟩⟩
      refine lc_it walk_keys (Pv := Tk (upd H1 D (.frz od (.dK (kd (keysOf xs))))) D2 ((keysOf xs).map V.str)) (Tk.start nD2) (fun i H' _ h => h.1 _ _ upd_same) ?_ ?_
      · rintro i v H2 H3 hi hk ⟨rfl, k, vv, hkv, rfl⟩
        have hi' : i < (keysOf xs).length := by unfold kd at hi; simpa using hi
        unfold kd at hkv
        rw [List.getElem?_map, List.getElem?_eq_getElem hi'] at hkv
        cases hkv
        refine ⟨rfl, ?_⟩
        unfold tYes
        refine iteT ⟨_, rfl, _, rfl, ?_⟩
        exact hk.step nD2 (Same.refl _) (by rw [List.getElem?_map, List.getElem?_eq_getElem hi']; rfl) (by rw [List.length_map]; omega)
      · rintro H2 hk
        have hD2 := hk.done (by unfold kd; rw [List.length_map, List.length_map])
        have nDD : D2 ≠ D := fun z => by rw [z, upd_same] at nD2; cases nD2
        refine ⟨hk.1 _ _ upd_same, D2, keysOf xs, rfl, SqL.of (by rw [upd_ne nDD]; exact hD2), by omega, fun ys p hp hs np => .inl ⟨p, _, rfl, SqL.of upd_same, fun t nt => ?_⟩⟩
        have e2 : Same H (upd H2 D (.dK (kd (keysOf xs)))) := fun b u e => by
          rw [upd_ne (ne_of_none e nDH)]
          exact hk.1 _ _ (e1 _ _ e)
        have e3 := e2.trans (same_upd (o := .lst (ys.map V.str)) np)
        have e4 := e3.trans (same_upd (o := .tup (ys.map V.str)) nt)
        refine q _ t ys e4 ?_ upd_same ⟨sorted_pw hs (hp.nodup_iff.mpr kn), fun n => (hp.mem_iff).trans (kmem n)⟩
        cases ht : H t with
        | none => rfl
        | some u => rw [e3 _ _ ht] at nt; cases nt
end
end Hs
/-! the house -/
namespace Hs
open PySem PySem.Spec PyProof.Rows L2 Am
structure Sound (L : Lore) : Prop where
  z : L.days = 0 → L.places = [] ∧ L.prices = [] ∧ L.stays = []
  g : Good L
  n : (L.places.map (·.name)).Nodup
  s : Small L
theorem hasP_mem {L : Lore} {x : Str} : hasP L x = true ↔ x ∈ L.places.map (·.name) := by
  unfold hasP
  rw [List.any_eq_true, List.mem_map]
  exact ⟨fun ⟨p, a, b⟩ => ⟨p, a, of_decide_eq_true b⟩, fun ⟨p, a, b⟩ => ⟨p, a, decide_eq_true b⟩⟩
theorem hasF_ne {L : Lore} (h : hasF L = true) : L.places ≠ [] := fun z => by
  unfold hasF at h
  rw [z] at h
  cases h
theorem Step.sound {L L' : Lore} {ln : Str} (h : Step L ln L') (s : Sound L) : Sound L' := by
  have sm := h.small s.s
  obtain ⟨z, ⟨g1, g2, g3⟩, n, _⟩ := s
  cases h with
  | days _ h0 _ _ hn =>
    obtain ⟨a, b, c⟩ := z h0
    refine ⟨fun e => ⟨a, b, c⟩, ⟨hn.2, fun s hs => ?_, fun p hp => ?_⟩, n, sm⟩
    · rw [show L.stays = [] from c] at hs; cases hs
    · rw [show L.prices = [] from b] at hp; cases hp
  | @place x r m inner _ h0 p0 s0 _ _ _ hp _ _ _ _ =>
    refine ⟨fun e => absurd e h0, ⟨g1, g2, g3⟩, ?_, sm⟩
    rw [List.map_append, List.nodup_append]
    refine ⟨n, by simp, fun a ha b hb e => ?_⟩
    simp at hb
    rw [← e] at hb
    have : hasP L x = true := hasP_mem.mpr (hb ▸ ha)
    rw [hp] at this
    cases this
  | @price x y a m _ hf s0 _ _ _ _ _ hl ha hn =>
    refine ⟨fun e => absurd (z e).1 (hasF_ne hf), ⟨g1, g2, fun p hp => ?_⟩, n, sm⟩
    rcases List.mem_append.mp hp with hp | hp
    · exact g3 p hp
    · rw [List.mem_singleton.mp hp]
      exact ha
  | @stay x y u v a b _ hf l8 _ _ _ _ _ _ _ _ hab hb _ =>
    refine ⟨fun e => absurd (z e).1 (hasF_ne hf), ⟨g1, fun s hs => ?_, g3⟩, n, sm⟩
    rcases List.mem_append.mp hs with hs | hs
    · exact g2 s hs
    · rw [List.mem_singleton.mp hs]
      exact ⟨hab, hb⟩
theorem L0_sound : Sound L0 := ⟨fun _ => ⟨rfl, rfl, rfl⟩, ⟨by decide, fun _ h => absurd h List.not_mem_nil, fun _ h => absurd h List.not_mem_nil⟩, by decide, L0_small⟩
theorem Steps.sound {L L' : Lore} {ls : List Str} (h : Steps L ls L') : Sound L → Sound L' := by
  induction h with
  | nil => exact id
  | cons s _ ih => exact fun h => ih (s.sound h)
theorem Told.sound {x : Str} {L : Lore} (h : Told x L) : Sound L := h.st.sound L0_sound
def metersOf (L : Lore) : List Str := "main" :: (L.places.filter (·.inner)).map (·.name)
def hfs (x : Str) (n : Nat) (a b c r t p : Addr) : List (Str × V) := putF "_prices" (.ref p) (putF "_tenants" (.ref t) (putF "_rooms" (.ref r) (putF "people" (.ref c) (putF "meters" (.ref b) (putF "flats" (.ref a) (putF "days" (.int n) (putF "_text" (.str x) [])))))))
theorem hfs_none {f : Str} (x : Str) (n : Nat) (a b c r t p : Addr) (h : f ∉ [("_prices" : Str), "_tenants", "_rooms", "people", "meters", "flats", "days", "_text"]) : (hfs x n a b c r t p).lookup f = none := by
  simp only [List.mem_cons, not_or] at h
  obtain ⟨h1, h2, h3, h4, h5, h6, h7, h8, _⟩ := h
  unfold hfs
  simp only [lookup_putF, if_neg h1, if_neg h2, if_neg h3, if_neg h4, if_neg h5, if_neg h6, if_neg h7, if_neg h8]
  rfl
section
variable (x : Str) (n : Nat) (a b c r t p : Addr)
theorem hfs_pr : (hfs x n a b c r t p).lookup ("_prices" : Str) = some (.ref p) := by unfold hfs; rw [lookup_putF, if_pos rfl]
theorem hfs_te : (hfs x n a b c r t p).lookup ("_tenants" : Str) = some (.ref t) := by unfold hfs; rw [lookup_putF, if_neg (by decide +kernel), lookup_putF, if_pos rfl]
theorem hfs_ro : (hfs x n a b c r t p).lookup ("_rooms" : Str) = some (.ref r) := by unfold hfs; rw [lookup_putF, if_neg (by decide +kernel), lookup_putF, if_neg (by decide +kernel), lookup_putF, if_pos rfl]
theorem hfs_pe : (hfs x n a b c r t p).lookup ("people" : Str) = some (.ref c) := by unfold hfs; rw [lookup_putF, if_neg (by decide +kernel), lookup_putF, if_neg (by decide +kernel), lookup_putF, if_neg (by decide +kernel), lookup_putF, if_pos rfl]
theorem hfs_me : (hfs x n a b c r t p).lookup ("meters" : Str) = some (.ref b) := by unfold hfs; rw [lookup_putF, if_neg (by decide +kernel), lookup_putF, if_neg (by decide +kernel), lookup_putF, if_neg (by decide +kernel), lookup_putF, if_neg (by decide +kernel), lookup_putF, if_pos rfl]
theorem hfs_fl : (hfs x n a b c r t p).lookup ("flats" : Str) = some (.ref a) := by unfold hfs; rw [lookup_putF, if_neg (by decide +kernel), lookup_putF, if_neg (by decide +kernel), lookup_putF, if_neg (by decide +kernel), lookup_putF, if_neg (by decide +kernel), lookup_putF, if_neg (by decide +kernel), lookup_putF, if_pos rfl]
theorem hfs_da : (hfs x n a b c r t p).lookup ("days" : Str) = some (.int n) := by unfold hfs; rw [lookup_putF, if_neg (by decide +kernel), lookup_putF, if_neg (by decide +kernel), lookup_putF, if_neg (by decide +kernel), lookup_putF, if_neg (by decide +kernel), lookup_putF, if_neg (by decide +kernel), lookup_putF, if_neg (by decide +kernel), lookup_putF, if_pos rfl]
theorem hfs_tx : (hfs x n a b c r t p).lookup ("_text" : Str) = some (.str x) := by unfold hfs; rw [lookup_putF, if_neg (by decide +kernel), lookup_putF, if_neg (by decide +kernel), lookup_putF, if_neg (by decide +kernel), lookup_putF, if_neg (by decide +kernel), lookup_putF, if_neg (by decide +kernel), lookup_putF, if_neg (by decide +kernel), lookup_putF, if_neg (by decide +kernel), lookup_putF, if_pos rfl]
end
/-- a house, and all that hangs on it -/
def HouseAt (C : Addr) (H : Hp) (h : Addr) (x : Str) (L : Lore) : Prop := ∃ (dx a b c r t p : Addr) (rs ts : List Addr) (ys : List Str), H h = some (.ins C dx (hfs x L.days a b c r t p)) ∧
  H a = some (.tup (rs.map V.ref)) ∧ Refs plO H rs L.places ∧ H b = some (.tup ((metersOf L).map V.str)) ∧ H c = some (.tup (ys.map V.str)) ∧ AscOf ("house" :: L.stays.map (·.who)) ys ∧
  H r = some (.dK (L.places.map fun q => (.inr q.name, .int q.room))) ∧ H t = some (.dK ((L.places.zip ts).map fun q => ((.inr q.1.name : Key), V.ref q.2))) ∧ Refs (fun q : Pl => .tup (row L.days V.str (tenD L.stays q.name))) H ts L.places ∧
  H p = some (.tup (row L.days (fun n : Nat => V.int n) (priD L.prices)))
theorem HouseAt.same {C : Addr} {H H' : Hp} {h : Addr} {x : Str} {L : Lore} (k : HouseAt C H h x L) (e : Same H H') : HouseAt C H' h x L := by
  obtain ⟨dx, a, b, c, r, t, p, rs, ts, ys, h1, h2, h3, h4, h5, h6, h7, h8, h9, h10⟩ := k
  exact ⟨dx, a, b, c, r, t, p, rs, ts, ys, e _ _ h1, e _ _ h2, h3.same e, e _ _ h4, e _ _ h5, h6, e _ _ h7, e _ _ h8, h9.same e, e _ _ h10⟩
/-- what the class House must have -/
structure HoC (K : PySem.W.Frag) (C : Addr) : Prop where
  cl : Cls K C
  n1 : NoAttr K C "_text"
  n2 : NoAttr K C "days"
  n3 : NoAttr K C "flats"
  n4 : NoAttr K C "meters"
  n5 : NoAttr K C "people"
  n6 : NoAttr K C "_rooms"
  n7 : NoAttr K C "_tenants"
  n8 : NoAttr K C "_prices"
end Hs
namespace Hs
open PySem PySem.Spec PyProof.Rows L2 Am
section
variable {P : Program} {w : World} {K : PySem.W.Frag} {mg : Str → Option Value} {base : Heap} {C CD : Addr}
theorem putF_len (k : Str) (v : V) : ∀ fs : List (Str × V), (putF k v fs).length ≤ fs.length + 1
  | [] => by simp [putF]
  | (a, b) :: r => by
    have := putF_len k v r
    simp only [putF]
    by_cases c : a = k
    · rw [if_pos c]; simp
    · rw [if_neg c]; simp; omega
theorem past_ob {H H' : Hp} {h b C dx : Addr} {fs : List (Str × V)} {o : HO} (ob : H h = some (.ins C dx fs)) (fr : Fr [h] H H') (e : H b = some o) (ho : ∀ C dx fs, o ≠ .ins C dx fs) : H' b = some o :=
  fr _ _ e (fun z => by rw [List.mem_singleton.mp z, ob] at e; exact ho _ _ _ (Option.some.inj e).symm)
theorem past_refs {α : Type} {f : α → HO} {H H' : Hp} {h C dx : Addr} {fs : List (Str × V)} {rs : List Addr} {xs : List α} (ob : H h = some (.ins C dx fs)) (fr : Fr [h] H H') (k : Refs f H rs xs) (ho : ∀ x C dx fs, f x ≠ .ins C dx fs) : Refs f H' rs xs :=
  ⟨k.1, fun i r y a b => past_ob ob fr (k.2 i r y a b) (ho y)⟩
theorem past_draft {H H' : Hp} {h C dx d lp lt ls : Addr} {fs : List (Str × V)} {L : Lore} (ob : H h = some (.ins C dx fs)) (fr : Fr [h] H H') (nd : d ≠ h) (k : DraftAt CD H d lp lt ls L) : DraftAt CD H' d lp lt ls L := by
  obtain ⟨⟨dy, a⟩, ⟨r1, b1, b2⟩, ⟨r2, c1, c2⟩, ⟨r3, d1, d2⟩, n1, n2, n3⟩ := k
  refine ⟨⟨dy, fr _ _ a (by simpa using nd)⟩, ⟨r1, past_ob ob fr b1 (fun _ _ _ z => by cases z), past_refs ob fr b2 (fun x _ _ _ z => by unfold plO at z; cases z)⟩,
    ⟨r2, past_ob ob fr c1 (fun _ _ _ z => by cases z), past_refs ob fr c2 (fun x _ _ _ z => by unfold prO at z; cases z)⟩,
    ⟨r3, past_ob ob fr d1 (fun _ _ _ z => by cases z), past_refs ob fr d2 (fun x _ _ _ z => by unfold stO at z; cases z)⟩, n1, n2, n3⟩
theorem Fr.tr {ms : List Addr} {H H1 H2 : Hp} (a : Fr ms H H1) (b : Same H1 H2) : Fr ms H H2 := fun c u e n => b c u (a c u e n)
theorem putK_new {kvs : List (Key × V)} {k : Key} {v : V} (h : ∀ kv ∈ kvs, kv.1 ≠ k) : putK kvs k v = kvs ++ [(k, v)] := by
  unfold putK
  rw [if_neg]
  rw [List.any_eq_true]
  rintro ⟨kv, a, b⟩
  exact h kv a (of_decide_eq_true b)
theorem lock_draft {H H' : Hp} {r d lp lt ls : Addr} {kvs : List (Key × V)} {L : Lore} (hr : H r = some (.dK kvs)) (fr : Fr [r] H H') (k : DraftAt CD H d lp lt ls L) : DraftAt CD H' d lp lt ls L := by
  have no : ∀ {b : Addr} {o : HO}, H b = some o → (∀ kvs, o ≠ .dK kvs) → H' b = some o := fun e ho => fr _ _ e (fun z => by rw [List.mem_singleton.mp z, hr] at e; exact ho _ (Option.some.inj e).symm)
  obtain ⟨⟨dy, a⟩, ⟨r1, b1, b2⟩, ⟨r2, c1, c2⟩, ⟨r3, d1, d2⟩, n1, n2, n3⟩ := k
  exact ⟨⟨dy, no a (fun _ z => by cases z)⟩, ⟨r1, no b1 (fun _ z => by cases z), b2.1, fun i r y u v => no (b2.2 i r y u v) (fun _ z => by unfold plO at z; cases z)⟩,
    ⟨r2, no c1 (fun _ z => by cases z), c2.1, fun i r y u v => no (c2.2 i r y u v) (fun _ z => by unfold prO at z; cases z)⟩,
    ⟨r3, no d1 (fun _ z => by cases z), d2.1, fun i r y u v => no (d2.2 i r y u v) (fun _ z => by unfold stO at z; cases z)⟩, n1, n2, n3⟩
def spHInit (C : Addr) : Sp := fun vs H Q _ => ∃ (h dx : Addr) (x : Str) (L : Lore), vs = [.ref h, .str x] ∧ H h = some (.ins C dx []) ∧ Told x L ∧ ∀ H', Fr [h] H H' → HouseAt C H' h x L → Q .non H'
theorem scHInit : FnScope ["self", "text", "draft", "name", "room", "inner", "person", "place", "first", "behind"] ["self", "text"] (defScope sHInit) := ⟨rfl, rfl, rfl, by decide +kernel, rfl, by decide +kernel, by decide +kernel⟩
theorem ok_hInit {f : Addr} {fd : FuncData} (F : Fun K "__init__" "House.__init__" sHInit f fd) (hc : HoC K C) (dc : DC K CD) (T : Nm mg) (nt : mg "tuple" = none) (mN : ∃ t, mg "NOBODY" = some (.str "house" t))
    (GD : GotF P w K mg base "drafted" 4 ["text"] (spDrafted CD)) (GA : GotF P w K mg base "ascending" 1 ["words"] spAsc) (GT : GotF P w K mg base "tenants" 1 ["name", "draft"] (spTen CD)) (GP : GotF P w K mg base "prices" 1 ["draft"] (spPri CD)) :
    FnOk P w K mg base CX0 5 f fd ["self", "text"] (spHInit C) := by
  obtain ⟨tN, mN⟩ := mN
  obtain ⟨fD, fdD, GD, bD, mD, kD⟩ := GD
  obtain ⟨fA, fdA, GA, bA, mA, kA⟩ := GA
  obtain ⟨fT, fdT, GT, bT, mT, kT⟩ := GT
  obtain ⟨fP, fdP, GP, bP, mP, kP⟩ := GP
  refine F.ok scHInit (fun vs H Q E h => ?_) (fun cdv A outer s H vs Q E hr h => ?_)
  · obtain ⟨h, dx, x, L, rfl, _⟩ := h
    rfl
  · obtain ⟨h, dx, x, L, rfl, ob, td, q⟩ := h
    have hr1 : Room 1 _ := hr.mono (by decide)
    refine ⟨_, pss_cons (ps_set (i := 2) scHInit.nd rfl (.inr rfl) (pe_call GD hr (by rfl) mD kD bD .nil pass0 (pa_cons (pv 1) pa_nil)))
      (pss_cons (ps_fld (pv 0) (pv 1) rfl)
      (pss_cons (ps_fld (pv 0) (pe_fld (pv 2) rfl) rfl)
      (pss_cons (ps_fld (pv 0) (pe_tupleOf (by rfl) nt (pe_fld (pv 2) rfl)) rfl)
      (pss_cons (ps_fld (pv 0) (pe_tupleOf (by rfl) nt (pe_op op_cat (pe_lst (pa_cons pe_str pa_nil)) (pe_lc (own := [("name", 3), ("room", 4), ("inner", 5)]) (g := gTup K 3 (gCons (gName 3) (gCons (gName 4) (gCons (gName 5) gNil)))) rfl scHInit.nd (pi_list (pe_fld (pv 2) rfl))
        (blkOk_by (N := ["self", "text", "draft", "name", "room", "inner", "person", "place", "first", "behind"]) (sc := defScope sHInit) (by decide +kernel))
        (fun _ _ _ _ _ => pg_tup rfl (pgs_cons (pg_name (i := 3) scHInit.nd rfl (.inl rfl)) (pgs_cons (pg_name (i := 4) scHInit.nd rfl (.inl rfl)) (pgs_cons (pg_name (i := 5) scHInit.nd rfl (.inl rfl)) pgs_nil)))) (fun _ _ _ _ _ => pts_one (pt_val (pv 5)))
        (fun _ _ _ _ _ => pv 3)))) rfl)
      (pss_cons (ps_fld (pv 0) (pe_call GA hr1 (by rfl) mA kA bA .nil pass0 (pa_cons (pe_op op_cat (pe_lst (pa_cons (pe_glob (v := .str "house") (by rfl) mN ⟨_, rfl⟩) pa_nil)) (pe_lc (own := [("person", 6), ("place", 7), ("first", 8), ("behind", 9)]) (g := gTup K 4 (gCons (gName 6) (gCons (gName 7) (gCons (gName 8) (gCons (gName 9) gNil))))) (tt := tYes) rfl scHInit.nd (pi_list (pe_fld (pv 2) rfl))
        (blkOk_by (N := ["self", "text", "draft", "name", "room", "inner", "person", "place", "first", "behind"]) (sc := defScope sHInit) (by decide +kernel))
        (fun _ _ _ _ _ => pg_tup rfl (pgs_cons (pg_name (i := 6) scHInit.nd rfl (.inl rfl)) (pgs_cons (pg_name (i := 7) scHInit.nd rfl (.inl rfl)) (pgs_cons (pg_name (i := 8) scHInit.nd rfl (.inl rfl)) (pgs_cons (pg_name (i := 9) scHInit.nd rfl (.inl rfl)) pgs_nil))))) (fun _ _ _ _ _ => pts_nil)
        (fun _ _ _ _ _ => pv 6))) pa_nil)) rfl)
      (pss_cons (ps_fld (pv 0) (pe_dc (own := [("name", 3), ("room", 4), ("inner", 5)]) (g := gTup K 3 (gCons (gName 3) (gCons (gName 4) (gCons (gName 5) gNil)))) (tt := tYes) rfl scHInit.nd (pi_list (pe_fld (pv 2) rfl))
        (blkOk_by (N := ["self", "text", "draft", "name", "room", "inner", "person", "place", "first", "behind"]) (sc := defScope sHInit) (by decide +kernel))
        (fun _ _ _ _ _ => pg_tup rfl (pgs_cons (pg_name (i := 3) scHInit.nd rfl (.inl rfl)) (pgs_cons (pg_name (i := 4) scHInit.nd rfl (.inl rfl)) (pgs_cons (pg_name (i := 5) scHInit.nd rfl (.inl rfl)) pgs_nil)))) (fun _ _ _ _ _ => pts_nil)
        (fun _ _ _ _ _ => pv 3) (fun _ _ _ _ _ => pv 4)) rfl)
      (pss_cons (ps_fld (pv 0) (pe_lock (pe_dc (own := [("name", 3)]) (g := gName 3) (tt := tYes) rfl scHInit.nd (pi_keys (pe_fld (pv 0) rfl))
        (blkOk_by (N := ["self", "text", "draft", "name", "room", "inner", "person", "place", "first", "behind"]) (sc := defScope sHInit) (by decide +kernel))
        (fun _ _ _ _ _ => pg_name (i := 3) scHInit.nd rfl (.inl rfl)) (fun _ _ _ _ _ => pts_nil)
        (fun _ _ _ _ _ => pv 3) (fun _ _ _ _ _ => pe_call GT hr1 (by rfl) mT kT bT .nil pass0 (pa_cons (pv 3) (pa_cons (pv 2) pa_nil))))) rfl)
      (pss_one (ps_fld (pv 0) (pe_call GP hr1 (by rfl) mP kP bP .nil pass0 (pa_cons (pv 2) pa_nil)) rfl))))))))), ?_⟩
    have hs := td.sound
    have sm := hs.s
    refine ⟨_, rfl, x, L, rfl, td, fun H1 d lp lt ls e1 hd nd n1 n2 n3 _ => ?_⟩
    have ndh : d ≠ h := fun z => by rw [z, ob] at nd; cases nd
    have fr1 : Fr [h] H H1 := Fr.same e1
    have ob1 := e1 _ _ ob
    refine ⟨_, rfl, _, rfl, h, C, dx, _, rfl, ob1, hc.cl, hc.n1, by decide, ?_⟩
    generalize hG : upd H1 h (.ins C dx (putF "_text" (.str x) [])) = H2
    have ob2 : H2 h = some (.ins C dx (putF "_text" (.str x) [])) := by rw [← hG]; exact upd_same
    have fr2 : Fr [h] H1 H2 := by rw [← hG]; exact Fr.upd (by simp)
    clear hG
    replace hd := past_draft ob1 fr2 ndh hd
    replace fr2 := fr1.trans fr2
    clear fr1 ob1 e1
    obtain ⟨dy, od⟩ := hd.ob
    refine ⟨_, rfl, d, CD, dy, _, _, rfl, od, dc.cl, dc.nD, dfs_days _ _ _ _, _, rfl, h, C, dx, _, rfl, ob2, hc.cl, hc.n2, Nat.lt_of_le_of_lt (putF_len _ _ _) (by decide), ?_⟩
    generalize hG : upd H2 h (.ins C dx (putF "days" (.int L.days) (putF "_text" (.str x) []))) = H3
    have ob3 : H3 h = some (.ins C dx (putF "days" (.int L.days) (putF "_text" (.str x) []))) := by rw [← hG]; exact upd_same
    have fr3 : Fr [h] H2 H3 := by rw [← hG]; exact Fr.upd (by simp)
    clear hG
    replace hd := past_draft ob2 fr3 ndh hd
    replace fr3 := fr2.trans fr3
    clear fr2 ob2 od
    obtain ⟨dy, od⟩ := hd.ob
    obtain ⟨rs, hlp, hrp⟩ := hd.pl
    refine ⟨_, rfl, d, CD, dy, _, _, rfl, od, dc.cl, dc.nP, dfs_pl _ _ _ _, .inl ⟨lp, _, rfl, SqL.of hlp, fun a na => ?_⟩⟩
    refine ⟨_, rfl, h, C, dx, _, rfl, same_upd na _ _ ob3, hc.cl, hc.n3, Nat.lt_of_le_of_lt (putF_len _ _ _) (Nat.lt_of_le_of_lt (Nat.succ_le_succ (putF_len _ _ _)) (by decide)), ?_⟩
    have eA := same_upd (o := .tup (rs.map V.ref)) na
    replace hd := hd.same eA
    have ra := hrp.same eA
    have fa : upd H3 a (.tup (rs.map V.ref)) a = _ := upd_same
    have obA := eA _ _ ob3
    replace fr3 := fr3.tr eA
    clear hlp hrp od ob3
    generalize upd H3 a (.tup (rs.map V.ref)) = HA at *
    clear eA na
    generalize hf3 : putF "flats" (V.ref a) (putF "days" (.int L.days) (putF "_text" (.str x) [])) = f3
    have lf3 : f3.length ≤ 3 := by
      rw [← hf3]
      exact Nat.le_trans (putF_len _ _ _) (Nat.succ_le_succ (Nat.le_trans (putF_len _ _ _) (Nat.succ_le_succ (putF_len _ _ _))))
    generalize hG : upd HA h (.ins C dx f3) = H4
    have ob4 : H4 h = some (.ins C dx f3) := by rw [← hG]; exact upd_same
    have fr4 : Fr [h] HA H4 := by rw [← hG]; exact Fr.upd (by simp)
    clear hG
    replace hd := past_draft obA fr4 ndh hd
    replace ra := past_refs obA fr4 ra (fun x _ _ _ z => by unfold plO at z; cases z)
    replace fa := past_ob obA fr4 fa (fun _ _ _ z => by cases z)
    replace fr4 := fr3.trans fr4
    clear fr3 obA dy
    obtain ⟨dy, od⟩ := hd.ob
    obtain ⟨rp, hlp, hrp⟩ := hd.pl
    refine ⟨by decide, fun l1 nl1 => ?_⟩
    have e5 := same_upd (o := .lst [V.str "main"]) nl1
    refine ⟨_, rfl, d, CD, dy, _, _, rfl, e5 _ _ od, dc.cl, dc.nP, dfs_pl _ _ _ _, lp, rfl, ⟨_, SqL.of (e5 _ _ hlp)⟩, fun D nD => ?_⟩
    refine lc_it (walk_list (xs := rp.map V.ref)) (Pv := fun i H' => Same (upd H4 l1 (.lst [V.str "main"])) H' ∧ H' D = some (.lst ((((L.places.take i).filter (·.inner)).map (·.name)).map V.str))) ⟨same_upd nD, by rw [upd_same]; rfl⟩ (fun i H' _ hh => SqL.of (hh.1 _ _ (e5 _ _ hlp))) ?_ ?_
    · rintro i v G1 G2 hi ⟨es, hD⟩ ⟨rfl, hv⟩
      obtain ⟨q1, pp, rfl, _, hp, ho⟩ := (hrp.same e5).at hv
      refine ⟨q1, _, rfl, SqT.of (es _ _ ho), rfl, _, _, rfl, _, _, rfl, _, _, rfl, rfl, rfl, ?_⟩
      refine ⟨_, rfl, _, rfl, ?_⟩
      have et : L.places.take (i + 1) = L.places.take i ++ [pp] := by rw [List.take_add_one, hp]; rfl
      cases ci : pp.inner with
      | false =>
        refine iteF ⟨es, ?_⟩
        rw [et, List.filter_append]
        simp only [List.filter_cons, ci, List.filter_nil]
        rw [if_neg (by decide), List.append_nil]
        exact hD
      | true =>
        refine iteT ⟨_, rfl, _, hD, ?_, fun b u e => ?_, ?_⟩
        · rw [List.length_map, List.length_map]
          exact Nat.lt_of_le_of_lt (Nat.le_trans (List.length_filter_le _ _) (Nat.le_trans (by rw [List.length_take]; exact Nat.min_le_right _ _) sm.1)) (show 4 < sizeLine by decide)
        · rw [upd_ne (ne_of_none e nD)]
          exact es _ _ e
        · rw [upd_same, et, List.filter_append]
          simp [ci]
    · rintro G1 ⟨es, hD⟩
      rw [show L.places.take (rp.map V.ref).length = L.places from by rw [List.length_map, hrp.1]; exact List.take_length] at hD
      have e6 := e5.trans es
      refine ⟨l1, D, _, _, rfl, rfl, es _ _ upd_same, hD, ?_, fun l2 nl2 => .inl ⟨l2, _, rfl, SqL.of upd_same, fun b nb => ?_⟩⟩
      · rw [List.length_map, List.length_map]
        exact Nat.le_trans (Nat.add_le_add_left (Nat.le_trans (List.length_filter_le _ _) sm.1) 1) (by decide)
      have e7 := (e6.trans (same_upd (o := .lst ([V.str "main"] ++ ((L.places.filter (·.inner)).map (·.name)).map V.str)) nl2)).trans (same_upd (o := .tup ([V.str "main"] ++ ((L.places.filter (·.inner)).map (·.name)).map V.str)) nb)
      refine ⟨_, rfl, h, C, dx, _, rfl, e7 _ _ ob4, hc.cl, hc.n4, by omega, ?_⟩
      replace hd := hd.same e7
      replace ra := ra.same e7
      replace fa := e7 _ _ fa
      have obB := e7 _ _ ob4
      have fb : upd (upd G1 l2 (.lst ([V.str "main"] ++ ((L.places.filter (·.inner)).map (·.name)).map V.str))) b (.tup ([V.str "main"] ++ ((L.places.filter (·.inner)).map (·.name)).map V.str)) b = some (.tup ((metersOf L).map V.str)) := upd_same
      have fr5 := fr4.tr e7
      generalize upd (upd G1 l2 (.lst ([V.str "main"] ++ ((L.places.filter (·.inner)).map (·.name)).map V.str))) b (.tup ([V.str "main"] ++ ((L.places.filter (·.inner)).map (·.name)).map V.str)) = HB at *
      clear e7 e6 nl2 nb hD es e5 hlp hrp od nl1 nD
      generalize hf4 : putF "meters" (V.ref b) f3 = f4
      have lf4 : f4.length ≤ 4 := by
        rw [← hf4]
        exact Nat.le_trans (putF_len _ _ _) (Nat.succ_le_succ lf3)
      generalize hG : upd HB h (.ins C dx f4) = H5
      have ob5 : H5 h = some (.ins C dx f4) := by rw [← hG]; exact upd_same
      have fr6 : Fr [h] HB H5 := by rw [← hG]; exact Fr.upd (by simp)
      clear hG
      replace hd := past_draft obB fr6 ndh hd
      replace ra := past_refs obB fr6 ra (fun x _ _ _ z => by unfold plO at z; cases z)
      replace fa := past_ob obB fr6 fa (fun _ _ _ z => by cases z)
      replace fb := past_ob obB fr6 fb (fun _ _ _ z => by cases z)
      replace fr6 := fr5.trans fr6
      clear fr5 fr4 obB ob4 dy
      obtain ⟨dy, od⟩ := hd.ob
      obtain ⟨rp, hls, hrs⟩ := hd.st
      refine ⟨by decide, fun l1 nl1 => ?_⟩
      have e5 := same_upd (o := .lst [V.str "house"]) nl1
      refine ⟨_, rfl, d, CD, dy, _, _, rfl, e5 _ _ od, dc.cl, dc.nS, dfs_st _ _ _ _, ls, rfl, ⟨_, SqL.of (e5 _ _ hls)⟩, fun D nD => ?_⟩
      refine lc_it (walk_list (xs := rp.map V.ref)) (Pv := Tk (upd H5 l1 (.lst [V.str "house"])) D (L.stays.map fun s => V.str s.who)) (Tk.start nD) (fun i H' _ hh => SqL.of (hh.1 _ _ (e5 _ _ hls))) ?_ ?_
      · rintro i v G1 G2 hi hk ⟨rfl, hv⟩
        obtain ⟨q1, pp, rfl, _, hp, ho⟩ := (hrs.same e5).at hv
        refine ⟨q1, _, rfl, SqT.of (hk.1 _ _ ho), rfl, _, _, rfl, _, _, rfl, _, _, rfl, _, _, rfl, rfl, rfl, ?_⟩
        unfold tYes
        refine iteT ⟨_, rfl, ?_⟩
        exact hk.step nD (Same.refl _) (by rw [List.getElem?_map, hp]; rfl) (by rw [List.length_map]; have := sm.2.2; omega)
      · rintro G1 hk
        have hD := hk.done (by simp [hrs.1])
        have e6 := e5.trans hk.1
        refine ⟨l1, D, _, _, rfl, rfl, hk.1 _ _ upd_same, hD, ?_, fun l2 nl2 => ?_⟩
        · rw [List.length_map]
          exact Nat.le_trans (Nat.add_le_add_left sm.2.2 1) (by decide)
        have e7 := e6.trans (same_upd (o := .lst ([V.str "house"] ++ (L.stays.map fun s => V.str s.who))) nl2)
        refine ⟨l2, "house" :: L.stays.map (·.who), rfl, ?_, ?_, fun HC c ys ec nc fc asc => ?_⟩
        · rw [upd_same]
          simp
        · have := sm.2.2
          simp
          omega
        replace e7 := e7.trans ec
        refine ⟨_, rfl, h, C, dx, _, rfl, e7 _ _ ob5, hc.cl, hc.n5, by omega, ?_⟩
        replace hd := hd.same e7
        replace ra := ra.same e7
        replace fa := e7 _ _ fa
        replace fb := e7 _ _ fb
        have obC := e7 _ _ ob5
        have fr7 := fr6.tr e7
        clear e7 e6 nl2 hD hk e5 hls hrs od nl1 nD ec nc fr6 ob5 dy
        generalize hf5 : putF "people" (V.ref c) f4 = f5
        have lf5 : f5.length ≤ 5 := by
          rw [← hf5]
          exact Nat.le_trans (putF_len _ _ _) (Nat.succ_le_succ lf4)
        generalize hG : upd HC h (.ins C dx f5) = H6
        have ob6 : H6 h = some (.ins C dx f5) := by rw [← hG]; exact upd_same
        have fr8 : Fr [h] HC H6 := by rw [← hG]; exact Fr.upd (by simp)
        clear hG
        replace hd := past_draft obC fr8 ndh hd
        replace ra := past_refs obC fr8 ra (fun x _ _ _ z => by unfold plO at z; cases z)
        replace fa := past_ob obC fr8 fa (fun _ _ _ z => by cases z)
        replace fb := past_ob obC fr8 fb (fun _ _ _ z => by cases z)
        replace fc := past_ob obC fr8 fc (fun _ _ _ z => by cases z)
        replace fr8 := fr7.trans fr8
        clear fr7 obC
        obtain ⟨dy, od⟩ := hd.ob
        obtain ⟨rp, hlp, hrp⟩ := hd.pl
        refine ⟨_, rfl, d, CD, dy, _, _, rfl, od, dc.cl, dc.nP, dfs_pl _ _ _ _, lp, rfl, ⟨_, SqL.of hlp⟩, fun r nr => ?_⟩
        refine DCi.dc_it (walk_list (xs := rp.map V.ref)) (fun i H' => Same H6 H' ∧ H' r = some (.dK ((L.places.take i).map fun q => (.inr q.name, .int q.room)))) ⟨same_upd nr, by rw [upd_same]; rfl⟩ (fun i H' _ hh => SqL.of (hh.1 _ _ hlp)) ?_ ?_
        · rintro i v G3 G2 hi ⟨es, hD⟩ ⟨rfl, hv⟩
          obtain ⟨q1, pp, rfl, _, hp, ho⟩ := hrp.at hv
          refine ⟨q1, _, rfl, SqT.of (es _ _ ho), rfl, _, _, rfl, _, _, rfl, _, _, rfl, rfl, rfl, ?_⟩
          unfold tYes
          refine iteT ⟨_, rfl, _, rfl, _, .inr pp.name, rfl, hD, ?_, fun b u e => ?_, ?_⟩
          · rw [List.length_map]
            exact Nat.lt_of_le_of_lt (Nat.le_trans (by rw [List.length_take]; exact Nat.min_le_right _ _) sm.1) (show 4 < sizeLine by decide)
          · rw [upd_ne (ne_of_none e nr)]
            exact es _ _ e
          · have et : L.places.take (i + 1) = L.places.take i ++ [pp] := by rw [List.take_add_one, hp]; rfl
            rw [upd_same, et, List.map_append, putK_new]
            · rfl
            · intro kv hkv ek
              obtain ⟨q', hq', rfl⟩ := List.mem_map.mp hkv
              have nn := hs.n
              have e0 := List.take_append_drop (i + 1) L.places
              rw [et] at e0
              rw [← e0, List.map_append, List.map_append, List.nodup_append] at nn
              have nn1 := nn.1
              rw [List.nodup_append] at nn1
              exact nn1.2.2 q'.name (List.mem_map_of_mem hq') pp.name (by simp) (Sum.inr.inj ek)
        · rintro G3 ⟨es, hD⟩
          rw [show L.places.take (rp.map V.ref).length = L.places from by rw [List.length_map, hrp.1]; exact List.take_length] at hD
          refine ⟨_, rfl, h, C, dx, _, rfl, es _ _ ob6, hc.cl, hc.n6, by omega, ?_⟩
          replace hd := hd.same es
          replace ra := ra.same es
          replace fa := es _ _ fa
          replace fb := es _ _ fb
          replace fc := es _ _ fc
          have obD := es _ _ ob6
          have fr9 := fr8.tr es
          clear es hlp hrp od fr8 ob6 dy
          generalize hf6 : putF "_rooms" (V.ref r) f5 = f6
          have lf6 : f6.length ≤ 6 := by
            rw [← hf6]
            exact Nat.le_trans (putF_len _ _ _) (Nat.succ_le_succ lf5)
          have lk6 : f6.lookup ("_rooms" : Str) = some (.ref r) := by rw [← hf6, lookup_putF, if_pos rfl]
          generalize hG : upd G3 h (.ins C dx f6) = H7
          have ob7 : H7 h = some (.ins C dx f6) := by rw [← hG]; exact upd_same
          have fr10 : Fr [h] G3 H7 := by rw [← hG]; exact Fr.upd (by simp)
          clear hG
          replace hd := past_draft obD fr10 ndh hd
          replace ra := past_refs obD fr10 ra (fun x _ _ _ z => by unfold plO at z; cases z)
          replace fa := past_ob obD fr10 fa (fun _ _ _ z => by cases z)
          replace fb := past_ob obD fr10 fb (fun _ _ _ z => by cases z)
          replace fc := past_ob obD fr10 fc (fun _ _ _ z => by cases z)
          have fd' := past_ob obD fr10 hD (fun _ _ _ z => by cases z)
          replace fr10 := fr9.trans fr10
          clear fr9 obD hD
          refine ⟨r, _, fd', trivial, fun ol => ?_⟩
          generalize hrooms : (L.places.map fun q : Pl => ((.inr q.name : Key), V.int q.room)) = rooms at *
          have rlen : rooms.length = L.places.length := by rw [← hrooms, List.length_map]
          have rat : ∀ (i : Nat) (k : Key) (v : V), rooms[i]? = some (k, v) → ∃ q : Pl, L.places[i]? = some q ∧ k = Sum.inr q.name := by
            intro i k v e
            rw [← hrooms, List.getElem?_map] at e
            cases hq : L.places[i]? with
            | none => rw [hq] at e; cases e
            | some q => rw [hq] at e; cases e; exact ⟨q, rfl, rfl⟩
          have frL : Fr [r] H7 (upd H7 r (.frz ol (.dK rooms))) := Fr.upd (by simp)
          have hdL := lock_draft fd' frL hd
          have hL : upd H7 r (.frz ol (.dK rooms)) r = some (.frz ol (.dK rooms)) := upd_same
          have nhr : h ≠ r := ne_of ob7 fd' (by intro z; cases z)
          have obL := frL _ _ ob7 (by simpa using nhr)
          generalize upd H7 r (.frz ol (.dK rooms)) = HL at *
          refine ⟨_, rfl, h, C, dx, _, _, rfl, obL, hc.cl, hc.n6, lk6, r, ol, rfl, .inl ⟨_, hL, fun t nt => ?_⟩⟩
          refine DCi.dc_it walk_keys (fun i H' => Same HL H' ∧ ∃ ts, H' t = some (.dK (((L.places.take i).zip ts).map fun q => ((.inr q.1.name : Key), V.ref q.2))) ∧ Refs (fun q : Pl => .tup (row L.days V.str (tenD L.stays q.name))) H' ts (L.places.take i)) ⟨same_upd nt, [], by rw [upd_same]; rfl, Refs.nil⟩ (fun i H' _ hh => hh.1 _ _ hL) ?_ ?_
          · rintro i v G4 G5 hi ⟨es, ts, hT, hts⟩ ⟨rfl, k, vv, hkv, rfl⟩
            obtain ⟨pp, hp, rfl⟩ := rat i k vv hkv
            refine ⟨rfl, ?_⟩
            unfold tYes
            refine iteT ⟨_, rfl, _, rfl, _, rfl, d, lp, lt, ls, L, pp.name, rfl, hdL.same es, sm, hs.g, fun G6 t1 e6 nt1 ht1 => ?_⟩
            have et : L.places.take (i + 1) = L.places.take i ++ [pp] := by rw [List.take_add_one, hp]; rfl
            have tsl : ts.length = (L.places.take i).length := hts.1
            refine ⟨_, .inr pp.name, rfl, e6 _ _ hT, ?_, fun b u e => ?_, ts ++ [t1], ?_, ?_⟩
            · rw [List.length_map, List.length_zip, tsl, Nat.min_self, List.length_take]
              exact Nat.lt_of_le_of_lt (Nat.le_trans (Nat.min_le_right _ _) sm.1) (show 4 < sizeLine by decide)
            · rw [upd_ne (ne_of_none e nt)]
              exact e6 _ _ (es _ _ e)
            · rw [upd_same, et, putK_new]
              · rw [List.zip_append (by rw [tsl]), List.map_append]
                rfl
              · intro kv hkv ek
                obtain ⟨q', hq', rfl⟩ := List.mem_map.mp hkv
                have nn := hs.n
                have e0 := List.take_append_drop (i + 1) L.places
                rw [et] at e0
                rw [← e0, List.map_append, List.map_append, List.nodup_append] at nn
                have nn1 := nn.1
                rw [List.nodup_append] at nn1
                exact nn1.2.2 q'.1.name (List.mem_map_of_mem (List.of_mem_zip hq').1) pp.name (by simp) (Sum.inr.inj ek)
            · rw [et]
              have nt1t : t1 ≠ t := (ne_of_none hT nt1).symm
              have kp : Refs (fun q : Pl => .tup (row L.days V.str (tenD L.stays q.name))) G6 ts (L.places.take i) := hts.same e6
              refine Refs.snoc ⟨kp.1, fun j r' y u' w' => ?_⟩ ?_
              · have e8 := kp.2 j r' y u' w'
                have e9 := e6 _ _ hT
                rw [upd_ne (ne_of e8 e9 (by intro z; cases z))]
                exact e8
              · rw [upd_ne nt1t]
                exact ht1
          · rintro G4 ⟨es, ts, hT, hts⟩
            rw [rlen, List.take_length] at hT hts
            refine ⟨es _ _ hL, ?_⟩
            have hr4 := es _ _ hL
            have e10 : Same H7 (upd G4 r (.dK rooms)) := fun b u e => by
              by_cases z : b = r
              · rw [z] at e ⊢
                rw [upd_same]
                exact fd'.symm.trans e
              · rw [upd_ne z]
                exact es _ _ (frL _ _ e (by simpa using z))
            have ft : upd G4 r (.dK rooms) t = some (.dK ((L.places.zip ts).map fun q => ((.inr q.1.name : Key), V.ref q.2))) := by
              rw [upd_ne (ne_of_none hL nt).symm]
              exact hT
            have fts : Refs (fun q : Pl => .tup (row L.days V.str (tenD L.stays q.name))) (upd G4 r (.dK rooms)) ts L.places := ⟨hts.1, fun j r' y u' w' => by
              have e8 := hts.2 j r' y u' w'
              rw [upd_ne (ne_of e8 hr4 (by intro z; cases z))]
              exact e8⟩
            replace hd := hd.same e10
            replace ra := ra.same e10
            replace fa := e10 _ _ fa
            replace fb := e10 _ _ fb
            replace fc := e10 _ _ fc
            replace fd' := e10 _ _ fd'
            replace ob7 := e10 _ _ ob7
            replace fr10 := fr10.tr e10
            clear e10 es hT hts hr4 frL hdL hL obL nt
            generalize upd G4 r (.dK rooms) = G7 at *
            refine ⟨_, rfl, h, C, dx, _, rfl, ob7, hc.cl, hc.n7, by omega, ?_⟩
            generalize hf7 : putF "_tenants" (V.ref t) f6 = f7
            have lf7 : f7.length ≤ 7 := by
              rw [← hf7]
              exact Nat.le_trans (putF_len _ _ _) (Nat.succ_le_succ lf6)
            generalize hG : upd G7 h (.ins C dx f7) = H8
            have ob8 : H8 h = some (.ins C dx f7) := by rw [← hG]; exact upd_same
            have fr11 : Fr [h] G7 H8 := by rw [← hG]; exact Fr.upd (by simp)
            clear hG
            replace hd := past_draft ob7 fr11 ndh hd
            replace ra := past_refs ob7 fr11 ra (fun x _ _ _ z => by unfold plO at z; cases z)
            replace fa := past_ob ob7 fr11 fa (fun _ _ _ z => by cases z)
            replace fb := past_ob ob7 fr11 fb (fun _ _ _ z => by cases z)
            replace fc := past_ob ob7 fr11 fc (fun _ _ _ z => by cases z)
            replace fd' := past_ob ob7 fr11 fd' (fun _ _ _ z => by cases z)
            replace ft := past_ob ob7 fr11 ft (fun _ _ _ z => by cases z)
            replace fts := past_refs ob7 fr11 fts (fun x _ _ _ z => by cases z)
            replace fr11 := fr10.trans fr11
            clear fr10 ob7
            refine ⟨_, rfl, d, lp, lt, ls, L, rfl, hd, sm, hs.g, fun H9 p e9 np fp => ?_⟩
            replace ra := ra.same e9
            replace fa := e9 _ _ fa
            replace fb := e9 _ _ fb
            replace fc := e9 _ _ fc
            replace fd' := e9 _ _ fd'
            replace ft := e9 _ _ ft
            replace fts := fts.same e9
            replace fr11 := fr11.tr e9
            have ob9 := e9 _ _ ob8
            refine ⟨_, rfl, h, C, dx, _, rfl, ob9, hc.cl, hc.n8, by omega, ?_⟩
            have fr12 : Fr [h] H9 (upd H9 h (.ins C dx (putF "_prices" (V.ref p) f7))) := Fr.upd (by simp)
            refine q _ (fr11.trans fr12) ⟨dx, a, b, c, r, t, p, rs, ts, ys, ?_, past_ob ob9 fr12 fa (fun _ _ _ z => by cases z), past_refs ob9 fr12 ra (fun x _ _ _ z => by unfold plO at z; cases z), past_ob ob9 fr12 fb (fun _ _ _ z => by cases z), past_ob ob9 fr12 fc (fun _ _ _ z => by cases z), asc, ?_, past_ob ob9 fr12 ft (fun _ _ _ z => by cases z), past_refs ob9 fr12 fts (fun x _ _ _ z => by cases z), past_ob ob9 fr12 fp (fun _ _ _ z => by cases z)⟩
            · rw [upd_same, ← hf7, ← hf6, ← hf5, ← hf4, ← hf3]
              rfl
            · rw [hrooms]
              exact past_ob ob9 fr12 fd' (fun _ _ _ z => by cases z)
end
end Hs
/-! joined texts, and their parts again -/
namespace SL
open PySem PySem.StrLaws PySem.Builtin PySem.Builtin.Str
theorem fold_list (g : Array Nat) : ∀ (l : List Str) (acc : Array Nat), (l.foldl (fun acc p => acc ++ g ++ p.cps) acc).toList = acc.toList ++ l.flatMap fun p => g.toList ++ p.cps.toList
  | [], acc => by simp
  | p :: l, acc => by
    rw [List.foldl_cons, fold_list g l, List.flatMap_cons]
    simp
theorem join_list (g a : Str) (l : List Str) : (Txt.join g (a :: l)).cps.toList = a.cps.toList ++ l.flatMap fun p => g.cps.toList ++ p.cps.toList := by
  show (List.foldl (fun acc p => acc ++ g.cps ++ p.cps) (List.headD (a :: l) Str.empty).cps (List.drop 1 (a :: l))).toList = _
  exact fold_list g.cps l a.cps
theorem cut_join (c : Nat) : ∀ (l : List Str) (a : Str), c ∉ a.cps.toList → (∀ p ∈ l, c ∉ p.cps.toList) → cutAt c (a.cps.toList ++ l.flatMap fun p => [c] ++ p.cps.toList) = a.cps.toList :: l.map fun p => p.cps.toList
  | [], a, h, _ => by rw [List.flatMap_nil, List.append_nil]; exact cut_none h
  | p :: l, a, h, k => by
    rw [List.flatMap_cons]
    show cutAt c (a.cps.toList ++ (c :: (p.cps.toList ++ _))) = _
    rw [cut_app h, cut_join c l p (k p (by simp)) (fun q hq => k q (by simp [hq]))]
    rfl
theorem split_join (c : Nat) (a : Str) (l : List Str) (h : ∀ p ∈ a :: l, c ∉ p.cps.toList) (h0 : ∀ x : Str, Builtin.Str.strKind x ≥ Builtin.Str.strKind ⟨#[c]⟩) : Txt.split (Txt.join ⟨#[c]⟩ (a :: l)) ⟨#[c]⟩ = a :: l := by
  rw [split_sign _ _ (fun _ => h0 _), join_list]
  have e : (⟨#[c]⟩ : Str).cps.toList = [c] := rfl
  rw [e, cut_join c l a (h a (by simp)) (fun p hp => h p (by simp [hp])), List.map_cons, List.map_map, ofL_toList]
  congr 1
  rw [show (ofL ∘ fun p : Str => p.cps.toList) = _root_.id from funext fun p => ofL_toList p, List.map_id]
theorem join_len (g a : Str) (l : List Str) : (Txt.join g (a :: l)).length = a.length + (l.map fun p => g.length + p.length).sum := by
  rw [← len_toList, join_list, List.length_append, len_toList, List.length_flatMap]
  congr 2
  apply List.map_congr_left
  intro p _
  rw [List.length_append, len_toList, len_toList]
theorem kind_ge {c : Nat} (hc : c < 256) (x : Str) : Builtin.Str.strKind x ≥ Builtin.Str.strKind ⟨#[c]⟩ := by
  have e : Builtin.Str.strKind ⟨#[c]⟩ = 1 := by
    unfold Builtin.Str.strKind
    rw [if_pos (by simp [hc])]
  rw [e]
  unfold Builtin.Str.strKind
  split
  · exact Nat.le_refl _
  · split <;> decide
end SL
/-! sound lores of drawn houses, their pages -/
namespace Hs
open PySem PySem.Spec PyProof.Rows L2 Am
def stems : List Str := ["", "a", "mai", "res", "hous", "zzzzzzz"]
def abcs : List Str := abc.cps.toList.map fun c => ⟨#[c]⟩
/-- all names that a law draws -/
def pool : List Str := (stems.flatMap fun s => abcs.map fun c => s ++ c).filter fun x => !(decide (x = "main") || (decide (x = "rest") || decide (x = "house")))
theorem pool_ok : ∀ x ∈ pool, nameB x = true := by decide +kernel
structure PrOk (n : Nat) (ps : List (Nat × Nat)) : Prop where
  l : ps.length ≤ 3
  up : ps.Pairwise fun a b => a.1 < b.1
  ok : ∀ x ∈ ps, x.1 < n ∧ x.2 ≤ 99
theorem PrOk.mono {n m : Nat} {ps : List (Nat × Nat)} (h : PrOk n ps) (l : n ≤ m) : PrOk m ps := ⟨h.l, h.up, fun x hx => ⟨Nat.lt_of_lt_of_le (h.ok x hx).1 l, (h.ok x hx).2⟩⟩
theorem PrOk.snoc {n k : Nat} {ps : List (Nat × Nat)} (h : PrOk n ps) (l : ps.length < 3) (hk : k ≤ 99) : PrOk (n + 1) (ps ++ [(n, k)]) := by
  refine ⟨by rw [List.length_append]; exact l, ?_, ?_⟩
  · rw [List.pairwise_append]
    refine ⟨h.up, by simp, fun a ha b hb => ?_⟩
    rw [List.mem_singleton.mp hb]
    exact (h.ok a ha).1
  · intro x hx
    rcases List.mem_append.mp hx with hx | hx
    · exact ⟨by have := (h.ok x hx).1; omega, (h.ok x hx).2⟩
    · rw [List.mem_singleton.mp hx]
      exact ⟨by show n < n + 1; omega, hk⟩
theorem Chg.fr {p : Addr} {H H' : Hp} (h : Chg p H H') : Fr [p] H H' := fun b u e n => h b u e (by simpa using n)
theorem Fr.chg {p : Addr} {H H' : Hp} (h : Fr [p] H H') : Chg p H H' := fun b u e n => h b u e (by simpa using n)
/-- a list of tuples while the jar is taken from -/
theorem LstAt.jar {α : Type} {f : α → HO} {H H' : Hp} {l p : Addr} {xs : List α} {N : Int} (h : LstAt f H l xs) (j : JarAt H p N) (nl : l ≠ p) (e : Chg p H H') (hf : ∀ x ys, f x ≠ .lst ys) : LstAt f H' l xs := by
  obtain ⟨o, m, c, hp, _⟩ := j
  exact h.keep (Chg.fr e) (by simpa using nl) (at_nl hp hf)
theorem walk_range0 {n : Nat} : Walk (Itr 0 n) n (fun _ => True) (YFn fun i => V.int (i : Int)) := by
  have e : (fun i : Nat => V.int (i : Int)) = fun i : Nat => V.int (0 + (i : Int)) := funext fun i => by rw [Int.zero_add]
  rw [e]
  exact walk_range
def apart (s t : St) : Prop := s.pl = t.pl → s.b ≤ t.a ∨ t.b ≤ s.a
structure StOk (n : Nat) (names ppl : List Str) (ss : List St) : Prop where
  l : ss.length ≤ 8
  ok : ∀ s ∈ ss, s.a < s.b ∧ s.b ≤ n ∧ s.who ∈ ppl ∧ s.pl ∈ names
  ap : ss.Pairwise apart
theorem apart_symm {s t : St} (h : apart s t) : apart t s := fun e => (h e.symm).symm
abbrev si (n : Nat) : Str := Str.ofString (toString (n : Int))
def dayL (n : Nat) : Str := ("days " : Str) ++ si n
def plL (p : Pl) : Str := (if p.inner then ("flat " : Str) else "bare ") ++ p.name ++ " " ++ si p.room
def prL (p : Nat × Nat) : Str := ("price " : Str) ++ si p.1 ++ " " ++ si p.2
def stL (s : St) : Str := Txt.join " " ["lives", s.who, s.pl, si s.a, si s.b]
def linesOf (L : Lore) : List Str := dayL L.days :: (L.places.map plL ++ (L.prices.map prL ++ L.stays.map stL))
def pageOf (L : Lore) : Str := Txt.join "\n" (linesOf L)
/-- small enough to be written -/
structure Fit (L : Lore) : Prop where
  d : L.days ≤ 14
  sm : Small L
  pl : ∀ p ∈ L.places, p.name.length ≤ 8 ∧ p.room ≤ 9
  pr : ∀ p ∈ L.prices, p.1 ≤ 14 ∧ p.2 ≤ 99
  st : ∀ s ∈ L.stays, s.who.length ≤ 8 ∧ s.pl.length ≤ 8 ∧ s.a ≤ 14 ∧ s.b ≤ 14
theorem si_len {n : Nat} (h : n ≤ 99) : (si n).length ≤ 2 := by
  have : ∀ k : Fin 100, (si k.val).length ≤ 2 := by decide +kernel
  exact this ⟨n, by omega⟩
theorem lg {n : Nat} (h : n ≤ 99) : ((n : Int).natAbs).log2 < 1920 := log2_lt (by decide) (Nat.lt_of_le_of_lt (show (n : Int).natAbs ≤ 99 by omega) (by decide))
theorem big {k : Nat} (h : k ≤ 4000) : k ≤ sizeLine := Nat.le_trans h (by decide)
theorem sum_le {α : Type} (f : α → Nat) (k : Nat) : ∀ xs : List α, (∀ x ∈ xs, f x ≤ k) → (xs.map f).sum ≤ xs.length * k
  | [], _ => by simp
  | x :: xs, h => by
    have := sum_le f k xs fun y hy => h y (by simp [hy])
    have h0 := h x (by simp)
    rw [List.map_cons, List.sum_cons, List.length_cons, Nat.succ_mul]
    omega
theorem lines_len {L : Lore} (fit : Fit L) (l : Str) (h : l ∈ linesOf L) : l.length ≤ 40 := by
  unfold linesOf at h
  rcases List.mem_cons.mp h with rfl | h
  · have := si_len (n := L.days) (by have := fit.d; omega)
    unfold dayL
    rw [strLen_append]
    exact Nat.le_trans (Nat.add_le_add (show ("days " : Str).length ≤ 5 by decide) this) (by decide)
  rcases List.mem_append.mp h with h | h
  · obtain ⟨p, hp, rfl⟩ := List.mem_map.mp h
    obtain ⟨a, b⟩ := fit.pl p hp
    have sl := si_len (n := p.room) (by omega)
    have l5 : (if p.inner then ("flat " : Str) else ("bare " : Str)).length = 5 := by cases p.inner <;> rfl
    unfold plL
    rw [strLen_append, strLen_append, strLen_append, l5]
    exact Nat.le_trans (Nat.add_le_add (Nat.add_le_add (Nat.add_le_add_left a 5) (show (" " : Str).length ≤ 1 by decide)) sl) (by decide)
  rcases List.mem_append.mp h with h | h
  · obtain ⟨p, hp, rfl⟩ := List.mem_map.mp h
    obtain ⟨a, b⟩ := fit.pr p hp
    have sl1 := si_len (n := p.1) (by omega)
    have sl2 := si_len (n := p.2) (by omega)
    unfold prL
    rw [strLen_append, strLen_append, strLen_append]
    exact Nat.le_trans (Nat.add_le_add (Nat.add_le_add (Nat.add_le_add (show ("price " : Str).length ≤ 6 by decide) sl1) (show (" " : Str).length ≤ 1 by decide)) sl2) (by decide)
  · obtain ⟨s, hs, rfl⟩ := List.mem_map.mp h
    obtain ⟨a, b, c, d⟩ := fit.st s hs
    have sl1 := si_len (n := s.a) (by omega)
    have sl2 := si_len (n := s.b) (by omega)
    unfold stL
    rw [SL.join_len]
    show 5 + ((1 + s.who.length) + ((1 + s.pl.length) + ((1 + (si s.a).length) + ((1 + (si s.b).length) + 0)))) ≤ 40
    omega
structure Valid (L : Lore) : Prop where
  d : 1 ≤ L.days ∧ L.days ≤ 14
  l4 : L.places.length ≤ 4
  nd : (L.places.map (·.name)).Nodup
  ok : ∀ p ∈ L.places, p.name ∈ pool ∧ 1 ≤ p.room ∧ p.room ≤ 9
  fl : hasF L = true
  pr : PrOk L.days L.prices
  st : ∃ ppl : List Str, (∀ x ∈ ppl, x ∈ pool) ∧ StOk L.days (L.places.map (·.name)) ppl L.stays
theorem pool_len : ∀ x ∈ pool, x.length ≤ 8 := by decide +kernel
theorem Valid.who {L : Lore} (v : Valid L) {s : St} (h : s ∈ L.stays) : s.a < s.b ∧ s.b ≤ L.days ∧ s.who ∈ pool ∧ s.pl ∈ L.places.map (·.name) ∧ s.pl ∈ pool := by
  obtain ⟨ppl, a, b⟩ := v.st
  obtain ⟨c, d, e, f⟩ := b.ok s h
  refine ⟨c, d, a _ e, f, ?_⟩
  obtain ⟨p, hp, hn⟩ := List.mem_map.mp f
  rw [← hn]
  exact (v.ok p hp).1
theorem Valid.small {L : Lore} (v : Valid L) : Small L := ⟨v.l4, v.pr.l, by obtain ⟨_, _, b⟩ := v.st; exact b.l⟩
theorem Valid.fit {L : Lore} (v : Valid L) : Fit L := by
  have d := v.d
  refine ⟨d.2, v.small, fun p hp => ⟨pool_len _ (v.ok p hp).1, (v.ok p hp).2.2⟩, fun p hp => ⟨by have := (v.pr.ok p hp).1; omega, (v.pr.ok p hp).2⟩, fun s hs => ?_⟩
  obtain ⟨a, b, c, _, e⟩ := v.who hs
  exact ⟨pool_len _ c, pool_len _ e, by omega, by omega⟩
/-- no blank, no end of a line -/
def Pure (x : Str) : Prop := 32 ∉ x.cps.toList ∧ 10 ∉ x.cps.toList
theorem pool_pure : ∀ x ∈ pool, Pure x := by unfold Pure; decide +kernel
theorem si_pure {n : Nat} (h : n ≤ 99) : Pure (si n) := by
  have : ∀ k : Fin 100, Pure (si k.val) := by unfold Pure; decide +kernel
  exact this ⟨n, by omega⟩
theorem si_num {n : Nat} (h : n ≤ 99) : Mt.num (si n).cps.toList = n := by
  have : ∀ k : Fin 100, Mt.num (si k.val).cps.toList = ((k.val : Nat) : Int) := by decide +kernel
  exact this ⟨n, by omega⟩
theorem split_bl (a : Str) (l : List Str) (h : ∀ p ∈ a :: l, Pure p) : Txt.split (Txt.join " " (a :: l)) " " = a :: l :=
  SL.split_join 32 a l (fun p hp => (h p hp).1) (SL.kind_ge (by decide))
theorem nl_join (a : Str) (l : List Str) (h : ∀ p ∈ a :: l, Pure p) : 10 ∉ (Txt.join " " (a :: l)).cps.toList := by
  rw [SL.join_list]
  intro z
  rcases List.mem_append.mp z with z | z
  · exact (h a (by simp)).2 z
  · obtain ⟨p, hp, z⟩ := List.mem_flatMap.mp z
    rcases List.mem_append.mp z with z | z
    · exact absurd z (by decide +kernel)
    · exact (h p (by simp [hp])).2 z
theorem app_list (a b : Str) : (a ++ b).cps.toList = a.cps.toList ++ b.cps.toList := by rw [Str.cps_append, Array.toList_append]
theorem dayL_join (n : Nat) : dayL n = Txt.join " " ["days", si n] := by
  apply SL.ext
  rw [SL.join_list]
  unfold dayL
  rw [app_list, show ("days " : Str).cps.toList = ("days" : Str).cps.toList ++ (" " : Str).cps.toList from by decide +kernel]
  simp only [List.flatMap_cons, List.flatMap_nil, List.append_nil, List.append_assoc]
theorem plL_join (p : Pl) : plL p = Txt.join " " [if p.inner then ("flat" : Str) else "bare", p.name, si p.room] := by
  apply SL.ext
  rw [SL.join_list]
  unfold plL
  rw [app_list, app_list, app_list]
  have e : (if p.inner then ("flat " : Str) else ("bare " : Str)).cps.toList = (if p.inner then ("flat" : Str) else ("bare" : Str)).cps.toList ++ (" " : Str).cps.toList := by cases p.inner <;> decide +kernel
  rw [e]
  simp only [List.flatMap_cons, List.flatMap_nil, List.append_nil, List.append_assoc]
theorem prL_join (p : Nat × Nat) : prL p = Txt.join " " ["price", si p.1, si p.2] := by
  apply SL.ext
  rw [SL.join_list]
  unfold prL
  rw [app_list, app_list, app_list, show ("price " : Str).cps.toList = ("price" : Str).cps.toList ++ (" " : Str).cps.toList from by decide +kernel]
  simp only [List.flatMap_cons, List.flatMap_nil, List.append_nil, List.append_assoc]
theorem kinds_pure : Pure ("days" : Str) ∧ Pure ("flat" : Str) ∧ Pure ("bare" : Str) ∧ Pure ("price" : Str) ∧ Pure ("lives" : Str) := by unfold Pure; decide +kernel
theorem Steps.app {L1 L2 L3 : Lore} {xs ys : List Str} (h : Steps L1 xs L2) (k : Steps L2 ys L3) : Steps L1 (xs ++ ys) L3 := by
  induction h with
  | nil => exact k
  | cons s _ ih => exact .cons s (ih k)
theorem Steps.one {L1 L2 : Lore} {x : Str} (h : Step L1 x L2) : Steps L1 [x] L2 := .cons h .nil
theorem places_steps {n : Nat} (hn : n ≠ 0) : ∀ (ps ps0 : List Pl), (ps0 ++ ps).length ≤ 4 → ((ps0 ++ ps).map (·.name)).Nodup → (∀ p ∈ ps, p.name ∈ pool ∧ 1 ≤ p.room ∧ p.room ≤ 9) → ((ps0 ++ ps).any fun p => p.inner) = true →
    Steps ⟨n, ps0, [], []⟩ (ps.map plL) ⟨n, ps0 ++ ps, [], []⟩
  | [], ps0, _, _, _, _ => by rw [List.append_nil]; exact .nil
  | p :: ps, ps0, h4, nd, ok, fl => by
    have e : ps0 ++ p :: ps = (ps0 ++ [p]) ++ ps := by simp
    obtain ⟨o1, o2, o3⟩ := ok p (by simp)
    have ih := places_steps hn ps (ps0 ++ [p]) (by rw [← e]; exact h4) (by rw [← e]; exact nd) (fun q hq => ok q (by simp [hq])) (by rw [← e]; exact fl)
    rw [e]
    rw [List.map_cons]
    have pl := pool_len _ o1
    have sl := si_len (n := p.room) (by omega)
    have l4 : ps0.length < 4 := by rw [List.length_append, List.length_cons] at h4; omega
    refine .cons (L1 := ⟨n, ps0 ++ [p], [], []⟩) ?_ ih
    refine Step.place (L := ⟨n, ps0, [], []⟩) (x := p.name) (r := si p.room) (n := p.room) (inner := p.inner) ?_ hn rfl rfl (by omega) (by omega) (pool_ok _ o1) ?_ (si_num (by omega)) ⟨o2, o3⟩ l4 (fun h3 => ?_)
    · rw [plL_join]
      refine split_bl _ _ fun q hq => ?_
      simp only [List.mem_cons, List.not_mem_nil, or_false] at hq
      rcases hq with rfl | rfl | rfl
      · cases p.inner
        · exact kinds_pure.2.2.1
        · exact kinds_pure.2.1
      · exact pool_pure _ o1
      · exact si_pure (by omega)
    · cases hh : hasP ⟨n, ps0, [], []⟩ p.name with
      | false => rfl
      | true =>
        have := hasP_mem.mp hh
        rw [List.map_append, List.nodup_append] at nd
        exact absurd rfl (nd.2.2 _ this p.name (by simp))
    · have h3' : ps0.length = 3 := h3
      have : ps = [] := by
        rw [List.length_append, List.length_cons] at h4
        exact List.eq_nil_of_length_eq_zero (by omega)
      rw [this, List.any_append, Bool.or_eq_true] at fl
      rcases fl with fl | fl
      · exact .inr fl
      · refine .inl ?_
        simpa using fl
theorem prices_steps {n : Nat} {P : List Pl} (hf : hasF ⟨n, P, [], []⟩ = true) (hn : n ≤ 14) : ∀ (qs q0 : List (Nat × Nat)), PrOk n (q0 ++ qs) → Steps ⟨n, P, q0, []⟩ (qs.map prL) ⟨n, P, q0 ++ qs, []⟩
  | [], q0, _ => by rw [List.append_nil]; exact .nil
  | q :: qs, q0, ok => by
    have e : q0 ++ q :: qs = (q0 ++ [q]) ++ qs := by simp
    have ih := prices_steps hf hn qs (q0 ++ [q]) (by rw [← e]; exact ok)
    obtain ⟨o1, o2⟩ := ok.ok q (by simp)
    have l3 := ok.l
    rw [List.length_append, List.length_cons] at l3
    have sl1 := si_len (n := q.1) (by omega)
    have sl2 := si_len (n := q.2) (by omega)
    rw [e, List.map_cons]
    refine .cons (L1 := ⟨n, P, q0 ++ [q], []⟩) ?_ ih
    refine Step.price (L := ⟨n, P, q0, []⟩) (x := si q.1) (y := si q.2) (a := q.1) (n := q.2) ?_ hf rfl (by show q0.length < 3; omega) (by omega) (by omega) (si_num (by omega)) (si_num (by omega)) (fun r hr => ?_) o1 o2
    · rw [prL_join]
      refine split_bl _ _ fun x hx => ?_
      simp only [List.mem_cons, List.not_mem_nil, or_false] at hx
      rcases hx with rfl | rfl | rfl
      · exact kinds_pure.2.2.2.1
      · exact si_pure (by omega)
      · exact si_pure (by omega)
    · have up := ok.up
      rw [List.pairwise_append] at up
      exact up.2.2 r (List.mem_of_getLast? hr) q (by simp)
theorem stays_steps {n : Nat} {P : List Pl} {Qs : List (Nat × Nat)} {ppl : List Str} (hf : hasF ⟨n, P, Qs, []⟩ = true) (hn : n ≤ 14) (pp : ∀ x ∈ ppl, x ∈ pool) (np : ∀ x ∈ P.map (·.name), x ∈ pool) : ∀ (ss s0 : List St), StOk n (P.map (·.name)) ppl (s0 ++ ss) → Steps ⟨n, P, Qs, s0⟩ (ss.map stL) ⟨n, P, Qs, s0 ++ ss⟩
  | [], s0, _ => by rw [List.append_nil]; exact .nil
  | s :: ss, s0, ok => by
    have e : s0 ++ s :: ss = (s0 ++ [s]) ++ ss := by simp
    have ih := stays_steps hf hn pp np ss (s0 ++ [s]) (by rw [← e]; exact ok)
    obtain ⟨o1, o2, o3, o4⟩ := ok.ok s (by simp)
    have l8 := ok.l
    rw [List.length_append, List.length_cons] at l8
    have sl1 := si_len (n := s.a) (by omega)
    have sl2 := si_len (n := s.b) (by omega)
    have w1 := pool_len _ (pp _ o3)
    have w2 := pool_len _ (np _ o4)
    rw [e, List.map_cons]
    refine .cons (L1 := ⟨n, P, Qs, s0 ++ [s]⟩) ?_ ih
    refine Step.stay (L := ⟨n, P, Qs, s0⟩) (x := s.who) (y := s.pl) (u := si s.a) (v := si s.b) (a := s.a) (b := s.b) ?_ hf (by show s0.length < 8; omega) (by omega) (by omega) (by omega) (by omega) (pool_ok _ (pp _ o3)) (hasP_mem.mpr o4) (si_num (by omega)) (si_num (by omega)) o1 o2 ?_
    · refine split_bl _ _ fun x hx => ?_
      simp only [List.mem_cons, List.not_mem_nil, or_false] at hx
      rcases hx with rfl | rfl | rfl | rfl | rfl
      · exact kinds_pure.2.2.2.2
      · exact pool_pure _ (pp _ o3)
      · exact pool_pure _ (np _ o4)
      · exact si_pure (by omega)
      · exact si_pure (by omega)
    · cases hh : letS ⟨n, P, Qs, s0⟩ s.pl s.a s.b with
      | false => rfl
      | true =>
        unfold letS at hh
        obtain ⟨t, ht, hb⟩ := List.any_eq_true.mp hh
        rw [Bool.and_eq_true, Bool.and_eq_true] at hb
        have ap := ok.ap
        rw [List.pairwise_append] at ap
        have := ap.2.2 t ht s (by simp) (of_decide_eq_true hb.1)
        have h1 := of_decide_eq_true hb.2.1
        have h2 := of_decide_eq_true hb.2.2
        omega
theorem Valid.steps {L : Lore} (v : Valid L) : Steps L0 (linesOf L) L := by
  obtain ⟨n, P, Qs, S⟩ := L
  obtain ⟨⟨d1, d14⟩, l4, nd, ok, fl, pr, ppl, hp, st⟩ := v
  have d1' : 1 ≤ n := d1
  have d14' : n ≤ 14 := d14
  unfold linesOf
  refine .cons (L1 := ⟨n, [], [], []⟩) ?_ (Steps.app (L2 := ⟨n, P, [], []⟩) (places_steps (by omega) P [] l4 nd ok fl) (Steps.app (L2 := ⟨n, P, Qs, []⟩) (prices_steps fl d14 Qs [] pr) (stays_steps fl d14 hp (fun x hx => ?_) S [] st)))
  · have sl := si_len (n := n) (by omega)
    refine Step.days (L := L0) (x := si n) (n := n) ?_ rfl (by omega) (si_num (by omega)) ⟨d1, d14⟩
    rw [dayL_join]
    refine split_bl _ _ fun q hq => ?_
    simp only [List.mem_cons, List.not_mem_nil, or_false] at hq
    rcases hq with rfl | rfl
    · exact kinds_pure.1
    · exact si_pure (by omega)
  · obtain ⟨p, hp', rfl⟩ := List.mem_map.mp hx
    exact (ok p hp').1
theorem Valid.nl {L : Lore} (v : Valid L) : ∀ l ∈ linesOf L, 10 ∉ l.cps.toList := by
  have fit := v.fit
  have d := v.d
  intro l h
  unfold linesOf at h
  rcases List.mem_cons.mp h with rfl | h
  · rw [dayL_join]
    refine nl_join _ _ fun q hq => ?_
    simp only [List.mem_cons, List.not_mem_nil, or_false] at hq
    rcases hq with rfl | rfl
    · exact kinds_pure.1
    · exact si_pure (by omega)
  rcases List.mem_append.mp h with h | h
  · obtain ⟨p, hp, rfl⟩ := List.mem_map.mp h
    obtain ⟨o1, o2, o3⟩ := v.ok p hp
    rw [plL_join]
    refine nl_join _ _ fun q hq => ?_
    simp only [List.mem_cons, List.not_mem_nil, or_false] at hq
    rcases hq with rfl | rfl | rfl
    · cases p.inner
      · exact kinds_pure.2.2.1
      · exact kinds_pure.2.1
    · exact pool_pure _ o1
    · exact si_pure (by omega)
  rcases List.mem_append.mp h with h | h
  · obtain ⟨p, hp, rfl⟩ := List.mem_map.mp h
    obtain ⟨a, b⟩ := v.pr.ok p hp
    rw [prL_join]
    refine nl_join _ _ fun q hq => ?_
    simp only [List.mem_cons, List.not_mem_nil, or_false] at hq
    rcases hq with rfl | rfl | rfl
    · exact kinds_pure.2.2.2.1
    · exact si_pure (by omega)
    · exact si_pure (by omega)
  · obtain ⟨s, hs, rfl⟩ := List.mem_map.mp h
    obtain ⟨a, b, c, _, e⟩ := v.who hs
    refine nl_join _ _ fun q hq => ?_
    simp only [List.mem_cons, List.not_mem_nil, or_false] at hq
    rcases hq with rfl | rfl | rfl | rfl | rfl
    · exact kinds_pure.2.2.2.2
    · exact pool_pure _ c
    · exact pool_pure _ e
    · exact si_pure (by omega)
    · exact si_pure (by omega)
theorem Valid.split {L : Lore} (v : Valid L) : Txt.split (pageOf L) "\n" = linesOf L :=
  SL.split_join 10 _ _ v.nl (SL.kind_ge (by decide))
theorem Valid.many {L : Lore} (v : Valid L) : (linesOf L).length ≤ 16 := by
  obtain ⟨a, b, c⟩ := v.small
  unfold linesOf
  rw [List.length_cons, List.length_append, List.length_append, List.length_map, List.length_map, List.length_map]
  omega
theorem Valid.told {L : Lore} (v : Valid L) : Told (pageOf L) L := by
  refine ⟨by rw [v.split]; exact v.steps, v.fl, fun l hl => ?_, ?_, ?_⟩
  · rw [v.split] at hl
    exact Nat.le_trans (lines_len v.fit l hl) (by decide)
  · rw [v.split]
    exact Nat.le_trans v.many (by decide)
  · have h1 := lines_len v.fit
    have h2 := v.many
    unfold pageOf
    unfold linesOf at h1 h2 ⊢
    rw [SL.join_len]
    rw [List.length_cons] at h2
    have a1 := h1 _ (List.mem_cons_self)
    have a2 := sum_le (fun p : Str => ("\n" : Str).length + p.length) 41 (L.places.map plL ++ (L.prices.map prL ++ L.stays.map stL)) (fun x hx => by
      have := h1 x (List.mem_cons_of_mem _ hx)
      exact Nat.le_trans (Nat.add_le_add (show ("\n" : Str).length ≤ 1 by decide) this) (by decide))
    have a3 : (L.places.map plL ++ (L.prices.map prL ++ L.stays.map stL)).length * 41 ≤ 16 * 41 := Nat.mul_le_mul_right _ (by omega)
    omega
theorem mk_same {H H' : Hp} {C h dx : Addr} (nh : H h = none) (nd : H dx = none) (ne : dx ≠ h) (f : Fr [h] (upd (upd H dx (.own h)) h (.ins C dx [])) H') : Same H H' := fun b u e =>
  f _ _ (((same_upd nd).trans (same_upd (by rw [upd_ne (Ne.symm ne)]; exact nh))) _ _ e) (by simpa using ne_of_none e nh)
end Hs
/-! the law: drawn names -/
namespace Hs
open PySem PySem.Spec PyProof.Rows L2 Am
def good (x : Str) : Bool := !(decide (x = "main") || (decide (x = "rest") || decide (x = "house")))
def let26 (j : Nat) : Str := ⟨#[97 + j % 26]⟩
def all26 (s : Str) (a : Nat) : List Str := (List.range 26).map fun k => s ++ let26 (a + 5 * k)
theorem inV_strs3 (x : Str) : (!inV (V.str x) ([("main" : Str), "rest", "house"].map V.str)) = good x := by
  have e : ∀ y : Str, eqV (V.str y) (V.str x) = decide (x = y) := fun y => by
    show (y == x) = _
    rw [Bool.eq_iff_iff, beq_iff_eq, decide_eq_true_eq]
    exact eq_comm
  show (!(eqV (V.str "main") (V.str x) || (eqV (V.str "rest") (V.str x) || (eqV (V.str "house") (V.str x) || false)))) = _
  rw [e, e, e, Bool.or_false]
  rfl
theorem atI_nat' {xs : List Nat} {i : Nat} {c : Nat} (h : xs[i]? = some c) : atI xs (i : Int) = some c := atI_nat h
theorem let26_in (j : Nat) : let26 j ∈ abcs := by
  have : ∀ k : Fin 26, (⟨#[97 + k.val]⟩ : Str) ∈ abcs := by decide +kernel
  exact this ⟨j % 26, Nat.mod_lt _ (by decide)⟩
theorem all26_pool {s : Str} (hs : s ∈ stems) {a : Nat} {x : Str} (h : x ∈ all26 s a) (g : good x = true) : x ∈ pool := by
  unfold pool
  refine List.mem_filter.mpr ⟨List.mem_flatMap.mpr ⟨s, hs, ?_⟩, g⟩
  obtain ⟨k, _, rfl⟩ := List.mem_map.mp h
  exact List.mem_map_of_mem (let26_in _)
theorem all26_nd (s : Str) (a : Nat) : (all26 s a).Nodup := by
  unfold all26
  unfold List.Nodup
  rw [List.pairwise_map]
  refine (List.pairwise_lt_range (n := 26)).imp_of_mem ?_
  intro k l hk hl hlt e
  have hk' := List.mem_range.mp hk
  have hl' := List.mem_range.mp hl
  have e2 := congrArg (fun z : Str => z.cps.toList) e
  simp only [app_list, let26, List.append_cancel_left_eq] at e2
  have e3 : 97 + (a + 5 * k) % 26 = 97 + (a + 5 * l) % 26 := by simpa using e2
  omega
theorem all26_len : ∀ s ∈ stems, ∀ a : Fin 26, 25 ≤ ((all26 s a.val).filter good).length := by decide +kernel
theorem stem_len : ∀ s ∈ stems, s.length ≤ 7 := by decide +kernel
theorem cut_take {xs : List V} {m : Nat} (h : m ≤ xs.length) : cutV xs none (some (m : Int)) = xs.take m := by
  unfold cutV
  rw [HT.sIx_none, HT.sIx_nat]
  simp [Nat.min_eq_left h]
theorem abc_at {j : Int} {n : Nat} (h : j = (n : Int)) (hn : n < 26) : atI ("abcdefghijklmnopqrstuvwxyz" : Str).cps.toList j = some (97 + n) := by
  subst h
  have : ∀ k : Fin 26, ("abcdefghijklmnopqrstuvwxyz" : Str).cps.toList[k.val]? = some (97 + k.val) := by decide +kernel
  exact atI_nat' (this ⟨n, hn⟩)
def spNames : Sp := fun vs H Q _ => ∃ (p : Addr) (m : Nat) (N : Int), vs = [.ref p, .int m] ∧ m ≤ 25 ∧ JarAt H p N ∧ N ≤ 9000 ∧
  ∀ (H' : Hp) (t : Addr) (ws : List Str), ws.length = m → ws.Nodup → (∀ x ∈ ws, x ∈ pool) → Chg p H H' → H t = none → JarAt H' p (N + 2) → H' t = some (.lst (ws.map V.str)) → Q (.ref t) H'
section
variable {P : Program} {w : World} {K : PySem.W.Frag} {mg : Str → Option Value} {base : Heap}
theorem scNames : FnScope ["_law_jar_here", "_law_many", "_law_stem", "_law_at", "_law_some", "_law_k", "_law_name"] ["_law_jar_here", "_law_many"] (defScope sL_names) := ⟨rfl, rfl, rfl, by decide +kernel, rfl, by decide +kernel, by decide +kernel⟩
theorem ok_names {f : Addr} {fd : FuncData} (F : Fun K "_law_names" "_law_names" sL_names f fd) (T : Nm mg) (GT : GotF P w K mg base "_law_take" 1 ["_law_jar_here", "_law_many"] Am.spTake) (GO : GotF P w K mg base "_law_of" 2 ["_law_jar_here", "_law_some"] spOf) : FnOk P w K mg base CX0 3 f fd ["_law_jar_here", "_law_many"] spNames := by
  obtain ⟨fT, fdT, GT, bT, mT, kT⟩ := GT
  obtain ⟨fO, fdO, GO, bO, mO, kO⟩ := GO
  refine F.ok scNames (fun vs H Q E h => ?_) (fun cdv A outer s H vs Q E hr h => ?_)
  · obtain ⟨p, m, N, rfl, _⟩ := h
    rfl
  · obtain ⟨p, m, N, rfl, hm, hj, hN, q⟩ := h
    have hr1 : Room 1 _ := hr.mono (by decide)
    refine ⟨_, (pss_cons (ps_asg (g := gTup K 2 (gCons (gName 2) (gCons (gName 3) gNil))) (pe_tup (pa_cons (pe_call GO hr (by rfl) mO kO bO .nil pass0 (pa_cons (pv 0) (pa_cons (pe_lst (pa_cons pe_str (pa_cons pe_str (pa_cons pe_str (pa_cons pe_str (pa_cons pe_str (pa_cons pe_str (pa_cons pe_str pa_nil)))))))) pa_nil))) (pa_cons (pe_call GT hr1 (by rfl) mT kT bT .nil pass0 (pa_cons (pv 0) (pa_cons pe_int pa_nil))) pa_nil))) (pg_tup rfl (pgs_cons (pg_name (i := 2) scNames.nd rfl (.inr rfl)) (pgs_cons (pg_name (i := 3) scNames.nd rfl (.inr rfl)) pgs_nil))))
      (pss_cons (ps_setLc (i := 4) (own := [("_law_k", 5)]) (g := gName 5) (tt := tYes) rfl scNames.nd rfl rfl rfl (pi_range1 (by rfl) T.range (pa_cons pe_int pa_nil))
          (blkOk_by (N := ["_law_jar_here", "_law_many", "_law_stem", "_law_at", "_law_some", "_law_k", "_law_name"]) (sc := defScope sL_names) (by decide +kernel)) (fun _ _ _ _ _ => (pg_name (i := 5) scNames.nd rfl (.inl rfl))) (fun _ _ _ _ _ => pts_nil) (fun _ _ _ _ _ => (pe_op op_add_str (pv 2) (pe_ix ix_str pe_str (pe_op op_mod (pe_callTy call_int1 (by rfl) T.int b_int (pa_cons (pe_op op_add (pv 3) (pe_op op_mul pe_int (pv 5))) pa_nil)) pe_int) (fun _ _ => rfl)))))
      (pss_one (ps_ret (pe_slice sl_list (pe_lc (own := [("_law_name", 6)]) (g := gName 6) rfl scNames.nd (pi_list (pv 4))
          (blkOk_by (N := ["_law_jar_here", "_law_many", "_law_stem", "_law_at", "_law_some", "_law_k", "_law_name"]) (sc := defScope sL_names) (by decide +kernel)) (fun _ _ _ _ _ => (pg_name (i := 6) scNames.nd rfl (.inl rfl))) (fun _ _ _ _ _ => (pts_one (pt_cmpR (r := rIn K true) (by exact op_notIn_seq) (pv 6) (pe_tup (pa_cons pe_str (pa_cons pe_str (pa_cons pe_str pa_nil)))) (by rfl)))) (fun _ _ _ _ _ => (pv 6))) po_none (po_some (pv 1))))))), ?_⟩
    refine ⟨_, rfl, (show 7 ≤ sizeLine by decide), fun l1 nl1 => ?_⟩
    obtain ⟨_, _, _, hp, _⟩ := id hj
    have e1 := same_upd (o := .lst [V.str "", .str "", .str "a", .str "mai", .str "res", .str "hous", .str "zzzzzzz"]) nl1
    refine ⟨p, l1, _, N, rfl, upd_same, (fun z => by rw [z, hp] at nl1; cases nl1), ⟨show 0 < 7 by decide, show 7 ≤ 1000 by decide⟩, hj.same e1, by omega, fun v H2 hv c2 j2 => ?_⟩
    obtain ⟨s, rfl, hs⟩ : ∃ s : Str, v = .str s ∧ s ∈ stems := by
      simp only [List.mem_cons, List.not_mem_nil, or_false] at hv
      rcases hv with rfl | rfl | rfl | rfl | rfl | rfl | rfl <;> exact ⟨_, rfl, by decide +kernel⟩
    replace c2 := (Chg.of e1).trans c2
    refine ⟨_, rfl, p, 26, _, rfl, ⟨by decide, by decide⟩, j2, by omega, fun a H3 ha c3 j3 => ?_⟩
    obtain ⟨a0, a1⟩ := ha
    obtain ⟨a, rfl⟩ := Int.eq_ofNat_of_zero_le a0
    have a26 : a < 26 := by omega
    replace c3 := c2.trans c3
    refine ⟨(show 2 ≤ sizeLine by decide), fun t0 nt0 => ⟨t0, _, rfl, SqT.of upd_same, rfl, _, _, rfl, _, _, rfl, rfl, ?_⟩⟩
    have e4 := same_upd (o := .tup [V.str s, .int a]) nt0
    have c4 := c3.trans (Chg.of e4)
    have j4 := j3.same e4
    generalize upd H3 t0 (.tup [V.str s, .int a]) = H4 at *
    clear e4 nt0 c3 j3 c2 j2
    have sl := stem_len s hs
    refine ⟨26, rfl, by decide, by decide, fun D nD => ?_⟩
    refine lc_it (walk_range0 (n := (26 : Int).toNat)) (Pv := Tk H4 D ((all26 s a).map V.str)) (Tk.start nD) (fun _ _ _ _ => trivial) ?_ ?_
    · rintro i v G1 G2 hi hk ⟨rfl, rfl⟩
      have hi' : i < 26 := hi
      refine ⟨rfl, ?_⟩
      unfold tYes
      refine iteT ⟨_, rfl, _, rfl, _, rfl, _, _, rfl, rfl, .inl ⟨by decide, by decide⟩, _, _, rfl, rfl, .inl ⟨_, rfl, _, _, rfl, rfl, (by show (0 : Int) < 26; decide), ?_⟩⟩
      refine ⟨_, _, _, rfl, rfl, Nat.le_trans (show 26 ≤ 4000 by decide) (by decide), abc_at (n := (a + 5 * i) % 26) (by show ((a : Int) + 5 * (i : Int)) % 26 = _; omega) (Nat.mod_lt _ (by decide)), _, _, rfl, rfl, ?_, ?_⟩
      · exact Nat.le_trans (show s.length + 1 ≤ 8 by omega) (by decide)
      · refine hk.step nD (Same.refl _) ?_ (by rw [List.length_map]; unfold all26; rw [List.length_map, List.length_range]; decide)
        rw [List.getElem?_map]
        unfold all26
        rw [List.getElem?_map, List.getElem?_range hi']
        rfl
    · rintro G1 hk
      have hD := hk.done (by unfold all26; simp)
      have e5 := hk.1
      generalize hxs : all26 s a = xs at *
      have lx : xs.length = 26 := by rw [← hxs]; unfold all26; simp
      refine ⟨_, rfl, D, rfl, ⟨_, SqL.of hD⟩, fun D2 nD2 => ?_⟩
      refine lc_it (walk_list (xs := xs.map V.str)) (Pv := fun i H' => Same G1 H' ∧ H' D2 = some (.lst (((xs.take i).filter good).map V.str))) ⟨same_upd nD2, upd_same⟩ (fun i H' _ hh => SqL.of (hh.1 _ _ hD)) ?_ ?_
      · rintro i v G2 G3 hi ⟨s2, d2⟩ ⟨rfl, hv⟩
        have hi' : i < xs.length := by simpa using hi
        obtain rfl : v = .str xs[i] := by
          replace hv : (xs.map V.str)[i]? = some v := hv
          rw [List.getElem?_map, List.getElem?_eq_getElem hi'] at hv
          exact (Option.some.inj hv).symm
        refine ⟨rfl, _, rfl, (show 3 ≤ sizeLine by decide), fun q1 nq1 => ?_⟩
        have e6 := same_upd (o := .tup [V.str "main", .str "rest", .str "house"]) nq1
        have oq := upd_same (H := G3) (a := q1) (o := .tup [V.str "main", .str "rest", .str "house"])
        have s3 := s2.trans e6
        have d3 := e6 _ _ d2
        generalize upd G3 q1 (.tup [V.str "main", .str "rest", .str "house"]) = G4 at *
        refine ⟨q1, _, rfl, .inr (SqT.of oq), rfl, rfl, _, rfl, ?_⟩
        rw [if_pos rfl, show ([V.str "main", V.str "rest", V.str "house"] : List V) = [("main" : Str), "rest", "house"].map V.str from rfl, inV_strs3]
        have tk : xs.take (i + 1) = xs.take i ++ [xs[i]] := by rw [List.take_add_one, List.getElem?_eq_getElem hi']; rfl
        cases hg : good xs[i] with
        | true =>
          refine iteT ⟨_, rfl, _, d3, ?_, fun b u e => ?_, ?_⟩
          · rw [List.length_map]
            exact Nat.lt_of_le_of_lt (List.length_filter_le _ _) (Nat.lt_of_le_of_lt (by rw [List.length_take]; exact Nat.min_le_left _ _) (Nat.lt_of_lt_of_le hi' (by rw [lx]; decide)))
          · rw [upd_ne (ne_of_none e nD2)]
            exact s3 _ _ e
          · rw [upd_same, tk, List.filter_append, List.map_append]
            simp [hg]
        | false =>
          refine iteF ⟨s3, ?_⟩
          rw [d3, tk, List.filter_append]
          simp [hg]
      · rintro G2 ⟨s2, d2⟩
        rw [List.length_map, List.take_length] at d2
        have l25 := all26_len s hs ⟨a, a26⟩
        rw [hxs] at l25
        refine ⟨_, rfl, _, rfl, D2, _, rfl, SqL.of d2, fun t nt => ?_⟩
        rw [cut_take (by rw [List.length_map]; omega), ← List.map_take]
        have eT := same_upd (o := .lst (((xs.filter good).take m).map V.str)) nt
        have e46 := (e5.trans s2).trans eT
        have npt : t ≠ p := fun z => by
          obtain ⟨_, _, _, hp4, _⟩ := id j4
          rw [z, (e5.trans s2) _ _ hp4] at nt
          cases nt
        refine q _ t _ (by rw [List.length_take]; omega) ?_ (fun x hx => ?_) (c4.trans (Chg.of e46)) ?_ ((j4.same e46).mono (by omega)) upd_same
        · have := all26_nd s a
          rw [hxs] at this
          exact (this.sublist List.filter_sublist).sublist (List.take_sublist _ _)
        · have hx2 := List.mem_filter.mp (List.mem_of_mem_take hx)
          exact all26_pool hs (by rw [hxs]; exact hx2.1) hx2.2
        · cases z : H t with
          | none => rfl
          | some u => rw [(e5.trans s2) _ _ (c4 _ _ z npt)] at nt; cases nt
end
end Hs
/-! the law: drawn places -/
namespace Hs
open PySem PySem.Spec PyProof.Rows L2 Am
def spPlaces : Sp := fun vs H Q _ => ∃ (p l : Addr) (N : Int) (ws : List Str), vs = [.ref p, .ref l] ∧ H l = some (.lst (ws.map V.str)) ∧ (1 ≤ ws.length ∧ ws.length ≤ 4) ∧ JarAt H p N ∧ N ≤ 9000 ∧
  ∀ (H' : Hp) (t : Addr) (pls : List Pl), Chg p H H' → H t = none → JarAt H' p (N + 8) → LstAt plO H' t pls → pls.map (·.name) = ws → (∀ x ∈ pls, 1 ≤ x.room ∧ x.room ≤ 9) → (pls.any fun x => x.inner) = true → Q (.ref t) H'
section
variable {P : Program} {w : World} {K : PySem.W.Frag} {mg : Str → Option Value} {base : Heap}
theorem scPlaces : FnScope ["_law_jar_here", "_law_names_here", "_law_found", "_law_name", "_law_place"] ["_law_jar_here", "_law_names_here"] (defScope sL_places) := ⟨rfl, rfl, rfl, by decide +kernel, rfl, by decide +kernel, by decide +kernel⟩
theorem ok_places {f : Addr} {fd : FuncData} (F : Fun K "_law_places" "_law_places" sL_places f fd) (T : Nm mg) (na : mg "any" = none) (GT : GotF P w K mg base "_law_take" 1 ["_law_jar_here", "_law_many"] Am.spTake) : FnOk P w K mg base CX0 2 f fd ["_law_jar_here", "_law_names_here"] spPlaces := by
  obtain ⟨fT, fdT, GT, bT, mT, kT⟩ := GT
  refine F.ok scPlaces (fun vs H Q E h => ?_) (fun cdv A outer s H vs Q E hr h => ?_)
  · obtain ⟨p, l, N, ws, rfl, _⟩ := h
    rfl
  · obtain ⟨p, l, N, ws, rfl, hl, ⟨w1, w4⟩, hj, hN, q⟩ := h
    refine ⟨_, (pss_cons (ps_setLc (i := 2) (own := [("_law_name", 3)]) (g := gName 3) (tt := tYes) rfl scPlaces.nd rfl rfl rfl (pi_list (pv 1))
          (blkOk_by (N := ["_law_jar_here", "_law_names_here", "_law_found", "_law_name", "_law_place"]) (sc := defScope sL_places) (by decide +kernel)) (fun _ _ _ _ _ => (pg_name (i := 3) scPlaces.nd rfl (.inl rfl))) (fun _ _ _ _ _ => pts_nil) (fun _ _ _ _ _ => (pe_tup (pa_cons (pv 3) (pa_cons (pe_op op_add pe_int (pe_call GT hr (by rfl) mT kT bT .nil pass0 (pa_cons (pv 0) (pa_cons pe_int pa_nil)))) (pa_cons (pe_cmpR op_gt (pe_call GT hr (by rfl) mT kT bT .nil pass0 (pa_cons (pv 0) (pa_cons pe_int pa_nil))) pe_int (nomark _)) pa_nil))))))
      (pss_cons (ps_if (pt_not (pt_val (pe_callB (cr_any rfl) (by rfl) na b_any (pa_cons (pe_lc (own := [("_law_place", 4)]) (g := gName 4) (tt := tYes) rfl scPlaces.nd (pi_list (pv 2))
          (blkOk_by (N := ["_law_jar_here", "_law_names_here", "_law_found", "_law_name", "_law_place"]) (sc := defScope sL_places) (by decide +kernel)) (fun _ _ _ _ _ => (pg_name (i := 4) scPlaces.nd rfl (.inl rfl))) (fun _ _ _ _ _ => pts_nil) (fun _ _ _ _ _ => (pe_ix (r := rIxT K) (by exact ix_tup) (pv 4) pe_int (fun _ _ => rfl)))) pa_nil)))) (pss_one (ps_asg (pe_op op_catT (pe_slice sl_tup (pe_ix ix_list (pv 2) (pe_un un_neg pe_int) (fun _ _ => rfl)) po_none (po_some pe_int)) (pe_tup (pa_cons pe_bl pa_nil))) (pg_sub (pv 2) (pe_un un_neg pe_int) set_list))) pss_nil)
      (pss_one (ps_ret (pv 2))))), ?_⟩
    obtain ⟨_, _, _, hp, _⟩ := id hj
    have nlp : l ≠ p := fun z => by
      rw [z, hp] at hl
      have := HO.lst.inj (Option.some.inj hl)
      cases ws with
      | nil => cases this
      | cons _ _ => cases this
    refine ⟨_, rfl, l, rfl, ⟨_, SqL.of hl⟩, fun D nD => ?_⟩
    have nDp : D ≠ p := fun z => by rw [z, hp] at nD; cases nD
    refine lc_it (walk_list (xs := ws.map V.str)) (Pv := fun i H' => ∃ pls : List Pl, Chg p H H' ∧ JarAt H' p (N + 2 * i) ∧ LstAt plO H' D pls ∧ pls.map (·.name) = ws.take i ∧ ∀ x ∈ pls, 1 ≤ x.room ∧ x.room ≤ 9)
      ⟨[], Chg.of (same_upd nD), (hj.same (same_upd nD)).mono (by omega), LstAt.nil upd_same, rfl, fun _ h => absurd h List.not_mem_nil⟩ (fun i H' _ hh => by
        obtain ⟨_, c, _⟩ := hh
        exact SqL.of (c _ _ hl nlp)) ?_ ?_
    · rintro i v G1 G2 hi ⟨pls, c2, j2, d2, nm, rm⟩ ⟨rfl, hv⟩
      have hi' : i < ws.length := by simpa using hi
      obtain rfl : v = .str ws[i] := by
        replace hv : (ws.map V.str)[i]? = some v := hv
        rw [List.getElem?_map, List.getElem?_eq_getElem hi'] at hv
        exact (Option.some.inj hv).symm
      refine ⟨rfl, ?_⟩
      unfold tYes
      refine iteT ⟨_, rfl, _, rfl, p, 9, _, rfl, ⟨by decide, by decide⟩, j2, by omega, fun a H3 ha c3 j3 => ⟨_, _, rfl, rfl, ?_⟩⟩
      refine ⟨_, rfl, p, 3, _, rfl, ⟨by decide, by decide⟩, j3, by omega, fun b H4 hb c4 j4 => ⟨_, _, rfl, rfl, (show 3 ≤ sizeLine by decide), fun q1 nq1 => ?_⟩⟩
      obtain ⟨am, ha2, ha3, ha4⟩ : ∃ am : Nat, (1 : Int) + a = am ∧ 1 ≤ am ∧ am ≤ 9 := ⟨(1 + a).toNat, by omega, by omega, by omega⟩
      have d4 := (d2.jar j2 nDp c3 plO_nl).jar j3 nDp c4 plO_nl
      obtain ⟨rs, hlD, hrs⟩ := d4
      obtain ⟨g1, g2⟩ := LstAt.grow (x := (⟨ws[i], am, decide (b > 0)⟩ : Pl)) hlD hrs nq1 plO_nl
      have lp : pls.length = i := by rw [← List.length_map (f := (·.name)), nm, List.length_take]; omega
      simp only [ha2]
      refine ⟨_, (upd_ne (ne_of_none hlD nq1)).trans hlD, ?_, pls ++ [(⟨ws[i], am, decide (b > 0)⟩ : Pl)], fun b u e nb => ?_, ?_, g1, ?_, ?_⟩
      · rw [List.length_map, hrs.1, lp]
        exact Nat.lt_of_lt_of_le hi' (Nat.le_trans w4 (by decide))
      · exact g2 _ _ (c4 _ _ (c3 _ _ (c2 _ _ e nb) nb) nb) (by simpa using ne_of_none e nD)
      · obtain ⟨o, mm, c, hpp, r⟩ := j4.mono (M := N + 2 * ((i + 1 : Nat) : Int)) (by omega)
        exact ⟨o, mm, c, g2 _ _ hpp (by simpa using nDp.symm), r⟩
      · rw [List.map_append, nm, List.take_add_one, List.getElem?_eq_getElem hi']
        rfl
      · intro x hx
        rcases List.mem_append.mp hx with hx | hx
        · exact rm x hx
        · rw [List.mem_singleton.mp hx]
          exact ⟨ha3, ha4⟩
    · rintro G1 ⟨pls, c2, j2, d2, nm, rm⟩
      rw [List.length_map] at j2 nm
      rw [List.take_length] at nm
      have lp : pls.length = ws.length := by rw [← List.length_map (f := (·.name)), nm]
      obtain ⟨rs, hlD, hrs⟩ := id d2
      refine ⟨_, rfl, D, rfl, ⟨_, SqL.of hlD⟩, fun D2 nD2 => ?_⟩
      refine lc_it (walk_list (xs := rs.map V.ref)) (Pv := Tk G1 D2 (pls.map fun x => V.bl x.inner)) (Tk.start nD2) (fun i H' _ hh => SqL.of (hh.1 _ _ hlD)) ?_ ?_
      · rintro i v G2 G3 hi hk ⟨rfl, hv⟩
        obtain ⟨q1, pp, rfl, _, hpp, ho⟩ := hrs.at hv
        refine ⟨rfl, ?_⟩
        unfold tYes
        refine iteT ⟨_, rfl, q1, _, _, _, rfl, rfl, SqT.of (hk.1 _ _ ho), rfl, ?_⟩
        exact hk.step nD2 (Same.refl _) (by rw [List.getElem?_map, hpp]; rfl) (by rw [List.length_map]; omega)
      · rintro G2 hk
        have hD2 := hk.done (by simp [hrs.1])
        have s2 := hk.1
        have hlD2 := s2 _ _ hlD
        have hrs2 := hrs.same s2
        have j3 := j2.same s2
        have c3 := c2.trans (Chg.of s2)
        refine ⟨D2, pls.map (·.inner), rfl, SqL.of (by rw [List.map_map]; exact hD2), _, rfl, ?_⟩
        rw [any_map]
        have ntH : H D = none := nD
        cases ha : pls.any (fun x => x.inner) with
        | true => exact iteF ⟨_, rfl, q G2 D pls c3 nD (j3.mono (by omega)) ⟨rs, hlD2, hrs2⟩ nm rm ha⟩
        | false =>
          refine iteT ?_
          rcases List.eq_nil_or_concat pls with hz | ⟨ini, la, hz⟩
          · rw [hz] at lp
            simp at lp
            omega
          rw [List.concat_eq_append] at hz
          rcases List.eq_nil_or_concat rs with hz2 | ⟨rini, rl, hz2⟩
          · have := hrs.1
            rw [hz2, hz] at this
            simp at this
          rw [List.concat_eq_append] at hz2
          subst hz hz2
          have le : rini.length = ini.length := by have := hrs.1; simpa using this
          have ho := hrs2.2 rini.length rl la (by simp) (by rw [le]; simp)
          refine ⟨_, rfl, _, rfl, D, _, _, .ref rl, rfl, rfl, SqL.of hlD2, by rw [List.map_append]; exact atI_last, ?_⟩
          refine ⟨_, rfl, rl, _, rfl, SqT.of ho, (show ¬ (HT.sIx 3 0 none = 0 ∧ HT.sIx 3 3 (some 2) = 3) by decide), fun q1 n1 => ⟨(show 1 ≤ sizeLine by decide), fun q2 n2 => ?_⟩⟩
          rw [show cutV [V.str la.name, V.int la.room, V.bl la.inner] none (some 2) = [V.str la.name, V.int la.room] from rfl] at *
          have e1 := same_upd (o := .tup [V.str la.name, V.int la.room]) n1
          have oq1 := upd_same (H := G2) (a := q1) (o := .tup [V.str la.name, V.int la.room])
          have e2 := same_upd (o := .tup [V.bl true]) n2
          replace oq1 := e2 _ _ oq1
          have oq2 := upd_same (H := upd G2 q1 (.tup [V.str la.name, V.int la.room])) (a := q2) (o := .tup [V.bl true])
          have e12 := e1.trans e2
          generalize upd (upd G2 q1 (.tup [V.str la.name, V.int la.room])) q2 (.tup [V.bl true]) = G3 at *
          refine ⟨q1, q2, _, _, rfl, rfl, SqT.of oq1, SqT.of oq2, by simp, (show 3 ≤ sizeLine by decide), fun z => (by cases z), fun _ q3 n3 => ?_⟩
          have e3 := same_upd (o := plO ⟨la.name, la.room, true⟩) n3
          have oq3 := upd_same (H := G3) (a := q3) (o := plO ⟨la.name, la.room, true⟩)
          have e13 := e12.trans e3
          have hlD3 := e13 _ _ hlD2
          have hrs3 := hrs2.same e13
          have j4 := j3.same e13
          have c4 := c3.trans (Chg.of e13)
          refine ⟨_, rfl, _, rfl, D, _, -1, rini.length, rfl, rfl, hlD3, ?_, ?_⟩
          · rw [List.length_map, List.length_append, List.length_singleton]
            unfold ixN
            rw [if_neg (by decide), if_pos (by omega)]
            exact congrArg some (by omega)
          have eset : ((rini ++ [rl]).map V.ref).set rini.length (.ref q3) = (rini ++ [q3]).map V.ref := by
            rw [List.map_append, List.map_append, List.set_append_right _ _ (by rw [List.length_map]; exact Nat.le_refl _), List.length_map, Nat.sub_self]
            rfl
          have fr : Fr [D] (upd G3 q3 (plO ⟨la.name, la.room, true⟩)) (upd (upd G3 q3 (plO ⟨la.name, la.room, true⟩)) D (.lst ((rini ++ [q3]).map V.ref))) := Fr.upd (by simp)
          have keep : ∀ {r : Addr} {x : Pl}, (upd G3 q3 (plO ⟨la.name, la.room, true⟩)) r = some (plO x) → (upd (upd G3 q3 (plO ⟨la.name, la.room, true⟩)) D (.lst ((rini ++ [q3]).map V.ref))) r = some (plO x) := fun {r x} e => fr _ _ e (at_nl hlD3 plO_nl r x e)
          refine ⟨_, rfl, ?_⟩
          rw [show (upd (upd G3 q3 (.tup ([V.str la.name, V.int la.room] ++ [V.bl true]))) D (.lst (((rini ++ [rl]).map V.ref).set rini.length (.ref q3)))) = upd (upd G3 q3 (plO ⟨la.name, la.room, true⟩)) D (.lst ((rini ++ [q3]).map V.ref)) by rw [eset]; rfl]
          refine q _ D (ini ++ [⟨la.name, la.room, true⟩]) (fun b u e nb => ?_) nD ?_ ⟨rini ++ [q3], upd_same, ?_, ?_⟩ ?_ ?_ ?_
          · exact fr _ _ (c4 _ _ e nb) (by simpa using ne_of_none e nD)
          · obtain ⟨o, mm, c, hpp, r⟩ := j4.mono (M := N + 8) (by omega)
            exact ⟨o, mm, c, fr _ _ hpp (by simpa using nDp.symm), r⟩
          · simp [le]
          · intro i r x hr hx
            by_cases hi : i < rini.length
            · rw [List.getElem?_append_left hi] at hr
              rw [List.getElem?_append_left (by omega)] at hx
              refine keep (hrs3.2 i r x ?_ ?_)
              · rw [List.getElem?_append_left hi]; exact hr
              · rw [List.getElem?_append_left (by omega)]; exact hx
            · have hi2 : i < (rini ++ [q3]).length := (List.getElem?_eq_some_iff.mp hr).1
              rw [List.length_append, List.length_singleton] at hi2
              obtain rfl : i = rini.length := by omega
              rw [List.getElem?_append_right (Nat.le_refl _), Nat.sub_self] at hr
              rw [le, List.getElem?_append_right (Nat.le_refl _), Nat.sub_self] at hx
              cases hr
              cases hx
              exact keep oq3
          · rw [← nm, List.map_append, List.map_append]
            rfl
          · intro x hx
            rcases List.mem_append.mp hx with hx | hx
            · exact rm x (List.mem_append.mpr (.inl hx))
            · rw [List.mem_singleton.mp hx]
              exact rm la (by simp)
          · rw [List.any_append, Bool.or_eq_true]
            exact .inr rfl
end
end Hs
/-! the law: drawn stays -/
namespace Hs
open PySem PySem.Spec PyProof.Rows L2 Am
def muS (n : Nat) (σ : L2.St) (_ : Hp) : Nat := match σ[7]? with
  | some (some (V.int a)) => ((n : Int) - a).toNat
  | _ => 0
def kvT (n : Nat) (lt lp : Addr) : List (Key × V) := [(.inr "days", .int n), (.inr "prices", .ref lt), (.inr "places", .ref lp)]
def spStays : Sp := fun vs H Q _ => ∃ (p d ln lt lp : Addr) (n : Nat) (N : Int) (pls : List Pl) (ppl : List Str), vs = [.ref p, .ref d, .ref ln] ∧ (1 ≤ n ∧ n ≤ 14) ∧ JarAt H p N ∧ N ≤ 9000 ∧ H d = some (.dK (kvT n lt lp)) ∧ LstAt plO H lp pls ∧ lp ≠ p ∧ pls.length ≤ 4 ∧ (pls.map (·.name)).Nodup ∧
  H ln = some (.lst (ppl.map V.str)) ∧ (1 ≤ ppl.length ∧ ppl.length ≤ 9) ∧
  ∀ (H' : Hp) (t : Addr) (ss : List Hs.St), Chg p H H' → H t = none → JarAt H' p (N + 60) → LstAt stO H' t ss → StOk n (pls.map (·.name)) ppl ss → Q (.ref t) H'
section
variable {P : Program} {w : World} {K : PySem.W.Frag} {mg : Str → Option Value} {base : Heap}
theorem scStays : FnScope ["_law_jar_here", "_law_town_here", "_law_names_here", "_law_found", "_law_place", "_law_room", "_law_is_flat", "_law_day", "_law_behind"] ["_law_jar_here", "_law_town_here", "_law_names_here"] (defScope sL_stays) := ⟨rfl, rfl, rfl, by decide +kernel, rfl, by decide +kernel, by decide +kernel⟩
theorem ok_stays {f : Addr} {fd : FuncData} (F : Fun K "_law_stays" "_law_stays" sL_stays f fd) (T : Nm mg) (GT : GotF P w K mg base "_law_take" 1 ["_law_jar_here", "_law_many"] Am.spTake) (GO : GotF P w K mg base "_law_of" 2 ["_law_jar_here", "_law_some"] spOf) : FnOk P w K mg base CX0 3 f fd ["_law_jar_here", "_law_town_here", "_law_names_here"] spStays := by
  obtain ⟨fT, fdT, GT, bT, mT, kT⟩ := GT
  obtain ⟨fO, fdO, GO, bO, mO, kO⟩ := GO
  refine F.ok scStays (fun vs H Q E h => ?_) (fun cdv A outer s H vs Q E hr h => ?_)
  · obtain ⟨p, d, ln, lt, lp, n, N, pls, ppl, rfl, _⟩ := h
    rfl
  · obtain ⟨p, d, ln, lt, lp, n, N, pls, ppl, rfl, ⟨n1, n14⟩, hj, hN, hd, hl, nlp, l4, nd, hpe, ⟨pe1, pe9⟩, q⟩ := h
    have hr1 : Room 1 _ := hr.mono (by decide)
    have hu := hu_of hr
    refine ⟨_, (pss_cons (ps_set (i := 3) scStays.nd rfl (.inl rfl) (pe_lst pa_nil))
      (pss_cons (ps_for (g := (gTup K 3 (gCons (gName 4) (gCons (gName 5) (gCons (gName 6) gNil))))) PassesOwn.never rfl (pi_list (pe_dget hu (pv 1) pe_str (fun _ _ => rfl))) (pg_tup rfl (pgs_cons (pg_name (i := 4) scStays.nd rfl (.inl rfl)) (pgs_cons (pg_name (i := 5) scStays.nd rfl (.inl rfl)) (pgs_cons (pg_name (i := 6) scStays.nd rfl (.inl rfl)) pgs_nil)))) (pss_cons (ps_set (i := 7) scStays.nd rfl (.inl rfl) (pe_call GO hr (by rfl) mO kO bO .nil pass0 (pa_cons (pv 0) (pa_cons (pe_lst (pa_cons pe_int (pa_cons pe_int (pa_cons (pe_call GT hr1 (by rfl) mT kT bT .nil pass0 (pa_cons (pv 0) (pa_cons (pe_dget hu (pv 1) pe_str (fun _ _ => rfl)) pa_nil))) pa_nil)))) pa_nil))))
      (pss_one (ps_while PassesOwn.never (PW.pt (pw_and (pt_cmpR op_lt (pv 7) (pe_dget hu (pv 1) pe_str (fun _ _ => rfl)) (nomark _)) (pw_and (pt_cmpR op_lt (pe_callB call_len_seq (by rfl) T.len PySem.boot_len (pa_cons (pv 3) pa_nil)) pe_int (nomark _)) (pw_and1 (pt_cmpR op_gt (pe_call GT hr1 (by rfl) mT kT bT .nil pass0 (pa_cons (pv 0) (pa_cons pe_int pa_nil))) pe_int (nomark _)))))) (pss_cons (ps_set (i := 8) scStays.nd rfl (.inl rfl) (pe_op op_add (pe_op op_add (pv 7) pe_int) (pe_call GT hr1 (by rfl) mT kT bT .nil pass0 (pa_cons (pv 0) (pa_cons (pe_op op_sub (pe_dget hu (pv 1) pe_str (fun _ _ => rfl)) (pv 7)) pa_nil)))))
      (pss_cons (ps_expr (pe_bm PySem.F.plainAttrs_list PySem.F.slot_list_append PySem.F.type_list_append mt_append (pv 3) (pa_cons (pe_tup (pa_cons (pe_call GO hr (by rfl) mO kO bO .nil pass0 (pa_cons (pv 0) (pa_cons (pv 2) pa_nil))) (pa_cons (pv 4) (pa_cons (pv 7) (pa_cons (pv 8) pa_nil))))) pa_nil)))
      (pss_one (ps_set (i := 7) scStays.nd rfl (.inl rfl) (pe_op op_add (pv 8) (pe_call GO hr (by rfl) mO kO bO .nil pass0 (pa_cons (pv 0) (pa_cons (pe_lst (pa_cons pe_int (pa_cons pe_int (pa_cons pe_int (pa_cons (pe_call GT hr1 (by rfl) mT kT bT .nil pass0 (pa_cons (pv 0) (pa_cons pe_int pa_nil))) pa_nil))))) pa_nil))))))))))))
      (pss_one (ps_ret (pv 3))))), ?_⟩
    refine ⟨by decide, fun lf nlf => ?_⟩
    obtain ⟨jo, jm, jc, hp, _⟩ := id hj
    have nlpep : ln ≠ p := fun z => by
      rw [z, hp] at hpe
      have := HO.lst.inj (Option.some.inj hpe)
      cases ppl with
      | nil => cases this
      | cons _ _ => cases this
    have nlfp : lf ≠ p := fun z => by rw [z, hp] at nlf; cases nlf
    have ndp : d ≠ p := fun z => by rw [z, hp] at hd; cases hd
    have e2 := same_upd (o := .lst []) nlf
    have hl1 := hl.same e2
    obtain ⟨rs, hlr, hrs⟩ := id hl1
    have hj2 := hj.same e2
    have hpe2 := e2 _ _ hpe
    have hd2 := e2 _ _ hd
    have c2 : Chg p H (upd H lf (.lst [])) := Chg.of e2
    have hf2 : LstAt stO (upd H lf (.lst [])) lf [] := LstAt.nil upd_same
    have nllf : lp ≠ lf := fun z => by
      obtain ⟨_, a, _⟩ := hl
      rw [z, nlf] at a
      cases a
    have nlpelf : ln ≠ lf := fun z => by rw [z, nlf] at hpe; cases hpe
    have ndlf : d ≠ lf := fun z => by rw [z, nlf] at hd; cases hd
    generalize upd H lf (.lst []) = H2 at *
    have cf : ∀ {A B : Hp}, Chg p A B → Fr [p, lf] A B := fun h => (Chg.fr h).mono (by simp)
    have toH : ∀ {A : Hp}, Fr [p, lf] H2 A → Chg p H A := fun h b u e nb => h b u (c2 _ _ e nb) (by
      have := ne_of_none e nlf
      simp [nb, this])
    have hdA : ∀ {A : Hp}, Fr [p, lf] H2 A → A d = some (.dK (kvT n lt lp)) := fun h => h _ _ hd2 (by simp [ndp, ndlf])
    refine ⟨_, rfl, d, _, rfl, .inl ⟨_, .inr "places", .inl hd2, rfl, rfl⟩, lp, rfl, ⟨_, SqL.of hlr⟩, ?_⟩
    refine for_it (walk_list (xs := rs.map V.ref)) (fun i σ H' => ∃ (ss : List Hs.St) (s4 s5 s6 s7 s8 : Option V), σ = [some (.ref p), some (.ref d), some (.ref ln), some (.ref lf), s4, s5, s6, s7, s8] ∧ Fr [p, lf] H2 H' ∧
      JarAt H' p (N + 3 * i + 5 * ss.length) ∧ LstAt stO H' lf ss ∧ StOk n ((pls.take i).map (·.name)) ppl ss) ?_ ?_ ?_ ?_
    · exact ⟨[], _, _, _, _, _, rfl, Fr.same (Same.refl _), hj2.mono (by simp), hf2, ⟨by decide, fun s hs => absurd hs List.not_mem_nil, by simp⟩⟩
    · rintro i σ H' _ ⟨_, _, _, _, _, _, _, c, _⟩
      exact SqL.of (c _ _ hlr (by simp [nlp, nllf]))
    · rintro i v σ H3 H4 hi ⟨ss, s4, s5, s6, s7, s8, rfl, c3, j3, hf3, ok⟩ ⟨rfl, hv⟩
      obtain ⟨q1, pp, rfl, _, hpp, ho⟩ := hrs.at hv
      have i4 : i < 4 := by
        rw [List.length_map, hrs.1] at hi
        omega
      have ho3 := c3 _ _ ho (by
        obtain ⟨_, _, _, hpz, _⟩ := id hj2
        obtain ⟨_, hfz, _⟩ := id hf2
        have a1 := ne_of ho hpz (by intro z; unfold plO at z; cases z)
        have a2 := ne_of ho hfz (by intro z; unfold plO at z; cases z)
        simp [a1, a2])
      refine ⟨q1, _, rfl, SqT.of ho3, rfl, _, _, rfl, _, _, rfl, _, _, rfl, rfl, ?_⟩
      refine ⟨_, rfl, _, rfl, _, rfl, d, _, rfl, .inl ⟨_, .inr "days", .inl (hdA c3), rfl, rfl⟩, p, (n : Int), _, rfl, ⟨by omega, by omega⟩, j3, by have := ok.l; omega, fun dd H5 hdd c5 j5 => ?_⟩
      have hf5 := hf3.jar j3 nlfp c5 stO_nl
      refine ⟨(show 3 ≤ sizeLine by decide), fun q2 nq2 => ?_⟩
      obtain ⟨_, _, _, hp5, _⟩ := id j5
      have nq2p : q2 ≠ p := fun z => by rw [z, hp5] at nq2; cases nq2
      have e6 := same_upd (o := .lst [V.int 0, .int 0, .int dd]) nq2
      refine ⟨p, q2, _, _, rfl, upd_same, nq2p, ⟨show 0 < 3 by decide, show 3 ≤ 1000 by decide⟩, j5.same e6, by have := ok.l; omega, fun v H7 hv7 c7 j7 => ?_⟩
      have hf7 := (hf5.same e6).jar (j5.same e6) nlfp c7 stO_nl
      obtain ⟨at0, rfl⟩ : ∃ a : Nat, v = .int a := by
        simp only [List.mem_cons, List.not_mem_nil, or_false] at hv7
        rcases hv7 with rfl | rfl | rfl
        · exact ⟨0, rfl⟩
        · exact ⟨0, rfl⟩
        · exact ⟨dd.toNat, by congr 1; omega⟩
      have c27 : Fr [p, lf] H2 H7 := (c3.trans (cf c5)).trans ((Fr.same e6).trans (cf c7))
      have et : pls.take (i + 1) = pls.take i ++ [pp] := by rw [List.take_add_one, hpp]; rfl
      have nin : pp.name ∉ (pls.take i).map (·.name) := by
        have e0 := List.take_append_drop (i + 1) pls
        rw [et] at e0
        rw [← e0, List.map_append, List.map_append, List.nodup_append] at nd
        have nn1 := nd.1
        rw [List.nodup_append] at nn1
        exact fun z => nn1.2.2 _ z pp.name (by simp) rfl
      refine ⟨fun m σ H => (∃ (at' : Nat) (ss : List Hs.St) (s8 : Option V), σ = [some (.ref p), some (.ref d), some (.ref ln), some (.ref lf), some (.str pp.name), some (.int pp.room), some (.bl pp.inner), some (.int at'), s8] ∧ Fr [p, lf] H2 H ∧
        JarAt H p (N + 3 * i + 2 + 5 * ss.length) ∧ LstAt stO H lf ss ∧ StOk n ((pls.take (i + 1)).map (·.name)) ppl ss ∧ ∀ s ∈ ss, s.pl = pp.name → s.b ≤ at') ∧ m = muS n σ H, ⟨_, ⟨at0, ss, _, rfl, c27, j7.mono (by omega), hf7, ⟨ok.l, fun s hs => ?_, ok.ap⟩, fun s hs e => ?_⟩, rfl⟩, ?_⟩
      · obtain ⟨a, b, c, d⟩ := ok.ok s hs
        refine ⟨a, b, c, ?_⟩
        rw [et, List.map_append]
        exact List.mem_append_left _ d
      · exact absurd (e ▸ (ok.ok s hs).2.2.2) nin
      rintro _ σ' H8 ⟨⟨at', ss', s8', rfl, c8, j8, hf8, ok8, be8⟩, rfl⟩
      refine ⟨_, rfl, _, rfl, d, _, rfl, .inl ⟨_, .inr "days", .inl (hdA c8), rfl, rfl⟩, _, _, rfl, rfl, _, rfl, ?_⟩
      have fin : ∀ H9, Fr [p, lf] H2 H9 → JarAt H9 p (N + 3 * i + 2 + 5 * ss'.length + 1) → LstAt stO H9 lf ss' → ∃ (ss : List Hs.St) (s4 s5 s6 s7 s8 : Option V), [some (V.ref p), some (.ref d), some (.ref ln), some (.ref lf), some (.str pp.name), some (.int pp.room), some (.bl pp.inner), some (.int at'), s8'] = [some (.ref p), some (.ref d), some (.ref ln), some (.ref lf), s4, s5, s6, s7, s8] ∧ Fr [p, lf] H2 H9 ∧
          JarAt H9 p (N + 3 * ((i + 1 : Nat) : Int) + 5 * ss.length) ∧ LstAt stO H9 lf ss ∧ StOk n ((pls.take (i + 1)).map (·.name)) ppl ss := fun H9 a b c => ⟨ss', _, _, _, _, _, rfl, a, b.mono (by omega), c, ok8⟩
      have l8 := ok8.l
      cases ca : decide ((at' : Int) < (n : Int)) with
      | false => exact iteF (iteF (fin H8 c8 (j8.mono (by omega)) hf8))
      | true =>
        have atn : at' < n := by have := of_decide_eq_true ca; omega
        obtain ⟨rs8, hlf8, hrs8⟩ := id hf8
        refine iteT ⟨_, rfl, lf, _, rfl, .inl (SqL.of hlf8), ?_⟩
        rw [List.length_map, hrs8.1]
        refine ⟨_, _, rfl, rfl, _, rfl, ?_⟩
        cases cb : decide ((ss'.length : Int) < 8) with
        | false => exact iteF (iteF (fin H8 c8 (j8.mono (by omega)) hf8))
        | true =>
          have l7 : ss'.length < 8 := by have := of_decide_eq_true cb; omega
          refine iteT ⟨_, rfl, p, 5, _, rfl, ⟨by decide, by decide⟩, j8, by omega, fun d9 H9 hd9 c9 j9 => ?_⟩
          have hf9 := hf8.jar j8 nlfp c9 stO_nl
          have c29 := c8.trans (cf c9)
          refine ⟨_, _, rfl, rfl, _, rfl, ?_⟩
          cases cd : decide (d9 > 0) with
          | false => exact iteF (fin H9 c29 j9 hf9)
          | true =>
            refine iteT ⟨fun σ' H' => (∃ (at' : Nat) (ss : List Hs.St) (s8 : Option V), σ' = [some (.ref p), some (.ref d), some (.ref ln), some (.ref lf), some (.str pp.name), some (.int pp.room), some (.bl pp.inner), some (.int at'), s8] ∧ Fr [p, lf] H2 H' ∧
        JarAt H' p (N + 3 * i + 2 + 5 * ss.length) ∧ LstAt stO H' lf ss ∧ StOk n ((pls.take (i + 1)).map (·.name)) ppl ss ∧ ∀ s ∈ ss, s.pl = pp.name → s.b ≤ at') ∧ muS n σ' H' < n - at', fun σ' H' hn => ⟨_, ?_, hn.1, rfl⟩, ?_⟩
            · have e0 : muS n [some (V.ref p), some (.ref d), some (.ref ln), some (.ref lf), some (.str pp.name), some (.int pp.room), some (.bl pp.inner), some (.int at'), s8'] H8 = n - at' := by
                show ((n : Int) - (at' : Int)).toNat = n - at'
                omega
              rw [e0]
              exact hn.2
            refine ⟨_, rfl, _, _, rfl, rfl, _, rfl, _, rfl, d, _, rfl, .inl ⟨_, .inr "days", .inl (hdA c29), rfl, rfl⟩, _, rfl, _, _, rfl, rfl, p, (n : Int) - (at' : Int), _, rfl, ⟨by omega, by omega⟩, j9, by omega, fun d10 H10 hd10 c10 j10 => ⟨_, _, rfl, rfl, ?_⟩⟩
            have hf10 := hf9.jar j9 nlfp c10 stO_nl
            have c210 := c29.trans (cf c10)
            obtain ⟨bb, hbb⟩ : ∃ b : Nat, (at' : Int) + 1 + d10 = (b : Int) := ⟨at' + 1 + d10.toNat, by omega⟩
            simp only [hbb]
            refine ⟨_, rfl, .inl ⟨rfl, _, SqL.of hf10.choose_spec.1⟩, _, rfl, _, rfl, p, ln, _, _, rfl, c210 _ _ hpe2 (by simp [nlpep, nlpelf]), nlpep, ?_, j10, by omega, fun v11 H11 hv11 c11 j11 => ?_⟩
            · rw [List.length_map]
              omega
            have hf11 := hf10.jar j10 nlfp c11 stO_nl
            have c211 := c210.trans (cf c11)
            obtain ⟨wh, hwh, rfl⟩ := List.mem_map.mp hv11
            refine ⟨_, rfl, _, rfl, _, rfl, (show 4 ≤ sizeLine by decide), fun D nD => ?_⟩
            obtain ⟨rs11, hlf11, hrs11⟩ := id hf11
            obtain ⟨g1, g2⟩ := LstAt.grow (x := (⟨wh, pp.name, at', bb⟩ : Hs.St)) hlf11 hrs11 nD stO_nl
            refine ⟨lf, rs11.map V.ref, _, rfl, rfl, (upd_ne (ne_of_none hlf11 nD)).trans hlf11, ?_, ?_⟩
            · rw [List.length_map, hrs11.1]
              exact Nat.lt_trans l7 (by decide)
            have fr12 := g2
            have hf12 := g1
            have j12 : JarAt (upd (upd H11 D (stO ⟨wh, pp.name, at', bb⟩)) lf (.lst (rs11.map V.ref ++ [.ref D]))) p (N + 3 * i + 2 + 5 * ss'.length + 1 + 1 + 1) := by
              obtain ⟨o, mm, cc, hp5, r⟩ := j11
              exact ⟨o, mm, cc, g2 _ _ hp5 (by simpa using nlfp.symm), r⟩
            have c212 : Fr [p, lf] H2 (upd (upd H11 D (stO ⟨wh, pp.name, at', bb⟩)) lf (.lst (rs11.map V.ref ++ [.ref D]))) := c211.trans (g2.mono (by simp))
            refine ⟨_, rfl, _, rfl, _, rfl, p, 5, _, rfl, ⟨by decide, by decide⟩, j12, by omega, fun d13 H13 hd13 c13 j13 => ?_⟩
            have hf13 := hf12.jar j12 nlfp c13 stO_nl
            have c213 := c212.trans (cf c13)
            refine ⟨(show 4 ≤ sizeLine by decide), fun q3 nq3 => ?_⟩
            have e13 := same_upd (o := .lst [V.int 0, .int 0, .int 1, .int d13]) nq3
            obtain ⟨_, _, _, hp12, _⟩ := id j13
            have nq3p : q3 ≠ p := fun z => by subst z; exact absurd (hp12.symm.trans nq3) (by intro z; cases z)
            refine ⟨p, q3, _, _, rfl, upd_same, nq3p, ⟨show 0 < 4 by decide, show 4 ≤ 1000 by decide⟩, j13.same e13, by omega, fun v14 H14 hv14 c14 j14 => ?_⟩
            have hf14 := (hf13.same e13).jar (j13.same e13) nlfp c14 stO_nl
            have c214 := (c213.trans (Fr.same e13)).trans (cf c14)
            obtain ⟨d4, rfl, hdd4⟩ : ∃ a : Nat, v14 = .int a ∧ a ≤ 4 := by
              simp only [List.mem_cons, List.not_mem_nil, or_false] at hv14
              rcases hv14 with rfl | rfl | rfl | rfl
              · exact ⟨0, rfl, by decide⟩
              · exact ⟨0, rfl, by decide⟩
              · exact ⟨1, rfl, by decide⟩
              · exact ⟨d13.toNat, by congr 1; omega, by omega⟩
            refine ⟨_, _, rfl, rfl, ?_⟩
            refine ⟨⟨bb + d4, ss' ++ [⟨wh, pp.name, at', bb⟩], _, rfl, c214, ?_, hf14, ⟨?_, ?_, ?_⟩, ?_⟩, ?_⟩
            · rw [List.length_append, List.length_singleton]
              exact j14.mono (by omega)
            · rw [List.length_append, List.length_singleton]
              omega
            · intro s hs
              rcases List.mem_append.mp hs with hs | hs
              · exact ok8.ok s hs
              · rw [List.mem_singleton.mp hs]
                refine ⟨by show at' < bb; omega, by show bb ≤ n; omega, hwh, ?_⟩
                rw [et, List.map_append]
                exact List.mem_append_right _ (by simp)
            · rw [List.pairwise_append]
              refine ⟨ok8.ap, by simp, fun s hs t ht e => ?_⟩
              rw [List.mem_singleton.mp ht] at e ⊢
              exact .inl (be8 s hs e)
            · intro s hs e
              rcases List.mem_append.mp hs with hs | hs
              · have := be8 s hs e
                omega
              · rw [List.mem_singleton.mp hs]
                show bb ≤ bb + d4
                omega
            · show ((n : Int) - ((bb : Int) + (d4 : Int))).toNat < n - at'
              omega
    · rintro σ H3 ⟨ss, s4, s5, s6, s7, s8, rfl, c3, j3, hf3, ok⟩
      rw [show pls.take (rs.map V.ref).length = pls from by rw [List.length_map, hrs.1]; exact List.take_length] at ok
      have l8 := ok.l
      have len4 : (rs.map V.ref).length ≤ 4 := by rw [List.length_map, hrs.1]; exact l4
      exact ⟨_, rfl, q _ lf ss (toH c3) nlf (j3.mono (by omega)) hf3 ok⟩
end
end Hs
/-! the law: a drawn town -/
namespace Hs
open PySem PySem.Spec PyProof.Rows L2 Am
def kvA (n : V) (lt : Addr) : List (Key × V) := [(.inr "days", n), (.inr "prices", .ref lt)]
def kvF (n : Nat) (lt lp ls : Addr) : List (Key × V) := [(.inr "days", .int n), (.inr "prices", .ref lt), (.inr "places", .ref lp), (.inr "stays", .ref ls)]
theorem putA (a b : V) (lt : Addr) : putK (kvA a lt) (.inr ("days" : Str) : Key) b = kvA b lt := by
  have h : ¬ (("prices" : Str) = "days") := by decide +kernel
  simp [putK, kvA, h]
theorem putT (n : Nat) (lt lp : Addr) : putK (kvA (.int n) lt) (.inr ("places" : Str) : Key) (.ref lp) = kvT n lt lp := by
  rw [putK_new]
  · rfl
  · intro kv h
    unfold kvA at h
    simp only [List.mem_cons, List.not_mem_nil, or_false] at h
    rcases h with rfl | rfl
    · exact show ¬ ((Sum.inr ("days" : Str) : Key) = Sum.inr ("places" : Str)) by decide +kernel
    · exact show ¬ ((Sum.inr ("prices" : Str) : Key) = Sum.inr ("places" : Str)) by decide +kernel
theorem putF4 (n : Nat) (lt lp ls : Addr) : putK (kvT n lt lp) (.inr ("stays" : Str) : Key) (.ref ls) = kvF n lt lp ls := by
  rw [putK_new]
  · rfl
  · intro kv h
    unfold kvT at h
    simp only [List.mem_cons, List.not_mem_nil, or_false] at h
    rcases h with rfl | rfl | rfl
    · exact show ¬ ((Sum.inr ("days" : Str) : Key) = Sum.inr ("stays" : Str)) by decide +kernel
    · exact show ¬ ((Sum.inr ("prices" : Str) : Key) = Sum.inr ("stays" : Str)) by decide +kernel
    · exact show ¬ ((Sum.inr ("places" : Str) : Key) = Sum.inr ("stays" : Str)) by decide +kernel
theorem mergeA (n : V) (lt : Addr) : mergeK [] [((.inr "days" : Key), n), (.inr "prices", .ref lt)] = kvA n lt := by
  show putK (putK [] (.inr ("days" : Str) : Key) n) (.inr ("prices" : Str)) (.ref lt) = _
  rw [putK_new (k := (.inr ("days" : Str) : Key)) (fun kv h => by cases h), putK_new]
  · rfl
  · intro kv h
    simp only [List.nil_append, List.mem_singleton] at h
    subst h
    exact show ¬ ((Sum.inr ("days" : Str) : Key) = Sum.inr ("prices" : Str)) by decide +kernel
def TownAt (H : Hp) (d : Addr) (L : Lore) : Prop := ∃ lt lp ls, H d = some (.dK (kvF L.days lt lp ls)) ∧ LstAt plO H lp L.places ∧ LstAt stO H ls L.stays ∧ LstAt prO H lt L.prices
theorem TownAt.same {H H' : Hp} {d : Addr} {L : Lore} (h : TownAt H d L) (e : Same H H') : TownAt H' d L := by
  obtain ⟨lt, lp, ls, a, b, c, f⟩ := h
  exact ⟨lt, lp, ls, e _ _ a, b.same e, c.same e, f.same e⟩
def prD (p : Nat × Nat) : PyData := .tuple [.int p.1, .int p.2]
theorem dp_refs {α : Type} {f : α → HO} {g : α → PyData} {K : PySem.W.Frag} {H : Hp} (hg : ∀ r x, H r = some (f x) → Dp K H (.ref r) (g x)) : ∀ {rs : List Addr} {xs : List α}, Refs f H rs xs → DpAll K H (rs.map V.ref) (xs.map g)
  | [], [], _ => .nil
  | [], _ :: _, h => absurd h.1 (by simp)
  | _ :: _, [], h => absurd h.1 (by simp)
  | r :: rs, x :: xs, h => .cons (hg r x (h.2 0 r x rfl rfl)) (dp_refs hg ⟨by have := h.1; simpa using this, fun i q y a b => h.2 (i + 1) q y a b⟩)
theorem dp_prices {K : PySem.W.Frag} {H : Hp} {l : Addr} {qs : List (Nat × Nat)} (h : LstAt prO H l qs) : Dp K H (.ref l) (.list (qs.map prD)) := by
  obtain ⟨rs, a, b⟩ := h
  exact .lst (SqL.of a) (dp_refs (g := prD) (fun r x e => .tup (SqT.of e) (.cons (.int _) (.cons (.int _) .nil))) b)
def aft (qs : List (Nat × Nat)) : Nat := match qs.getLast? with | some q => q.1 + 1 | none => 0
theorem eqv_nil (ds : List PyData) : PyData.eqv (.list ds) (.list []) = ds.isEmpty := by
  cases ds <;> simp [PyData.eqv, PyData.eqvAll]
theorem lay_all : ∀ (ds : List PyData), (∀ d ∈ ds, d.canLay0 = true) → PyData.canLayAll0 ds = true
  | [], _ => by simp [PyData.canLayAll0]
  | d :: ds, h => by
    have := lay_all ds fun e he => h e (by simp [he])
    have h0 := h d (by simp)
    simp [PyData.canLayAll0, this, h0]
theorem depth_all : ∀ (ds : List PyData), (∀ d ∈ ds, d.depth ≤ 5) → PyData.depthAll ds ≤ 6
  | [], _ => by simp [PyData.depthAll]
  | d :: ds, h => by
    have := depth_all ds fun e he => h e (by simp [he])
    have h0 := h d (by simp)
    simp [PyData.depthAll]
    omega
theorem shaped_list {ds : List PyData} (h : ∀ d ∈ ds, d.canLay0 = true ∧ d.depth ≤ 5) : SeqAt.shaped (.list ds) = true := by
  have a := lay_all ds fun d hd => (h d hd).1
  have b := depth_all ds fun d hd => (h d hd).2
  unfold SeqAt.shaped
  rw [Bool.and_eq_true]
  refine ⟨by simp only [PyData.canLay0]; exact a, decide_eq_true ?_⟩
  simp only [PyData.depth]
  omega
theorem prD_ok (p : Nat × Nat) : (prD p).canLay0 = true ∧ (prD p).depth ≤ 5 := by
  unfold prD
  exact ⟨by simp [PyData.canLay0, PyData.canLayAll0], by simp [PyData.depth, PyData.depthAll]⟩
def spTown : Sp := fun vs H Q _ => ∃ (p : Addr) (m : Nat) (N : Int), vs = [.ref p, .int m] ∧ (1 ≤ m ∧ m ≤ 14) ∧ JarAt H p N ∧ N ≤ 8000 ∧
  ∀ (H' : Hp) (d : Addr) (L : Lore), Chg p H H' → H d = none → JarAt H' p (N + 100) → TownAt H' d L → Valid L → Q (.ref d) H'
section
variable {P : Program} {w : World} {K : PySem.W.Frag} {mg : Str → Option Value} {base : Heap}
theorem scTown : FnScope ["_law_jar_here", "_law_most", "_law_names_here", "_law_town_here", "_law_lap", "_law_after", "_law_day"] ["_law_jar_here", "_law_most"] (defScope sL_town) := ⟨rfl, rfl, rfl, by decide +kernel, rfl, by decide +kernel, by decide +kernel⟩
theorem ok_town {f : Addr} {fd : FuncData} (F : Fun K "_law_town" "_law_town" sL_town f fd) (T : Nm mg) (GT : GotF P w K mg base "_law_take" 1 ["_law_jar_here", "_law_many"] Am.spTake) (GO : GotF P w K mg base "_law_of" 2 ["_law_jar_here", "_law_some"] spOf)
    (GN : GotF P w K mg base "_law_names" 3 ["_law_jar_here", "_law_many"] spNames) (GP : GotF P w K mg base "_law_places" 2 ["_law_jar_here", "_law_names_here"] spPlaces) (GS : GotF P w K mg base "_law_stays" 3 ["_law_jar_here", "_law_town_here", "_law_names_here"] spStays) : FnOk P w K mg base CX0 4 f fd ["_law_jar_here", "_law_most"] spTown := by
  obtain ⟨fT, fdT, GT, bT, mT, kT⟩ := GT
  obtain ⟨fO, fdO, GO, bO, mO, kO⟩ := GO
  obtain ⟨fN, fdN, GN, bN, mN, kN⟩ := GN
  obtain ⟨fP, fdP, GP, bP, mP, kP⟩ := GP
  obtain ⟨fS, fdS, GS, bS, mS, kS⟩ := GS
  refine F.ok scTown (fun vs H Q E h => ?_) (fun cdv A outer s H vs Q E hr h => ?_)
  · obtain ⟨p, m, N, rfl, _⟩ := h
    rfl
  · obtain ⟨p, m, N, rfl, ⟨m1, m14⟩, hj, hN, q⟩ := h
    have hr3 : Room 3 _ := hr.mono (by decide)
    have hr2 : Room 2 _ := hr.mono (by decide)
    have hr1 : Room 1 _ := hr.mono (by decide)
    have hu := hu_of hr
    refine ⟨_, C8.pss_cut (ps_set (i := 2) scTown.nd rfl (.inl rfl) (pe_call GN hr3 (by rfl) mN kN bN .nil pass0 (pa_cons (pv 0) (pa_cons pe_int pa_nil)))) (pss_cons (ps_set (i := 3) scTown.nd rfl (.inl rfl) (pe_disp (pps_cons pe_str (pe_call GO hr2 (by rfl) mO kO bO .nil pass0 (pa_cons (pv 0) (pa_cons (pe_lst (pa_cons pe_int (pa_cons pe_int (pa_cons pe_int (pa_cons pe_int (pa_cons (pv 1) (pa_cons (pe_op op_add pe_int (pe_call GT hr1 (by rfl) mT kT bT .nil pass0 (pa_cons (pv 0) (pa_cons (pv 1) pa_nil)))) pa_nil))))))) pa_nil))) (pps_cons pe_str (pe_lst pa_nil) pps_nil)) (by rfl) (by rfl) (by simp) (by decide))) (pss_cons (ps_dput hu (pv 3) pe_str (pe_callB (call_min2 rfl) (by rfl) T.min b_min (pa_cons (pe_callTy call_int1 (by rfl) T.int b_int (pa_cons (pe_dget hu (pv 3) pe_str (fun _ _ => rfl)) pa_nil)) (pa_cons (pv 1) pa_nil))) rfl) (C8.pss_cut (ps_dput hu (pv 3) pe_str (pe_call GP hr2 (by rfl) mP kP bP .nil pass0 (pa_cons (pv 0) (pa_cons (pe_slice sl_list (pv 2) po_none (po_some (pe_op op_add pe_int (pe_call GT hr1 (by rfl) mT kT bT .nil pass0 (pa_cons (pv 0) (pa_cons pe_int pa_nil)))))) pa_nil))) rfl) (C8.pss_cut (ps_for PassesOwn.never rfl (pi_range1 (by rfl) T.range (pa_cons (pe_call GO hr2 (by rfl) mO kO bO .nil pass0 (pa_cons (pv 0) (pa_cons (pe_lst (pa_cons pe_int (pa_cons pe_int (pa_cons pe_int (pa_cons pe_int pa_nil))))) pa_nil))) pa_nil)) (pg_name (i := 4) scTown.nd rfl (.inl rfl)) (pss_cons (ps_set (i := 5) scTown.nd rfl (.inl rfl) (pe_ifExp (pt_cmpR (op_neD hr.units) (pe_dget hu (pv 3) pe_str (fun _ _ => rfl)) (pe_lst pa_nil) (nomark _)) (pe_op op_add (pe_ix ix_tup (pe_ix ix_list (pe_dget hu (pv 3) pe_str (fun _ _ => rfl)) (pe_un un_neg pe_int) (fun _ _ => rfl)) pe_int (fun _ _ => rfl)) pe_int) pe_int))
      (pss_one (ps_if (pt_cmpR op_lt (pv 5) (pe_dget hu (pv 3) pe_str (fun _ _ => rfl)) (nomark _)) (pss_cons (ps_set (i := 6) scTown.nd rfl (.inl rfl) (pe_op op_add (pv 5) (pe_call GT hr1 (by rfl) mT kT bT .nil pass0 (pa_cons (pv 0) (pa_cons (pe_op op_sub (pe_dget hu (pv 3) pe_str (fun _ _ => rfl)) (pv 5)) pa_nil)))))
      (pss_one (ps_expr (pe_bm PySem.F.plainAttrs_list PySem.F.slot_list_append PySem.F.type_list_append mt_append (pe_dget hu (pv 3) pe_str (fun _ _ => rfl)) (pa_cons (pe_tup (pa_cons (pv 6) (pa_cons (pe_call GO hr2 (by rfl) mO kO bO .nil pass0 (pa_cons (pv 0) (pa_cons (pe_lst (pa_cons pe_int (pa_cons pe_int (pa_cons pe_int (pa_cons pe_int (pa_cons (pe_call GT hr1 (by rfl) mT kT bT .nil pass0 (pa_cons (pv 0) (pa_cons pe_int pa_nil))) pa_nil)))))) pa_nil))) pa_nil))) pa_nil))))) pss_nil)))) (pss_cons (ps_dput hu (pv 3) pe_str (pe_call GS hr3 (by rfl) mS kS bS .nil pass0 (pa_cons (pv 0) (pa_cons (pv 3) (pa_cons (pe_slice sl_list (pv 2) (po_some pe_int) (po_some pe_int)) pa_nil)))) rfl)
      (pss_one (ps_ret (pv 3)))))))), ?_⟩
    -- the names
    refine ⟨fun σ' H' => ∃ (ln : Addr) (ws : List Str), σ' = [some (.ref p), some (.int m), some (.ref ln), none, none, none, none] ∧ ws.length = 8 ∧ ws.Nodup ∧ (∀ x ∈ ws, x ∈ pool) ∧ Chg p H H' ∧ H ln = none ∧ JarAt H' p (N + 2) ∧ H' ln = some (.lst (ws.map V.str)), ?_, ?_⟩
    · exact ⟨_, rfl, p, 8, N, rfl, by decide, hj, by omega, fun H1 ln ws h1 h2 h3 c1 n1 j1 h4 => ⟨ln, ws, rfl, h1, h2, h3, c1, n1, j1, h4⟩⟩
    rintro σ' H1 ⟨ln, ws, rfl, l8, nd, inp, c1, nln, j1, hln⟩
    obtain ⟨_, _, _, hp0, _⟩ := id hj
    have nlnp : ln ≠ p := fun z => by rw [z, hp0] at nln; cases nln
    -- the dict
    refine fun dd ndd => ?_
    have e2 := same_upd (o := .dK []) ndd
    have ndp : dd ≠ p := fun z => by
      obtain ⟨_, _, _, hp, _⟩ := id j1
      rw [z, hp] at ndd
      cases ndd
    have nddH : H dd = none := by
      cases e : H dd with
      | none => rfl
      | some u => rw [c1 _ _ e ndp] at ndd; cases ndd
    have hd2 := upd_same (H := H1) (a := dd) (o := .dK [])
    have hln2 := e2 _ _ hln
    have c2 := c1.trans (Chg.of e2)
    have j2 := j1.same e2
    generalize upd H1 dd (.dK []) = H2 at *
    clear e2 c1 j1
    refine ⟨_, rfl, _, rfl, _, rfl, _, rfl, p, (m : Int), _, rfl, ⟨by omega, by omega⟩, j2, by omega, fun a H3 ha c3 j3 => ⟨_, _, rfl, rfl, (show 6 ≤ sizeLine by decide), fun q1 nq1 => ?_⟩⟩
    have e4 := same_upd (o := .lst [V.int 4, .int 2, .int 6, .int 8, .int m, .int (1 + a)]) nq1
    obtain ⟨_, _, _, hp3, _⟩ := id j3
    refine ⟨p, q1, _, _, rfl, upd_same, (fun z => by rw [z, hp3] at nq1; cases nq1), ⟨show 0 < 6 by decide, show 6 ≤ 1000 by decide⟩, j3.same e4, by omega, fun v H5 hv c5 j5 => ?_⟩
    obtain ⟨da, rfl, da1⟩ : ∃ da : Nat, v = .int da ∧ 1 ≤ da := by
      simp only [List.mem_cons, List.not_mem_nil, or_false] at hv
      rcases hv with rfl | rfl | rfl | rfl | rfl | rfl
      · exact ⟨4, rfl, by decide⟩
      · exact ⟨2, rfl, by decide⟩
      · exact ⟨6, rfl, by decide⟩
      · exact ⟨8, rfl, by decide⟩
      · exact ⟨m, rfl, m1⟩
      · exact ⟨(1 + a).toNat, by congr 1; omega, by omega⟩
    have c25 : Chg p H2 H5 := (c3.trans (Chg.of e4)).trans c5
    have hd5 := c25 _ _ hd2 ndp
    have hln5 := c25 _ _ hln2 nlnp
    have c05 := c2.trans c25
    clear c3 c5 e4 c25 hv nq1 c2 j2 j3 hp3 ha hd2 hln2
    refine ⟨by decide, fun lt nlt => ?_⟩
    have e6 := same_upd (o := .lst []) nlt
    have hlt6 := upd_same (H := H5) (a := lt) (o := .lst [])
    have hd6 := e6 _ _ hd5
    have hln6 := e6 _ _ hln5
    have j6 := j5.same e6
    have nltp : lt ≠ p := fun z => by
      obtain ⟨_, _, _, hp, _⟩ := id j5
      rw [z, hp] at nlt
      cases nlt
    have nltH : H lt = none := by
      cases e : H lt with
      | none => rfl
      | some u => rw [c05 _ _ e nltp] at nlt; cases nlt
    have nltdd : lt ≠ dd := fun z => by rw [z, hd5] at nlt; cases nlt
    have c06 := c05.trans (Chg.of e6)
    generalize upd H5 lt (.lst []) = H6 at *
    clear e6 nlt c05 j5 hd5 hln5
    refine ⟨hd6, [(.inr "days", .int da), (.inr "prices", .ref lt)], rfl, (show 2 ≤ 15 by decide), ?_⟩
    rw [mergeA]
    have nlndd : ln ≠ dd := fun z => by rw [z, hd6] at hln6; cases hln6
    have fr7 : Fr [dd] H6 (upd H6 dd (.dK (kvA (.int da) lt))) := Fr.upd (by simp)
    have hd7 := upd_same (H := H6) (a := dd) (o := .dK (kvA (.int da) lt))
    have hlt7 := fr7 _ _ hlt6 (by simp [nltdd])
    have hln7 := fr7 _ _ hln6 (by simp [nlndd])
    have c07 : Chg p H (upd H6 dd (.dK (kvA (.int da) lt))) := fun b u e nb => fr7 _ _ (c06 _ _ e nb) (by simpa using ne_of_none e nddH)
    have j7 : JarAt (upd H6 dd (.dK (kvA (.int da) lt))) p (N + 4) := by
      obtain ⟨o, mm, c, hpp, r⟩ := j6.mono (M := N + 4) (by omega)
      exact ⟨o, mm, c, fr7 _ _ hpp (by simpa using ndp.symm), r⟩
    generalize upd H6 dd (.dK (kvA (.int da) lt)) = H7 at *
    clear fr7 c06 j6 hd6 hlt6 hln6
    -- the days
    refine ⟨_, rfl, dd, _, rfl, .inl ⟨_, .inr "days", .inl hd7, rfl, rfl⟩, .inl ⟨_, rfl, _, rfl, _, _, rfl, ?_⟩⟩
    obtain ⟨n, hn, n1, nm⟩ : ∃ n : Nat, (if (m : Int) < (da : Int) then (m : Int) else (da : Int)) = n ∧ 1 ≤ n ∧ n ≤ m := by
      by_cases z : (m : Int) < da
      · exact ⟨m, by rw [if_pos z], m1, Nat.le_refl _⟩
      · exact ⟨da, by rw [if_neg z], da1, by omega⟩
    have n14 : n ≤ 14 := by omega
    rw [hn]
    refine ⟨_, rfl, dd, _, rfl, .inl ⟨_, .inr "days", hd7, rfl, show 2 < sizeLine by decide, rfl⟩, ?_⟩
    rw [putA]
    have nlndd : ln ≠ dd := nlndd
    have fr8 : Fr [dd] H7 (upd H7 dd (.dK (kvA (.int n) lt))) := Fr.upd (by simp)
    have hd8 := upd_same (H := H7) (a := dd) (o := .dK (kvA (.int n) lt))
    have hlt8 := fr8 _ _ hlt7 (by simp [nltdd])
    have hln8 := fr8 _ _ hln7 (by simp [nlndd])
    have c08 : Chg p H (upd H7 dd (.dK (kvA (.int n) lt))) := fun b u e nb => fr8 _ _ (c07 _ _ e nb) (by simpa using ne_of_none e nddH)
    have j8 : JarAt (upd H7 dd (.dK (kvA (.int n) lt))) p (N + 4) := by
      obtain ⟨o, mm, c, hpp, r⟩ := j7
      exact ⟨o, mm, c, fr8 _ _ hpp (by simpa using ndp.symm), r⟩
    generalize upd H7 dd (.dK (kvA (.int n) lt)) = H8 at *
    clear fr8 c07 j7 hd7 hlt7 hln7 hn da1
    -- the places
    refine ⟨fun σ' H' => ∃ (lp : Addr) (pls : List Pl), σ' = [some (.ref p), some (.int m), some (.ref ln), some (.ref dd), none, none, none] ∧ Chg p H H' ∧ JarAt H' p (N + 13) ∧ H' dd = some (.dK (kvT n lt lp)) ∧ LstAt prO H' lt [] ∧ LstAt plO H' lp pls ∧ H lp = none ∧ lp ≠ p ∧ lp ≠ dd ∧ lp ≠ lt ∧ H' ln = some (.lst (ws.map V.str)) ∧
      pls.length ≤ 4 ∧ (pls.map (·.name)).Nodup ∧ (∀ x ∈ pls, x.name ∈ pool ∧ 1 ≤ x.room ∧ x.room ≤ 9) ∧ (pls.any fun x => x.inner) = true, ?_, ?_⟩
    · refine ⟨_, rfl, _, rfl, _, rfl, p, 4, _, rfl, ⟨by decide, by decide⟩, j8, by omega, fun b H9 hb c9 j9 => ⟨_, _, rfl, rfl, ?_⟩⟩
      obtain ⟨bm, hbm, b1, b4⟩ : ∃ bm : Nat, (1 : Int) + b = bm ∧ 1 ≤ bm ∧ bm ≤ 4 := ⟨(1 + b).toNat, by omega, by omega, by omega⟩
      have hln9 := c9 _ _ hln8 nlnp
      refine ⟨(bm : Int), (by show V.int (1 + b) = V.int (bm : Int); rw [hbm]), ln, _, rfl, SqL.of hln9, fun t nt => ?_⟩
      rw [cut_take (by rw [List.length_map]; omega), ← List.map_take]
      have e10 := same_upd (o := .lst ((ws.take bm).map V.str)) nt
      have ot := upd_same (H := H9) (a := t) (o := .lst ((ws.take bm).map V.str))
      have hd10 := e10 _ _ (c9 _ _ hd8 ndp)
      have hlt10 := e10 _ _ (c9 _ _ hlt8 nltp)
      have hln10 := e10 _ _ hln9
      have j10 := j9.same e10
      have c10 := (c08.trans c9).trans (Chg.of e10)
      generalize upd H9 t (.lst ((ws.take bm).map V.str)) = H10 at *
      clear e10 nt hln9 c9 j9 hd8 hlt8 hln8 c08 j8
      have ltk : (ws.take bm).length = bm := by rw [List.length_take]; omega
      refine ⟨p, t, _, ws.take bm, rfl, ot, ⟨by omega, by omega⟩, j10, by omega, fun H11 lp pls c11 nlp10 j11 hl11 nm11 rm11 fl11 => ?_⟩
      have hd11 := c11 _ _ hd10 ndp
      have hlt11 := c11 _ _ hlt10 nltp
      have hln11 := c11 _ _ hln10 nlnp
      have nlpp : lp ≠ p := fun z => by
        obtain ⟨_, _, _, hp, _⟩ := id j10
        rw [z, hp] at nlp10
        cases nlp10
      have nlpH : H lp = none := by
        cases e : H lp with
        | none => rfl
        | some u => rw [c10 _ _ e nlpp] at nlp10; cases nlp10
      have nlpdd : lp ≠ dd := fun z => by rw [z, hd10] at nlp10; cases nlp10
      have nlplt : lp ≠ lt := fun z => by rw [z, hlt10] at nlp10; cases nlp10
      refine ⟨_, rfl, dd, _, rfl, .inl ⟨_, .inr "places", hd11, rfl, show 2 < sizeLine by decide, rfl⟩, ?_⟩
      rw [putT]
      have fr12 : Fr [dd] H11 (upd H11 dd (.dK (kvT n lt lp))) := Fr.upd (by simp)
      have nodk : ∀ (r : Addr) (x : Pl), H11 r = some (plO x) → r ∉ [dd] := by
        intro r x e z
        rw [List.mem_singleton.mp z, hd11] at e
        cases e
      have ndt : (ws.take bm).Nodup := nd.sublist (List.take_sublist _ _)
      refine ⟨lp, pls, rfl, fun b u e nb => fr12 _ _ (c11 _ _ (c10 _ _ e nb) nb) (by simpa using ne_of_none e nddH), ?_, upd_same, LstAt.nil (fr12 _ _ hlt11 (by simp [nltdd])), hl11.keep fr12 (by simp [nlpdd]) nodk, nlpH, nlpp, nlpdd, nlplt, fr12 _ _ hln11 (by simp [nlndd]), ?_, by rw [nm11]; exact ndt, fun x hx => ⟨?_, rm11 x hx⟩, fl11⟩
      · obtain ⟨o, mm, c, hpp, r⟩ := j11.mono (M := N + 13) (by omega)
        exact ⟨o, mm, c, fr12 _ _ hpp (by simpa using ndp.symm), r⟩
      · rw [← List.length_map (f := (·.name)), nm11]
        omega
      · have : x.name ∈ ws.take bm := by rw [← nm11]; exact List.mem_map_of_mem hx
        exact inp _ (List.mem_of_mem_take this)
    clear hln8 hlt8 hd8 j8 c08
    rintro σ' H9 ⟨lp, pls, rfl, c9, j9, hd9, hlt9, hl9, nlpH, nlpp, nlpdd, nlplt, hln9, pl4, pnd, pok, pfl⟩
    -- the prices
    refine ⟨fun σ' H' => ∃ (qs : List (Nat × Nat)) (s4 s5 s6 : Option V), σ' = [some (.ref p), some (.int m), some (.ref ln), some (.ref dd), s4, s5, s6] ∧ Chg p H H' ∧ JarAt H' p (N + 13 + 1 + 9) ∧ H' dd = some (.dK (kvT n lt lp)) ∧ LstAt prO H' lt qs ∧ LstAt plO H' lp pls ∧ H' ln = some (.lst (ws.map V.str)) ∧ PrOk n qs, ?_, ?_⟩
    · refine ⟨_, rfl, (show 4 ≤ sizeLine by decide), fun q1 nq1 => ?_⟩
      have e10 := same_upd (o := .lst [V.int 0, .int 0, .int 1, .int 3]) nq1
      obtain ⟨_, _, _, hp9, _⟩ := id j9
      refine ⟨p, q1, _, _, rfl, upd_same, (fun z => by rw [z, hp9] at nq1; cases nq1), ⟨show 0 < 4 by decide, show 4 ≤ 1000 by decide⟩, j9.same e10, by omega, fun v H10 hv c10 j10 => ?_⟩
      obtain ⟨mm, rfl, mm3⟩ : ∃ mm : Nat, v = .int mm ∧ mm ≤ 3 := by
        simp only [List.mem_cons, List.not_mem_nil, or_false] at hv
        rcases hv with rfl | rfl | rfl | rfl
        · exact ⟨0, rfl, by decide⟩
        · exact ⟨0, rfl, by decide⟩
        · exact ⟨1, rfl, by decide⟩
        · exact ⟨3, rfl, by decide⟩
      have hd10 := c10 _ _ (e10 _ _ hd9) ndp
      have hln10 := c10 _ _ (e10 _ _ hln9) nlnp
      have hlt10 := (hlt9.same e10).jar (j9.same e10) nltp c10 prO_nl
      have hl10 := (hl9.same e10).jar (j9.same e10) nlpp c10 plO_nl
      have c010 := (c9.trans (Chg.of e10)).trans c10
      clear e10 nq1 hp9 hv
      refine ⟨(mm : Int), rfl, by omega, by omega, ?_⟩
      refine for_it (walk_range0 (n := (mm : Int).toNat)) (fun i σ H' => ∃ (qs : List (Nat × Nat)) (s4 s5 s6 : Option V), σ = [some (.ref p), some (.int m), some (.ref ln), some (.ref dd), s4, s5, s6] ∧ Chg p H H' ∧ JarAt H' p (N + 13 + 1 + 3 * i) ∧ H' dd = some (.dK (kvT n lt lp)) ∧ LstAt prO H' lt qs ∧ LstAt plO H' lp pls ∧ H' ln = some (.lst (ws.map V.str)) ∧ PrOk n qs ∧ qs.length ≤ i) ?_ (fun _ _ _ _ _ => trivial) ?_ ?_
      · exact ⟨[], _, _, _, rfl, c010, j10.mono (by omega), hd10, hlt10, hl10, hln10, ⟨by decide, by simp, fun x hx => absurd hx List.not_mem_nil⟩, by simp⟩
      · rintro i v σ G1 G2 hi ⟨qs, s4, s5, s6, rfl, k1, k2, k3, k4, k5, k6, k7, k8⟩ ⟨rfl, rfl⟩
        have hi' : i < 3 := by omega
        refine ⟨_, rfl, dd, _, rfl, .inl ⟨_, .inr "prices", .inl k3, rfl, rfl⟩, by decide, fun e ne => ?_⟩
        have e11 := same_upd (o := .lst []) ne
        have oe := upd_same (H := G2) (a := e) (o := .lst [])
        replace k1 := k1.trans (Chg.of e11)
        replace k2 := k2.same e11
        replace k3 := e11 _ _ k3
        replace k4 := k4.same e11
        replace k5 := k5.same e11
        replace k6 := e11 _ _ k6
        generalize upd G2 e (.lst []) = G3 at *
        clear e11
        refine ⟨.list (qs.map prD), .list [], dp_prices k4, .lst (SqL.of oe) .nil, shaped_list (fun e he => by obtain ⟨s, _, rfl⟩ := List.mem_map.mp he; exact prD_ok s), shaped_list (fun e he => absurd he List.not_mem_nil), _, rfl, ?_⟩
        rw [eqv_nil]
        obtain ⟨rq, hq1, hq2⟩ := id k4
        refine if_val (.int (aft qs)) ?_ (fun hc Q' q' => ?_) (fun hc Q' q' => ?_)
        · refine ⟨_, rfl, _, rfl, dd, _, rfl, .inl ⟨_, .inr "days", .inl k3, rfl, rfl⟩, _, _, rfl, rfl, _, rfl, ?_⟩
          have fin : ∀ (G : Hp) (qs' : List (Nat × Nat)) (s6' : Option V), Chg p H G → JarAt G p (N + 13 + 1 + 3 * i + 3) → G dd = some (.dK (kvT n lt lp)) → LstAt prO G lt qs' → LstAt plO G lp pls → G ln = some (.lst (ws.map V.str)) → PrOk n qs' → qs'.length ≤ i + 1 →
              ∃ (qs : List (Nat × Nat)) (s4 s5 s6 : Option V), [some (V.ref p), some (.int m), some (.ref ln), some (.ref dd), some (.int i), some (.int (aft qs)), s6'] = [some (.ref p), some (.int m), some (.ref ln), some (.ref dd), s4, s5, s6] ∧ True := fun G qs' s6' _ _ _ _ _ _ _ _ => ⟨qs, _, _, _, rfl, trivial⟩
          clear fin
          cases ca : decide ((aft qs : Int) < (n : Int)) with
          | false => exact iteF ⟨qs, _, _, _, rfl, k1, k2.mono (by omega), k3, k4, k5, k6, k7, by omega⟩
          | true =>
            have can : aft qs < n := by have := of_decide_eq_true ca; omega
            refine iteT ⟨_, rfl, _, rfl, _, rfl, dd, _, rfl, .inl ⟨_, .inr "days", .inl k3, rfl, rfl⟩, _, rfl, _, _, rfl, rfl, p, (n : Int) - (aft qs : Int), _, rfl, ⟨by omega, by omega⟩, k2, by omega, fun a H4 ha c4 j4 => ⟨_, _, rfl, rfl, ?_⟩⟩
            obtain ⟨dn, hdn, d1, d2⟩ : ∃ dn : Nat, (aft qs : Int) + a = dn ∧ aft qs ≤ dn ∧ dn < n := ⟨((aft qs : Int) + a).toNat, by omega, by omega, by omega⟩
            simp only [hdn]
            have k34 := c4 _ _ k3 ndp
            have k44 := k4.jar k2 nltp c4 prO_nl
            have k54 := k5.jar k2 nlpp c4 plO_nl
            have k64 := c4 _ _ k6 nlnp
            have k14 := k1.trans c4
            refine ⟨_, rfl, dd, _, rfl, .inl ⟨_, .inr "prices", .inl k34, rfl, rfl⟩, .inl ⟨rfl, _, SqL.of k44.choose_spec.1⟩, _, rfl, _, rfl, _, rfl, p, 100, _, rfl, ⟨by decide, by decide⟩, j4, by omega, fun b H5 hb c5 j5 => ⟨(show 5 ≤ sizeLine by decide), fun q2 nq2 => ?_⟩⟩
            have k35 := c5 _ _ k34 ndp
            have k45 := k44.jar j4 nltp c5 prO_nl
            have k55 := k54.jar j4 nlpp c5 plO_nl
            have k65 := c5 _ _ k64 nlnp
            have k15 := k14.trans c5
            have e6 := same_upd (o := .lst [V.int 0, .int 2, .int 3, .int 99, .int b]) nq2
            obtain ⟨_, _, _, hp5, _⟩ := id j5
            refine ⟨p, q2, _, _, rfl, upd_same, (fun z => by rw [z, hp5] at nq2; cases nq2), ⟨show 0 < 5 by decide, show 5 ≤ 1000 by decide⟩, j5.same e6, by omega, fun v H7 hv7 c7 j7 => ?_⟩
            obtain ⟨pn, rfl, pn99⟩ : ∃ pn : Nat, v = .int pn ∧ pn ≤ 99 := by
              simp only [List.mem_cons, List.not_mem_nil, or_false] at hv7
              rcases hv7 with rfl | rfl | rfl | rfl | rfl
              · exact ⟨0, rfl, by decide⟩
              · exact ⟨2, rfl, by decide⟩
              · exact ⟨3, rfl, by decide⟩
              · exact ⟨99, rfl, by decide⟩
              · exact ⟨b.toNat, by congr 1; omega, by omega⟩
            have j5' := j5.same e6
            have k37 := c7 _ _ (e6 _ _ k35) ndp
            have k47 := (k45.same e6).jar j5' nltp c7 prO_nl
            have k57 := (k55.same e6).jar j5' nlpp c7 plO_nl
            have k67 := c7 _ _ (e6 _ _ k65) nlnp
            have k17 := (k15.trans (Chg.of e6)).trans c7
            refine ⟨(show 2 ≤ sizeLine by decide), fun q3 nq3 => ?_⟩
            obtain ⟨rs7, hl7, hr7⟩ := id k47
            obtain ⟨g1, g2⟩ := LstAt.grow (x := ((dn, pn) : Nat × Nat)) hl7 hr7 nq3 prO_nl
            refine ⟨lt, rs7.map V.ref, _, rfl, rfl, (upd_ne (ne_of_none hl7 nq3)).trans hl7, ?_, qs ++ [(dn, pn)], _, _, _, rfl, ?_, ?_, ?_, g1, ?_, ?_, ?_, ?_⟩
            · rw [List.length_map, hr7.1]
              exact Nat.lt_of_le_of_lt k8 (Nat.lt_trans hi' (by decide))
            · exact fun b u e nb => g2 _ _ (k17 _ _ e nb) (by simpa using ne_of_none e nltH)
            · obtain ⟨o, mm, c, hpp, r⟩ := j7.mono (M := N + 13 + 1 + 3 * ((i + 1 : Nat) : Int)) (by omega)
              exact ⟨o, mm, c, g2 _ _ hpp (by simpa using nltp.symm), r⟩
            · exact g2 _ _ k37 (by simpa using nltdd.symm)
            · exact k57.keep g2 (by simpa using nlplt) (at_nl hl7 plO_nl)
            · refine g2 _ _ k67 ?_
              have : ln ≠ lt := fun z => by
                rw [z] at nln
                rw [z, hl7] at k67
                have e8 := HO.lst.inj (Option.some.inj k67)
                cases rs7 with
                | nil =>
                  cases ws with
                  | nil => simp at l8
                  | cons _ _ => cases e8
                | cons _ _ =>
                  cases ws with
                  | nil => simp at l8
                  | cons _ _ => cases e8
              simpa using this
            · obtain ⟨a1, a2, a3⟩ := k7
              refine ⟨by rw [List.length_append, List.length_singleton]; omega, ?_, fun x hx => ?_⟩
              · rw [List.pairwise_append]
                refine ⟨a2, by simp, fun x hx y hy => ?_⟩
                rw [List.mem_singleton.mp hy]
                show x.1 < dn
                rcases List.eq_nil_or_concat qs with hz | ⟨ys, y', hz⟩
                · rw [hz] at hx; cases hx
                · rw [List.concat_eq_append] at hz
                  have ev : aft qs = y'.1 + 1 := by rw [hz]; unfold aft; rw [List.getLast?_append]; rfl
                  rw [hz] at hx a2
                  rcases List.mem_append.mp hx with hx | hx
                  · rw [List.pairwise_append] at a2
                    have := a2.2.2 x hx y' (by simp)
                    omega
                  · rw [List.mem_singleton.mp hx]
                    omega
              · rcases List.mem_append.mp hx with hx | hx
                · exact a3 x hx
                · rw [List.mem_singleton.mp hx]
                  exact ⟨d2, pn99⟩
            · rw [List.length_append, List.length_singleton]
              omega
        · rcases List.eq_nil_or_concat qs with hz | ⟨ys, y, hz⟩
          · rw [hz] at hc
            cases hc
          · rw [List.concat_eq_append] at hz
            rcases List.eq_nil_or_concat rq with hz2 | ⟨rs, r, hz2⟩
            · have := hq2.1
              rw [hz2, hz] at this
              simp at this
            rw [List.concat_eq_append] at hz2
            subst hz hz2
            have le : rs.length = ys.length := by have := hq2.1; simpa using this
            have ho := hq2.2 rs.length r y (by simp) (by rw [le]; simp)
            have ev : aft (ys ++ [y]) = y.1 + 1 := by unfold aft; rw [List.getLast?_append]; rfl
            rw [ev] at q'
            refine ⟨_, rfl, dd, _, rfl, .inl ⟨_, .inr "prices", .inl k3, rfl, rfl⟩, _, rfl, lt, _, _, .ref r, rfl, rfl, SqL.of hq1, by rw [List.map_append]; exact atI_last, r, _, _, _, rfl, rfl, SqT.of ho, rfl, _, _, rfl, rfl, ?_⟩
            rw [Int.natCast_add] at q'
            exact q'
        · cases qs with
          | nil => exact q'
          | cons _ _ => cases hc
      · rintro σ G1 ⟨qs, s4, s5, s6, rfl, k1, k2, k3, k4, k5, k6, k7, k8⟩
        exact ⟨qs, _, _, _, rfl, k1, k2.mono (by omega), k3, k4, k5, k6, k7⟩
    rintro σ' H10 ⟨qs, s4, s5, s6, rfl, c10, j10, hd10, hlt10, hl10, hln10, pq⟩
    clear hd9 hlt9 hl9 hln9 c9 j9
    refine ⟨_, rfl, _, rfl, _, rfl, _, rfl, _, rfl, ln, _, rfl, SqL.of hln10, fun t nt => ?_⟩
    rw [show cutV (ws.map V.str) (some 3) (some 6) = ((ws.drop 3).take 3).map V.str by
      unfold cutV
      rw [List.length_map, l8, List.map_take, List.map_drop]
      rfl]
    have e11 := same_upd (o := .lst (((ws.drop 3).take 3).map V.str)) nt
    have ot := upd_same (H := H10) (a := t) (o := .lst (((ws.drop 3).take 3).map V.str))
    have hd11 := e11 _ _ hd10
    have hlt11 := hlt10.same e11
    have hl11 := hl10.same e11
    have j11 := j10.same e11
    have c11 := c10.trans (Chg.of e11)
    generalize upd H10 t (.lst (((ws.drop 3).take 3).map V.str)) = H11 at *
    clear e11 nt hd10 hlt10 hl10 j10 c10 hln10
    have l3 : ((ws.drop 3).take 3).length = 3 := by rw [List.length_take, List.length_drop, l8]; rfl
    refine ⟨p, dd, t, lt, lp, n, _, pls, _, rfl, ⟨n1, n14⟩, j11, by omega, hd11, hl11, nlpp, pl4, pnd, ot, ⟨by rw [l3]; decide, by rw [l3]; decide⟩, fun H12 ls ss c12 nls j12 hls ok => ?_⟩
    have hd12 := c12 _ _ hd11 ndp
    have hlt12 := hlt11.jar j11 nltp c12 prO_nl
    have hl12 := hl11.jar j11 nlpp c12 plO_nl
    have nlsdd : ls ≠ dd := fun z => by rw [z, hd11] at nls; cases nls
    refine ⟨_, rfl, dd, _, rfl, .inl ⟨_, .inr "stays", hd12, rfl, show 3 < sizeLine by decide, rfl⟩, ?_⟩
    rw [putF4]
    have fr13 : Fr [dd] H12 (upd H12 dd (.dK (kvF n lt lp ls))) := Fr.upd (by simp)
    have nodk : ∀ {α : Type} {f : α → HO} (hf : ∀ x kvs, f x ≠ .dK kvs) (r : Addr) (x : α), H12 r = some (f x) → r ∉ [dd] := by
      intro α f hf r x e z
      rw [List.mem_singleton.mp z, hd12] at e
      exact hf _ _ (Option.some.inj e).symm
    refine ⟨_, rfl, q _ dd ⟨n, pls, qs, ss⟩ (fun b u e nb => fr13 _ _ (c12 _ _ (c11 _ _ e nb) nb) (by simpa using ne_of_none e nddH)) nddH ?_ ⟨lt, lp, ls, upd_same, hl12.keep fr13 (by simp [nlpdd]) (nodk fun x _ z => by unfold plO at z; cases z), hls.keep fr13 (by simp [nlsdd]) (nodk fun x _ z => by unfold stO at z; cases z), hlt12.keep fr13 (by simp [nltdd]) (nodk fun x _ z => by unfold prO at z; cases z)⟩ ⟨⟨n1, n14⟩, pl4, pnd, pok, pfl, pq, _, fun x hx => inp x (List.mem_of_mem_drop (List.mem_of_mem_take hx)), ok⟩⟩
    obtain ⟨o, mm, c, hpp, r⟩ := j12.mono (M := N + 100) (by omega)
    exact ⟨o, mm, c, fr13 _ _ hpp (by simpa using ndp.symm), r⟩
end
end Hs
/-! the law: the text of a drawn town -/
namespace Hs
open PySem PySem.Spec PyProof.Rows L2 Am
theorem ixT {X : Cx} {K : PySem.W.Frag} (h : X.K = K := by rfl) : IxR X (rIxT K) := h ▸ ix_tup
def tJ (K : PySem.W.Frag) (to te : TE) : TE := tM1 (fun x xs H Q => ∃ (a : Str) (p : Addr) (ys : List Str), x = V.str a ∧ xs = [V.ref p] ∧ (SqL K H p (ys.map V.str) ∨ SqT K H p (ys.map V.str)) ∧ (ys.map fun x => x.length).sum + ys.length * a.length ≤ 16777216 ∧ Q (V.str (Txt.join a ys)) H) to te
theorem pe_joinK {X : Cx} {K : PySem.W.Frag} {o e : Expr} {to te : TE} {apos pos : Pos} (ho : PE X o to) (he : PE X e te) (h1 : starEach [e] X.env = [(false, eval e X.env)] := by rfl) (h2 : attributeBase o "join" X.env (eval o X.env) = eval o X.env := by rfl) (h3 : (apos.endLine == pos.line) = true := by rfl) (hK : X.K = K := by rfl) :
    PE X ((o.Attribute "join" apos).Call [e] [] pos) (tJ K to te) := by
  subst hK
  exact pe_join ho he h1 h2 h3
def spHouseText : Sp := fun vs H Q _ => ∃ (d : Addr) (L : Lore), vs = [.ref d] ∧ TownAt H d L ∧ Valid L ∧ ∀ H', Same H H' → Q (.str (pageOf L)) H'
section
variable {P : Program} {w : World} {K : PySem.W.Frag} {mg : Str → Option Value} {base : Heap}
theorem scHText_ : FnScope ["_law_town_here", "_law_lines", "_law_name", "_law_room", "_law_is_flat", "_law_day", "_law_number", "_law_row"] ["_law_town_here"] (defScope sL_house_text) := ⟨rfl, rfl, rfl, by decide +kernel, rfl, by decide +kernel, by decide +kernel⟩
theorem ok_houseText {f : Addr} {fd : FuncData} (F : Fun K "_law_house_text" "_law_house_text" sL_house_text f fd) (nst : mg "str" = none) : FnOk P w K mg base CX0 1 f fd ["_law_town_here"] spHouseText := by
  refine F.ok scHText_ (fun vs H Q E h => ?_) (fun cdv A outer s H vs Q E hr h => ?_)
  · obtain ⟨d, L, rfl, _⟩ := h
    rfl
  · obtain ⟨d, L, rfl, hd, va, q⟩ := h
    have hu := hu_of hr
    have fit := va.fit
    have b_str : bootBuiltins "str" = some (.type "str") := by decide +kernel
    refine ⟨_, (pss_cons (ps_set (i := 1) scHText_.nd rfl (.inl rfl) (pe_lst (pa_cons (pe_op op_add_str pe_str (pe_callTy call_str_int (by rfl) nst b_str (pa_cons (pe_dget hu (pv 0) pe_str (fun _ _ => rfl)) pa_nil))) pa_nil)))
      (pss_cons (ps_for (g := (gTup K 3 (gCons (gName 2) (gCons (gName 3) (gCons (gName 4) gNil))))) PassesOwn.never rfl (pi_list (pe_dget hu (pv 0) pe_str (fun _ _ => rfl))) (pg_tup rfl (pgs_cons (pg_name (i := 2) scHText_.nd rfl (.inl rfl)) (pgs_cons (pg_name (i := 3) scHText_.nd rfl (.inl rfl)) (pgs_cons (pg_name (i := 4) scHText_.nd rfl (.inl rfl)) pgs_nil)))) (pss_one (ps_expr (pe_bm PySem.F.plainAttrs_list PySem.F.slot_list_append PySem.F.type_list_append mt_append (pv 1) (pa_cons (pe_join pe_str (pe_lst (pa_cons (pe_ifExp (pt_val (pv 4)) pe_str pe_str) (pa_cons (pv 2) (pa_cons (pe_callTy call_str_int (by rfl) nst b_str (pa_cons (pv 3) pa_nil)) pa_nil))))) pa_nil)))))
      (pss_cons (ps_expr (pe_bm PySem.F.plainAttrs_list PySem.F.slot_list_extend PySem.F.type_list_extend mt_extend (pv 1) (pa_cons (pe_lc (own := [("_law_day", 5), ("_law_number", 6)]) (g := gTup K 2 (gCons (gName 5) (gCons (gName 6) gNil))) (tt := tYes) rfl scHText_.nd (pi_list (pe_dget hu (pv 0) pe_str (fun _ _ => rfl)))
          (blkOk_by (N := ["_law_town_here", "_law_lines", "_law_name", "_law_room", "_law_is_flat", "_law_day", "_law_number", "_law_row"]) (sc := defScope sL_house_text) (by decide +kernel)) (fun _ _ _ _ _ => (pg_tup rfl (pgs_cons (pg_name (i := 5) scHText_.nd rfl (.inl rfl)) (pgs_cons (pg_name (i := 6) scHText_.nd rfl (.inl rfl)) pgs_nil)))) (fun _ _ _ _ _ => pts_nil) (fun _ _ _ _ _ => (pe_op op_add_str (pe_op op_add_str (pe_op op_add_str pe_str (pe_callTy call_str_int (by rfl) nst b_str (pa_cons (pv 5) pa_nil))) pe_str) (pe_callTy call_str_int (by rfl) nst b_str (pa_cons (pv 6) pa_nil))))) pa_nil)))
      (pss_cons (ps_expr (pe_bm PySem.F.plainAttrs_list PySem.F.slot_list_extend PySem.F.type_list_extend mt_extend (pv 1) (pa_cons (pe_lc (own := [("_law_row", 7)]) (g := gName 7) (tt := tYes) rfl scHText_.nd (pi_list (pe_dget hu (pv 0) pe_str (fun _ _ => rfl)))
          (blkOk_by (N := ["_law_town_here", "_law_lines", "_law_name", "_law_room", "_law_is_flat", "_law_day", "_law_number", "_law_row"]) (sc := defScope sL_house_text) (by decide +kernel)) (fun _ _ _ _ _ => (pg_name (i := 7) scHText_.nd rfl (.inl rfl))) (fun _ _ _ _ _ => pts_nil) (fun _ _ _ _ _ => (pe_joinK (K := K) pe_str (pe_lst (pa_cons pe_str (pa_cons (pe_ix (r := rIxT K) ixT (pv 7) pe_int (fun _ _ => rfl)) (pa_cons (pe_ix (r := rIxT K) ixT (pv 7) pe_int (fun _ _ => rfl)) (pa_cons (pe_callTy call_str_int (by rfl) nst b_str (pa_cons (pe_ix (r := rIxT K) ixT (pv 7) pe_int (fun _ _ => rfl)) pa_nil)) (pa_cons (pe_callTy call_str_int (by rfl) nst b_str (pa_cons (pe_ix (r := rIxT K) ixT (pv 7) pe_int (fun _ _ => rfl)) pa_nil)) pa_nil))))))))) pa_nil)))
      (pss_one (ps_ret (pe_join pe_str (pv 1)))))))), ?_⟩
    obtain ⟨lt, lp, ls, hdd, hlp, hls, hlt⟩ := hd
    obtain ⟨rp, hp, hrp⟩ := hlp
    obtain ⟨rs, hs', hrs⟩ := hls
    obtain ⟨rt, ht, hrt⟩ := hlt
    obtain ⟨s1, s2, s3⟩ := fit.sm
    refine ⟨_, rfl, d, _, rfl, .inl ⟨_, .inr "days", .inl hdd, rfl, rfl⟩, (L.days : Int), rfl, lg (by have := fit.d; omega), _, _, rfl, rfl, ?_, (show 1 ≤ sizeLine by decide), fun lf nlf => ?_⟩
    · have := si_len (n := L.days) (by have := fit.d; omega)
      exact big (Nat.le_trans (Nat.add_le_add_left this 5) (by decide))
    have e1 := same_upd (o := .lst [V.str (dayL L.days)]) nlf
    refine ⟨_, rfl, d, _, rfl, .inl ⟨_, .inr "places", .inl (e1 _ _ hdd), rfl, rfl⟩, lp, rfl, ⟨_, SqL.of (e1 _ _ hp)⟩, ?_⟩
    refine for_it (walk_list (xs := rp.map V.ref)) (fun i σ H' => ∃ (s2 s3 s4 : Option V), σ = [some (.ref d), some (.ref lf), s2, s3, s4, none, none, none] ∧ Same H H' ∧ H' lf = some (.lst ((dayL L.days :: (L.places.take i).map plL).map V.str))) ?_ ?_ ?_ ?_
    · exact ⟨_, _, _, rfl, e1, upd_same⟩
    · rintro i σ H' _ ⟨_, _, _, _, es, _⟩
      exact SqL.of (es _ _ hp)
    · rintro i v σ H1 H2 hi ⟨s2, s3, s4, rfl, es, hl⟩ ⟨rfl, hv⟩
      obtain ⟨q1, pp, rfl, _, hpp, ho⟩ := hrp.at hv
      obtain ⟨f1, f2⟩ := fit.pl pp (List.mem_of_getElem? hpp)
      have sl := si_len (n := pp.room) (by omega)
      refine ⟨q1, _, rfl, SqT.of (es _ _ ho), rfl, _, _, rfl, _, _, rfl, _, _, rfl, rfl, ?_⟩
      refine ⟨_, rfl, .inl ⟨rfl, _, SqL.of hl⟩, ⟨_, rfl⟩, _, rfl, pp.inner, rfl, if_val (.str (if pp.inner then ("flat" : Str) else "bare")) ?_ (fun e Q' h => by rw [e] at h; exact h) (fun e Q' h => by rw [e] at h; exact h)⟩
      have l5 : (if pp.inner then ("flat" : Str) else ("bare" : Str)).length = 4 := by cases pp.inner <;> rfl
      refine ⟨_, rfl, _, rfl, (pp.room : Int), rfl, lg (by omega), (show 3 ≤ sizeLine by decide), fun q2 nq2 => ?_⟩
      have e5 := same_upd (o := .lst [V.str (if pp.inner then ("flat" : Str) else "bare"), .str pp.name, .str (si pp.room)]) nq2
      refine ⟨_, q2, [(if pp.inner then ("flat" : Str) else "bare"), pp.name, si pp.room], rfl, rfl, .inl (SqL.of upd_same), ?_, ?_⟩
      · show ((if pp.inner then ("flat" : Str) else ("bare" : Str)).length + (pp.name.length + ((si pp.room).length + 0))) + 3 * 1 ≤ 16777216
        omega
      rw [← plL_join]
      refine ⟨lf, _, _, rfl, rfl, e5 _ _ hl, ?_, ?_⟩
      · rw [List.length_map, List.length_cons, List.length_map, List.length_take]
        exact Nat.lt_of_le_of_lt (show _ ≤ 5 by omega) (by decide)
      refine ⟨_, _, _, rfl, fun b u e => ?_, ?_⟩
      · rw [upd_ne (ne_of_none e nlf)]
        exact e5 _ _ (es _ _ e)
      · rw [upd_same, List.take_add_one, hpp]
        rw [show (some pp).toList = [pp] from rfl, List.map_append, ← List.cons_append, List.map_append]
        rfl
    · rintro σ H1 ⟨s2, s3, s4, rfl, es, hl⟩
      rw [show L.places.take (rp.map V.ref).length = L.places from by rw [List.length_map, hrp.1]; exact List.take_length] at hl
      generalize hbase : (dayL L.days :: L.places.map plL) = pre at *
      have prl : pre.length ≤ 5 := by rw [← hbase, List.length_cons, List.length_map]; omega
      refine ⟨_, rfl, .inl ⟨rfl, _, SqL.of hl⟩, _, rfl, d, _, rfl, .inl ⟨_, .inr "prices", .inl (es _ _ hdd), rfl, rfl⟩, lt, rfl, ⟨_, SqL.of (es _ _ ht)⟩, fun D nD => ?_⟩
      refine lc_it (walk_list (xs := rt.map V.ref)) (Pv := Tk H1 D (L.prices.map fun x => V.str (prL x))) (Tk.start nD) (fun i H' _ hh => SqL.of (hh.1 _ _ (es _ _ ht))) ?_ ?_
      · rintro i v G1 G2 hi hk ⟨rfl, hv⟩
        obtain ⟨q1, pp, rfl, _, hpp, ho⟩ := (hrt.same es).at hv
        obtain ⟨f1, f2⟩ := fit.pr pp (List.mem_of_getElem? hpp)
        have sl1 := si_len (n := pp.1) (by omega)
        have sl2 := si_len (n := pp.2) (by omega)
        refine ⟨q1, _, rfl, SqT.of (hk.1 _ _ ho), rfl, _, _, rfl, _, _, rfl, rfl, rfl, ?_⟩
        unfold tYes
        refine iteT ⟨_, rfl, (pp.1 : Int), rfl, lg (by omega), _, _, rfl, rfl, ?_, _, _, rfl, rfl, ?_, _, rfl, (pp.2 : Int), rfl, lg (by omega), _, _, rfl, rfl, ?_, ?_⟩
        · exact big (Nat.le_trans (Nat.add_le_add (show ("price " : Str).length ≤ 6 by decide) sl1) (by decide))
        · rw [strLen_append]
          exact big (Nat.le_trans (Nat.add_le_add (Nat.add_le_add (show ("price " : Str).length ≤ 6 by decide) sl1) (show (" " : Str).length ≤ 1 by decide)) (by decide))
        · rw [strLen_append, strLen_append]
          exact big (Nat.le_trans (Nat.add_le_add (Nat.add_le_add (Nat.add_le_add (show ("price " : Str).length ≤ 6 by decide) sl1) (show (" " : Str).length ≤ 1 by decide)) sl2) (by decide))
        · exact hk.step nD (Same.refl _) (by rw [List.getElem?_map, hpp]; rfl) (by rw [List.length_map]; omega)
      · rintro G1 hk
        have hD := hk.done (by simp [hrt.1])
        refine ⟨lf, D, _, _, rfl, rfl, hk.1 _ _ hl, hD, ?_, ?_⟩
        · rw [List.length_map, List.length_map]
          exact big (by omega)
        have e3 : Same H (upd G1 lf (.lst (pre.map V.str ++ L.prices.map fun x => V.str (prL x)))) := fun b u e => by
          rw [upd_ne (ne_of_none e nlf)]
          exact hk.1 _ _ (es _ _ e)
        have hl3 : (upd G1 lf (.lst (pre.map V.str ++ L.prices.map fun x => V.str (prL x)))) lf = some (.lst ((pre ++ L.prices.map prL).map V.str)) := by
          rw [upd_same, List.map_append, List.map_map]
          rfl
        generalize upd G1 lf (.lst (pre.map V.str ++ L.prices.map fun x => V.str (prL x))) = G3 at *
        refine ⟨_, rfl, .inl ⟨rfl, _, SqL.of hl3⟩, _, rfl, d, _, rfl, .inl ⟨_, .inr "stays", .inl (e3 _ _ hdd), rfl, rfl⟩, ls, rfl, ⟨_, SqL.of (e3 _ _ hs')⟩, fun D2 nD2 => ?_⟩
        refine lc_it (walk_list (xs := rs.map V.ref)) (Pv := Tk G3 D2 (L.stays.map fun x => V.str (stL x))) (Tk.start nD2) (fun i H' _ hh => SqL.of (hh.1 _ _ (e3 _ _ hs'))) ?_ ?_
        · rintro i v G4 G5 hi hk4 ⟨rfl, hv⟩
          obtain ⟨q1, pp, rfl, _, hpp, ho⟩ := (hrs.same e3).at hv
          obtain ⟨f1, f2, f3, f4⟩ := fit.st pp (List.mem_of_getElem? hpp)
          have sl1 := si_len (n := pp.a) (by omega)
          have sl2 := si_len (n := pp.b) (by omega)
          have ho4 := hk4.1 _ _ ho
          refine ⟨rfl, ?_⟩
          unfold tYes
          refine iteT ⟨⟨_, rfl⟩, _, rfl, q1, _, _, _, rfl, rfl, SqT.of ho4, rfl, _, rfl, q1, _, _, _, rfl, rfl, SqT.of ho4, rfl, _, rfl, q1, _, _, _, rfl, rfl, SqT.of ho4, rfl, (pp.a : Int), rfl, lg (by omega), _, rfl, q1, _, _, _, rfl, rfl, SqT.of ho4, rfl, (pp.b : Int), rfl, lg (by omega), (show 5 ≤ sizeLine by decide), fun q2 nq2 => ?_⟩
          refine ⟨_, q2, [("lives" : Str), pp.who, pp.pl, si pp.a, si pp.b], rfl, rfl, .inl (SqL.of upd_same), ?_, ?_⟩
          · show ((5 : Nat) + (pp.who.length + (pp.pl.length + ((si pp.a).length + ((si pp.b).length + 0))))) + 5 * 1 ≤ 16777216
            omega
          exact hk4.step nD2 (same_upd nq2) (by rw [List.getElem?_map, hpp]; rfl) (by rw [List.length_map]; omega)
        · rintro G4 hk4
          have hD2 := hk4.done (by simp [hrs.1])
          refine ⟨lf, D2, _, _, rfl, rfl, hk4.1 _ _ hl3, hD2, ?_, ?_⟩
          · rw [List.length_map, List.length_map, List.length_append, List.length_map]
            exact big (by omega)
          have e4 : Same H (upd G4 lf (.lst ((pre ++ L.prices.map prL).map V.str ++ L.stays.map fun x => V.str (stL x)))) := fun b u e => by
            rw [upd_ne (ne_of_none e nlf)]
            exact hk4.1 _ _ (e3 _ _ e)
          have hl4 : (upd G4 lf (.lst ((pre ++ L.prices.map prL).map V.str ++ L.stays.map fun x => V.str (stL x)))) lf = some (.lst ((linesOf L).map V.str)) := by
            rw [upd_same, ← hbase]
            unfold linesOf
            simp only [List.map_append, List.map_map, List.map_cons, List.append_assoc, List.cons_append]
            rfl
          generalize upd G4 lf (.lst ((pre ++ L.prices.map prL).map V.str ++ L.stays.map fun x => V.str (stL x))) = G6 at *
          refine ⟨⟨_, rfl⟩, _, rfl, _, lf, linesOf L, rfl, rfl, .inl (SqL.of hl4), ?_, q G6 e4⟩
          have b1 : ((linesOf L).map (·.length)).sum ≤ (linesOf L).length * 40 := sum_le _ _ _ fun l hl => lines_len fit l hl
          have b2 : (linesOf L).length ≤ 16 := va.many
          have b3 : (linesOf L).length * ("\n" : Str).length ≤ 16 * 1 := Nat.mul_le_mul b2 (by decide)
          have b4 : (linesOf L).length * 40 ≤ 16 * 40 := Nat.mul_le_mul b2 (by decide)
          omega
end
end Hs
/-! the parts of a text are no longer than it is -/
namespace SL
open PySem PySem.StrLaws PySem.Builtin PySem.Builtin.Str
theorem cut_small (c : Nat) : ∀ l : List Nat, (cutAt c l).length ≤ l.length + 1 ∧ ∀ p ∈ cutAt c l, p.length ≤ l.length ∧ c ∉ p ∧ ∀ x ∈ p, x ∈ l
  | [] => by
    refine ⟨by simp [cutAt], fun p hp => ?_⟩
    simp [cutAt] at hp
    subst hp
    exact ⟨by simp, by simp, fun _ h => by cases h⟩
  | y :: ys => by
    obtain ⟨a, b⟩ := cut_small c ys
    unfold cutAt
    by_cases e : y = c
    · rw [if_pos e]
      refine ⟨by simp; exact a, fun p hp => ?_⟩
      rcases List.mem_cons.mp hp with rfl | hp
      · exact ⟨by simp, by simp, fun _ h => by cases h⟩
      · obtain ⟨h1, h2, h3⟩ := b p hp
        exact ⟨by simp; omega, h2, fun x hx => List.mem_cons_of_mem _ (h3 x hx)⟩
    · rw [if_neg e]
      cases hc : cutAt c ys with
      | nil => exact absurd hc (cut_ne c ys)
      | cons w ws =>
        rw [hc] at a b
        refine ⟨by simp at a ⊢; omega, fun p hp => ?_⟩
        rcases List.mem_cons.mp hp with rfl | hp
        · obtain ⟨h1, h2, h3⟩ := b w (by simp)
          refine ⟨by simp; exact h1, fun z => ?_, fun x hx => ?_⟩
          · rcases List.mem_cons.mp z with z | z
            · exact e z.symm
            · exact h2 z
          · rcases List.mem_cons.mp hx with rfl | hx
            · exact List.mem_cons_self ..
            · exact List.mem_cons_of_mem _ (h3 x hx)
        · obtain ⟨h1, h2, h3⟩ := b p (List.mem_cons_of_mem _ hp)
          exact ⟨by simp; omega, h2, fun x hx => List.mem_cons_of_mem _ (h3 x hx)⟩
theorem split_small {x : Str} {c : Nat} (hc : c < 256) : (Txt.split x ⟨#[c]⟩).length ≤ x.length + 1 ∧ ∀ p ∈ Txt.split x ⟨#[c]⟩, p.length ≤ x.length ∧ c ∉ p.cps.toList ∧ ∀ y ∈ p.cps.toList, y ∈ x.cps.toList := by
  rw [split_sign x c (fun _ => kind_ge hc x)]
  obtain ⟨a, b⟩ := cut_small c x.cps.toList
  rw [List.length_map]
  refine ⟨by rw [← len_toList x]; exact a, fun p hp => ?_⟩
  obtain ⟨l, hl, rfl⟩ := List.mem_map.mp hp
  obtain ⟨h1, h2, h3⟩ := b l hl
  refine ⟨?_, by rw [toList_ofL]; exact h2, by rw [toList_ofL]; exact h3⟩
  rw [← len_toList, toList_ofL, ← len_toList x]
  exact h1
theorem sp_32 : (" " : Str) = ⟨#[32]⟩ := by decide +kernel
theorem nl_10 : ("\n" : Str) = ⟨#[10]⟩ := by decide +kernel
theorem split_sp {x : Str} : ∀ p ∈ Txt.split x " ", p.length ≤ x.length := fun p hp => by
  rw [sp_32] at hp
  exact ((split_small (by decide)).2 p hp).1
theorem split_nl {x : Str} : (Txt.split x "\n").length ≤ x.length + 1 ∧ ∀ p ∈ Txt.split x "\n", p.length ≤ x.length := by
  rw [nl_10]
  exact ⟨(split_small (by decide)).1, fun p hp => ((split_small (by decide)).2 p hp).1⟩
end SL
/-! what a line of a rule tells -/
namespace Ru
open PySem PySem.Spec PyProof.Rows L2 Am
theorem str_eq (x y : Str) : decide (V.str x = V.str y) = decide (x = y) := decide_eq_decide.mpr ⟨V.str.inj, fun h => by rw [h]⟩
theorem int_eq (x y : Int) : decide (V.int x = V.int y) = decide (x = y) := decide_eq_decide.mpr ⟨V.int.inj, fun h => by rw [h]⟩
theorem inV_strs (x : Str) : ∀ ys : List Str, inV (V.str x) (ys.map V.str) = decide (x ∈ ys)
  | [] => by simp [inV]
  | y :: ys => by
    have ih := inV_strs x ys
    have e : eqV (V.str y) (V.str x) = decide (x = y) := by
      show (y == x) = _
      rw [Bool.eq_iff_iff, beq_iff_eq, decide_eq_true_eq]
      exact eq_comm
    show (eqV (V.str y) (V.str x) || inV (V.str x) (ys.map V.str)) = _
    rw [e, ih, Bool.eq_iff_iff, Bool.or_eq_true, decide_eq_true_eq, decide_eq_true_eq, decide_eq_true_eq, List.mem_cons]
inductive Way
  | int (n : Nat)
  | str (s : Str)
def Way.v : Way → V
  | .int n => .int n
  | .str s => .str s
def wv : Option Way → V
  | none => .non
  | some y => y.v
def wEvery (x : Str) : Option Way := if 1 ≤ Mt.num x.cps.toList ∧ Mt.num x.cps.toList ≤ 14 then some (.int (Mt.num x.cps.toList).toNat) else none
def wBehind (x : Str) : Option Way := if x = "before" ∨ x = "nothing" then some (.str x) else if 0 ≤ Mt.num x.cps.toList ∧ Mt.num x.cps.toList ≤ 9 then some (.int (Mt.num x.cps.toList).toNat) else none
def waysFor (word : Str) : List Str := if word = "late" then ["now", "back"] else if word = "block" then ["days", "last"] else ["heads", "places", "house"]
def wayX (word x : Str) : Option Way := if word = "every" then wEvery x else if word = "behind" then wBehind x else if x ∈ waysFor word then some (.str x) else none
def wayOf (line word : Str) : Option Way := match Txt.split line " " with
  | [w, x] => if w = word then wayX word x else none
  | _ => none
def fiveW : List Str := ["every", "behind", "late", "block", "rest"]
structure Rc (K : PySem.W.Frag) (w : World) (mg : Str → Option Value) : Prop where
  bh : ∃ B, mg "BEHIND" = some (.ref B) ∧ ∀ H, SqT K H B [V.str "before", V.str "nothing"]
  wy : ∃ W, mg "WAYS" = some (.ref W) ∧ ∀ z : Str, z ∈ ([("late" : Str), "block", "rest"] : List Str) → ∃ T, KDct K w W z (.ref T) ∧ ∀ H, SqT K H T ((waysFor z).map V.str)
theorem kstr {K : PySem.W.Frag} : PySem.W.kitOne K (.type "str") (.type "str") = some true := kit_ty (show kitB "str" "str" = some true by decide +kernel)
def spWayOf : Sp := fun vs H Q _ => ∃ l z : Str, vs = [.str l, .str z] ∧ l.length ≤ 600 ∧ z ∈ fiveW ∧ ∀ H', Same H H' → Q (wv (wayOf l z)) H'
section
variable {P : Program} {w : World} {K : PySem.W.Frag} {mg : Str → Option Value} {base : Heap}
theorem scWayOf : FnScope ["line", "word", "words", "way"] ["line", "word"] (defScope sF_way_of) := ⟨rfl, rfl, rfl, by decide +kernel, rfl, by decide +kernel, by decide +kernel⟩
theorem ok_wayOf {f : Addr} {fd : FuncData} (F : Fun K "way_of" "way_of" sF_way_of f fd) (R : Rc K w mg) (T : Nm mg) (GD : GotF P w K mg base "decimal" 1 ["word"] spDec) : FnOk P w K mg base CX0 2 f fd ["line", "word"] spWayOf := by
  obtain ⟨⟨B, mB, hB⟩, W, mW, hW⟩ := R
  obtain ⟨fD, fdD, GD, bD, mD, kD⟩ := GD
  refine F.ok scWayOf (fun vs H Q E h => ?_) (fun cdv A outer s H vs Q E hr h => ?_)
  · obtain ⟨l, z, rfl, _⟩ := h
    rfl
  · obtain ⟨l, z, rfl, hl, hz, q⟩ := h
    refine ⟨_, pss_cons (ps_set (i := 2) scWayOf.nd rfl (.inl rfl) (pe_split (pv 0) pe_str))
      (pss_cons (ps_if (PW.pt (pw_or (pt_cmpR op_ne (pe_callB call_len_seq (by rfl) T.len PySem.boot_len (pa_cons (pv 2) pa_nil)) pe_int (nomark _)) (pw_or1 (pt_cmpR op_ne (pe_ix ix_list (pv 2) pe_int (fun _ _ => rfl)) (pv 1) (nomark _))))) (pss_one (ps_ret pe_non)) pss_nil)
      (pss_cons (ps_set (i := 3) scWayOf.nd rfl (.inl rfl) (pe_ix ix_list (pv 2) pe_int (fun _ _ => rfl)))
      (pss_cons (ps_if (pt_cmpR op_eq (pv 1) pe_str (nomark _)) (pss_one (ps_ret (pe_ifExp (pt_chain op_le op_le pe_int (pe_call GD hr (by rfl) mD kD bD .nil pass0 (pa_cons (pv 3) pa_nil)) pe_int) (pe_call GD hr (by rfl) mD kD bD .nil pass0 (pa_cons (pv 3) pa_nil)) pe_non))) pss_nil)
      (pss_cons (ps_if (pt_cmpR op_eq (pv 1) pe_str (nomark _))
        (pss_cons (ps_if (pt_cmpR op_in_seq (pv 3) (pe_glob (v := .ref B) (by rfl) mB rfl) (by rfl)) (pss_one (ps_ret (pv 3))) pss_nil)
        (pss_one (ps_ret (pe_ifExp (pt_chain op_le op_le pe_int (pe_call GD hr (by rfl) mD kD bD .nil pass0 (pa_cons (pv 3) pa_nil)) pe_int) (pe_call GD hr (by rfl) mD kD bD .nil pass0 (pa_cons (pv 3) pa_nil)) pe_non)))) pss_nil)
      (pss_one (ps_ret (pe_ifExp (pt_cmpR op_in_seq (pv 3) (pe_ix ix_kdict (pe_glob (v := .ref W) (by rfl) mW rfl) (pv 1) (fun _ _ => rfl)) (by rfl)) (pv 3) pe_non))))))), ?_⟩
    refine ⟨_, rfl, ⟨_, rfl⟩, _, _, rfl, rfl, by decide +kernel, Nat.le_trans (show l.length + 2 ≤ 4002 by omega) (by decide), fun D nD => ?_⟩
    have e1 := same_upd (o := .lst ((Txt.split l " ").map V.str)) nD
    have pl := SL.split_sp (x := l)
    have qq := q _ e1
    unfold wayOf at qq
    generalize hs : Txt.split l " " = ps at e1 pl qq ⊢
    refine ⟨_, rfl, D, _, rfl, .inl (SqL.of upd_same), ?_⟩
    have len2 : ps.length ≠ 2 → Q (wv none) (upd H D (.lst (ps.map V.str))) := fun h => by
      match ps, h, qq with
      | [], _, qq => exact qq
      | [_], _, qq => exact qq
      | [_, _], h, _ => exact absurd rfl h
      | _ :: _ :: _ :: _, _, qq => exact qq
    refine ⟨rfl, _, rfl, ?_⟩
    rw [int_eq, List.length_map]
    by_cases c2 : ps.length = 2
    · match ps, c2 with
      | [x, y], _ =>
        clear len2
        refine iteF ?_
        have ly := pl y (by simp)
        refine ⟨_, rfl, D, _, _, _, rfl, rfl, SqL.of upd_same, rfl, _, rfl, rfl, _, rfl, ?_⟩
        rw [str_eq]
        by_cases hxz : x = z
        · subst hxz
          rw [decide_eq_true rfl]
          refine iteF ⟨_, rfl, D, _, _, _, rfl, rfl, SqL.of upd_same, rfl, ?_⟩
          refine ⟨_, rfl, rfl, _, rfl, ?_⟩
          rw [str_eq]
          replace qq : Q (wv (wayX x y)) (upd H D (.lst ([x, y].map V.str))) := by
            rw [show (match [x, y] with | [w, u] => if w = x then wayX x u else none | _ => none) = wayX x y from if_pos rfl] at qq
            exact qq
          unfold wayX at qq
          by_cases h1 : x = "every"
          · rw [if_pos h1] at qq
            rw [decide_eq_true h1]
            refine iteT ⟨_, rfl, y, rfl, by omega, _, _, rfl, rfl, _, rfl, ?_⟩
            unfold wEvery at qq
            by_cases a1 : 1 ≤ Mt.num y.cps.toList
            · rw [decide_eq_true a1]
              refine iteT ⟨_, _, rfl, rfl, _, rfl, ?_⟩
              by_cases a2 : Mt.num y.cps.toList ≤ 14
              · rw [decide_eq_true a2]
                refine iteT ⟨_, rfl, y, rfl, by omega, ?_⟩
                rw [if_pos ⟨a1, a2⟩] at qq
                rw [show Mt.num y.cps.toList = ((Mt.num y.cps.toList).toNat : Int) by omega]
                exact qq
              · rw [decide_eq_false a2]
                rw [if_neg (fun z => a2 z.2)] at qq
                exact iteF qq
            · rw [decide_eq_false a1]
              rw [if_neg (fun z => a1 z.1)] at qq
              exact iteF ⟨_, rfl, iteF qq⟩
          · rw [if_neg h1] at qq
            rw [decide_eq_false h1]
            refine iteF ⟨_, rfl, rfl, _, rfl, ?_⟩
            rw [str_eq]
            by_cases h2 : x = "behind"
            · rw [if_pos h2] at qq
              rw [decide_eq_true h2]
              refine iteT ⟨_, rfl, B, _, rfl, .inr (hB _), rfl, rfl, _, rfl, ?_⟩
              rw [if_neg (by decide), show ([V.str "before", V.str "nothing"] : List V) = [("before" : Str), "nothing"].map V.str from rfl, inV_strs]
              unfold wBehind at qq
              by_cases h3 : y = "before" ∨ y = "nothing"
              · rw [if_pos h3] at qq
                rw [decide_eq_true (show y ∈ ([("before" : Str), "nothing"] : List Str) by simpa using h3)]
                exact iteT ⟨_, rfl, qq⟩
              · rw [if_neg h3] at qq
                rw [decide_eq_false (show ¬ y ∈ ([("before" : Str), "nothing"] : List Str) by simpa using h3)]
                refine iteF ⟨_, rfl, y, rfl, by omega, _, _, rfl, rfl, _, rfl, ?_⟩
                by_cases a1 : 0 ≤ Mt.num y.cps.toList
                · rw [decide_eq_true a1]
                  refine iteT ⟨_, _, rfl, rfl, _, rfl, ?_⟩
                  by_cases a2 : Mt.num y.cps.toList ≤ 9
                  · rw [decide_eq_true a2]
                    refine iteT ⟨_, rfl, y, rfl, by omega, ?_⟩
                    rw [if_pos ⟨a1, a2⟩] at qq
                    rw [show Mt.num y.cps.toList = ((Mt.num y.cps.toList).toNat : Int) by omega]
                    exact qq
                  · rw [decide_eq_false a2]
                    rw [if_neg (fun z => a2 z.2)] at qq
                    exact iteF qq
                · rw [decide_eq_false a1]
                  rw [if_neg (fun z => a1 z.1)] at qq
                  exact iteF ⟨_, rfl, iteF qq⟩
            · rw [if_neg h2] at qq
              rw [decide_eq_false h2]
              have hz' : x ∈ ([("late" : Str), "block", "rest"] : List Str) := by
                unfold fiveW at hz
                simp only [List.mem_cons, List.not_mem_nil, or_false] at hz ⊢
                rcases hz with e | e | e
                · exact absurd e h1
                · exact absurd e h2
                · exact e
              obtain ⟨T3, k3, t3⟩ := hW x hz'
              refine iteF ⟨_, rfl, _, rfl, W, x, _, rfl, rfl, k3, T3, _, rfl, .inr (t3 _), rfl, (by rw [List.all_map]; exact List.all_eq_true.mpr fun _ _ => rfl), _, rfl, ?_⟩
              rw [if_neg (by decide), inV_strs]
              by_cases h3 : y ∈ waysFor x
              · rw [if_pos h3] at qq
                rw [decide_eq_true h3]
                exact iteT ⟨_, rfl, qq⟩
              · rw [if_neg h3] at qq
                rw [decide_eq_false h3]
                exact iteF qq
        · rw [decide_eq_false hxz]
          refine iteT ?_
          rw [show (match [x, y] with | [w, u] => if w = z then wayX z u else none | _ => none) = none from if_neg hxz] at qq
          exact qq
    · rw [show decide ((ps.length : Int) = 2) = false from decide_eq_false (by omega)]
      exact iteT (len2 c2)
end
end Ru
/-! what the lines of a rule tell, when none is wrong -/
namespace Ru
open PySem PySem.Spec PyProof.Rows L2 Am
/-- a text whose five lines tell these ways -/
structure Says (x : Str) (ys : List Way) : Prop where
  n : (Txt.split x "\n").length = 5
  m : ys.length = 5
  len : x.length ≤ 100000
  ls : ∀ l ∈ Txt.split x "\n", l.length ≤ 600
  hw : ∀ (i : Nat) (l z : Str), (Txt.split x "\n")[i]? = some l → fiveW[i]? = some z → ∃ y, ys[i]? = some y ∧ wayOf l z = some y
def spWays : Sp := fun vs H Q _ => ∃ (x : Str) (ys : List Way), vs = [.str x] ∧ Says x ys ∧ ∀ H' D, Same H H' → H' D = some (.lst (ys.map Way.v)) → H D = none → Q (.ref D) H'
theorem Way.v_ne : ∀ y : Way, y.v ≠ .non
  | .int _ => by intro h; cases h
  | .str _ => by intro h; cases h
section
variable {P : Program} {w : World} {K : PySem.W.Frag} {mg : Str → Option Value} {base : Heap}
theorem scWays : FnScope ["text", "lines", "ways", "at", "line", "way"] ["text"] (defScope sF_ways_of) := ⟨rfl, rfl, rfl, by decide +kernel, rfl, by decide +kernel, by decide +kernel⟩
theorem ok_ways {f : Addr} {fd : FuncData} (F : Fun K "ways_of" "ways_of" sF_ways_of f fd) (T : Nm mg) (ns : mg "str" = none) (ne : mg "enumerate" = none)
    (hL : ∃ A, mg "LINES" = some (.ref A) ∧ ∀ H, SqT K H A (fiveW.map V.str)) (GW : GotF P w K mg base "way_of" 2 ["line", "word"] spWayOf) : FnOk P w K mg base CX0 3 f fd ["text"] spWays := by
  obtain ⟨A5, mL, hL⟩ := hL
  obtain ⟨fW, fdW, GW, bW, mW, kW⟩ := GW
  refine F.ok scWays (fun vs H Q E h => ?_) (fun cdv A outer s H vs Q E hr h => ?_)
  · obtain ⟨x, ys, rfl, _⟩ := h
    rfl
  · obtain ⟨x, ys, rfl, sy, q⟩ := h
    have b_str : bootBuiltins "str" = some (.type "str") := by decide +kernel
    refine ⟨_, pss_cons (ps_if (pt_not (pt_val (pe_callB call_isi (by rfl) T.isi b_isi (pa_cons (pv 0) (pa_cons (pe_bltn (v := .ty "str") (by rfl) ns b_str rfl) pa_nil))))) (pss_one ps_never) pss_nil)
      (pss_cons (ps_par (by rfl) scWays.nd (i := 1) (j := 2) rfl rfl (by decide) rfl rfl (pa_cons (pe_split (pv 0) pe_str) (pa_cons (pe_lst pa_nil) pa_nil)) (by rfl))
      (pss_cons (ps_for (g := gTup K 2 (gCons (gName 3) (gCons (gName 4) gNil))) PassesOwn.never rfl (Enu.pi_enumS (by rfl) ne (pa_cons (pv 1) pa_nil) (pk_cons pe_int pk_nil))
        (pg_tup rfl (pgs_cons (pg_name (i := 3) scWays.nd rfl (.inl rfl)) (pgs_cons (pg_name (i := 4) scWays.nd rfl (.inl rfl)) pgs_nil)))
        (pss_cons (ps_set (i := 5) scWays.nd rfl (.inl rfl) (pe_ifExp (pt_cmpR op_le (pv 3) (pe_callB call_len_seq (by rfl) T.len PySem.boot_len (pa_cons (pe_glob (v := .ref A5) (by rfl) mL rfl) pa_nil)) (nomark _)) (pe_call GW hr (by rfl) mW kW bW .nil pass0 (pa_cons (pv 4) (pa_cons (pe_ix ix_tup (pe_glob (v := .ref A5) (by rfl) mL rfl) (pe_op op_sub (pv 3) pe_int) (fun _ _ => rfl)) pa_nil))) pe_non))
        (pss_cons (ps_if (pt_cmp (pc_isN (pv 5))) (pss_one ps_never) pss_nil)
        (pss_one (ps_expr (pe_bm PySem.F.plainAttrs_list PySem.F.slot_list_append PySem.F.type_list_append mt_append (pv 2) (pa_cons (pv 5) pa_nil)))))))
      (pss_cons (ps_if (pt_cmpR op_lt (pe_callB call_len_seq (by rfl) T.len PySem.boot_len (pa_cons (pv 2) pa_nil)) (pe_callB call_len_seq (by rfl) T.len PySem.boot_len (pa_cons (pe_glob (v := .ref A5) (by rfl) mL rfl) pa_nil)) (nomark _)) (pss_one ps_never) pss_nil)
      (pss_one (ps_ret (pv 2)))))), ?_⟩
    refine ⟨_, rfl, .str x, .ty "str", .type "str", .type "str", _, rfl, .ty _, .base (Bk.tyOf (.str x)), kstr, _, rfl, iteF ?_⟩
    refine ⟨_, rfl, ⟨_, rfl⟩, _, _, rfl, rfl, by decide +kernel, Nat.le_trans (show x.length + 2 ≤ 100002 by have := sy.len; omega) (by decide), fun l nl => ⟨by decide, fun D nD => ⟨_, _, rfl, ?_⟩⟩⟩
    obtain ⟨y5, ym, _, yl, yw⟩ := sy
    have e1 := same_upd (o := .lst ((Txt.split x "\n").map V.str)) nl
    have e2 := same_upd (o := .lst []) nD
    have hl0 := e2 _ _ (upd_same (H := H) (a := l) (o := .lst ((Txt.split x "\n").map V.str)))
    have nDH : H D = none := by
      cases z : H D with
      | none => rfl
      | some u => rw [e1 _ _ z] at nD; cases nD
    have hD0 := upd_same (H := upd H l (.lst ((Txt.split x "\n").map V.str))) (a := D) (o := .lst [])
    have e0 := e1.trans e2
    generalize Txt.split x "\n" = lines at *
    generalize upd (upd H l (.lst (lines.map V.str))) D (.lst []) = H0 at *
    refine ⟨_, rfl, l, _, 1, rfl, rfl, by decide, by decide, SqL.of hl0, for_it (Enu.walk_enumF (xs := lines.map V.str)) (fun i σ H' => ∃ s3 s4 s5, σ = [some (.str x), some (.ref l), some (.ref D), s3, s4, s5] ∧ Same H H' ∧ H' l = some (.lst (lines.map V.str)) ∧ H' D = some (.lst ((ys.take i).map Way.v))) ?_ ?_ ?_ ?_⟩
    · exact ⟨_, _, _, rfl, e0, hl0, hD0⟩
    · rintro i σ H' _ ⟨_, _, _, _, _, h, _⟩
      exact SqL.of h
    · rintro i v σ H2 H3 hi ⟨s3, s4, s5, rfl, s2, hl2, hD2⟩ ⟨T, v1, v2, rfl, nT, rfl, hv1, hv2⟩
      have hi' : i < lines.length := by simpa using hi
      obtain rfl : v2 = .str lines[i] := by
        replace hv2 : (lines.map V.str)[i]? = some v2 := hv2
        rw [List.getElem?_map, List.getElem?_eq_getElem hi'] at hv2
        exact (Option.some.inj hv2).symm
      obtain rfl : v1 = .int (1 + i) := (Option.some.inj hv1).symm
      have i5 : i < fiveW.length := by rw [y5] at hi'; exact hi'
      obtain ⟨y, hy, wy⟩ := yw i _ _ (List.getElem?_eq_getElem hi') (List.getElem?_eq_getElem i5)
      have e3 := same_upd (o := .tup [V.int (1 + i), .str lines[i]]) nT
      refine ⟨T, _, rfl, SqT.of upd_same, rfl, _, _, rfl, _, _, rfl, rfl, ?_⟩
      have hD3 := e3 _ _ hD2
      have hl3 := e3 _ _ hl2
      have s23 := s2.trans e3
      generalize upd H2 T (.tup [V.int (1 + i), .str lines[i]]) = H3 at *
      refine ⟨_, rfl, A5, _, rfl, .inr (hL _), _, _, rfl, rfl, _, rfl, ?_⟩
      rw [show decide ((1 + (i : Int)) ≤ ((fiveW.map V.str).length : Int)) = true from decide_eq_true (by rw [List.length_map]; omega)]
      refine iteT ⟨_, rfl, _, rfl, _, _, rfl, rfl, A5, _, _, .str fiveW[i], rfl, rfl, hL _, ?_, lines[i], fiveW[i], rfl, yl _ (List.getElem_mem hi'), List.getElem_mem i5, fun H4 e4 => ?_⟩
      · rw [show (1 + (i : Int) - 1) = (i : Int) by omega]
        exact atI_nat (by rw [List.getElem?_map, List.getElem?_eq_getElem i5]; rfl)
      rw [wy]
      have hD4 := e4 _ _ hD3
      have hl4 := e4 _ _ hl3
      have s24 := s23.trans e4
      have len : ((ys.take i).map Way.v).length < sizeLine := by
        rw [List.length_map, List.length_take]
        exact Nat.lt_of_le_of_lt (show _ ≤ 5 by omega) (by decide)
      have iy : i < ys.length := by rw [ym]; exact i5
      have fin : ∀ u, u = y.v → ∃ s3 s4 s5, [some (V.str x), some (V.ref l), some (V.ref D), some (V.int (1 + i)), some (V.str lines[i]), some u] = [some (V.str x), some (V.ref l), some (V.ref D), s3, s4, s5] ∧ Same H (upd H4 D (.lst ((ys.take i).map Way.v ++ [u]))) ∧
          (upd H4 D (.lst ((ys.take i).map Way.v ++ [u]))) l = some (.lst (lines.map V.str)) ∧ (upd H4 D (.lst ((ys.take i).map Way.v ++ [u]))) D = some (.lst ((ys.take (i + 1)).map Way.v)) := by
        rintro u rfl
        have nlD : l ≠ D := fun z => by
          rw [z, hD4] at hl4
          have := HO.lst.inj (Option.some.inj hl4)
          have hh := congrArg List.length this
          rw [List.length_map, List.length_map, List.length_take, y5] at hh
          omega
        refine ⟨_, _, _, rfl, fun b v z => ?_, by rw [upd_ne nlD]; exact hl4, ?_⟩
        · rw [upd_ne (ne_of_none z nDH)]
          exact s24 _ _ z
        · rw [upd_same, List.take_add_one, hy]
          simp
      cases y with
      | int n => exact ⟨_, rfl, _, rfl, iteF ⟨_, rfl, .inl ⟨rfl, _, SqL.of hD4⟩, _, rfl, D, _, _, rfl, rfl, hD4, len, fin _ rfl⟩⟩
      | str z => exact ⟨_, rfl, _, rfl, iteF ⟨_, rfl, .inl ⟨rfl, _, SqL.of hD4⟩, _, rfl, D, _, _, rfl, rfl, hD4, len, fin _ rfl⟩⟩
    · rintro σ H2 ⟨s3, s4, s5, rfl, s2, hl2, hD2⟩
      rw [List.length_map, y5, show ys.take 5 = ys from List.take_of_length_le (by omega)] at hD2
      refine ⟨_, rfl, D, _, rfl, .inl (SqL.of hD2), A5, _, rfl, .inr (hL _), _, _, rfl, rfl, _, rfl, ?_⟩
      rw [show decide (((ys.map Way.v).length : Int) < ((fiveW.map V.str).length : Int)) = false from decide_eq_false (by rw [List.length_map, List.length_map, ym]; decide)]
      exact iteF ⟨_, rfl, q _ _ s2 hD2 nDH⟩
end
end Ru
/-! a rule -/
namespace Ru
open PySem PySem.Spec PyProof.Rows L2 Am Hs
def rfs (x : Str) (a b c d e : V) : List (Str × V) := putF "rest" e (putF "block" d (putF "late" c (putF "behind" b (putF "every" a (putF "_text" (.str x) [])))))
section
variable (x : Str) (a b c d e : V)
theorem rfs_re : (rfs x a b c d e).lookup ("rest" : Str) = some e := by unfold rfs; rw [lookup_putF, if_pos rfl]
theorem rfs_bl : (rfs x a b c d e).lookup ("block" : Str) = some d := by unfold rfs; rw [lookup_putF, if_neg (by decide +kernel), lookup_putF, if_pos rfl]
theorem rfs_la : (rfs x a b c d e).lookup ("late" : Str) = some c := by unfold rfs; rw [lookup_putF, if_neg (by decide +kernel), lookup_putF, if_neg (by decide +kernel), lookup_putF, if_pos rfl]
theorem rfs_be : (rfs x a b c d e).lookup ("behind" : Str) = some b := by unfold rfs; rw [lookup_putF, if_neg (by decide +kernel), lookup_putF, if_neg (by decide +kernel), lookup_putF, if_neg (by decide +kernel), lookup_putF, if_pos rfl]
theorem rfs_ev : (rfs x a b c d e).lookup ("every" : Str) = some a := by unfold rfs; rw [lookup_putF, if_neg (by decide +kernel), lookup_putF, if_neg (by decide +kernel), lookup_putF, if_neg (by decide +kernel), lookup_putF, if_neg (by decide +kernel), lookup_putF, if_pos rfl]
theorem rfs_tx : (rfs x a b c d e).lookup ("_text" : Str) = some (.str x) := by unfold rfs; rw [lookup_putF, if_neg (by decide +kernel), lookup_putF, if_neg (by decide +kernel), lookup_putF, if_neg (by decide +kernel), lookup_putF, if_neg (by decide +kernel), lookup_putF, if_neg (by decide +kernel), lookup_putF, if_pos rfl]
end
structure RuC (K : PySem.W.Frag) (C : Addr) : Prop where
  cl : Cls K C
  n1 : NoAttr K C "_text"
  n2 : NoAttr K C "every"
  n3 : NoAttr K C "behind"
  n4 : NoAttr K C "late"
  n5 : NoAttr K C "block"
  n6 : NoAttr K C "rest"
def RuleAt (C : Addr) (H : Hp) (r : Addr) (x : Str) (a b c d e : Way) : Prop := ∃ dx, H r = some (.ins C dx (rfs x a.v b.v c.v d.v e.v))
theorem RuleAt.same {C : Addr} {H H' : Hp} {r : Addr} {x : Str} {a b c d e : Way} (h : RuleAt C H r x a b c d e) (s : Same H H') : RuleAt C H' r x a b c d e := by
  obtain ⟨dx, h⟩ := h
  exact ⟨dx, s _ _ h⟩
def spRInit (C : Addr) : Sp := fun vs H Q _ => ∃ (r dx : Addr) (x : Str) (a b c d e : Way), vs = [.ref r, .str x] ∧ H r = some (.ins C dx []) ∧ Says x [a, b, c, d, e] ∧ ∀ H', Fr [r] H H' → RuleAt C H' r x a b c d e → Q .non H'
section
variable {P : Program} {w : World} {K : PySem.W.Frag} {mg : Str → Option Value} {base : Heap} {C : Addr}
theorem scRInit : FnScope ["self", "text", "ways"] ["self", "text"] (defScope sRule_init) := ⟨rfl, rfl, rfl, by decide +kernel, rfl, by decide +kernel, by decide +kernel⟩
theorem ok_rInit {f : Addr} {fd : FuncData} (F : Fun K "__init__" "Rule.__init__" sRule_init f fd) (rc : RuC K C) (GW : GotF P w K mg base "ways_of" 3 ["text"] spWays) : FnOk P w K mg base CX0 4 f fd ["self", "text"] (spRInit C) := by
  obtain ⟨fW, fdW, GW, bW, mW, kW⟩ := GW
  refine F.ok scRInit (fun vs H Q E h => ?_) (fun cdv A outer s H vs Q E hr h => ?_)
  · obtain ⟨r, dx, x, a, b, c, d, e, rfl, _⟩ := h
    rfl
  · obtain ⟨r, dx, x, a, b, c, d, e, rfl, ob, sy, q⟩ := h
    refine ⟨_, pss_cons (ps_set (i := 2) scRInit.nd rfl (.inl rfl) (pe_call GW hr (by rfl) mW kW bW .nil pass0 (pa_cons (pv 1) pa_nil)))
      (pss_cons (ps_fld (pv 0) (pv 1) rfl)
      (pss_cons (ps_fld (pv 0) (pe_ix ix_list (pv 2) pe_int (fun _ _ => rfl)) rfl)
      (pss_cons (ps_fld (pv 0) (pe_ix ix_list (pv 2) pe_int (fun _ _ => rfl)) rfl)
      (pss_cons (ps_fld (pv 0) (pe_ix ix_list (pv 2) pe_int (fun _ _ => rfl)) rfl)
      (pss_cons (ps_fld (pv 0) (pe_ix ix_list (pv 2) pe_int (fun _ _ => rfl)) rfl)
      (pss_one (ps_fld (pv 0) (pe_ix ix_list (pv 2) pe_int (fun _ _ => rfl)) rfl))))))), ?_⟩
    refine ⟨_, rfl, x, _, rfl, sy, fun H1 D e1 hD nD => ?_⟩
    have nDr : D ≠ r := fun z => by rw [z, ob] at nD; cases nD
    have pl : ∀ {k : Str} {v : V} {fs : List (Str × V)} {n : Nat}, fs.length ≤ n → (putF k v fs).length ≤ n + 1 := fun h => Nat.le_trans (putF_len _ _ _) (Nat.succ_le_succ h)
    have ob1 := e1 _ _ ob
    refine ⟨_, rfl, _, rfl, r, C, dx, _, rfl, ob1, rc.cl, rc.n1, by decide, ?_⟩
    generalize hG : upd H1 r (.ins C dx (putF "_text" (.str x) [])) = G1
    have og : G1 r = some (.ins C dx (putF "_text" (.str x) [])) := by rw [← hG]; exact upd_same
    have dg : G1 D = some (.lst ([a, b, c, d, e].map Way.v)) := by rw [← hG, upd_ne nDr]; exact hD
    have fr : Fr [r] H G1 := by rw [← hG]; exact Fr.trans (Fr.same e1) (Fr.upd (by simp))
    clear hG
    refine ⟨_, rfl, D, _, _, _, rfl, rfl, SqL.of dg, rfl, _, rfl, r, C, dx, _, rfl, og, rc.cl, rc.n2, Nat.lt_of_le_of_lt (pl (Nat.le_refl 0)) (by decide), ?_⟩
    generalize hG : upd G1 r (.ins C dx (putF "every" (a.v) (putF "_text" (.str x) []))) = G2
    have og : G2 r = some (.ins C dx (putF "every" (a.v) (putF "_text" (.str x) []))) := by rw [← hG]; exact upd_same
    have dg : G2 D = some (.lst ([a, b, c, d, e].map Way.v)) := by rw [← hG, upd_ne nDr]; exact dg
    have fr : Fr [r] H G2 := by rw [← hG]; exact Fr.trans fr (Fr.upd (by simp))
    clear hG
    refine ⟨_, rfl, D, _, _, _, rfl, rfl, SqL.of dg, rfl, _, rfl, r, C, dx, _, rfl, og, rc.cl, rc.n3, Nat.lt_of_le_of_lt (pl (pl (Nat.le_refl 0))) (by decide), ?_⟩
    generalize hG : upd G2 r (.ins C dx (putF "behind" (b.v) (putF "every" (a.v) (putF "_text" (.str x) [])))) = G3
    have og : G3 r = some (.ins C dx (putF "behind" (b.v) (putF "every" (a.v) (putF "_text" (.str x) [])))) := by rw [← hG]; exact upd_same
    have dg : G3 D = some (.lst ([a, b, c, d, e].map Way.v)) := by rw [← hG, upd_ne nDr]; exact dg
    have fr : Fr [r] H G3 := by rw [← hG]; exact Fr.trans fr (Fr.upd (by simp))
    clear hG
    refine ⟨_, rfl, D, _, _, _, rfl, rfl, SqL.of dg, rfl, _, rfl, r, C, dx, _, rfl, og, rc.cl, rc.n4, Nat.lt_of_le_of_lt (pl (pl (pl (Nat.le_refl 0)))) (by decide), ?_⟩
    generalize hG : upd G3 r (.ins C dx (putF "late" (c.v) (putF "behind" (b.v) (putF "every" (a.v) (putF "_text" (.str x) []))))) = G4
    have og : G4 r = some (.ins C dx (putF "late" (c.v) (putF "behind" (b.v) (putF "every" (a.v) (putF "_text" (.str x) []))))) := by rw [← hG]; exact upd_same
    have dg : G4 D = some (.lst ([a, b, c, d, e].map Way.v)) := by rw [← hG, upd_ne nDr]; exact dg
    have fr : Fr [r] H G4 := by rw [← hG]; exact Fr.trans fr (Fr.upd (by simp))
    clear hG
    refine ⟨_, rfl, D, _, _, _, rfl, rfl, SqL.of dg, rfl, _, rfl, r, C, dx, _, rfl, og, rc.cl, rc.n5, Nat.lt_of_le_of_lt (pl (pl (pl (pl (Nat.le_refl 0))))) (by decide), ?_⟩
    generalize hG : upd G4 r (.ins C dx (putF "block" (d.v) (putF "late" (c.v) (putF "behind" (b.v) (putF "every" (a.v) (putF "_text" (.str x) [])))))) = G5
    have og : G5 r = some (.ins C dx (putF "block" (d.v) (putF "late" (c.v) (putF "behind" (b.v) (putF "every" (a.v) (putF "_text" (.str x) [])))))) := by rw [← hG]; exact upd_same
    have dg : G5 D = some (.lst ([a, b, c, d, e].map Way.v)) := by rw [← hG, upd_ne nDr]; exact dg
    have fr : Fr [r] H G5 := by rw [← hG]; exact Fr.trans fr (Fr.upd (by simp))
    clear hG
    refine ⟨_, rfl, D, _, _, _, rfl, rfl, SqL.of dg, rfl, _, rfl, r, C, dx, _, rfl, og, rc.cl, rc.n6, Nat.lt_of_le_of_lt (pl (pl (pl (pl (pl (Nat.le_refl 0)))))) (by decide), ?_⟩
    generalize hG : upd G5 r (.ins C dx (putF "rest" (e.v) (putF "block" (d.v) (putF "late" (c.v) (putF "behind" (b.v) (putF "every" (a.v) (putF "_text" (.str x) []))))))) = G6
    have og : G6 r = some (.ins C dx (putF "rest" (e.v) (putF "block" (d.v) (putF "late" (c.v) (putF "behind" (b.v) (putF "every" (a.v) (putF "_text" (.str x) []))))))) := by rw [← hG]; exact upd_same
    have dg : G6 D = some (.lst ([a, b, c, d, e].map Way.v)) := by rw [← hG, upd_ne nDr]; exact dg
    have fr : Fr [r] H G6 := by rw [← hG]; exact Fr.trans fr (Fr.upd (by simp))
    clear hG
    exact q _ fr ⟨dx, og⟩
end
end Ru
/-! list(range(a, b, c)) -/
namespace Rg3
open PySem PySem.Spec PyProof.Rows L2
/-- a range with a step -/
def rgO (i j c : Int) (a : Addr) : HO := .ext fun h => ∃ t u v, IsRange h a i j c t u v
def rRange3 : List V → Hp → VK → Prop := fun vs H Q => ∃ i j c : Int, vs = [.int i, .int j, .int c] ∧ c ≠ 0 ∧ c.natAbs.log2 < 9000 ∧ ∀ p, H p = none → Q (.ref p) (upd H p (rgO i j c p))
theorem cr_range3 {X : Cx} : CallR X (.type "range") rRange3 := by
  intro pins s σ H xs us Q I rel want
  obtain ⟨i, j, c, rfl, c0, cl, q⟩ := want
  cases rel with
  | cons r1 rel =>
  cases rel with
  | cons r2 rel =>
  cases rel with
  | cons r3 rel =>
  cases rel
  obtain ⟨t, rfl⟩ := r1
  obtain ⟨u, rfl⟩ := r2
  obtain ⟨v, rfl⟩ := r3
  obtain ⟨m, hF⟩ := I.fr
  refine range3_rows (news := []) hF (fun p hp => by cases hp) c0 (fun h' tk t1 u1 v1 ir _ _ keep => ?_) (.inl (PyProof.noPylong_of_log2 cl))
  exact ⟨.ref s.heap.objs.size, upd H s.heap.objs.size (rgO i j c s.heap.objs.size), I.laid keep (Nat.le_refl _) ⟨⟨t1, u1, v1, ir⟩, ⟨_, ir⟩, fun h1 h2 ⟨t, u, v, e⟩ k => ⟨t, u, v, k _ e⟩⟩, rfl, q _ (HOk.fresh I.hok (Nat.le_refl _))⟩
def rListRg3 : List V → Hp → VK → Prop := fun xs H Q => ∃ (p : Addr) (i j c : Int) (n : Nat), xs = [.ref p] ∧ H p = some (rgO i j c p) ∧ Builtin.Range.small i j c = true ∧ Builtin.Range.rangeSize i j c = n ∧ n ≤ 2 ^ 24 ∧ n ≤ sizeLine ∧
  ∀ l, H l = none → Q (.ref l) (upd H l (.lst ((List.range n).map fun k : Nat => V.int (i + (k : Int) * c))))
theorem call_listRg3 {X : Cx} (hc : X.calm = true) : CallR X (.type "list") rListRg3 := by
  intro pins s σ H xs us Q I rel want
  obtain ⟨p, i, j, c, n, rfl, hp, sm, sz, n24, nl, q⟩ := want
  cases rel with
  | cons r1 rel =>
  cases rel
  cases (show _ = Value.ref p from r1)
  obtain ⟨⟨t, u, v, ir⟩, _⟩ := I.hok p _ hp
  refine PySem.call_list_range (I.ok.hd hc) ir sm sz n24 (fun h' tk acc c' keep hl items => ?_)
  refine ⟨.ref s.heap.objs.size, upd H s.heap.objs.size (.lst ((List.range n).map fun k : Nat => V.int (i + (k : Int) * c))), I.laid keep (Nat.le_refl _) ⟨by rw [List.length_map, List.length_range]; exact nl, acc.toList, c', ?_, by simpa using hl⟩, rfl, q _ (HOk.fresh I.hok (Nat.le_refl _))⟩
  obtain ⟨size, at_⟩ := items
  have key : ∀ (m : Nat) (vs : List Value) (k : Nat), vs.length = m → (∀ (j : Nat) (v : Value), vs[j]? = some v → ∃ t, v = Value.int (i + ((k + j : Nat) : Int) * c) t) → Vals ((List.range' k m).map fun k : Nat => V.int (i + (k : Int) * c)) vs := by
    intro m
    induction m with
    | zero =>
      intro vs k hl _
      rw [List.eq_nil_of_length_eq_zero hl]
      exact .nil
    | succ m ih =>
      intro vs k hl hv
      cases vs with
      | nil => simp at hl
      | cons v vs =>
        rw [List.range'_succ, List.map_cons]
        refine .cons (hv 0 v rfl) (ih vs (k + 1) (by simpa using hl) fun j w hw => ?_)
        obtain ⟨t, e⟩ := hv (j + 1) w (by simpa using hw)
        exact ⟨t, by rw [e, show k + (j + 1) = k + 1 + j by omega]⟩
  have := key n acc.toList 0 (by simpa using size) (fun j v hv => by
    obtain ⟨t, e⟩ := at_ j v (by simpa using hv)
    exact ⟨t, by rw [e, Nat.zero_add]⟩)
  rw [List.range_eq_range']
  exact this
end Rg3
/-! the runs of a rule -/
namespace Ru
open PySem PySem.Spec PyProof.Rows L2 Am Hs
/-- the mornings e, 2 e, .. ahead of n, and n -/
def runsOf (e n : Nat) : List Nat := ((List.range ((n - 1) / e)).map fun k => e + k * e) ++ [n]
def spRuns (C D : Addr) : Sp := fun vs H Q _ => ∃ (r h : Addr) (x y : Str) (e : Nat) (b c d f : Way) (L : Lore), vs = [.ref r, .ref h] ∧ RuleAt C H r x (.int e) b c d f ∧ HouseAt D H h y L ∧ (1 ≤ e ∧ e ≤ 14) ∧ (1 ≤ L.days ∧ L.days ≤ 14) ∧
  ∀ H' t, Same H H' → H t = none → H' t = some (.tup ((runsOf e L.days).map fun k : Nat => V.int k)) → Q (.ref t) H'
theorem small_ok : ∀ (e n : Fin 15), 1 ≤ e.val → 1 ≤ n.val → Builtin.Range.small e.val n.val e.val = true ∧ Builtin.Range.rangeSize e.val n.val e.val = (((n.val - 1) / e.val : Nat) : Int) := by decide +kernel
section
variable {P : Program} {w : World} {K : PySem.W.Frag} {mg : Str → Option Value} {base : Heap} {C D : Addr}
theorem scRuns : FnScope ["self", "house"] ["self", "house"] (defScope sRule_runs) := ⟨rfl, rfl, rfl, by decide +kernel, rfl, by decide +kernel, by decide +kernel⟩
theorem ok_runs {f : Addr} {fd : FuncData} (F : Fun K "runs" "Rule.runs" sRule_runs f fd) (rc : RuC K C) (hc : HoC K D) (nt : mg "tuple" = none) (nl : mg "list" = none) (nr : mg "range" = none) : FnOk P w K mg base CX0 1 f fd ["self", "house"] (spRuns C D) := by
  refine F.ok scRuns (fun vs H Q E h => ?_) (fun cdv A outer s H vs Q E hr h => ?_)
  · obtain ⟨r, h, x, y, e, b, c, d, f, L, rfl, _⟩ := h
    rfl
  · obtain ⟨r, h, x, y, e, b, c, d, f', L, rfl, hru, hho, ⟨e1, e14⟩, ⟨n1, n14⟩, q⟩ := h
    have b_list : bootBuiltins "list" = some (.type "list") := by decide +kernel
    have b_range : bootBuiltins "range" = some (.type "range") := by decide +kernel
    refine ⟨_, pss_one (ps_ret (pe_tupleOf (by rfl) nt (pe_op op_cat (pe_callTy (Rg3.call_listRg3 rfl) (by rfl) nl b_list (pa_cons (pe_callTy Rg3.cr_range3 (by rfl) nr b_range (pa_cons (pe_fld (pv 0) rfl) (pa_cons (pe_fld (pv 1) rfl) (pa_cons (pe_fld (pv 0) rfl) pa_nil)))) pa_nil)) (pe_lst (pa_cons (pe_fld (pv 1) rfl) pa_nil))))), ?_⟩
    obtain ⟨dx, ob⟩ := id hru
    obtain ⟨dy, a1, a2, a3, a4, a5, a6, _, _, _, oh, _⟩ := id hho
    obtain ⟨sm, sz⟩ := small_ok ⟨e, by omega⟩ ⟨L.days, by omega⟩ e1 n1
    have lg : ((e : Int)).natAbs.log2 < 9000 := Nat.lt_trans (log2_lt (k := 20) (by decide) (Nat.lt_of_le_of_lt (show (e : Int).natAbs ≤ 14 by omega) (by decide))) (by decide)
    have k14 : (L.days - 1) / e ≤ 13 := Nat.le_trans (Nat.div_le_self _ _) (by omega)
    refine ⟨_, rfl, r, C, dx, _, _, rfl, ob, rc.cl, rc.n2, rfs_ev _ _ _ _ _ _, _, rfl, h, D, dy, _, _, rfl, oh, hc.cl, hc.n2, hfs_da _ _ _ _ _ _ _ _, _, rfl, r, C, dx, _, _, rfl, ob, rc.cl, rc.n2, rfs_ev _ _ _ _ _ _, e, L.days, e, rfl, by omega, lg, fun p np => ?_⟩
    have s1 := same_upd (o := Rg3.rgO e L.days e p) np
    refine ⟨p, e, L.days, e, _, rfl, upd_same, sm, sz, Nat.le_trans k14 (by decide), Nat.le_trans k14 (by decide), fun l nl => ?_⟩
    have s2 := same_upd (o := .lst ((List.range ((L.days - 1) / e)).map fun k : Nat => V.int ((e : Int) + (k : Int) * (e : Int)))) nl
    have ol := upd_same (H := upd H p (Rg3.rgO e L.days e p)) (a := l) (o := .lst ((List.range ((L.days - 1) / e)).map fun k : Nat => V.int ((e : Int) + (k : Int) * (e : Int))))
    replace oh := s2 _ _ (s1 _ _ oh)
    have s12 := s1.trans s2
    generalize upd (upd H p (Rg3.rgO e L.days e p)) l (.lst ((List.range ((L.days - 1) / e)).map fun k : Nat => V.int ((e : Int) + (k : Int) * (e : Int)))) = H2 at *
    refine ⟨_, rfl, h, D, dy, _, _, rfl, oh, hc.cl, hc.n2, hfs_da _ _ _ _ _ _ _ _, (show 1 ≤ sizeLine by decide), fun m nm => ?_⟩
    have s3 := same_upd (o := .lst [V.int L.days]) nm
    have om := upd_same (H := H2) (a := m) (o := .lst [V.int L.days])
    refine ⟨l, m, _, _, rfl, rfl, s3 _ _ ol, om, ?_, fun u nu => ?_⟩
    · rw [List.length_map, List.length_range]
      exact Nat.le_trans (show _ ≤ 14 by show (L.days - 1) / e + 1 ≤ 14; omega) (by decide)
    have eq : ((List.range ((L.days - 1) / e)).map fun k : Nat => V.int ((e : Int) + (k : Int) * (e : Int))) ++ [V.int L.days] = (runsOf e L.days).map fun k : Nat => V.int k := by
      unfold runsOf
      rw [List.map_append, List.map_map]
      congr 1
    rw [eq]
    have s4 := same_upd (o := .lst ((runsOf e L.days).map fun k : Nat => V.int k)) nu
    have s14 := (s12.trans s3).trans s4
    refine .inl ⟨u, _, rfl, SqL.of upd_same, fun t nt => ?_⟩
    refine q _ t (s14.trans (same_upd nt)) ?_ upd_same
    cases z : H t with
    | none => rfl
    | some o => rw [s14 _ _ z] at nt; cases nt
end
end Ru
/-! the law: a drawn rule, its text -/
namespace Ru
open PySem PySem.Spec PyProof.Rows L2 Am Hs
abbrev sj (n : Nat) : Str := Str.ofString (toString (n : Int))
theorem sj_len {n : Nat} (h : n ≤ 99) : (sj n).length ≤ 2 := by
  have : ∀ k : Fin 100, (sj k.val).length ≤ 2 := by decide +kernel
  exact this ⟨n, by omega⟩
theorem sj_log {n : Nat} (h : n ≤ 99) : ((n : Int).natAbs).log2 < 1920 := log2_lt (by decide) (Nat.lt_of_le_of_lt (show (n : Int).natAbs ≤ 99 by omega) (by decide))
/-- what a drawn rule is made of -/
structure Due where
  ev : Nat
  be : Str
  la : Str
  bl : Str
  re : Str
structure Due.Ok (d : Due) : Prop where
  ev : 1 ≤ d.ev ∧ d.ev ≤ 14
  be : (d.be = "before" ∨ d.be = "nothing") ∨ ∃ k, k < 10 ∧ d.be = sj k
  la : d.la ∈ [("now" : Str), "back"]
  bl : d.bl ∈ [("days" : Str), "last"]
  re : d.re ∈ [("heads" : Str), "places", "house"]
def Due.lines (d : Due) : List Str := [("every " : Str) ++ sj d.ev, ("behind " : Str) ++ d.be, ("late " : Str) ++ d.la, ("block " : Str) ++ d.bl, ("rest " : Str) ++ d.re]
def Due.text (d : Due) : Str := Txt.join "\n" d.lines
def DueAt (H : Hp) (t : Addr) (d : Due) : Prop := H t = some (.tup [.int d.ev, .str d.be, .str d.la, .str d.bl, .str d.re])
theorem draw {H0 H : Hp} {p l : Addr} {o : HO} {N : Int} (c : Chg p H0 H) (j : JarAt H p N) (nl : H l = none) : JarAt (upd H l o) p N ∧ Chg p H0 (upd H l o) ∧ l ≠ p := by
  have e := same_upd (o := o) nl
  obtain ⟨_, _, _, hp, _⟩ := id j
  exact ⟨j.same e, c.trans (Chg.of e), fun z => by rw [z, hp] at nl; cases nl⟩
def spRule : Sp := fun vs H Q _ => ∃ (p : Addr) (N : Int), vs = [.ref p] ∧ JarAt H p N ∧ N ≤ 9900 ∧ ∀ (H' : Hp) (t : Addr) (d : Due), Chg p H H' → H t = none → JarAt H' p (N + 7) → DueAt H' t d → d.Ok → Q (.ref t) H'
section
variable {P : Program} {w : World} {K : PySem.W.Frag} {mg : Str → Option Value} {base : Heap}
theorem scRule : FnScope ["_law_jar_here", "_law_behind", "_law_every", "_law_rest"] ["_law_jar_here"] (defScope sL_rule) := ⟨rfl, rfl, rfl, by decide +kernel, rfl, by decide +kernel, by decide +kernel⟩
theorem ok_rule {f : Addr} {fd : FuncData} (F : Fun K "_law_rule" "_law_rule" sL_rule f fd) (nst : mg "str" = none) (GT : GotF P w K mg base "_law_take" 1 ["_law_jar_here", "_law_many"] spTake) (GO : GotF P w K mg base "_law_of" 2 ["_law_jar_here", "_law_some"] spOf) : FnOk P w K mg base CX0 3 f fd ["_law_jar_here"] spRule := by
  obtain ⟨fT, fdT, GT, bT, mT, kT⟩ := GT
  obtain ⟨fO, fdO, GO, bO, mO, kO⟩ := GO
  refine F.ok scRule (fun vs H Q E h => ?_) (fun cdv A outer s H vs Q E hr h => ?_)
  · obtain ⟨p, N, rfl, _⟩ := h
    rfl
  · obtain ⟨p, N, rfl, hj, hN, q⟩ := h
    have hr1 : Room 1 _ := hr.mono (by decide)
    have b_str : bootBuiltins "str" = some (.type "str") := by decide +kernel
    refine ⟨_, pss_cons (ps_set (i := 1) scRule.nd rfl (.inl rfl) (pe_call GO hr (by rfl) mO kO bO .nil pass0 (pa_cons (pv 0) (pa_cons (pe_lst (pa_cons pe_str (pa_cons pe_str (pa_cons pe_str (pa_cons (pe_callTy call_str_int (by rfl) nst b_str (pa_cons (pe_call GT hr1 (by rfl) mT kT bT .nil pass0 (pa_cons (pv 0) (pa_cons pe_int pa_nil))) pa_nil)) pa_nil))))) pa_nil))))
      (pss_cons (ps_set (i := 2) scRule.nd rfl (.inl rfl) (pe_call GO hr (by rfl) mO kO bO .nil pass0 (pa_cons (pv 0) (pa_cons (pe_lst (pa_cons pe_int (pa_cons pe_int (pa_cons pe_int (pa_cons pe_int (pa_cons pe_int (pa_cons (pe_op op_add pe_int (pe_call GT hr1 (by rfl) mT kT bT .nil pass0 (pa_cons (pv 0) (pa_cons pe_int pa_nil)))) pa_nil))))))) pa_nil))))
      (pss_cons (ps_set (i := 3) scRule.nd rfl (.inl rfl) (pe_call GO hr (by rfl) mO kO bO .nil pass0 (pa_cons (pv 0) (pa_cons (pe_lst (pa_cons pe_str (pa_cons pe_str (pa_cons pe_str pa_nil)))) pa_nil))))
      (pss_one (ps_ret (pe_tup (pa_cons (pv 2) (pa_cons (pv 1) (pa_cons (pe_call GO hr (by rfl) mO kO bO .nil pass0 (pa_cons (pv 0) (pa_cons (pe_lst (pa_cons pe_str (pa_cons pe_str pa_nil))) pa_nil)))
        (pa_cons (pe_call GO hr (by rfl) mO kO bO .nil pass0 (pa_cons (pv 0) (pa_cons (pe_lst (pa_cons pe_str (pa_cons pe_str (pa_cons pe_str pa_nil)))) pa_nil))) (pa_cons (pv 3) pa_nil)))))))))), ?_⟩
    refine ⟨_, rfl, _, rfl, p, 10, N, rfl, ⟨by decide, by decide⟩, hj, by omega, fun k H1 hk c1 j1 => ?_⟩
    obtain ⟨k0, k1⟩ := hk
    obtain ⟨kn, rfl⟩ := Int.eq_ofNat_of_zero_le k0
    refine ⟨_, rfl, sj_log (by omega), (show 4 ≤ sizeLine by decide), fun l1 nl1 => ?_⟩
    obtain ⟨j1', c1', ne1⟩ := draw c1 j1 nl1
    refine ⟨p, l1, _, _, rfl, upd_same, ne1, ⟨show 0 < 4 by decide, show 4 ≤ 1000 by decide⟩, j1', by omega, fun v H2 hv c2 j2 => ?_⟩
    obtain ⟨be, rfl, hbe⟩ : ∃ be : Str, v = .str be ∧ ((be = "before" ∨ be = "nothing") ∨ ∃ k, k < 10 ∧ be = sj k) := by
      simp only [List.mem_cons, List.not_mem_nil, or_false] at hv
      rcases hv with rfl | rfl | rfl | rfl
      · exact ⟨_, rfl, .inl (.inl rfl)⟩
      · exact ⟨_, rfl, .inl (.inl rfl)⟩
      · exact ⟨_, rfl, .inl (.inr rfl)⟩
      · exact ⟨_, rfl, .inr ⟨kn, by omega, rfl⟩⟩
    replace c2 := c1'.trans c2
    refine ⟨_, rfl, _, rfl, p, 14, _, rfl, ⟨by decide, by decide⟩, j2, by omega, fun m H3 hm c3 j3 => ?_⟩
    obtain ⟨m0, m1⟩ := hm
    replace c3 := c2.trans c3
    refine ⟨_, _, rfl, rfl, (show 6 ≤ sizeLine by decide), fun l2 nl2 => ?_⟩
    obtain ⟨j3', c3', ne2⟩ := draw c3 j3 nl2
    refine ⟨p, l2, _, _, rfl, upd_same, ne2, ⟨show 0 < 6 by decide, show 6 ≤ 1000 by decide⟩, j3', by omega, fun v H4 hv c4 j4 => ?_⟩
    obtain ⟨ev, rfl, hev⟩ : ∃ ev : Nat, v = .int ev ∧ (1 ≤ ev ∧ ev ≤ 14) := by
      obtain ⟨mn, rfl⟩ := Int.eq_ofNat_of_zero_le m0
      simp only [List.mem_cons, List.not_mem_nil, or_false] at hv
      rcases hv with rfl | rfl | rfl | rfl | rfl | rfl
      · exact ⟨1, rfl, by decide, by decide⟩
      · exact ⟨2, rfl, by decide, by decide⟩
      · exact ⟨3, rfl, by decide, by decide⟩
      · exact ⟨4, rfl, by decide, by decide⟩
      · exact ⟨14, rfl, by decide, by decide⟩
      · exact ⟨1 + mn, by rw [Int.natCast_add]; rfl, by omega, by omega⟩
    replace c4 := c3'.trans c4
    refine ⟨_, rfl, by decide, fun l3 nl3 => ?_⟩
    obtain ⟨j4', c4', ne3⟩ := draw c4 j4 nl3
    refine ⟨p, l3, _, _, rfl, upd_same, ne3, ⟨show 0 < 3 by decide, show 3 ≤ 1000 by decide⟩, j4', by omega, fun v H5 hv c5 j5 => ?_⟩
    obtain ⟨re, rfl, hre⟩ : ∃ re : Str, v = .str re ∧ re ∈ [("heads" : Str), "places", "house"] := by
      simp only [List.mem_cons, List.not_mem_nil, or_false] at hv ⊢
      rcases hv with rfl | rfl | rfl <;> exact ⟨_, rfl, by simp⟩
    replace c5 := c4'.trans c5
    refine ⟨_, rfl, _, rfl, _, rfl, by decide, fun l4 nl4 => ?_⟩
    obtain ⟨j5', c5', ne4⟩ := draw c5 j5 nl4
    refine ⟨p, l4, _, _, rfl, upd_same, ne4, ⟨show 0 < 2 by decide, show 2 ≤ 1000 by decide⟩, j5', by omega, fun v H6 hv c6 j6 => ?_⟩
    obtain ⟨la, rfl, hla⟩ : ∃ la : Str, v = .str la ∧ la ∈ [("now" : Str), "back"] := by
      simp only [List.mem_cons, List.not_mem_nil, or_false] at hv ⊢
      rcases hv with rfl | rfl <;> exact ⟨_, rfl, by simp⟩
    replace c6 := c5'.trans c6
    refine ⟨_, rfl, by decide, fun l5 nl5 => ?_⟩
    obtain ⟨j6', c6', ne5⟩ := draw c6 j6 nl5
    refine ⟨p, l5, _, _, rfl, upd_same, ne5, ⟨show 0 < 3 by decide, show 3 ≤ 1000 by decide⟩, j6', by omega, fun v H7 hv c7 j7 => ?_⟩
    obtain ⟨bl, rfl, hbl⟩ : ∃ bl : Str, v = .str bl ∧ bl ∈ [("days" : Str), "last"] := by
      simp only [List.mem_cons, List.not_mem_nil, or_false] at hv ⊢
      rcases hv with rfl | rfl | rfl <;> exact ⟨_, rfl, by simp⟩
    replace c7 := c6'.trans c7
    refine ⟨_, rfl, (show 5 ≤ sizeLine by decide), fun t nt => ?_⟩
    have eT := same_upd (o := .tup [V.int ev, .str be, .str la, .str bl, .str re]) nt
    have ntH : H t = none := by
      obtain ⟨_, _, _, hp, _⟩ := id j7
      have npt : t ≠ p := fun z => by rw [z, hp] at nt; cases nt
      cases z : H t with
      | none => rfl
      | some u => rw [c7 _ _ z npt] at nt; cases nt
    exact q _ t ⟨ev, be, la, bl, re⟩ (c7.trans (Chg.of eT)) ntH ((j7.same eT).mono (by omega)) upd_same ⟨hev, hbe, hla, hbl, hre⟩
end
end Ru
/-! the law: the text of a drawn rule, and that it says its ways -/
namespace Ru
open PySem PySem.Spec PyProof.Rows L2 Am Hs
instance : DecidableEq Way
  | .int n, .int m => if h : n = m then isTrue (by rw [h]) else isFalse fun z => h (Way.int.inj z)
  | .str x, .str y => if h : x = y then isTrue (by rw [h]) else isFalse fun z => h (Way.str.inj z)
  | .int _, .str _ => isFalse fun z => by cases z
  | .str _, .int _ => isFalse fun z => by cases z
def behW (be : Str) : Way := if be = "before" ∨ be = "nothing" then .str be else .int (Mt.num be.cps.toList).toNat
def Due.ways (d : Due) : List Way := [.int d.ev, behW d.be, .str d.la, .str d.bl, .str d.re]
/-- a line of a text: no line feed, short -/
def Ln (x : Str) : Prop := 10 ∉ x.cps.toList ∧ x.length ≤ 20 ∧ (x.cps.toList.all fun c => decide (c < 256)) = true
instance (x : Str) : Decidable (Ln x) := by unfold Ln; infer_instance
theorem w_ev {k : Nat} (h : 1 ≤ k ∧ k ≤ 14) : wayOf (("every " : Str) ++ sj k) "every" = some (.int k) ∧ Ln (("every " : Str) ++ sj k) := by
  have : ∀ k : Fin 15, 1 ≤ k.val → wayOf (("every " : Str) ++ sj k.val) "every" = some (.int k.val) ∧ Ln (("every " : Str) ++ sj k.val) := by decide +kernel
  exact this ⟨k, by omega⟩ h.1
theorem beh_cases {be : Str} (h : (be = "before" ∨ be = "nothing") ∨ ∃ k, k < 10 ∧ be = sj k) (R : Str → Prop) (h1 : R "before") (h2 : R "nothing") (h3 : ∀ k : Fin 10, R (sj k.val)) : R be := by
  rcases h with (rfl | rfl) | ⟨k, hk, rfl⟩
  · exact h1
  · exact h2
  · exact h3 ⟨k, hk⟩
theorem w_be {be : Str} (h : (be = "before" ∨ be = "nothing") ∨ ∃ k, k < 10 ∧ be = sj k) : wayOf (("behind " : Str) ++ be) "behind" = some (behW be) ∧ Ln (("behind " : Str) ++ be) :=
  beh_cases h (fun be => wayOf (("behind " : Str) ++ be) "behind" = some (behW be) ∧ Ln (("behind " : Str) ++ be)) (by decide +kernel) (by decide +kernel) (by decide +kernel)
theorem w_la : ∀ x ∈ [("now" : Str), "back"], wayOf (("late " : Str) ++ x) "late" = some (.str x) ∧ Ln (("late " : Str) ++ x) := by decide +kernel
theorem w_bl : ∀ x ∈ [("days" : Str), "last"], wayOf (("block " : Str) ++ x) "block" = some (.str x) ∧ Ln (("block " : Str) ++ x) := by decide +kernel
theorem w_re : ∀ x ∈ [("heads" : Str), "places", "house"], wayOf (("rest " : Str) ++ x) "rest" = some (.str x) ∧ Ln (("rest " : Str) ++ x) := by decide +kernel
theorem Due.Ok.ln {d : Due} (h : d.Ok) : ∀ l ∈ d.lines, Ln l := by
  intro l hl
  unfold Due.lines at hl
  simp only [List.mem_cons, List.not_mem_nil, or_false] at hl
  rcases hl with rfl | rfl | rfl | rfl | rfl
  · exact (w_ev h.ev).2
  · exact (w_be h.be).2
  · exact (w_la _ h.la).2
  · exact (w_bl _ h.bl).2
  · exact (w_re _ h.re).2
theorem Due.Ok.split {d : Due} (h : d.Ok) : Txt.split d.text "\n" = d.lines := by
  unfold Due.text
  have hl := h.ln
  rw [SL.nl_10]
  unfold Due.lines at hl ⊢
  exact SL.split_join 10 _ _ (fun p hp => (hl p hp).1) (fun x => SL.kind_ge (by decide) x)
theorem Due.Ok.len {d : Due} (h : d.Ok) : d.text.length ≤ 200 := by
  have hl := h.ln
  unfold Due.text Due.lines at *
  rw [SL.join_len]
  have a0 := (hl (("every " : Str) ++ sj d.ev) (by simp)).2.1
  have a1 := (hl (("behind " : Str) ++ d.be) (by simp)).2.1
  have a2 := (hl (("late " : Str) ++ d.la) (by simp)).2.1
  have a3 := (hl (("block " : Str) ++ d.bl) (by simp)).2.1
  have a4 := (hl (("rest " : Str) ++ d.re) (by simp)).2.1
  have n1 : ("\n" : Str).length = 1 := rfl
  simp only [List.map_cons, List.map_nil, List.sum_cons, List.sum_nil, n1]
  omega
theorem Due.Ok.lo {d : Due} (h : d.Ok) : ∀ c ∈ d.text.cps.toList, c < 256 := by
  have hl := h.ln
  unfold Due.text Due.lines at *
  intro c hc
  rw [SL.join_list] at hc
  have lo : ∀ {x : Str}, Ln x → c ∈ x.cps.toList → c < 256 := fun h m => of_decide_eq_true (List.all_eq_true.mp h.2.2 c m)
  rcases List.mem_append.mp hc with z | z
  · exact lo (hl _ (List.mem_cons_self ..)) z
  · obtain ⟨p, hp, z⟩ := List.mem_flatMap.mp z
    rcases List.mem_append.mp z with z | z
    · rw [show ("\n" : Str).cps.toList = [10] from rfl] at z
      rw [List.mem_singleton.mp z]
      decide
    · exact lo (hl _ (List.mem_cons_of_mem _ hp)) z
theorem Due.Ok.says {d : Due} (h : d.Ok) : Says d.text d.ways := by
  refine ⟨by rw [h.split]; rfl, rfl, Nat.le_trans h.len (by decide), fun l hl => ?_, fun i l z hl hz => ?_⟩
  · rw [h.split] at hl
    exact Nat.le_trans (h.ln l hl).2.1 (by decide)
  · rw [h.split] at hl
    unfold Due.lines at hl
    unfold fiveW at hz
    unfold Due.ways
    match i, hl, hz with
    | 0, hl, hz => cases hl; cases hz; exact ⟨_, rfl, (w_ev h.ev).1⟩
    | 1, hl, hz => cases hl; cases hz; exact ⟨_, rfl, (w_be h.be).1⟩
    | 2, hl, hz => cases hl; cases hz; exact ⟨_, rfl, (w_la _ h.la).1⟩
    | 3, hl, hz => cases hl; cases hz; exact ⟨_, rfl, (w_bl _ h.bl).1⟩
    | 4, hl, hz => cases hl; cases hz; exact ⟨_, rfl, (w_re _ h.re).1⟩
    | n + 5, hl, _ => simp at hl
def spRuleText : Sp := fun vs H Q _ => ∃ (t : Addr) (d : Due), vs = [.ref t] ∧ DueAt H t d ∧ d.Ok ∧ ∀ H', Same H H' → Q (.str d.text) H'
section
variable {P : Program} {w : World} {K : PySem.W.Frag} {mg : Str → Option Value} {base : Heap}
theorem scRuleText : FnScope ["_law_rule_here", "_law_words"] ["_law_rule_here"] (defScope sL_rule_text) := ⟨rfl, rfl, rfl, by decide +kernel, rfl, by decide +kernel, by decide +kernel⟩
theorem ok_ruleText {f : Addr} {fd : FuncData} (F : Fun K "_law_rule_text" "_law_rule_text" sL_rule_text f fd) (nst : mg "str" = none) : FnOk P w K mg base CX0 1 f fd ["_law_rule_here"] spRuleText := by
  refine F.ok scRuleText (fun vs H Q E h => ?_) (fun cdv A outer s H vs Q E hr h => ?_)
  · obtain ⟨t, d, rfl, _⟩ := h
    rfl
  · obtain ⟨t, d, rfl, ht, ok, q⟩ := h
    have b_str : bootBuiltins "str" = some (.type "str") := by decide +kernel
    refine ⟨_, pss_cons (ps_set (i := 1) scRuleText.nd rfl (.inl rfl) (pe_lst (pa_cons (pe_op op_add_str pe_str (pe_callTy call_str_int (by rfl) nst b_str (pa_cons (pe_ix ix_tup (pv 0) pe_int (fun _ _ => rfl)) pa_nil)))
        (pa_cons (pe_op op_add_str pe_str (pe_ix ix_tup (pv 0) pe_int (fun _ _ => rfl))) (pa_cons (pe_op op_add_str pe_str (pe_ix ix_tup (pv 0) pe_int (fun _ _ => rfl))) (pa_cons (pe_op op_add_str pe_str (pe_ix ix_tup (pv 0) pe_int (fun _ _ => rfl))) (pa_cons (pe_op op_add_str pe_str (pe_ix ix_tup (pv 0) pe_int (fun _ _ => rfl))) pa_nil)))))))
      (pss_one (ps_ret (pe_join pe_str (pv 1)))), ?_⟩
    have ln := ok.ln
    unfold Due.lines at ln
    have big : ∀ {x y : Str}, Ln (x ++ y) → x.length + y.length ≤ sizeLine := fun h => by
      have := h.2.1
      rw [strLen_append] at this
      exact Nat.le_trans (show _ ≤ 20 by omega) (by decide)
    have dev := ok.ev
    refine ⟨_, rfl, t, _, _, _, rfl, rfl, SqT.of ht, rfl, _, rfl, sj_log (by omega), _, _, rfl, rfl, big (ln _ (List.mem_cons_self ..)), ?_⟩
    refine ⟨_, rfl, t, _, _, _, rfl, rfl, SqT.of ht, rfl, _, _, rfl, rfl, big (ln _ (by simp)), ?_⟩
    refine ⟨_, rfl, t, _, _, _, rfl, rfl, SqT.of ht, rfl, _, _, rfl, rfl, big (ln _ (by simp)), ?_⟩
    refine ⟨_, rfl, t, _, _, _, rfl, rfl, SqT.of ht, rfl, _, _, rfl, rfl, big (ln _ (by simp)), ?_⟩
    refine ⟨_, rfl, t, _, _, _, rfl, rfl, SqT.of ht, rfl, _, _, rfl, rfl, big (ln _ (by simp)), (show 5 ≤ sizeLine by decide), fun l nl => ?_⟩
    refine ⟨⟨_, rfl⟩, _, rfl, _, l, d.lines, rfl, rfl, .inl (SqL.of upd_same), ?_, q _ (same_upd nl)⟩
    have a0 := (ln (("every " : Str) ++ sj d.ev) (by simp)).2.1
    have a1 := (ln (("behind " : Str) ++ d.be) (by simp)).2.1
    have a2 := (ln (("late " : Str) ++ d.la) (by simp)).2.1
    have a3 := (ln (("block " : Str) ++ d.bl) (by simp)).2.1
    have a4 := (ln (("rest " : Str) ++ d.re) (by simp)).2.1
    have n1 : ("\n" : Str).length = 1 := rfl
    unfold Due.lines
    simp only [List.map_cons, List.map_nil, List.sum_cons, List.sum_nil, n1, List.length_cons, List.length_nil]
    omega
end
end Ru
/-! the law: the runs of rules -/
namespace Ru
open PySem PySem.Spec PyProof.Rows L2 Am Hs
def runsD (e n : Nat) : PyData := .tuple ((runsOf e n).map fun k : Nat => PyData.int k)
theorem runsD_ok {e n : Nat} (e1 : 1 ≤ e) (e14 : e ≤ 14) (n1 : 1 ≤ n) (n14 : n ≤ 14) : (runsD e n).showable = true ∧ (runsD e n).hasDict = false ∧ (runsD e n).depth ≤ 60 ∧ (runsD e n).shown.length ≤ 1000 := by
  have : ∀ e n : Fin 15, 1 ≤ e.val → 1 ≤ n.val → (runsD e.val n.val).showable = true ∧ (runsD e.val n.val).hasDict = false ∧ (runsD e.val n.val).depth ≤ 60 ∧ (runsD e.val n.val).shown.length ≤ 1000 := by decide +kernel
  exact this ⟨e, by omega⟩ ⟨n, by omega⟩ e1 n1
theorem runs_due {e n : Nat} (e1 : 1 ≤ e) (e14 : e ≤ 14) (n1 : 1 ≤ n) (n14 : n ≤ 14) : ((List.range (n - 1)).map (· + 1)).filter (fun m => decide (m % e = 0)) ++ [n] = runsOf e n := by
  have : ∀ e n : Fin 15, 1 ≤ e.val → 1 ≤ n.val → ((List.range (n.val - 1)).map (· + 1)).filter (fun m => decide (m % e.val = 0)) ++ [n.val] = runsOf e.val n.val := by decide +kernel
  exact this ⟨e, by omega⟩ ⟨n, by omega⟩ e1 n1
theorem dp_ints {K : PySem.W.Frag} {H : Hp} : ∀ xs : List Nat, DpAll K H (xs.map fun k : Nat => V.int k) (xs.map fun k : Nat => PyData.int k)
  | [] => .nil
  | x :: xs => .cons (.int x) (dp_ints xs)
/-- the making of a rule -/
def GotR (P : Program) (w : World) (K : PySem.W.Frag) (mg : Str → Option Value) (base : Heap) (C : Addr) : Prop :=
  ∃ (f : Addr) (fd : FuncData), FnOk P w K mg base CX0 4 f fd ["self", "text"] (spRInit C) ∧ Binds K fd ["self", "text"] [] ∧ Mk K C f
/-- the making of a house -/
def GotH (P : Program) (w : World) (K : PySem.W.Frag) (mg : Str → Option Value) (base : Heap) (C : Addr) : Prop :=
  ∃ (f : Addr) (fd : FuncData), FnOk P w K mg base CX0 5 f fd ["self", "text"] (spHInit C) ∧ Binds K fd ["self", "text"] [] ∧ Mk K C f
def GotD (P : Program) (w : World) (K : PySem.W.Frag) (mg : Str → Option Value) (base : Heap) (C : Addr) (x : Str) (k : Nat) (ps : List Str) (sp : Sp) : Prop :=
  ∃ (f : Addr) (fd : FuncData), FnOk P w K mg base CX0 k f fd ps sp ∧ Binds K fd ps [] ∧ Meth K C x f
def GotG (P : Program) (w : World) (K : PySem.W.Frag) (mg : Str → Option Value) (base : Heap) (x : Str) (k : Nat) (ps : List Str) (sp : Sp) : Prop :=
  ∃ (f : Addr) (fd : FuncData), Gu.FnG P w K mg base CX0 k f fd ps sp ∧ Binds K fd ps [] ∧ mg x = some (.ref f) ∧ PySem.W.keepIn K (.ref f) = true
theorem rfs_runs (x : Str) (a b c d e : V) : (rfs x a b c d e).lookup ("runs" : Str) = none := by
  unfold rfs
  simp only [lookup_putF, if_neg (show ¬ (("runs" : Str) = "rest") by decide +kernel), if_neg (show ¬ (("runs" : Str) = "block") by decide +kernel), if_neg (show ¬ (("runs" : Str) = "late") by decide +kernel), if_neg (show ¬ (("runs" : Str) = "behind") by decide +kernel), if_neg (show ¬ (("runs" : Str) = "every") by decide +kernel), if_neg (show ¬ (("runs" : Str) = "_text") by decide +kernel)]
  rfl
def spRight : Sp := fun vs H Q _ => ∃ (p : Addr) (N : Int), vs = [.ref p] ∧ JarAt H p N ∧ N ≤ 1000 ∧ ∀ H', Chg p H H' → JarAt H' p (N + 310) → Q (.bl true) H'
section
variable {P : Program} {w : World} {K : PySem.W.Frag} {mg : Str → Option Value} {base : Heap} {C D : Addr}
theorem scRight : FnScope ["_law_jar_here", "_law_rule_here", "_law_made", "_law_lap", "_law_town_here", "_law_due", "_law_morning"] ["_law_jar_here"] (defScope sL_right) := ⟨rfl, rfl, rfl, by decide +kernel, rfl, by decide +kernel, by decide +kernel⟩
theorem ok_right {f : Addr} {fd : FuncData} (F : Fun K "_law_right" "_law_right" sL_right f fd) (T : Nm mg) (nt : mg "tuple" = none) (rc : RuC K C) (mR : mg "Rule" = some (.ref C)) (mH : mg "House" = some (.ref D)) (GR : GotR P w K mg base C) (GH : GotH P w K mg base D)
    (GM : GotD P w K mg base C "runs" 1 ["self", "house"] (spRuns C D)) (GU : GotF P w K mg base "_law_rule" 3 ["_law_jar_here"] spRule) (GX : GotF P w K mg base "_law_rule_text" 1 ["_law_rule_here"] spRuleText)
    (GW : GotF P w K mg base "_law_town" 4 ["_law_jar_here", "_law_most"] spTown) (GY : GotF P w K mg base "_law_house_text" 1 ["_law_town_here"] spHouseText) : Gu.FnG P w K mg base CX0 7 f fd ["_law_jar_here"] spRight := by
  obtain ⟨fR, fdR, GR, bR, MkR⟩ := GR
  obtain ⟨fH, fdH, GH, bH, MkH⟩ := GH
  obtain ⟨fM, fdM, GM, bM, kM⟩ := GM
  obtain ⟨fU, fdU, GU, bU, mU, kU⟩ := GU
  obtain ⟨fX, fdX, GX, bX, mX, kX⟩ := GX
  obtain ⟨fW, fdW, GW, bW, mW, kW⟩ := GW
  obtain ⟨fY, fdY, GY, bY, mY, kY⟩ := GY
  refine Gu.okG0 F scRight (fun vs H Q E h => ?_) (fun cdv A outer s H vs Q E free hr h => ?_)
  · obtain ⟨p, N, rfl, _⟩ := h
    rfl
  · obtain ⟨p, N, rfl, hj, hN, q⟩ := h
    have hr5 : Room 5 _ := hr.mono (by decide)
    have hr4 : Room 4 _ := hr.mono (by decide)
    have hr3 : Room 3 _ := hr.mono (by decide)
    have hr1 : Room 1 _ := hr.mono (by decide)
    have hu := hu_of hr
    refine ⟨_, (pss_cons (ps_set (i := 1) scRight.nd rfl (.inr rfl) (pe_call GU hr3 (by rfl) mU kU bU .nil pass0 (pa_cons (pv 0) pa_nil)))
      (pss_cons (ps_set (i := 2) scRight.nd rfl (.inl rfl) (pe_make MkR GR hr5 (by rfl) mR bR .nil pass0 (pa_cons (pe_call GX hr1 (by rfl) mX kX bX .nil pass0 (pa_cons (pv 1) pa_nil)) pa_nil)))
      (pss_cons (ps_for PassesOwn.never rfl (pi_range1 (by rfl) T.range (pa_cons pe_int pa_nil)) (pg_name (i := 3) scRight.nd rfl (.inl rfl)) (pss_cons (ps_set (i := 4) scRight.nd rfl (.inl rfl) (pe_call GW hr4 (by rfl) mW kW bW .nil pass0 (pa_cons (pv 0) (pa_cons pe_int pa_nil))))
      (pss_cons (ps_set (i := 5) scRight.nd rfl (.inl rfl) (pe_op op_cat (pe_lc (own := [("_law_morning", 6)]) (g := gName 6) rfl scRight.nd (pi_range2 (by rfl) T.range (pa_cons pe_int (pa_cons (pe_dget hu (pv 4) pe_str (fun _ _ => rfl)) pa_nil)))
          (blkOk_by (N := ["_law_jar_here", "_law_rule_here", "_law_made", "_law_lap", "_law_town_here", "_law_due", "_law_morning"]) (sc := defScope sL_right) (by decide +kernel)) (fun _ _ _ _ _ => (pg_name (i := 6) scRight.nd rfl (.inl rfl))) (fun _ _ _ _ _ => (pts_one (pt_cmpR op_eq (pe_op op_mod (pv 6) (pe_ix (r := rIxT K) ixT (pv 1) pe_int (fun _ _ => rfl))) pe_int (nomark _)))) (fun _ _ _ _ _ => (pv 6))) (pe_lst (pa_cons (pe_dget hu (pv 4) pe_str (fun _ _ => rfl)) pa_nil))))
      (pss_one (ps_if (pt_cmpR op_ne (pe_callB (Gu.call_reprD free hr.units) (by rfl) T.repr b_repr (pa_cons (pe_meth (pv 2) rc.cl kM GM hr1 bM .nil pass0 (pa_cons (pe_make MkH GH hr (by rfl) mH bH .nil pass0 (pa_cons (pe_call GY hr1 (by rfl) mY kY bY .nil pass0 (pa_cons (pv 4) pa_nil)) pa_nil)) pa_nil)) pa_nil)) (pe_callB (Gu.call_reprD free hr.units) (by rfl) T.repr b_repr (pa_cons (pe_tupleOf (by rfl) nt (pv 5)) pa_nil)) (nomark _)) (pss_one (ps_ret pe_bl)) pss_nil)))))
      (pss_one (ps_ret pe_bl))))), ?_⟩
    refine ⟨_, rfl, p, N, rfl, hj, by omega, fun H1 tt du c1 ntt j1 hdu ok => ?_⟩
    refine ⟨_, rfl, tt, du, rfl, hdu, ok, fun H2 e2 => ?_⟩
    intro r dx nr ndx nrd
    refine ⟨r, dx, du.text, _, _, _, _, _, rfl, upd_same, ok.says, fun H3 f3 hr3 => ⟨rfl, ?_⟩⟩
    have e3 := e2.trans (mk_same nr ndx nrd f3)
    have hdu3 : DueAt H3 tt du := e3 _ _ hdu
    have c3 := c1.trans (Chg.of e3)
    have j3 := j1.same e3
    have e14 := ok.ev
    obtain ⟨dx3, or3⟩ := id hr3
    refine ⟨3, rfl, by decide, by decide, ?_⟩
    refine for_it (walk_range0 (n := (3 : Int).toNat)) (fun i σ H' => ∃ (s3 s4 s5 s6 : Option V), σ = [some (.ref p), some (.ref tt), some (.ref r), s3, s4, s5, s6] ∧ Chg p H H' ∧ JarAt H' p (N + 7 + 100 * i) ∧ DueAt H' tt du ∧ RuleAt C H' r du.text (.int du.ev) (behW du.be) (.str du.la) (.str du.bl) (.str du.re)) ?_ (fun _ _ _ _ _ => trivial) ?_ ?_
    · exact ⟨_, _, _, _, rfl, c3, j3.mono (by omega), hdu3, hr3⟩
    · rintro i v σ G1 G2 hi ⟨s3, s4, s5, s6, rfl, k1, k2, k3, k4⟩ ⟨rfl, rfl⟩
      have hi' : i < 3 := hi
      refine ⟨_, rfl, p, 14, _, rfl, ⟨by decide, by decide⟩, k2, by omega, fun H5 d L c5 nd j5 hd va => ?_⟩
      obtain ⟨_, _, _, hp2, _⟩ := id k2
      have hdu5 : DueAt H5 tt du := c5 _ _ k3 (ne_of k3 hp2 (by intro z; cases z))
      have hr5 : RuleAt C H5 r du.text (.int du.ev) (behW du.be) (.str du.la) (.str du.bl) (.str du.re) := by
        obtain ⟨dy, z⟩ := k4
        exact ⟨dy, c5 _ _ z (ne_of z hp2 (by intro y; cases y))⟩
      have k15 := k1.trans c5
      obtain ⟨lt, lp, ls, hdd, _⟩ := id hd
      have d14 := va.d
      refine ⟨_, rfl, d, _, rfl, .inl ⟨_, .inr "days", .inl hdd, rfl, rfl⟩, 1, L.days, rfl, ⟨by decide, by decide, by omega, by omega⟩, fun D2 nD2 => ?_⟩
      have em : ((L.days : Int) - 1).toNat = L.days - 1 := by omega
      rw [em]
      refine lc_it (walk_range (lo := 1) (n := L.days - 1)) (Pv := fun i H' => Same H5 H' ∧ H' D2 = some (.lst ((((List.range i).map (· + 1)).filter (fun m => decide (m % du.ev = 0))).map fun k : Nat => V.int k))) ⟨same_upd nD2, upd_same⟩ (fun _ _ _ _ => trivial) ?_ ?_
      · rintro m v G3 G4 hm ⟨z1, z2⟩ ⟨rfl, rfl⟩
        refine ⟨rfl, _, rfl, _, rfl, tt, _, _, _, rfl, rfl, SqT.of (z1 _ _ hdu5), rfl, _, _, rfl, rfl, by omega, rfl, _, rfl, ?_⟩
        rw [Hs.int_eq]
        have em2 : (1 + (m : Int)) % (du.ev : Int) = (((m + 1) % du.ev : Nat) : Int) := by
          rw [Int.natCast_emod]
          congr 1
          omega
        have ed : decide ((1 + (m : Int)) % (du.ev : Int) = 0) = decide ((m + 1) % du.ev = 0) := by
          rw [em2]
          exact decide_eq_decide.mpr ⟨fun z => by omega, fun z => by omega⟩
        have rg : (List.range (m + 1)).map (· + 1) = (List.range m).map (· + 1) ++ [m + 1] := by rw [List.range_succ, List.map_append]; rfl
        show if (decide ((1 + (m : Int)) % (du.ev : Int) = 0)) = true then _ else _
        rw [ed]
        cases hd2 : decide ((m + 1) % du.ev = 0) with
        | true =>
          refine iteT ⟨_, rfl, _, z2, ?_, fun b u e => ?_, ?_⟩
          · rw [List.length_map]
            refine Nat.lt_of_le_of_lt (List.length_filter_le _ _) ?_
            rw [List.length_map, List.length_range]
            exact Nat.lt_of_lt_of_le hm (Nat.le_trans (show L.days - 1 ≤ 14 by omega) (by decide))
          · rw [upd_ne (ne_of_none e nD2)]
            exact z1 _ _ e
          · rw [upd_same, rg, List.filter_append, List.map_append]
            simp [hd2]
            omega
        | false =>
          refine iteF ⟨z1, ?_⟩
          rw [z2, rg, List.filter_append]
          simp [hd2]
      · rintro G3 ⟨z1, z2⟩
        refine ⟨_, rfl, d, _, rfl, .inl ⟨_, .inr "days", .inl (z1 _ _ hdd), rfl, rfl⟩, (show 1 ≤ sizeLine by decide), fun l1 nl1 => ?_⟩
        have e6 := same_upd (o := .lst [V.int L.days]) nl1
        refine ⟨D2, l1, _, _, rfl, rfl, e6 _ _ z2, upd_same, ?_, fun l2 nl2 => ?_⟩
        · rw [List.length_map]
          refine Nat.le_trans (Nat.add_le_add_right (List.length_filter_le _ _) _) ?_
          rw [List.length_map, List.length_range]
          exact Nat.le_trans (show L.days - 1 + 1 ≤ 14 by omega) (by decide)
        have eqr : ((((List.range (L.days - 1)).map (· + 1)).filter (fun m => decide (m % du.ev = 0))).map fun k : Nat => V.int k) ++ [V.int L.days] = (runsOf du.ev L.days).map fun k : Nat => V.int k := by
          rw [← runs_due e14.1 e14.2 d14.1 d14.2, List.map_append]
          rfl
        rw [eqr]
        have e7 := same_upd (o := .lst ((runsOf du.ev L.days).map fun k : Nat => V.int k)) nl2
        have ol2 := upd_same (H := upd G3 l1 (.lst [V.int L.days])) (a := l2) (o := .lst ((runsOf du.ev L.days).map fun k : Nat => V.int k))
        have s57 := (z1.trans e6).trans e7
        generalize upd (upd G3 l1 (.lst [V.int L.days])) l2 (.lst ((runsOf du.ev L.days).map fun k : Nat => V.int k)) = H7 at *
        have hr7 := hr5.same s57
        have hdu7 : DueAt H7 tt du := s57 _ _ hdu5
        have hd7 := hd.same s57
        have k17 := k15.trans (Chg.of s57)
        have j7 := j5.same s57
        clear e6 e7 z1 z2 nl1 nl2 eqr
        obtain ⟨dx7, or7⟩ := id hr7
        refine ⟨_, rfl, r, dx7, _, rfl, or7, rfs_runs _ _ _ _ _ _, _, rfl, d, L, rfl, hd7, va, fun H8 e8 => ?_⟩
        intro h dh nh ndh nhd
        refine ⟨h, dh, pageOf L, L, rfl, upd_same, va.told, fun H9 f9 hh9 => ⟨rfl, ?_⟩⟩
        have e9 := e8.trans (mk_same nh ndh nhd f9)
        have hr9 := hr7.same e9
        refine ⟨r, h, du.text, pageOf L, du.ev, _, _, _, _, L, rfl, hr9, hh9, e14, d14, fun H10 t e10 nt ht => ?_⟩
        have e710 := e9.trans e10
        obtain ⟨o1, o2, o3, o4⟩ := runsD_ok e14.1 e14.2 d14.1 d14.2
        have o4' : (runsD du.ev L.days).shown.length ≤ sizeLine := Nat.le_trans o4 (by decide)
        refine ⟨t, runsD du.ev L.days, rfl, .tup (SqT.of ht) (dp_ints _), o1, o2, o3, o4', _, rfl, .inl ⟨l2, _, rfl, SqL.of (e710 _ _ ol2), fun t2 nt2 => ?_⟩⟩
        have e11 := same_upd (o := .tup ((runsOf du.ev L.days).map fun k : Nat => V.int k)) nt2
        refine ⟨t2, runsD du.ev L.days, rfl, .tup (SqT.of upd_same) (dp_ints _), o1, o2, o3, o4', rfl, _, rfl, ?_⟩
        rw [show (!decide (V.str (runsD du.ev L.days).shown = V.str (runsD du.ev L.days).shown)) = false by simp]
        have e711 := e710.trans e11
        exact iteF ⟨_, _, _, _, rfl, k17.trans (Chg.of e711), (j7.same e711).mono (by omega), e711 _ _ hdu7, hr7.same e711⟩
    · rintro σ G1 ⟨s3, s4, s5, s6, rfl, k1, k2, k3, k4⟩
      exact q G1 k1 (k2.mono (by omega))
end
end Ru
namespace Ru
open PySem PySem.Spec PyProof.Rows L2 Am Hs
/-- jars, each fresh and of its own -/
def Jars (H : Hp) (ps : List Addr) (N : Int) : Prop := ps.Nodup ∧ ∀ p ∈ ps, JarAt H p N
theorem Jars.same {H H' : Hp} {ps : List Addr} {N : Int} (h : Jars H ps N) (e : Same H H') : Jars H' ps N := ⟨h.1, fun p hp => (h.2 p hp).same e⟩
theorem Jars.snoc {H H' : Hp} {ps : List Addr} {p : Addr} {N : Int} (h : Jars H ps N) (e : Same H H') (np : H p = none) (j : JarAt H' p N) : Jars H' (ps ++ [p]) N := by
  refine ⟨?_, fun q hq => ?_⟩
  · rw [List.nodup_append]
    refine ⟨h.1, by simp, fun a ha b hb z => ?_⟩
    rw [List.mem_singleton.mp hb] at z
    obtain ⟨_, _, _, hp, _⟩ := h.2 a ha
    rw [z, np] at hp
    cases hp
  · rcases List.mem_append.mp hq with hq | hq
    · exact (h.2 q hq).same e
    · rw [List.mem_singleton.mp hq]
      exact j
def spLaw (K : PySem.W.Frag) : Sp := fun vs H Q _ => ∃ (a : Addr) (ns : List Int), vs = [.ref a] ∧ SqL K H a (ns.map V.int) ∧ ns.length ≤ 63 ∧ ∀ H', Q (.bl true) H'
section
variable {P : Program} {w : World} {K : PySem.W.Frag} {mg : Str → Option Value} {base : Heap} {C : Addr}
theorem scLaw : FnScope ["_law_script", "_law_k", "_law_jar_here", "_law_jars"] ["_law_script"] (defScope sLaw) := ⟨rfl, rfl, rfl, by decide +kernel, rfl, by decide +kernel, by decide +kernel⟩
theorem ok_law {f : Addr} {fd : FuncData} (F : Fun K "law" "law" sLaw f fd) (T : Nm mg) (GJ : GotF P w K mg base "_law_jar" 1 ["_law_script", "_law_k"] (spJar K)) (GR : GotG P w K mg base "_law_right" 7 ["_law_jar_here"] spRight) : Gu.FnG P w K mg base CX0 8 f fd ["_law_script"] (spLaw K) := by
  obtain ⟨fJ, dJ, GJ, bJ, mJ, kJ⟩ := GJ
  obtain ⟨fR, dR, GR, bR, mR, kR⟩ := GR
  refine Gu.okG0 F scLaw (fun vs H Q E h => ?_) (fun cdv A outer s H vs Q E free hr h => ?_)
  · obtain ⟨a, ns, rfl, _⟩ := h
    rfl
  · obtain ⟨a, ns, rfl, hS, hl, q⟩ := h
    have hr1 : Room 1 _ := hr.mono (by decide)
    refine ⟨_, (pss_cons (ps_setLc (i := 3) (own := [("_law_k", 1)]) (g := gName 1) (tt := tYes) rfl scLaw.nd rfl rfl rfl (pi_range1 (by rfl) T.range (pa_cons (pe_callB (call_max2 rfl) (by rfl) T.max b_max (pa_cons pe_int (pa_cons (pe_callB (call_min2 rfl) (by rfl) T.min b_min (pa_cons pe_int (pa_cons (pe_callB call_len_seq (by rfl) T.len PySem.boot_len (pa_cons (pv 0) pa_nil)) pa_nil))) pa_nil))) pa_nil))
          (blkOk_by (N := ["_law_script", "_law_k", "_law_jar_here", "_law_jars"]) (sc := defScope sLaw) (by decide +kernel)) (fun _ _ _ _ _ => (pg_name (i := 1) scLaw.nd rfl (.inl rfl))) (fun _ _ _ _ _ => pts_nil) (fun _ _ _ _ _ => (pe_call GJ hr1 (by rfl) mJ kJ bJ .nil pass0 (pa_cons (pv 0) (pa_cons (pv 1) pa_nil)))))
      (pss_one (ps_ret (pe_callB (cr_all rfl) (by rfl) T.all b_all (pa_cons (pe_lc (own := [("_law_jar_here", 2)]) (g := gName 2) (tt := tYes) rfl scLaw.nd (pi_list (pe_op op_rep (pv 3) pe_int))
          (blkOk_by (N := ["_law_script", "_law_k", "_law_jar_here", "_law_jars"]) (sc := defScope sLaw) (by decide +kernel)) (fun _ _ _ _ _ => (pg_name (i := 2) scLaw.nd rfl (.inl rfl))) (fun _ _ _ _ _ => pts_nil) (fun _ _ _ _ _ => (Gu.pe_callG GR free hr (by rfl) mR kR bR pass0 (pa_cons (pv 2) pa_nil)))) pa_nil))))), ?_⟩
    have bnd : ∀ m : Nat, m ≤ 63 → (if (if ((m : Int) < 6) then (m : Int) else 6) > 1 then (if ((m : Int) < 6) then (m : Int) else 6) else 1 : Int) ≤ 6 ∧ 1 ≤ (if (if ((m : Int) < 6) then (m : Int) else 6) > 1 then (if ((m : Int) < 6) then (m : Int) else 6) else 1 : Int) := by
      intro m hm
      split <;> split <;> omega
    have bb := bnd (ns.map V.int).length (by rw [List.length_map]; exact hl)
    refine ⟨_, rfl, a, _, rfl, .inl hS, _, _, rfl, _, _, rfl, _, rfl, by omega, by omega, ?_⟩
    generalize (if (if (((ns.map V.int).length : Int) < 6) then ((ns.map V.int).length : Int) else 6) > 1 then (if (((ns.map V.int).length : Int) < 6) then ((ns.map V.int).length : Int) else 6) else 1 : Int) = m at bb ⊢
    intro D nD
    refine lc_range (lo := 0) (n := m.toNat) (fun i H' => Same H H' ∧ ∃ ps : List Addr, H' D = some (.lst (ps.map V.ref)) ∧ Jars H' ps 0 ∧ ps.length = i) ⟨same_upd nD, [], upd_same, ⟨by simp, fun _ h => absurd h List.not_mem_nil⟩, rfl⟩ ?_ ?_
    · rintro i H1 hi ⟨s1, ps, h1, js, lps⟩
      refine ⟨rfl, ?_⟩
      unfold tYes
      refine iteT ⟨_, rfl, _, rfl, a, ns, _, rfl, s1.seq hS, by omega, by omega, fun p H2 s2 np jj => ?_⟩
      have h2 := s2 _ _ h1
      refine ⟨_, h2, ?_, fun b u e => ?_, ps ++ [p], ?_, ?_, ?_⟩
      · rw [List.length_map, lps]
        exact Nat.lt_of_lt_of_le hi (Nat.le_trans (show m.toNat ≤ 6 by omega) (by decide))
      · rw [upd_ne (ne_of_none e nD)]
        exact s2 _ _ (s1 _ _ e)
      · rw [upd_same, List.map_append]
        rfl
      · obtain ⟨nd, ja⟩ := js.snoc s2 np jj
        refine ⟨nd, fun q hq => ?_⟩
        obtain ⟨o, mm, c, hp, r⟩ := ja q hq
        refine ⟨o, mm, c, ?_, r⟩
        rw [upd_ne ?_]
        · exact hp
        · rintro rfl
          rw [h2] at hp
          have := HO.lst.inj (Option.some.inj hp)
          cases ps with
          | nil => cases this
          | cons _ _ => cases this
      · rw [List.length_append, lps]
        rfl
    · rintro H1 ⟨s1, ps, h1, js, lps⟩
      have Dp : D ∉ ps := fun z => by
        obtain ⟨o, mm, c, hp, r⟩ := js.2 D z
        rw [h1] at hp
        have := HO.lst.inj (Option.some.inj hp)
        cases ps with
        | nil => cases this
        | cons _ _ => cases this
      refine ⟨_, rfl, D, 2, _, rfl, rfl, h1, by decide, by decide, ?_, fun E2 nE2 => ?_⟩
      · rw [List.length_map]
        exact Nat.le_trans (show ps.length * 2 ≤ 12 by omega) (by decide)
      have e2l : (List.replicate (2 : Int).toNat (ps.map V.ref)).flatten = (ps ++ ps).map V.ref := by
        rw [List.map_append]
        show (ps.map V.ref) ++ ((ps.map V.ref) ++ []) = _
        rw [List.append_nil]
      rw [e2l]
      have eE := same_upd (o := .lst ((ps ++ ps).map V.ref)) nE2
      have hE := upd_same (H := H1) (a := E2) (o := .lst ((ps ++ ps).map V.ref))
      have js2 := js.same eE
      have h12 := eE _ _ h1
      generalize upd H1 E2 (.lst ((ps ++ ps).map V.ref)) = H2 at *
      have Ep : E2 ∉ ps := fun z => by
        obtain ⟨o, mm, c, hp, r⟩ := js2.2 E2 z
        rw [hE] at hp
        have := HO.lst.inj (Option.some.inj hp)
        cases ps with
        | nil => cases this
        | cons _ _ => cases this
      refine ⟨E2, rfl, ⟨_, SqL.of hE⟩, fun D2 nD2 => ?_⟩
      have nl : ps.length ≤ 6 := by omega
      refine lc_it (walk_list (xs := (ps ++ ps).map V.ref)) (Pv := fun i H' => H' E2 = some (.lst ((ps ++ ps).map V.ref)) ∧ H' D2 = some (.lst ((List.replicate i true).map V.bl)) ∧ ∀ j p, ps[j]? = some p → JarAt H' p (if i ≤ j then 0 else if i ≤ j + ps.length then 310 else 620))
        ⟨same_upd nD2 _ _ hE, upd_same, fun j p hj => ?_⟩ (fun i H' _ hh => SqL.of hh.1) ?_ ?_
      · rw [if_pos (Nat.zero_le _)]
        exact (js2.2 p (List.mem_of_getElem? hj)).same (same_upd nD2)
      · rintro i v G1 G2 hi ⟨d1, d2, jr⟩ ⟨rfl, hv⟩
        have hi' : i < (ps ++ ps).length := by simpa using hi
        have hi2 : i < ps.length + ps.length := by simpa using hi'
        obtain ⟨k, hk, hik, hv2⟩ : ∃ k, ∃ hk : k < ps.length, (i = k ∨ i = k + ps.length) ∧ (ps ++ ps)[i] = ps[k] := by
          by_cases z : i < ps.length
          · exact ⟨i, z, .inl rfl, by rw [List.getElem_append_left z]⟩
          · exact ⟨i - ps.length, by omega, .inr (by omega), by rw [List.getElem_append_right (by omega)]⟩
        obtain rfl : v = .ref ps[k] := by
          replace hv : ((ps ++ ps).map V.ref)[i]? = some v := hv
          rw [List.getElem?_map, List.getElem?_eq_getElem hi'] at hv
          rw [← hv2]
          exact (Option.some.inj hv).symm
        have jk := jr k _ (List.getElem?_eq_getElem hk)
        have ne : ∀ {b : Addr} {bs : List Bool}, G2 b = some (.lst (bs.map V.bl)) → b ≠ ps[k] := fun {b bs} hb z => by
          obtain ⟨o, mm, c, hp, r⟩ := jk
          rw [z, hp] at hb
          have := HO.lst.inj (Option.some.inj hb)
          cases bs with
          | nil => cases this
          | cons _ _ => cases this
        refine ⟨rfl, ?_⟩
        unfold tYes
        refine iteT ⟨_, rfl, ps[k], _, rfl, jk, ?_, fun H3 c3 j3 => ?_⟩
        · split
          · decide
          · split <;> decide
        have dE : E2 ≠ ps[k] := fun z => Ep (z ▸ List.getElem_mem hk)
        have h3 := c3 _ _ d2 (ne d2)
        have nED : E2 ≠ D2 := ne_of_none hE nD2
        have fresh : ∀ {p : Addr} {M : Int}, JarAt H3 p M → p ≠ D2 := fun {p M} j => by
          obtain ⟨o, mm, c, hp, r⟩ := j
          rintro rfl
          rw [h3] at hp
          have := HO.lst.inj (Option.some.inj hp)
          cases i with
          | zero => cases this
          | succ n => cases this
        refine ⟨_, h3, ?_, ?_, ?_, fun j p hj => ?_⟩
        · rw [List.length_map, List.length_replicate]
          exact Nat.lt_of_lt_of_le hi2 (Nat.le_trans (show ps.length + ps.length ≤ 12 by omega) (by decide))
        · rw [upd_ne nED]
          exact c3 _ _ d1 dE
        · rw [upd_same, List.replicate_succ', List.map_append]
          rfl
        · have hj' : j < ps.length := (List.getElem?_eq_some_iff.mp hj).1
          rw [List.getElem?_eq_getElem hj'] at hj
          obtain rfl := Option.some.inj hj
          have key : JarAt H3 ps[j] (if i + 1 ≤ j then 0 else if i + 1 ≤ j + ps.length then 310 else 620) := by
            by_cases z : j = k
            · subst z
              refine j3.mono ?_
              rcases hik with h | h <;> subst h
              · rw [if_pos (Nat.le_refl _), if_neg (by omega), if_pos (by omega)]
                decide
              · rw [if_neg (by omega), if_pos (Nat.le_refl _), if_neg (by omega), if_neg (by omega)]
                decide
            · have nj : ps[j] ≠ ps[k] := fun e => by
                rcases Nat.lt_or_gt_of_ne z with h | h
                · exact List.pairwise_iff_getElem.mp js.1 j k hj' hk h e
                · exact List.pairwise_iff_getElem.mp js.1 k j hk hj' h e.symm
              obtain ⟨o, mm, c, hp, r1, r2, r3, r4⟩ := jr j _ (List.getElem?_eq_getElem hj')
              refine ⟨o, mm, c, c3 _ _ hp nj, r1, r2, r3, Int.le_trans r4 ?_⟩
              split <;> (try split) <;> (try split) <;> (try split) <;> omega
          obtain ⟨o, mm, c, hp, r⟩ := id key
          exact ⟨o, mm, c, by rw [upd_ne (fresh key)]; exact hp, r⟩
      · rintro G1 ⟨d1, d2, jr⟩
        refine ⟨D2, List.replicate (ps ++ ps).length true, rfl, SqL.of (by rw [d2, List.length_map]), ?_⟩
        rw [show (List.replicate (ps ++ ps).length true).all id = true by simp]
        exact q G1
end
end Ru
namespace Ru
open PySem PySem.Spec PyProof.Rows L2 Am Hs
/-- a def of the module as the head writes it -/
def FactF (K : PySem.W.Frag) (x : Str) (st : Stmt) : Prop := ∃ (f : Addr) (oc : Value) (od : Option Addr) (kV dc pm : Value) (an : Option Addr) (cd ct : Value) (sl : Array (Option Value)),
  PySem.W.nsIn K mainGlobals x = some (some (.ref f)) ∧ K.lookup f = some ⟨oc, od, .func (PySem.W.fnOf x x (defArgs st) (defBody st) (defScope st) .none kV dc pm an cd ct), sl⟩ ∧ PySem.W.codeIn K cd x = true ∧ PySem.W.keepIn K (.ref f) = true
theorem mkF {K : PySem.W.Frag} {x : Str} {st : Stmt} {f : Addr} {oc : Value} {od : Option Addr} {kV dc pm : Value} {an : Option Addr} {cd ct : Value} {sl : Array (Option Value)}
    (a : PySem.W.nsIn K mainGlobals x = some (some (.ref f))) (l : K.lookup f = some ⟨oc, od, .func (PySem.W.fnOf x x (defArgs st) (defBody st) (defScope st) .none kV dc pm an cd ct), sl⟩) (c : PySem.W.codeIn K cd x = true) (k : PySem.W.keepIn K (.ref f) = true) : FactF K x st :=
  ⟨f, oc, od, kV, dc, pm, an, cd, ct, sl, a, l, c, k⟩
theorem FactF.fun {K : PySem.W.Frag} {h : Heap} {mg : Str → Option Value} {x : Str} {st : Stmt} (X : K.In h) (G : h.Ns mainGlobals mg) (F : FactF K x st) : ∃ f fd, Fun K x x st f fd ∧ mg x = some (.ref f) ∧ PySem.W.keepIn K (.ref f) = true := by
  obtain ⟨f, oc, od, kV, dc, pm, an, cd, ct, sl, a, l, c, k⟩ := F
  exact ⟨f, _, fun_mk l c k, PySem.W.mg_of X G a, k⟩
/-- a method of the class -/
def FactM (K : PySem.W.Frag) (C : Addr) (x q : Str) (st : Stmt) : Prop := ∃ (f : Addr) (oc : Value) (od : Option Addr) (kV dc pm : Value) (an : Option Addr) (cd ct : Value) (sl : Array (Option Value)),
  PySem.W.findIn K (.ref C) x = some (some (.ref f)) ∧ PySem.W.isFn K (.ref f) = true ∧ K.lookup f = some ⟨oc, od, .func (PySem.W.fnOf x q (defArgs st) (defBody st) (defScope st) .none kV dc pm an cd ct), sl⟩ ∧ PySem.W.codeIn K cd q = true ∧ PySem.W.keepIn K (.ref f) = true
theorem mkM {K : PySem.W.Frag} {C : Addr} {x q : Str} {st : Stmt} {f : Addr} {oc : Value} {od : Option Addr} {kV dc pm : Value} {an : Option Addr} {cd ct : Value} {sl : Array (Option Value)}
    (a : PySem.W.findIn K (.ref C) x = some (some (.ref f))) (i : PySem.W.isFn K (.ref f) = true) (l : K.lookup f = some ⟨oc, od, .func (PySem.W.fnOf x q (defArgs st) (defBody st) (defScope st) .none kV dc pm an cd ct), sl⟩) (c : PySem.W.codeIn K cd q = true)
    (k : PySem.W.keepIn K (.ref f) = true) : FactM K C x q st := ⟨f, oc, od, kV, dc, pm, an, cd, ct, sl, a, i, l, c, k⟩
theorem FactM.meth {K : PySem.W.Frag} {C : Addr} {x q : Str} {st : Stmt} (F : FactM K C x q st) : ∃ f fd, Fun K x q st f fd ∧ PySem.W.findIn K (.ref C) x = some (some (.ref f)) ∧ PySem.W.isFn K (.ref f) = true ∧ Meth K C x f := by
  obtain ⟨f, oc, od, kV, dc, pm, an, cd, ct, sl, a, i, l, c, k⟩ := F
  exact ⟨f, _, fun_mk l c k, a, i, ⟨a, i, k⟩⟩
/-- a function that a record of the class holds -/
def FactG (K : PySem.W.Frag) (x q : Str) (st : Stmt) (g : Addr) : Prop := ∃ (oc : Value) (od : Option Addr) (kV dc pm : Value) (an : Option Addr) (cd ct : Value) (sl : Array (Option Value)),
  K.lookup g = some ⟨oc, od, .func (PySem.W.fnOf x q (defArgs st) (defBody st) (defScope st) .none kV dc pm an cd ct), sl⟩ ∧ PySem.W.codeIn K cd q = true ∧ PySem.W.keepIn K (.ref g) = true
theorem FactG.fun {K : PySem.W.Frag} {x q : Str} {st : Stmt} {g : Addr} (F : FactG K x q st g) : ∃ fd, Fun K x q st g fd := by
  obtain ⟨oc, od, kV, dc, pm, an, cd, ct, sl, l, c, k⟩ := F
  exact ⟨_, fun_mk l c k⟩
/-- a property -/
structure FactPr (K : PySem.W.Frag) (C : Addr) (x q : Str) (st : Stmt) (p g : Addr) : Prop where
  po : PropOf K C x p g
  fn : FactG K x q st g
theorem mkPr {K : PySem.W.Frag} {C p g : Addr} {x q : Str} {st : Stmt} {rest : List Value} {oc : Value} {od : Option Addr} {kV dc pm : Value} {an : Option Addr} {cd ct : Value} {sl : Array (Option Value)} (a : PySem.W.findIn K (.ref C) x = some (some (.ref p))) (b : PySem.W.specialIn K (.ref p) "__get__" = some (some (.builtin "property.__get__")))
    (c : PySem.W.takesIn K (.ref p) = some true) (d : PySem.W.recIn K p "property" = some (.ref g :: rest)) (l : K.lookup g = some ⟨oc, od, .func (PySem.W.fnOf x q (defArgs st) (defBody st) (defScope st) .none kV dc pm an cd ct), sl⟩) (e : PySem.W.codeIn K cd q = true) (k : PySem.W.keepIn K (.ref g) = true) : FactPr K C x q st p g :=
  ⟨⟨a, b, c, ⟨rest, d⟩⟩, ⟨oc, od, kV, dc, pm, an, cd, ct, sl, l, e, k⟩⟩
/-- a class that is made -/
structure FactK (K : PySem.W.Frag) (C : Addr) : Prop where
  pg : PySem.W.plainGet K C Str.empty = true
  hd : PySem.W.hasDictIn K C = true
  po : PySem.W.plainOver K C = true
  sa : PySem.W.findIn K (.ref C) "__setattr__" = some (some (.builtin "object.__setattr__"))
  mkk : PySem.W.makesIn K C = true
  kc : PySem.W.keepIn K (.ref C) = true
/-- a class with operators -/
structure FactH (K : PySem.W.Frag) (C : Addr) : Prop where
  sf : PySem.W.selfFirst K C = true
  ne : PySem.W.findIn K (.ref C) "__ne__" = some (some (.builtin "object.__ne__"))
  ob : PySem.W.mroIn K C (.type "object") = some true
  ca : PySem.W.findIn K (.ref C) "__class__" = some (some (.builtin "object.__class__"))
  cn : PySem.W.specialIn K (.builtin "object.__class__") "__get__" = some (some (.builtin "getset_descriptor.__get__"))
  ct : PySem.W.takesIn K (.builtin "object.__class__") = some true
/-- two classes, apart -/
structure FactA (K : PySem.W.Frag) (C D : Addr) : Prop where
  kD : PySem.W.kitOne K (.ref D) (.ref C) = some false
  nF : PySem.W.notFirst K C (.ref D) = true
structure FactT (K : PySem.W.Frag) (C : Addr) : Prop where
  s1 : PySem.W.subIn K (.ref C) (.type "int") = some false
  r1 : PySem.W.subIn K (.type "int") (.ref C) = some false
  k1 : PySem.W.kitOne K (.type "int") (.ref C) = some false
  s2 : PySem.W.subIn K (.ref C) (.type "bool") = some false
  r2 : PySem.W.subIn K (.type "bool") (.ref C) = some false
  k2 : PySem.W.kitOne K (.type "bool") (.ref C) = some false
  s3 : PySem.W.subIn K (.ref C) (.type "NoneType") = some false
  r3 : PySem.W.subIn K (.type "NoneType") (.ref C) = some false
  k3 : PySem.W.kitOne K (.type "NoneType") (.ref C) = some false
  s4 : PySem.W.subIn K (.ref C) (.type "str") = some false
  r4 : PySem.W.subIn K (.type "str") (.ref C) = some false
  k4 : PySem.W.kitOne K (.type "str") (.ref C) = some false
  s5 : PySem.W.subIn K (.ref C) (.type "list") = some false
  r5 : PySem.W.subIn K (.type "list") (.ref C) = some false
  k5 : PySem.W.kitOne K (.type "list") (.ref C) = some false
  s6 : PySem.W.subIn K (.ref C) (.type "tuple") = some false
  r6 : PySem.W.subIn K (.type "tuple") (.ref C) = some false
  k6 : PySem.W.kitOne K (.type "tuple") (.ref C) = some false
  s7 : PySem.W.subIn K (.ref C) (.type "dict") = some false
  r7 : PySem.W.subIn K (.type "dict") (.ref C) = some false
  k7 : PySem.W.kitOne K (.type "dict") (.ref C) = some false
  kC : PySem.W.kitOne K (.ref C) (.ref C) = some true
  kI : PySem.W.kitOne K (.ref C) (.type "int") = some false
/-- a tuple of texts that a name of the module has -/
def FactSeq (K : PySem.W.Frag) (x : Str) (ws : List Str) : Prop := ∃ (T : Addr) (o : Obj) (its : Array Value) (n : Nat), PySem.W.nsIn K mainGlobals x = some (some (.ref T)) ∧ K.lookup T = some o ∧ o.cls = .type "tuple" ∧ o.data = .seq its n ∧ its.size ≤ sizeLine ∧ Vals (ws.map V.str) its.toList
theorem mkSeq {K : PySem.W.Frag} {x : Str} {ws : List Str} {T : Addr} {o : Obj} {its : Array Value} {n : Nat} (a : PySem.W.nsIn K mainGlobals x = some (some (.ref T))) (l : K.lookup T = some o) (c : o.cls = .type "tuple") (d : o.data = .seq its n) (z : its.size ≤ sizeLine) (v : Vals (ws.map V.str) its.toList) : FactSeq K x ws := ⟨T, o, its, n, a, l, c, d, z, v⟩
theorem FactSeq.get {K : PySem.W.Frag} {h : Heap} {mg : Str → Option Value} {x : Str} {ws : List Str} (X : K.In h) (G : h.Ns mainGlobals mg) (F : FactSeq K x ws) : ∃ T, mg x = some (.ref T) ∧ ∀ H, SqT K H T (ws.map V.str) := by
  obtain ⟨T, o, its, n, a, l, c, d, z, v⟩ := F
  exact ⟨T, PySem.W.mg_of X G a, fun H => .inr ⟨o, its, n, l, c, d, z, v⟩⟩
def FactInt (K : PySem.W.Frag) (x : Str) (v : Int) : Prop := ∃ (i : Int) (t : Nat), PySem.W.nsIn K mainGlobals x = some (some (.int i t)) ∧ i = v
theorem mkInt {K : PySem.W.Frag} {x : Str} {v i : Int} {t : Nat} (a : PySem.W.nsIn K mainGlobals x = some (some (.int i t))) (e : i = v) : FactInt K x v := ⟨i, t, a, e⟩
theorem FactInt.get {K : PySem.W.Frag} {h : Heap} {mg : Str → Option Value} {x : Str} {v : Int} (X : K.In h) (G : h.Ns mainGlobals mg) (F : FactInt K x v) : ∃ i t, mg x = some (.int i t) ∧ i = v := by
  obtain ⟨i, t, a, e⟩ := F
  exact ⟨i, t, PySem.W.mg_of X G a, e⟩
def FactStr (K : PySem.W.Frag) (x v : Str) : Prop := ∃ (t : Nat), PySem.W.nsIn K mainGlobals x = some (some (.str v t))
theorem mkStr {K : PySem.W.Frag} {x v : Str} {t : Nat} (a : PySem.W.nsIn K mainGlobals x = some (some (.str v t))) : FactStr K x v := ⟨t, a⟩
theorem FactStr.get {K : PySem.W.Frag} {h : Heap} {mg : Str → Option Value} {x v : Str} (X : K.In h) (G : h.Ns mainGlobals mg) (F : FactStr K x v) : ∃ t, mg x = some (.str v t) := by
  obtain ⟨t, a⟩ := F
  exact ⟨t, PySem.W.mg_of X G a⟩
theorem pair_app {α β : Type} {r : α → β → Prop} : ∀ {a : List α} {b : List β} {c : List α} {d : List β}, Paired r a b → Paired r c d → Paired r (a ++ c) (b ++ d)
  | _, _, _, _, .nil, h => h
  | _, _, _, _, .cons x xs, h => .cons x (pair_app xs h)
/-- the ways of a rule's words -/
def FactWy (K : PySem.W.Frag) (P : Params) : Prop := ∃ (W T1 T2 T3 : Addr) (es : Array DictEntry) (n n1 n2 n3 : Nat) (o1 o2 o3 : Obj) (i1 i2 i3 : Array Value), PySem.W.nsIn K mainGlobals "WAYS" = some (some (.ref W)) ∧ List.lookup W K = some { cls := .type "dict", data := .dict es n } ∧ PySem.W.KeysLit P es.toList ∧
  PySem.W.nsIn K W "late" = some (some (.ref T1)) ∧ PySem.W.nsIn K W "block" = some (some (.ref T2)) ∧ PySem.W.nsIn K W "rest" = some (some (.ref T3)) ∧
  (List.lookup T1 K = some o1 ∧ o1.cls = .type "tuple" ∧ o1.data = .seq i1 n1 ∧ i1.size ≤ sizeLine ∧ Vals [V.str "now", V.str "back"] i1.toList) ∧
  (List.lookup T2 K = some o2 ∧ o2.cls = .type "tuple" ∧ o2.data = .seq i2 n2 ∧ i2.size ≤ sizeLine ∧ Vals [V.str "days", V.str "last"] i2.toList) ∧
  (List.lookup T3 K = some o3 ∧ o3.cls = .type "tuple" ∧ o3.data = .seq i3 n3 ∧ i3.size ≤ sizeLine ∧ Vals [V.str "heads", V.str "places", V.str "house"] i3.toList)
theorem mkWy {K : PySem.W.Frag} {P : Params} {W T1 T2 T3 : Addr} {es : Array DictEntry} {n n1 n2 n3 : Nat} {o1 o2 o3 : Obj} {i1 i2 i3 : Array Value} (a : PySem.W.nsIn K mainGlobals "WAYS" = some (some (.ref W))) (l : List.lookup W K = some { cls := .type "dict", data := .dict es n }) (k : PySem.W.KeysLit P es.toList)
    (x1 : PySem.W.nsIn K W "late" = some (some (.ref T1))) (x2 : PySem.W.nsIn K W "block" = some (some (.ref T2))) (x3 : PySem.W.nsIn K W "rest" = some (some (.ref T3)))
    (l1 : List.lookup T1 K = some o1) (c1 : o1.cls = .type "tuple") (d1 : o1.data = .seq i1 n1) (z1 : i1.size ≤ sizeLine) (v1 : Vals [V.str "now", V.str "back"] i1.toList)
    (l2 : List.lookup T2 K = some o2) (c2 : o2.cls = .type "tuple") (d2 : o2.data = .seq i2 n2) (z2 : i2.size ≤ sizeLine) (v2 : Vals [V.str "days", V.str "last"] i2.toList)
    (l3 : List.lookup T3 K = some o3) (c3 : o3.cls = .type "tuple") (d3 : o3.data = .seq i3 n3) (z3 : i3.size ≤ sizeLine) (v3 : Vals [V.str "heads", V.str "places", V.str "house"] i3.toList) : FactWy K P :=
  ⟨W, T1, T2, T3, es, n, n1, n2, n3, o1, o2, o3, i1, i2, i3, a, l, k, x1, x2, x3, ⟨l1, c1, d1, z1, v1⟩, ⟨l2, c2, d2, z2, v2⟩, l3, c3, d3, z3, v3⟩
theorem FactWy.get {K : PySem.W.Frag} {w : World} {h : Heap} {mg : Str → Option Value} (X : K.In h) (G : h.Ns mainGlobals mg) (F : FactWy K w.params) : ∃ W, mg "WAYS" = some (.ref W) ∧ ∀ z : Str, z ∈ ([("late" : Str), "block", "rest"] : List Str) → ∃ T, KDct K w W z (.ref T) ∧ ∀ H, SqT K H T ((waysFor z).map V.str) := by
  obtain ⟨W, T1, T2, T3, es, n, n1, n2, n3, o1, o2, o3, i1, i2, i3, a, l, k, x1, x2, x3, ⟨l1, c1, d1, z1, v1⟩, ⟨l2, c2, d2, z2, v2⟩, l3, c3, d3, z3, v3⟩ := F
  refine ⟨W, PySem.W.mg_of X G a, fun z hz => ?_⟩
  simp only [List.mem_cons, List.not_mem_nil, or_false] at hz
  rcases hz with rfl | rfl | rfl
  · exact ⟨T1, ⟨es, n, _, l, k, x1, rfl⟩, fun H => .inr ⟨o1, i1, n1, l1, c1, d1, z1, v1⟩⟩
  · exact ⟨T2, ⟨es, n, _, l, k, x2, rfl⟩, fun H => .inr ⟨o2, i2, n2, l2, c2, d2, z2, v2⟩⟩
  · exact ⟨T3, ⟨es, n, _, l, k, x3, rfl⟩, fun H => .inr ⟨o3, i3, n3, l3, c3, d3, z3, v3⟩⟩
theorem law_ok {P : Program} {w : World} {K : PySem.W.Frag} {h : Heap} {mg : Str → Option Value} {fa C H_ D_ : Addr} (X : K.In h) (G : h.Ns mainGlobals mg) (hfa : mg "law" = some (.ref fa))
    (aC : PySem.W.nsIn K mainGlobals "Rule" = some (some (.ref C)))
    (aH_ : PySem.W.nsIn K mainGlobals "House" = some (some (.ref H_)))
    (aD_ : PySem.W.nsIn K mainGlobals "Draft" = some (some (.ref D_)))
    (N : PySem.W.nsIn K mainGlobals "isinstance" = some none ∧ PySem.W.nsIn K mainGlobals "int" = some none ∧ PySem.W.nsIn K mainGlobals "len" = some none ∧ PySem.W.nsIn K mainGlobals "abs" = some none ∧ PySem.W.nsIn K mainGlobals "max" = some none ∧ PySem.W.nsIn K mainGlobals "min" = some none ∧ PySem.W.nsIn K mainGlobals "range" = some none ∧ PySem.W.nsIn K mainGlobals "all" = some none ∧ PySem.W.nsIn K mainGlobals "repr" = some none ∧ PySem.W.nsIn K mainGlobals "str" = some none ∧ PySem.W.nsIn K mainGlobals "enumerate" = some none ∧ PySem.W.nsIn K mainGlobals "any" = some none ∧ PySem.W.nsIn K mainGlobals "tuple" = some none ∧ PySem.W.nsIn K mainGlobals "sorted" = some none ∧ PySem.W.nsIn K mainGlobals "list" = some none)
    (KC : FactK K C)
    (AC : PySem.W.findIn K (.ref C) "_text" = some none ∧ PySem.W.findIn K (.ref C) "every" = some none ∧ PySem.W.findIn K (.ref C) "behind" = some none ∧ PySem.W.findIn K (.ref C) "late" = some none ∧ PySem.W.findIn K (.ref C) "block" = some none ∧ PySem.W.findIn K (.ref C) "rest" = some none)
    (SBEHIND : FactSeq K "BEHIND" ["before", "nothing"])
    (SLINES : FactSeq K "LINES" ["every", "behind", "late", "block", "rest"])
    (WY : FactWy K w.params)
    (KH_ : FactK K H_)
    (AH_ : PySem.W.findIn K (.ref H_) "_text" = some none ∧ PySem.W.findIn K (.ref H_) "days" = some none ∧ PySem.W.findIn K (.ref H_) "flats" = some none ∧ PySem.W.findIn K (.ref H_) "meters" = some none ∧ PySem.W.findIn K (.ref H_) "people" = some none ∧ PySem.W.findIn K (.ref H_) "_rooms" = some none ∧ PySem.W.findIn K (.ref H_) "_tenants" = some none ∧ PySem.W.findIn K (.ref H_) "_prices" = some none)
    (KD_ : FactK K D_)
    (AD_ : PySem.W.findIn K (.ref D_) "days" = some none ∧ PySem.W.findIn K (.ref D_) "places" = some none ∧ PySem.W.findIn K (.ref D_) "tariffs" = some none ∧ PySem.W.findIn K (.ref D_) "stays" = some none)
    (STAKEN : FactSeq K "TAKEN" ["main", "house", "rest"])
    (LETTERS : FactStr K "LETTERS" Hs.abc)
    (FIRSTP : FactInt K "FIRST_PRICE" 1)
    (NOBODY : FactStr K "NOBODY" "house")
    (m0 : FactM K D_ "__init__" "Draft.__init__" sDrInit)
    (m1 : FactM K D_ "take" "Draft.take" sDrTake)
    (m2 : FactM K D_ "take_days" "Draft.take_days" sDrDays)
    (m3 : FactM K D_ "take_place" "Draft.take_place" sDrPlace)
    (m4 : FactM K D_ "take_price" "Draft.take_price" sDrPrice)
    (m5 : FactM K D_ "take_stay" "Draft.take_stay" sDrStay)
    (m6 : FactM K D_ "has_place" "Draft.has_place" sDrHasP)
    (m7 : FactM K D_ "has_flat" "Draft.has_flat" sDrHasF)
    (m8 : FactM K D_ "is_let" "Draft.is_let" sDrIsLet)
    (m9 : FactM K H_ "__init__" "House.__init__" sHInit)
    (f0 : FactF K "is_name" sIsName)
    (f1 : FactF K "decimal" sDec)
    (f2 : FactF K "ascending" sAsc)
    (f3 : FactF K "ways_of" sF_ways_of)
    (f4 : FactF K "way_of" sF_way_of)
    (f5 : FactF K "drafted" sDrafted)
    (f6 : FactF K "tenants" sTenants)
    (f7 : FactF K "prices" sPricesOf)
    (f8 : FactF K "_law_jar" sJar)
    (f9 : FactF K "_law_take" sTake)
    (f10 : FactF K "_law_of" sOf)
    (f11 : FactF K "_law_names" sL_names)
    (f12 : FactF K "_law_places" sL_places)
    (f13 : FactF K "_law_stays" sL_stays)
    (f14 : FactF K "_law_town" sL_town)
    (f15 : FactF K "_law_house_text" sL_house_text)
    (f16 : FactF K "_law_rule" sL_rule)
    (f17 : FactF K "_law_rule_text" sL_rule_text)
    (f18 : FactF K "_law_right" sL_right)
    (f19 : FactF K "law" sLaw)
    (m10 : FactM K C "__init__" "Rule.__init__" sRule_init)
    (m11 : FactM K C "runs" "Rule.runs" sRule_runs) :
    ∃ fd : FuncData, (∀ (s : Shared) (u : Value), BindsTo s fd ⟨[u], []⟩ [("_law_script", u)]) ∧ ∀ base : Heap, K.In base → base.Ns mainGlobals mg → Gu.FnG P w K mg base CX0 8 fa fd ["_law_script"] (spLaw K) := by
  obtain ⟨n_isinstance, n_int, n_len, n_abs, n_max, n_min, n_range, n_all, n_repr, n_str, n_enumerate, n_any, n_tuple, n_sorted, n_list⟩ := N
  have none_of : ∀ {x : Str}, PySem.W.nsIn K mainGlobals x = some none → mg x = none := fun e => PySem.W.mg_none_of X G e
  have T : Nm mg := ⟨none_of n_len, none_of n_abs, none_of n_int, none_of n_max, none_of n_min, none_of n_range, none_of n_all, none_of n_repr, none_of n_isinstance⟩
  obtain ⟨r1, r2, r3, r4, r5, r6⟩ := AC
  have rc : RuC K C := ⟨⟨KC.pg, KC.hd, KC.po, KC.sa⟩, r1, r2, r3, r4, r5, r6⟩
  have RC : Ru.Rc K w mg := ⟨SBEHIND.get X G, WY.get X G⟩
  obtain ⟨hh1, hh2, hh3, hh4, hh5, hh6, hh7, hh8⟩ := AH_
  have ho : Hs.HoC K H_ := ⟨⟨KH_.pg, KH_.hd, KH_.po, KH_.sa⟩, hh1, hh2, hh3, hh4, hh5, hh6, hh7, hh8⟩
  obtain ⟨hd1, hd2, hd3, hd4⟩ := AD_
  have dc : Hs.DC K D_ := ⟨⟨KD_.pg, KD_.hd, KD_.po, KD_.sa⟩, hd1, hd2, hd3, hd4⟩
  have wd : Hs.Wd K mg := ⟨STAKEN.get X G, LETTERS.get X G⟩
  have mF := FIRSTP.get X G
  have mN := NOBODY.get X G
  obtain ⟨p0, q0, M0, h0, i0, e0⟩ := m0.meth
  have c0 := M0.binds (ps := ["self"]) fun _ _ _ _ _ _ us hl => match us, hl with | [_], _ => rfl
  obtain ⟨p1, q1, M1, h1, i1, e1⟩ := m1.meth
  have c1 := M1.binds (ps := ["self", "line"]) fun _ _ _ _ _ _ us hl => match us, hl with | [_, _], _ => rfl
  obtain ⟨p2, q2, M2, h2, i2, e2⟩ := m2.meth
  have c2 := M2.binds (ps := ["self", "words"]) fun _ _ _ _ _ _ us hl => match us, hl with | [_, _], _ => rfl
  obtain ⟨p3, q3, M3, h3, i3, e3⟩ := m3.meth
  have c3 := M3.binds (ps := ["self", "words", "inner"]) fun _ _ _ _ _ _ us hl => match us, hl with | [_, _, _], _ => rfl
  obtain ⟨p4, q4, M4, h4, i4, e4⟩ := m4.meth
  have c4 := M4.binds (ps := ["self", "words"]) fun _ _ _ _ _ _ us hl => match us, hl with | [_, _], _ => rfl
  obtain ⟨p5, q5, M5, h5, i5, e5⟩ := m5.meth
  have c5 := M5.binds (ps := ["self", "words"]) fun _ _ _ _ _ _ us hl => match us, hl with | [_, _], _ => rfl
  obtain ⟨p6, q6, M6, h6, i6, e6⟩ := m6.meth
  have c6 := M6.binds (ps := ["self", "name"]) fun _ _ _ _ _ _ us hl => match us, hl with | [_, _], _ => rfl
  obtain ⟨p7, q7, M7, h7, i7, e7⟩ := m7.meth
  have c7 := M7.binds (ps := ["self"]) fun _ _ _ _ _ _ us hl => match us, hl with | [_], _ => rfl
  obtain ⟨p8, q8, M8, h8, i8, e8⟩ := m8.meth
  have c8 := M8.binds (ps := ["self", "name", "first", "behind"]) fun _ _ _ _ _ _ us hl => match us, hl with | [_, _, _, _], _ => rfl
  obtain ⟨p9, q9, M9, h9, i9, e9⟩ := m9.meth
  have c9 := M9.binds (ps := ["self", "text"]) fun _ _ _ _ _ _ us hl => match us, hl with | [_, _], _ => rfl
  obtain ⟨a0, d0, F0, g0, k0_⟩ := f0.fun X G
  have b0 := F0.binds (ps := ["value"]) fun _ _ _ _ _ _ us hl => match us, hl with | [_], _ => rfl
  obtain ⟨a1, d1, F1, g1, k1_⟩ := f1.fun X G
  have b1 := F1.binds (ps := ["word"]) fun _ _ _ _ _ _ us hl => match us, hl with | [_], _ => rfl
  obtain ⟨a2, d2, F2, g2, k2_⟩ := f2.fun X G
  have b2 := F2.binds (ps := ["words"]) fun _ _ _ _ _ _ us hl => match us, hl with | [_], _ => rfl
  obtain ⟨a3, d3, F3, g3, k3_⟩ := f3.fun X G
  have b3 := F3.binds (ps := ["text"]) fun _ _ _ _ _ _ us hl => match us, hl with | [_], _ => rfl
  obtain ⟨a4, d4, F4, g4, k4_⟩ := f4.fun X G
  have b4 := F4.binds (ps := ["line", "word"]) fun _ _ _ _ _ _ us hl => match us, hl with | [_, _], _ => rfl
  obtain ⟨a5, d5, F5, g5, k5_⟩ := f5.fun X G
  have b5 := F5.binds (ps := ["text"]) fun _ _ _ _ _ _ us hl => match us, hl with | [_], _ => rfl
  obtain ⟨a6, d6, F6, g6, k6_⟩ := f6.fun X G
  have b6 := F6.binds (ps := ["name", "draft"]) fun _ _ _ _ _ _ us hl => match us, hl with | [_, _], _ => rfl
  obtain ⟨a7, d7, F7, g7, k7_⟩ := f7.fun X G
  have b7 := F7.binds (ps := ["draft"]) fun _ _ _ _ _ _ us hl => match us, hl with | [_], _ => rfl
  obtain ⟨a8, d8, F8, g8, k8_⟩ := f8.fun X G
  have b8 := F8.binds (ps := ["_law_script", "_law_k"]) fun _ _ _ _ _ _ us hl => match us, hl with | [_, _], _ => rfl
  obtain ⟨a9, d9, F9, g9, k9_⟩ := f9.fun X G
  have b9 := F9.binds (ps := ["_law_jar_here", "_law_many"]) fun _ _ _ _ _ _ us hl => match us, hl with | [_, _], _ => rfl
  obtain ⟨a10, d10, F10, g10, k10_⟩ := f10.fun X G
  have b10 := F10.binds (ps := ["_law_jar_here", "_law_some"]) fun _ _ _ _ _ _ us hl => match us, hl with | [_, _], _ => rfl
  obtain ⟨a11, d11, F11, g11, k11_⟩ := f11.fun X G
  have b11 := F11.binds (ps := ["_law_jar_here", "_law_many"]) fun _ _ _ _ _ _ us hl => match us, hl with | [_, _], _ => rfl
  obtain ⟨a12, d12, F12, g12, k12_⟩ := f12.fun X G
  have b12 := F12.binds (ps := ["_law_jar_here", "_law_names_here"]) fun _ _ _ _ _ _ us hl => match us, hl with | [_, _], _ => rfl
  obtain ⟨a13, d13, F13, g13, k13_⟩ := f13.fun X G
  have b13 := F13.binds (ps := ["_law_jar_here", "_law_town_here", "_law_names_here"]) fun _ _ _ _ _ _ us hl => match us, hl with | [_, _, _], _ => rfl
  obtain ⟨a14, d14, F14, g14, k14_⟩ := f14.fun X G
  have b14 := F14.binds (ps := ["_law_jar_here", "_law_most"]) fun _ _ _ _ _ _ us hl => match us, hl with | [_, _], _ => rfl
  obtain ⟨a15, d15, F15, g15, k15_⟩ := f15.fun X G
  have b15 := F15.binds (ps := ["_law_town_here"]) fun _ _ _ _ _ _ us hl => match us, hl with | [_], _ => rfl
  obtain ⟨a16, d16, F16, g16, k16_⟩ := f16.fun X G
  have b16 := F16.binds (ps := ["_law_jar_here"]) fun _ _ _ _ _ _ us hl => match us, hl with | [_], _ => rfl
  obtain ⟨a17, d17, F17, g17, k17_⟩ := f17.fun X G
  have b17 := F17.binds (ps := ["_law_rule_here"]) fun _ _ _ _ _ _ us hl => match us, hl with | [_], _ => rfl
  obtain ⟨a18, d18, F18, g18, k18_⟩ := f18.fun X G
  have b18 := F18.binds (ps := ["_law_jar_here"]) fun _ _ _ _ _ _ us hl => match us, hl with | [_], _ => rfl
  obtain ⟨a19, d19, F19, g19, k19_⟩ := f19.fun X G
  have b19 := F19.binds (ps := ["_law_script"]) fun _ _ _ _ _ _ us hl => match us, hl with | [_], _ => rfl
  obtain ⟨p10, q10, M10, h10, i10, e10⟩ := m10.meth
  have c10 := M10.binds (ps := ["self", "text"]) fun _ _ _ _ _ _ us hl => match us, hl with | [_, _], _ => rfl
  obtain ⟨p11, q11, M11, h11, i11, e11⟩ := m11.meth
  have c11 := M11.binds (ps := ["self", "house"]) fun _ _ _ _ _ _ us hl => match us, hl with | [_, _], _ => rfl
  have e := hfa.symm.trans g19
  cases e
  refine ⟨d19, fun s u => ?_, fun base _ hbase => ?_⟩
  · obtain ⟨oc, od, kV, doc, pm, an, cdv, ct, osl, rfl, lk, hcd⟩ := F19.ex
    exact .of_eq rfl
  have GDe : GotF P w K mg base "decimal" 1 ["word"] spDec := ⟨a1, d1, ok_dec F1 (none_of n_int), b1, g1, k1_⟩
  have GNa : GotF P w K mg base "is_name" 1 ["value"] Hs.spIsName := ⟨a0, d0, Hs.ok_isName F0 wd T (none_of n_str), b0, g0, k0_⟩
  have GhP : Hs.GotD P w K mg base D_ "has_place" 1 ["self", "name"] (Hs.spHasP D_) := ⟨p6, q6, Hs.ok_hasP M6 dc (none_of n_any), c6, e6⟩
  have GhF : Hs.GotD P w K mg base D_ "has_flat" 1 ["self"] (Hs.spHasF D_) := ⟨p7, q7, Hs.ok_hasF M7 dc (none_of n_any), c7, e7⟩
  have GiL : Hs.GotD P w K mg base D_ "is_let" 1 ["self", "name", "first", "behind"] (Hs.spIsLet D_) := ⟨p8, q8, Hs.ok_isLet M8 dc (none_of n_any), c8, e8⟩
  have Gtd : Hs.GotD P w K mg base D_ "take_days" 2 ["self", "words"] (Hs.spDays D_) := ⟨p2, q2, Hs.ok_days M2 dc T GDe, c2, e2⟩
  have Gtp : Hs.GotD P w K mg base D_ "take_place" 2 ["self", "words", "inner"] (Hs.spPlace D_) := ⟨p3, q3, Hs.ok_place M3 dc T GDe GNa GhP GhF, c3, e3⟩
  have Gtr : Hs.GotD P w K mg base D_ "take_price" 2 ["self", "words"] (Hs.spPrice D_) := ⟨p4, q4, Hs.ok_price M4 dc T GDe GhF, c4, e4⟩
  have Gts : Hs.GotD P w K mg base D_ "take_stay" 2 ["self", "words"] (Hs.spStay D_) := ⟨p5, q5, Hs.ok_stay M5 dc T GDe GNa GhP GhF GiL, c5, e5⟩
  have Gtk : Hs.GotD P w K mg base D_ "take" 3 ["self", "line"] (Hs.spTake D_) := ⟨p1, q1, Hs.ok_take M1 dc Gtd Gtp Gtr Gts, c1, e1⟩
  have MD : Mk K D_ p0 := ⟨KD_.mkk, h0, i0, KD_.kc⟩
  have GDf : GotF P w K mg base "drafted" 4 ["text"] (Hs.spDrafted D_) := ⟨a5, d5, Hs.ok_drafted F5 dc T (none_of n_str) (none_of n_enumerate) MD (Hs.ok_drInit M0 dc) c0 (PySem.W.mg_of X G aD_) Gtk GhF, b5, g5, k5_⟩
  have GAs : GotF P w K mg base "ascending" 1 ["words"] Hs.spAsc := ⟨a2, d2, Hs.ok_asc F2 (none_of n_tuple) (none_of n_sorted) (none_of n_str), b2, g2, k2_⟩
  have GTe : GotF P w K mg base "tenants" 1 ["name", "draft"] (Hs.spTen D_) := ⟨a6, d6, Hs.ok_tenants F6 dc T (none_of n_tuple) mN, b6, g6, k6_⟩
  have GPr : GotF P w K mg base "prices" 1 ["draft"] (Hs.spPri D_) := ⟨a7, d7, Hs.ok_prices F7 dc T (none_of n_tuple) mF, b7, g7, k7_⟩
  have GHi : ∃ (f : Addr) (fd : FuncData), FnOk P w K mg base CX0 5 f fd ["self", "text"] (Hs.spHInit H_) ∧ Binds K fd ["self", "text"] [] ∧ Mk K H_ f := ⟨p9, q9, Hs.ok_hInit M9 ho dc T (none_of n_tuple) mN GDf GAs GTe GPr, c9, ⟨KH_.mkk, h9, i9, KH_.kc⟩⟩
  have GWo : GotF P w K mg base "way_of" 2 ["line", "word"] spWayOf := ⟨a4, d4, ok_wayOf F4 RC T GDe, b4, g4, k4_⟩
  have GWs : GotF P w K mg base "ways_of" 3 ["text"] spWays := ⟨a3, d3, ok_ways F3 T (none_of n_str) (none_of n_enumerate) (SLINES.get X G) GWo, b3, g3, k3_⟩
  have GR : GotR P w K mg base C := ⟨p10, q10, ok_rInit M10 rc GWs, c10, ⟨KC.mkk, h10, i10, KC.kc⟩⟩
  have GRu : Ru.GotD P w K mg base C "runs" 1 ["self", "house"] (spRuns C H_) := ⟨p11, q11, ok_runs M11 rc ho (none_of n_tuple) (none_of n_list) (none_of n_range), c11, e11⟩
  have GJ : GotF P w K mg base "_law_jar" 1 ["_law_script", "_law_k"] (spJar K) := ⟨a8, d8, ok_jar F8 T, b8, g8, k8_⟩
  have GT : GotF P w K mg base "_law_take" 1 ["_law_jar_here", "_law_many"] Am.spTake := ⟨a9, d9, Am.ok_take F9 T, b9, g9, k9_⟩
  have GO : GotF P w K mg base "_law_of" 2 ["_law_jar_here", "_law_some"] spOf := ⟨a10, d10, ok_of F10 T GT, b10, g10, k10_⟩
  have GNm : GotF P w K mg base "_law_names" 3 ["_law_jar_here", "_law_many"] Hs.spNames := ⟨a11, d11, Hs.ok_names F11 T GT GO, b11, g11, k11_⟩
  have GPl : GotF P w K mg base "_law_places" 2 ["_law_jar_here", "_law_names_here"] Hs.spPlaces := ⟨a12, d12, Hs.ok_places F12 T (none_of n_any) GT, b12, g12, k12_⟩
  have GSt : GotF P w K mg base "_law_stays" 3 ["_law_jar_here", "_law_town_here", "_law_names_here"] Hs.spStays := ⟨a13, d13, Hs.ok_stays F13 T GT GO, b13, g13, k13_⟩
  have GTw : GotF P w K mg base "_law_town" 4 ["_law_jar_here", "_law_most"] Hs.spTown := ⟨a14, d14, Hs.ok_town F14 T GT GO GNm GPl GSt, b14, g14, k14_⟩
  have GHt : GotF P w K mg base "_law_house_text" 1 ["_law_town_here"] Hs.spHouseText := ⟨a15, d15, Hs.ok_houseText F15 (none_of n_str), b15, g15, k15_⟩
  have GU : GotF P w K mg base "_law_rule" 3 ["_law_jar_here"] spRule := ⟨a16, d16, ok_rule F16 (none_of n_str) GT GO, b16, g16, k16_⟩
  have GX : GotF P w K mg base "_law_rule_text" 1 ["_law_rule_here"] spRuleText := ⟨a17, d17, ok_ruleText F17 (none_of n_str), b17, g17, k17_⟩
  have GRi : Ru.GotG P w K mg base "_law_right" 7 ["_law_jar_here"] spRight := ⟨a18, d18, ok_right F18 T (none_of n_tuple) rc (PySem.W.mg_of X G aC) (PySem.W.mg_of X G aH_) GR GHi GRu GU GX GTw GHt, b18, g18, k18_⟩
  exact ok_law F19 T GJ GRi
end Ru
open PySem PySem.W PyProof.Rows in
set_option maxRecDepth 100000 in
set_option maxHeartbeats 0 in
theorem PySem.Challenge.cw_whoseuse_k37_runs_of_rules_holds : PySem.Challenge.rw_whoseuse_k37_runs_of_rules.Holds := by
  w_on; o_law; k_head; (case hw => w_witness2)
  k_fill
  refine Gu.walkG (n := 63) (k := 8) (x := "_law_script") (sp := Ru.spLaw) rfl (by decide) rfl ⟨rfl, by decide, by decide⟩ (fun w h Y => by first | exact PySem.W.kIn_of Y | exact PySem.W.km_in_of Y) ?F (fun K H a ns hl hS => ⟨a, ns, rfl, hS, hl, fun _ => rfl⟩)
  case F =>
    intro w mg fa h KX G hmg
    refine' Ru.law_ok (w := w) KX G hmg ?zzaC ?zzaH_ ?zzaD_ ?zzN ?zzKC ?zzAC ?zzSBEHIND ?zzSLINES ?zzWY ?zzKH_ ?zzAH_ ?zzKD_ ?zzAD_ ?zzSTAKEN ?zzLETTERS ?zzFIRSTP ?zzNOBODY ?zzm0 ?zzm1 ?zzm2 ?zzm3 ?zzm4 ?zzm5 ?zzm6 ?zzm7 ?zzm8 ?zzm9 ?zzf0 ?zzf1 ?zzf2 ?zzf3 ?zzf4 ?zzf5 ?zzf6 ?zzf7 ?zzf8 ?zzf9 ?zzf10 ?zzf11 ?zzf12 ?zzf13 ?zzf14 ?zzf15 ?zzf16 ?zzf17 ?zzf18 ?zzf19 ?zzm10 ?zzm11
    (case zzaC => k_is)
    (case zzaH_ => k_is)
    (case zzaD_ => k_is)
    (case zzN => refine' ⟨?zzn0_1, ?zzn1_1, ?zzn2_1, ?zzn3_1, ?zzn4_1, ?zzn5_1, ?zzn6_1, ?zzn7_1, ?zzn8_1, ?zzn9_1, ?zzn10_1, ?zzn11_1, ?zzn12_1, ?zzn13_1, ?zzn14_1⟩; (case zzn0_1 => k_is); (case zzn1_1 => k_is); (case zzn2_1 => k_is); (case zzn3_1 => k_is); (case zzn4_1 => k_is); (case zzn5_1 => k_is); (case zzn6_1 => k_is); (case zzn7_1 => k_is); (case zzn8_1 => k_is); (case zzn9_1 => k_is); (case zzn10_1 => k_is); (case zzn11_1 => k_is); (case zzn12_1 => k_is); (case zzn13_1 => k_is); (case zzn14_1 => k_is))
    (case zzKC => refine' ⟨?zzpg_2, ?zzhd_2, ?zzpo_2, ?zzsa_2, ?zzmkk_2, ?zzkc_2⟩; (case zzpg_2 => first | rfl | k_is); (case zzhd_2 => first | rfl | k_is); (case zzpo_2 => first | rfl | k_is); (case zzsa_2 => first | rfl | k_is); (case zzmkk_2 => first | rfl | k_is); (case zzkc_2 => first | rfl | k_is))
    (case zzAC => refine' ⟨?zzn0_3, ?zzn1_3, ?zzn2_3, ?zzn3_3, ?zzn4_3, ?zzn5_3⟩; (case zzn0_3 => first | rfl | k_is); (case zzn1_3 => first | rfl | k_is); (case zzn2_3 => first | rfl | k_is); (case zzn3_3 => first | rfl | k_is); (case zzn4_3 => first | rfl | k_is); (case zzn5_3 => first | rfl | k_is))
    (case zzSBEHIND => refine' Ru.mkSeq ?zza_4 ?zzl_4 ?zzc_4 ?zzd_4 ?zzz_4 ?zzv_4; (case zza_4 => k_is); (case zzl_4 => k_is); (case zzc_4 => rfl); (case zzd_4 => rfl); (case zzz_4 => decide); (case zzv_4 => exact .cons ⟨_, rfl⟩ (.cons ⟨_, rfl⟩ (.nil))))
    (case zzSLINES => refine' Ru.mkSeq ?zza_5 ?zzl_5 ?zzc_5 ?zzd_5 ?zzz_5 ?zzv_5; (case zza_5 => k_is); (case zzl_5 => k_is); (case zzc_5 => rfl); (case zzd_5 => rfl); (case zzz_5 => decide); (case zzv_5 => exact .cons ⟨_, rfl⟩ (.cons ⟨_, rfl⟩ (.cons ⟨_, rfl⟩ (.cons ⟨_, rfl⟩ (.cons ⟨_, rfl⟩ (.nil)))))))
    (case zzWY => refine' Ru.mkWy ?zza_6 ?zzl_6 ?zzk_6 ?zzx1_6 ?zzx2_6 ?zzx3_6 ?zzl1_6 ?zzc1_6 ?zzd1_6 ?zzz1_6 ?zzv1_6 ?zzl2_6 ?zzc2_6 ?zzd2_6 ?zzz2_6 ?zzv2_6 ?zzl3_6 ?zzc3_6 ?zzd3_6 ?zzz3_6 ?zzv3_6; (case zza_6 => k_is); (case zzl_6 => k_is); (case zzk_6 => exact ⟨⟨_, _, rfl, rfl⟩, ⟨_, _, rfl, rfl⟩, ⟨_, _, rfl, rfl⟩, trivial⟩); (case zzx1_6 => k_is); (case zzx2_6 => k_is); (case zzx3_6 => k_is); (case zzl1_6 => k_is); (case zzc1_6 => rfl); (case zzd1_6 => rfl); (case zzz1_6 => decide); (case zzv1_6 => exact .cons ⟨_, rfl⟩ (.cons ⟨_, rfl⟩ (.nil))); (case zzl2_6 => k_is); (case zzc2_6 => rfl); (case zzd2_6 => rfl); (case zzz2_6 => decide); (case zzv2_6 => exact .cons ⟨_, rfl⟩ (.cons ⟨_, rfl⟩ (.nil))); (case zzl3_6 => k_is); (case zzc3_6 => rfl); (case zzd3_6 => rfl); (case zzz3_6 => decide); (case zzv3_6 => exact .cons ⟨_, rfl⟩ (.cons ⟨_, rfl⟩ (.cons ⟨_, rfl⟩ (.nil)))))
    (case zzKH_ => refine' ⟨?zzpg_7, ?zzhd_7, ?zzpo_7, ?zzsa_7, ?zzmkk_7, ?zzkc_7⟩; (case zzpg_7 => first | rfl | k_is); (case zzhd_7 => first | rfl | k_is); (case zzpo_7 => first | rfl | k_is); (case zzsa_7 => first | rfl | k_is); (case zzmkk_7 => first | rfl | k_is); (case zzkc_7 => first | rfl | k_is))
    (case zzAH_ => refine' ⟨?zzn0_8, ?zzn1_8, ?zzn2_8, ?zzn3_8, ?zzn4_8, ?zzn5_8, ?zzn6_8, ?zzn7_8⟩; (case zzn0_8 => first | rfl | k_is); (case zzn1_8 => first | rfl | k_is); (case zzn2_8 => first | rfl | k_is); (case zzn3_8 => first | rfl | k_is); (case zzn4_8 => first | rfl | k_is); (case zzn5_8 => first | rfl | k_is); (case zzn6_8 => first | rfl | k_is); (case zzn7_8 => first | rfl | k_is))
    (case zzKD_ => refine' ⟨?zzpg_9, ?zzhd_9, ?zzpo_9, ?zzsa_9, ?zzmkk_9, ?zzkc_9⟩; (case zzpg_9 => first | rfl | k_is); (case zzhd_9 => first | rfl | k_is); (case zzpo_9 => first | rfl | k_is); (case zzsa_9 => first | rfl | k_is); (case zzmkk_9 => first | rfl | k_is); (case zzkc_9 => first | rfl | k_is))
    (case zzAD_ => refine' ⟨?zzn0_10, ?zzn1_10, ?zzn2_10, ?zzn3_10⟩; (case zzn0_10 => first | rfl | k_is); (case zzn1_10 => first | rfl | k_is); (case zzn2_10 => first | rfl | k_is); (case zzn3_10 => first | rfl | k_is))
    (case zzSTAKEN => refine' Ru.mkSeq ?zza_11 ?zzl_11 ?zzc_11 ?zzd_11 ?zzz_11 ?zzv_11; (case zza_11 => k_is); (case zzl_11 => k_is); (case zzc_11 => rfl); (case zzd_11 => rfl); (case zzz_11 => decide); (case zzv_11 => exact .cons ⟨_, rfl⟩ (.cons ⟨_, rfl⟩ (.cons ⟨_, rfl⟩ (.nil)))))
    (case zzLETTERS => refine' Ru.mkStr ?zza_12; (case zza_12 => first | k_is | (k_is; rfl)))
    (case zzFIRSTP => refine' Ru.mkInt ?zza_13 ?zze_13; (case zza_13 => k_is); (case zze_13 => first | rfl | decide +kernel))
    (case zzNOBODY => refine' Ru.mkStr ?zza_14; (case zza_14 => k_is))
    (case zzm0 => refine' Ru.mkM ?zza_15 ?zzi_15 ?zzl_15 ?zzc_15 ?zzk_15; (case zza_15 => k_is); (case zzi_15 => k_is); (case zzl_15 => k_is); (case zzc_15 => k_is); (case zzk_15 => k_is))
    (case zzm1 => refine' Ru.mkM ?zza_16 ?zzi_16 ?zzl_16 ?zzc_16 ?zzk_16; (case zza_16 => k_is); (case zzi_16 => k_is); (case zzl_16 => k_is); (case zzc_16 => k_is); (case zzk_16 => k_is))
    (case zzm2 => refine' Ru.mkM ?zza_17 ?zzi_17 ?zzl_17 ?zzc_17 ?zzk_17; (case zza_17 => k_is); (case zzi_17 => k_is); (case zzl_17 => k_is); (case zzc_17 => k_is); (case zzk_17 => k_is))
    (case zzm3 => refine' Ru.mkM ?zza_18 ?zzi_18 ?zzl_18 ?zzc_18 ?zzk_18; (case zza_18 => k_is); (case zzi_18 => k_is); (case zzl_18 => k_is); (case zzc_18 => k_is); (case zzk_18 => k_is))
    (case zzm4 => refine' Ru.mkM ?zza_19 ?zzi_19 ?zzl_19 ?zzc_19 ?zzk_19; (case zza_19 => k_is); (case zzi_19 => k_is); (case zzl_19 => k_is); (case zzc_19 => k_is); (case zzk_19 => k_is))
    (case zzm5 => refine' Ru.mkM ?zza_20 ?zzi_20 ?zzl_20 ?zzc_20 ?zzk_20; (case zza_20 => k_is); (case zzi_20 => k_is); (case zzl_20 => k_is); (case zzc_20 => k_is); (case zzk_20 => k_is))
    (case zzm6 => refine' Ru.mkM ?zza_21 ?zzi_21 ?zzl_21 ?zzc_21 ?zzk_21; (case zza_21 => k_is); (case zzi_21 => k_is); (case zzl_21 => k_is); (case zzc_21 => k_is); (case zzk_21 => k_is))
    (case zzm7 => refine' Ru.mkM ?zza_22 ?zzi_22 ?zzl_22 ?zzc_22 ?zzk_22; (case zza_22 => k_is); (case zzi_22 => k_is); (case zzl_22 => k_is); (case zzc_22 => k_is); (case zzk_22 => k_is))
    (case zzm8 => refine' Ru.mkM ?zza_23 ?zzi_23 ?zzl_23 ?zzc_23 ?zzk_23; (case zza_23 => k_is); (case zzi_23 => k_is); (case zzl_23 => k_is); (case zzc_23 => k_is); (case zzk_23 => k_is))
    (case zzm9 => refine' Ru.mkM ?zza_24 ?zzi_24 ?zzl_24 ?zzc_24 ?zzk_24; (case zza_24 => k_is); (case zzi_24 => k_is); (case zzl_24 => k_is); (case zzc_24 => k_is); (case zzk_24 => k_is))
    (case zzf0 => refine' Ru.mkF ?zza_25 ?zzl_25 ?zzc_25 ?zzk_25; (case zza_25 => k_is); (case zzl_25 => k_is); (case zzc_25 => k_is); (case zzk_25 => k_is))
    (case zzf1 => refine' Ru.mkF ?zza_26 ?zzl_26 ?zzc_26 ?zzk_26; (case zza_26 => k_is); (case zzl_26 => k_is); (case zzc_26 => k_is); (case zzk_26 => k_is))
    (case zzf2 => refine' Ru.mkF ?zza_27 ?zzl_27 ?zzc_27 ?zzk_27; (case zza_27 => k_is); (case zzl_27 => k_is); (case zzc_27 => k_is); (case zzk_27 => k_is))
    (case zzf3 => refine' Ru.mkF ?zza_28 ?zzl_28 ?zzc_28 ?zzk_28; (case zza_28 => k_is); (case zzl_28 => k_is); (case zzc_28 => k_is); (case zzk_28 => k_is))
    (case zzf4 => refine' Ru.mkF ?zza_29 ?zzl_29 ?zzc_29 ?zzk_29; (case zza_29 => k_is); (case zzl_29 => k_is); (case zzc_29 => k_is); (case zzk_29 => k_is))
    (case zzf5 => refine' Ru.mkF ?zza_30 ?zzl_30 ?zzc_30 ?zzk_30; (case zza_30 => k_is); (case zzl_30 => k_is); (case zzc_30 => k_is); (case zzk_30 => k_is))
    (case zzf6 => refine' Ru.mkF ?zza_31 ?zzl_31 ?zzc_31 ?zzk_31; (case zza_31 => k_is); (case zzl_31 => k_is); (case zzc_31 => k_is); (case zzk_31 => k_is))
    (case zzf7 => refine' Ru.mkF ?zza_32 ?zzl_32 ?zzc_32 ?zzk_32; (case zza_32 => k_is); (case zzl_32 => k_is); (case zzc_32 => k_is); (case zzk_32 => k_is))
    (case zzf8 => refine' Ru.mkF ?zza_33 ?zzl_33 ?zzc_33 ?zzk_33; (case zza_33 => k_is); (case zzl_33 => k_is); (case zzc_33 => k_is); (case zzk_33 => k_is))
    (case zzf9 => refine' Ru.mkF ?zza_34 ?zzl_34 ?zzc_34 ?zzk_34; (case zza_34 => k_is); (case zzl_34 => k_is); (case zzc_34 => k_is); (case zzk_34 => k_is))
    (case zzf10 => refine' Ru.mkF ?zza_35 ?zzl_35 ?zzc_35 ?zzk_35; (case zza_35 => k_is); (case zzl_35 => k_is); (case zzc_35 => k_is); (case zzk_35 => k_is))
    (case zzf11 => refine' Ru.mkF ?zza_36 ?zzl_36 ?zzc_36 ?zzk_36; (case zza_36 => k_is); (case zzl_36 => k_is); (case zzc_36 => k_is); (case zzk_36 => k_is))
    (case zzf12 => refine' Ru.mkF ?zza_37 ?zzl_37 ?zzc_37 ?zzk_37; (case zza_37 => k_is); (case zzl_37 => k_is); (case zzc_37 => k_is); (case zzk_37 => k_is))
    (case zzf13 => refine' Ru.mkF ?zza_38 ?zzl_38 ?zzc_38 ?zzk_38; (case zza_38 => k_is); (case zzl_38 => k_is); (case zzc_38 => k_is); (case zzk_38 => k_is))
    (case zzf14 => refine' Ru.mkF ?zza_39 ?zzl_39 ?zzc_39 ?zzk_39; (case zza_39 => k_is); (case zzl_39 => k_is); (case zzc_39 => k_is); (case zzk_39 => k_is))
    (case zzf15 => refine' Ru.mkF ?zza_40 ?zzl_40 ?zzc_40 ?zzk_40; (case zza_40 => k_is); (case zzl_40 => k_is); (case zzc_40 => k_is); (case zzk_40 => k_is))
    (case zzf16 => refine' Ru.mkF ?zza_41 ?zzl_41 ?zzc_41 ?zzk_41; (case zza_41 => k_is); (case zzl_41 => k_is); (case zzc_41 => k_is); (case zzk_41 => k_is))
    (case zzf17 => refine' Ru.mkF ?zza_42 ?zzl_42 ?zzc_42 ?zzk_42; (case zza_42 => k_is); (case zzl_42 => k_is); (case zzc_42 => k_is); (case zzk_42 => k_is))
    (case zzf18 => refine' Ru.mkF ?zza_43 ?zzl_43 ?zzc_43 ?zzk_43; (case zza_43 => k_is); (case zzl_43 => k_is); (case zzc_43 => k_is); (case zzk_43 => k_is))
    (case zzf19 => refine' Ru.mkF ?zza_44 ?zzl_44 ?zzc_44 ?zzk_44; (case zza_44 => k_is); (case zzl_44 => k_is); (case zzc_44 => k_is); (case zzk_44 => k_is))
    (case zzm10 => refine' Ru.mkM ?zza_45 ?zzi_45 ?zzl_45 ?zzc_45 ?zzk_45; (case zza_45 => k_is); (case zzi_45 => k_is); (case zzl_45 => k_is); (case zzc_45 => k_is); (case zzk_45 => k_is))
    (case zzm11 => refine' Ru.mkM ?zza_46 ?zzi_46 ?zzl_46 ?zzc_46 ?zzk_46; (case zza_46 => k_is); (case zzi_46 => k_is); (case zzl_46 => k_is); (case zzc_46 => k_is); (case zzk_46 => k_is))
