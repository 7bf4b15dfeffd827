import PyProof.Rows.All
import Wide.All
import OpenK.AllK
import Wide.FinOn
import PyProof.EqAt
import PyProof.EqKinds
import PyProof.NeKinds
import KE.KOpsOwn
import HandS.ForMost
import HandS.Wide
import HandS.Gcd
import HandS.IsInst
import HandS.Defaults
import HandS.OwnEq
import HandS.SlotsOwn
import PySem.Challenge.RW_whoseuse_k36_rules_refused
import HandS.Codes
import HandS.Words
import PyProof.StrLawsIn
import PyProof.StrBlockL
import PyProof.Rows.StrNews2
import KE.IntTextLaws
import KE.KIntText
import PyProof.StrLawsRepr
import PyProof.Rows.StrDigitsNeg
import PyProof.Rows.ReprOcc
import HandS.StrMore
import HandS.Walk
import HandS.Text
import HandS.More
import HandS.ExcOwn
import HandS.Exc
import HandS.ExcInit
import HandS.ExcValue
import HandS.ExcField
import HandS.WordsExc
import HandS.SortKw
import KE.GoesEnumKw
import KE.GoesNew
import HandS.Dict
import HandS.Conv
import HandS.List
import HandS.Lambda
import HandS.Ends
import HandS.EndOwn
import KE.KExcIs
import HandS.RaiseMore
import HandS.Property
set_option Elab.async false
set_option linter.all false
set_option maxRecDepth 100000
set_option maxHeartbeats 8000000
/-! operators of an own class: library level -/
namespace AmL
open PySem PySem.SeqAt PySem.Calls PyProof.Rows
open AutoSeq1 (wpAny_loadPart')
open MeetsSeq

section
variable {prog : Program} {w : World} {A : Around} {E : Value → Shared → Prop} {s : Shared} {K : PySem.W.Frag} {C : Addr}

theorem refl_inst {x : Addr} {v : Value} {T id : String} {f : Addr} {op : CmpOp} {ox : Obj} {od : Option Obj} {Q : Value → Shared → Prop} (hu : A.units < cLine)
    (X : K.In s.heap) (I : PySem.W.InstAt s.heap x ox C od) (hT : s.TypeIs v T) (slot : Slot T (cmpInfo op).2.1 id)
    (dec : ∀ Q' : Value → Shared → Prop, Q' .notImplemented s → wpAny (model prog w) A (call (.builtin id) [v, .ref x]) Q' E s)
    (hsub : PySem.W.subIn K (.ref C) (.type T) = some false)
    (hs : PySem.W.findIn K (.ref C) (cmpInfo op).2.2 = some (some (.ref f))) (hf : PySem.W.isFn K (.ref f) = true)
    (h : wpAny (model prog w) A (call (.ref f) [.ref x, v]) (PySem.W.CmpBack Q) E s) : wpAny (model prog w) A (richCompare op v (.ref x)) Q E s := by
  have one : wpAny (model prog w) A (tryCompare (.ref x) (cmpInfo op).2.2 v) (fun r s' => ∃ v, r = some v ∧ Q v s') E s := by
    unfold tryCompare
    refine wpAny_bind (PySem.W.ifBound_K X I hs hf (wpAny_mono h (fun v s' hv => ?_) fun _ _ e => e))
    cases v <;> first | exact hv.elim | exact wpAny_pure ⟨_, rfl, hv⟩
  have hne : (Value.type T != Value.ref C) = true := by
    rw [bne, beq_eq_false_iff_ne.mpr (fun q => by cases q)]; rfl
  rcases hi : cmpInfo op with ⟨sym, f', r'⟩
  rw [hi] at slot one
  simp only [richCompare, hi, hT.oneThing_none]
  refine wpAny_holding ?_
  refine wpAny_bind (wpAny_cRoomFor hu ?_)
  refine wpAny_bind (wpAny_typeOf hT (wpAny_bind (I.type.here ?_)))
  simp only [hne, if_true]
  refine wpAny_bind ((PySem.W.looks_subIn X hsub).here ?_)
  simp only [Bool.false_eq_true, if_false]
  refine wpAny_bind (m := tryCompare v _ (.ref x)) (wpAny_tryCompare_declines hT slot (dec _ ⟨rfl, ?_⟩))
  simp only [Bool.not_false, if_true]
  refine wpAny_bind (wpAny_mono one (fun r s' z => ?_) fun _ _ e => e)
  obtain ⟨u, rfl, hq⟩ := z
  exact wpAny_pure hq


/-- the != that object gives: not (x == b) -/
theorem try_ne {x : Addr} {b : Value} {f : Addr} {ox : Obj} {od : Option Obj} {Q : Option Value → Shared → Prop} (hu : A.units + 1 < cLine)
    (X : K.In s.heap) (I : PySem.W.InstAt s.heap x ox C od)
    (hs : PySem.W.findIn K (.ref C) "__ne__" = some (some (.builtin "object.__ne__"))) (hobj : PySem.W.mroIn K C (.type "object") = some true)
    (he : PySem.W.findIn K (.ref C) "__eq__" = some (some (.ref f))) (hf : PySem.W.isFn K (.ref f) = true)
    (h : wpAny (model prog w) A.in1 (call (.ref f) [.ref x, b]) (fun v s' => ∃ k, v = .bool k ∧ Q (some (.bool (!k))) s') E s) : wpAny (model prog w) A (tryCompare (.ref x) "__ne__" b) Q E s := by
  have sub : PySem.W.Looks (model prog w) s.heap (isInstance (.ref x) (.type "object")) true := I.type.andThen (PySem.W.looks_mroIn X hobj)
  have main : wpAny (model prog w) A (call (.builtin "object.__ne__") [.ref x, b]) (fun v s' => ∃ k, v = .bool k ∧ Q (some (.bool k)) s') E s := by
    refine wpAny_call (codeAny_call_builtin F.slot_object_ne.plain F.entry_object_ne (@PySem.W.check_slot (model prog w) _ _ s "object.__ne__" "object" "__ne__" (.ref x) [b] [] _ F.cmpKind_ne F.cmpSplit_ne sub (F.cmpArgs_ne _ _) ?_))
    unfold Builtin.«object.__ne__»
    refine wpAny_bind (m := slotArgs _ _ _) (wpAny_pure ?_)
    refine wpAny_bind (wpAny_cRoomFor hu ?_)
    refine wpAny_bind (m := callSpecialIfBound? (.ref x) _ _) (PySem.W.ifBound_K X I he hf (wpAny_mono h (fun v s' hv => ?_) fun _ _ e => e))
    obtain ⟨k, rfl, q⟩ := hv
    refine wpAny_bind (wpAny_truthy_bool ?_)
    exact wpAny_pure ⟨_, rfl, q⟩
  unfold tryCompare
  refine wpAny_bind (m := callSpecialIfBound? (.ref x) _ _) ?_
  simp only [callSpecialIfBound?, bindSpecialIfBound?]
  refine wpAny_holding (wpAny_bind (wpAny_bind (wpAny_bind (I.type.here ((PySem.W.looks_findIn X hs).here ?_)))))
  refine wpAny_bind (wpAny_askSetting (wpAny_ite ?_))
  have bd : PySem.W.Looks (model prog w) s.heap (bindSpecial (.builtin "object.__ne__") (.ref x)) (.builtin "object.__ne__", [.ref x]) := PySem.W.Looks.of_pure (F.slot_object_ne.bind _)
  have fin : wpAny (model prog w) A (call (.builtin "object.__ne__") ([.ref x] ++ [b]) >>= fun v => pure (some v)) (fun r s' => wpAny (model prog w) A (match r with | some .notImplemented | none => pure none | some v => pure (some v)) Q E s') E s := by
    refine wpAny_bind (wpAny_mono main (fun v s' h' => ?_) fun _ _ h' => h')
    obtain ⟨k, rfl, q⟩ := h'
    exact wpAny_pure (wpAny_pure q)
  split
  · exact wpAny_bind (bd.here (wpAny_pure (by exact fin)))
  · exact wpAny_tryCatch (wpAny_bind (bd.here (wpAny_pure (by exact fin))))

/-- x != b, x an instance with an own == and no own != -/
theorem ne_inst {x : Addr} {b tb : Value} {f : Addr} {ox : Obj} {od : Option Obj} {Q : Value → Shared → Prop} (hu : A.units + 1 < cLine)
    (X : K.In s.heap) (I : PySem.W.InstAt s.heap x ox C od) (hb : PySem.W.Looks (model prog w) s.heap (typeOf b) tb) (hn : PySem.W.notFirst K C tb = true)
    (hs : PySem.W.findIn K (.ref C) "__ne__" = some (some (.builtin "object.__ne__"))) (hobj : PySem.W.mroIn K C (.type "object") = some true)
    (he : PySem.W.findIn K (.ref C) "__eq__" = some (some (.ref f))) (hf : PySem.W.isFn K (.ref f) = true)
    (h : wpAny (model prog w) A.in1 (call (.ref f) [.ref x, b]) (fun v s' => ∃ k, v = .bool k ∧ Q (.bool (!k)) s') E s) : wpAny (model prog w) A (richCompare .NotEq (.ref x) b) Q E s := by
  have one : wpAny (model prog w) A (tryCompare (.ref x) "__ne__" b) (fun r s' => ∃ v, r = some v ∧ Q v s') E s :=
    try_ne hu X I hs hobj he hf (wpAny_mono h (fun v s' ⟨k, e, q⟩ => ⟨k, e, _, rfl, q⟩) fun _ _ e => e)
  unfold richCompare
  simp only [oneThing_ref]
  refine wpAny_holding (wpAny_bind (wpAny_cRoomFor (by omega) ?_))
  refine wpAny_bind (I.type.here (wpAny_bind (hb.here ?_)))
  split
  · rename_i q
    have e : PySem.W.subIn K tb (.ref C) = some false := by
      rcases Bool.or_eq_true_iff.mp hn with e | e
      · rw [beq_iff_eq.mp e] at q; simp at q
      · exact beq_iff_eq.mp e
    refine wpAny_bind ((PySem.W.looks_subIn X e).here ?_)
    simp only [Bool.false_eq_true, if_false]
    refine wpAny_bind (wpAny_mono one (fun r s' z => ?_) fun _ _ e => e)
    obtain ⟨v, rfl, hq⟩ := z
    exact wpAny_pure hq
  · refine wpAny_bind (wpAny_pure ?_)
    simp only [Bool.false_eq_true, if_false]
    refine wpAny_bind (wpAny_mono one (fun r s' z => ?_) fun _ _ e => e)
    obtain ⟨v, rfl, hq⟩ := z
    exact wpAny_pure hq

/-- v != x, v of a built-in type that declines, x an instance -/
theorem ne_refl {x : Addr} {v : Value} {T id : String} {f : Addr} {ox : Obj} {od : Option Obj} {Q : Value → Shared → Prop} (hu : A.units + 1 < cLine)
    (X : K.In s.heap) (I : PySem.W.InstAt s.heap x ox C od) (hT : s.TypeIs v T) (slot : Slot T (cmpInfo .NotEq).2.1 id)
    (dec : ∀ Q' : Value → Shared → Prop, Q' .notImplemented s → wpAny (model prog w) A (call (.builtin id) [v, .ref x]) Q' E s)
    (hsub : PySem.W.subIn K (.ref C) (.type T) = some false)
    (hs : PySem.W.findIn K (.ref C) "__ne__" = some (some (.builtin "object.__ne__"))) (hobj : PySem.W.mroIn K C (.type "object") = some true)
    (he : PySem.W.findIn K (.ref C) "__eq__" = some (some (.ref f))) (hf : PySem.W.isFn K (.ref f) = true)
    (h : wpAny (model prog w) A.in1 (call (.ref f) [.ref x, v]) (fun v s' => ∃ k, v = .bool k ∧ Q (.bool (!k)) s') E s) : wpAny (model prog w) A (richCompare .NotEq v (.ref x)) Q E s := by
  have one : wpAny (model prog w) A (tryCompare (.ref x) (cmpInfo .NotEq).2.2 v) (fun r s' => ∃ v, r = some v ∧ Q v s') E s :=
    try_ne hu X I hs hobj he hf (wpAny_mono h (fun v s' ⟨k, e, q⟩ => ⟨k, e, _, rfl, q⟩) fun _ _ e => e)
  have hne : (Value.type T != Value.ref C) = true := by
    rw [bne, beq_eq_false_iff_ne.mpr (fun q => by cases q)]; rfl
  rcases hi : cmpInfo CmpOp.NotEq with ⟨sym, f', r'⟩
  rw [hi] at slot one
  simp only [richCompare, hi, hT.oneThing_none]
  refine wpAny_holding ?_
  refine wpAny_bind (wpAny_cRoomFor (by omega) ?_)
  refine wpAny_bind (wpAny_typeOf hT (wpAny_bind (I.type.here ?_)))
  simp only [hne, if_true]
  refine wpAny_bind ((PySem.W.looks_subIn X hsub).here ?_)
  simp only [Bool.false_eq_true, if_false]
  refine wpAny_bind (m := tryCompare v _ (.ref x)) (wpAny_tryCompare_declines hT slot (dec _ ⟨rfl, ?_⟩))
  simp only [Bool.not_false, if_true]
  refine wpAny_bind (wpAny_mono one (fun r s' z => ?_) fun _ _ e => e)
  obtain ⟨u, rfl, hq⟩ := z
  exact wpAny_pure hq

/-! ### what declines beside an instance -/
section
variable {a : Addr}
abbrev PlainAt (s : Shared) (a C : Addr) : Prop := ∃ dd sl, s.heap.get? a = some { cls := .ref C, dict := dd, data := .plain, slots := sl }
theorem dec_int_eq (b : Int) (u : Tok) (C : Addr) : Meets (Builtin.«int.__eq__» ⟨[.int b u, .ref a], []⟩) (fun _ R s => PlainAt s a C ∧ R (.ok (.ret .notImplemented)) s) :=
  .of_wp fun prog w A R s h => by obtain ⟨hp, g, d, tk, os⟩ := s; obtain ⟨⟨dd, sl, hl⟩, h⟩ := h; wp_walk using wpAny_loadPart' hl, wpAny_load hl; exact ⟨_, rfl, h⟩
theorem dec_int_ne (b : Int) (u : Tok) (C : Addr) : Meets (Builtin.«int.__ne__» ⟨[.int b u, .ref a], []⟩) (fun _ R s => PlainAt s a C ∧ R (.ok (.ret .notImplemented)) s) :=
  .of_wp fun prog w A R s h => by obtain ⟨hp, g, d, tk, os⟩ := s; obtain ⟨⟨dd, sl, hl⟩, h⟩ := h; wp_walk using wpAny_loadPart' hl, wpAny_load hl; exact ⟨_, rfl, h⟩
theorem dec_int_lt (b : Int) (u : Tok) (C : Addr) : Meets (Builtin.«int.__lt__» ⟨[.int b u, .ref a], []⟩) (fun _ R s => PlainAt s a C ∧ R (.ok (.ret .notImplemented)) s) :=
  .of_wp fun prog w A R s h => by obtain ⟨hp, g, d, tk, os⟩ := s; obtain ⟨⟨dd, sl, hl⟩, h⟩ := h; wp_walk using wpAny_loadPart' hl, wpAny_load hl; exact ⟨_, rfl, h⟩
theorem dec_int_le (b : Int) (u : Tok) (C : Addr) : Meets (Builtin.«int.__le__» ⟨[.int b u, .ref a], []⟩) (fun _ R s => PlainAt s a C ∧ R (.ok (.ret .notImplemented)) s) :=
  .of_wp fun prog w A R s h => by obtain ⟨hp, g, d, tk, os⟩ := s; obtain ⟨⟨dd, sl, hl⟩, h⟩ := h; wp_walk using wpAny_loadPart' hl, wpAny_load hl; exact ⟨_, rfl, h⟩
theorem dec_int_gt (b : Int) (u : Tok) (C : Addr) : Meets (Builtin.«int.__gt__» ⟨[.int b u, .ref a], []⟩) (fun _ R s => PlainAt s a C ∧ R (.ok (.ret .notImplemented)) s) :=
  .of_wp fun prog w A R s h => by obtain ⟨hp, g, d, tk, os⟩ := s; obtain ⟨⟨dd, sl, hl⟩, h⟩ := h; wp_walk using wpAny_loadPart' hl, wpAny_load hl; exact ⟨_, rfl, h⟩
theorem dec_int_ge (b : Int) (u : Tok) (C : Addr) : Meets (Builtin.«int.__ge__» ⟨[.int b u, .ref a], []⟩) (fun _ R s => PlainAt s a C ∧ R (.ok (.ret .notImplemented)) s) :=
  .of_wp fun prog w A R s h => by obtain ⟨hp, g, d, tk, os⟩ := s; obtain ⟨⟨dd, sl, hl⟩, h⟩ := h; wp_walk using wpAny_loadPart' hl, wpAny_load hl; exact ⟨_, rfl, h⟩
theorem dec_bool_eq (b : Bool) (C : Addr) : Meets (Builtin.«int.__eq__» ⟨[.bool b, .ref a], []⟩) (fun _ R s => PlainAt s a C ∧ R (.ok (.ret .notImplemented)) s) :=
  .of_wp fun prog w A R s h => by obtain ⟨hp, g, d, tk, os⟩ := s; obtain ⟨⟨dd, sl, hl⟩, h⟩ := h; wp_walk using wpAny_loadPart' hl, wpAny_load hl; exact ⟨_, rfl, h⟩
theorem dec_none_eq : Gives (Builtin.«NoneType.__eq__» ⟨[.none, .ref a], []⟩) (.val (Value.notImplemented)) :=
  .of_wp fun M A E s Q h => by obtain ⟨hp, g, d, tk, os⟩ := s; wp_walk; exact ⟨_, rfl, h⟩
theorem dec_str_eq (b : Str) (u : Tok) (C : Addr) : Meets (Builtin.«str.__eq__» ⟨[.str b u, .ref a], []⟩) (fun _ R s => PlainAt s a C ∧ R (.ok (.ret .notImplemented)) s) :=
  .of_wp fun prog w A R s h => by obtain ⟨hp, g, d, tk, os⟩ := s; obtain ⟨⟨dd, sl, hl⟩, h⟩ := h; wp_walk using wpAny_loadPart' hl, wpAny_load hl; exact ⟨_, rfl, h⟩
theorem dec_list_eq {l : Addr} {R : Result → Shared → Prop} (sub : PySem.W.Looks (model prog w) s.heap (isInstance (.ref a) (.type "list")) false) (h : R (.ok (.ret .notImplemented)) s) :
    wpAny (model prog w) A.in1 (Builtin.«list.__eq__» ⟨[.ref l, .ref a], []⟩) (fun fin s' => match fin with | .done f => R (.ok f) s' | .again c' => c'.quiet = true ∧ codeAny (model prog w) A c' R s') (fun e s' => R (.error e) s') s := by
  refine wpAny_bind (m := slotArgs _ _ _) (wpAny_pure ?_)
  refine wpAny_bind (m := isInstance _ _) (sub.here ?_)
  wp_walk
  exact h
theorem dec_tuple_eq {l : Addr} {R : Result → Shared → Prop} (sub : PySem.W.Looks (model prog w) s.heap (isInstance (.ref a) (.type "tuple")) false) (h : R (.ok (.ret .notImplemented)) s) :
    wpAny (model prog w) A.in1 (Builtin.«tuple.__eq__» ⟨[.ref l, .ref a], []⟩) (fun fin s' => match fin with | .done f => R (.ok f) s' | .again c' => c'.quiet = true ∧ codeAny (model prog w) A c' R s') (fun e s' => R (.error e) s') s := by
  refine wpAny_bind (m := slotArgs _ _ _) (wpAny_pure ?_)
  refine wpAny_bind (m := isInstance _ _) (sub.here ?_)
  wp_walk
  exact h
theorem dec_dict_eq {l : Addr} {R : Result → Shared → Prop} (sub : PySem.W.Looks (model prog w) s.heap (isInstance (.ref a) (.type "dict")) false) (h : R (.ok (.ret .notImplemented)) s) :
    wpAny (model prog w) A.in1 (Builtin.«dict.__eq__» ⟨[.ref l, .ref a], []⟩) (fun fin s' => match fin with | .done f => R (.ok f) s' | .again c' => c'.quiet = true ∧ codeAny (model prog w) A c' R s') (fun e s' => R (.error e) s') s := by
  have e : Builtin.Dict.dictSlotArgs "__eq__" ⟨[.ref l, .ref a], []⟩ = pure (.ref l, .ref a) := by kernel_rfl
  refine wpAny_bind (m := Builtin.Dict.dictSlotArgs _ _) ?_
  rw [e]
  refine wpAny_pure ?_
  refine wpAny_bind (m := isInstance _ _) (sub.here ?_)
  wp_walk
  exact h
theorem dec_bool_ne (b : Bool) (C : Addr) : Meets (Builtin.«int.__ne__» ⟨[.bool b, .ref a], []⟩) (fun _ R s => PlainAt s a C ∧ R (.ok (.ret .notImplemented)) s) :=
  .of_wp fun prog w A R s h => by obtain ⟨hp, g, d, tk, os⟩ := s; obtain ⟨⟨dd, sl, hl⟩, h⟩ := h; wp_walk using wpAny_loadPart' hl, wpAny_load hl; exact ⟨_, rfl, h⟩
theorem dec_none_ne : Gives (Builtin.«NoneType.__ne__» ⟨[.none, .ref a], []⟩) (.val (Value.notImplemented)) :=
  .of_wp fun M A E s Q h => by obtain ⟨hp, g, d, tk, os⟩ := s; wp_walk; exact ⟨_, rfl, h⟩
theorem dec_str_ne (b : Str) (u : Tok) (C : Addr) : Meets (Builtin.«str.__ne__» ⟨[.str b u, .ref a], []⟩) (fun _ R s => PlainAt s a C ∧ R (.ok (.ret .notImplemented)) s) :=
  .of_wp fun prog w A R s h => by obtain ⟨hp, g, d, tk, os⟩ := s; obtain ⟨⟨dd, sl, hl⟩, h⟩ := h; wp_walk using wpAny_loadPart' hl, wpAny_load hl; exact ⟨_, rfl, h⟩
theorem dec_list_ne {l : Addr} {R : Result → Shared → Prop} (sub : PySem.W.Looks (model prog w) s.heap (isInstance (.ref a) (.type "list")) false) (h : R (.ok (.ret .notImplemented)) s) :
    wpAny (model prog w) A.in1 (Builtin.«list.__ne__» ⟨[.ref l, .ref a], []⟩) (fun fin s' => match fin with | .done f => R (.ok f) s' | .again c' => c'.quiet = true ∧ codeAny (model prog w) A c' R s') (fun e s' => R (.error e) s') s := by
  refine wpAny_bind (m := slotArgs _ _ _) (wpAny_pure ?_)
  refine wpAny_bind (m := isInstance _ _) (sub.here ?_)
  wp_walk
  exact h
theorem dec_tuple_ne {l : Addr} {R : Result → Shared → Prop} (sub : PySem.W.Looks (model prog w) s.heap (isInstance (.ref a) (.type "tuple")) false) (h : R (.ok (.ret .notImplemented)) s) :
    wpAny (model prog w) A.in1 (Builtin.«tuple.__ne__» ⟨[.ref l, .ref a], []⟩) (fun fin s' => match fin with | .done f => R (.ok f) s' | .again c' => c'.quiet = true ∧ codeAny (model prog w) A c' R s') (fun e s' => R (.error e) s') s := by
  refine wpAny_bind (m := slotArgs _ _ _) (wpAny_pure ?_)
  refine wpAny_bind (m := isInstance _ _) (sub.here ?_)
  wp_walk
  exact h
theorem dec_dict_ne {l : Addr} {R : Result → Shared → Prop} (sub : PySem.W.Looks (model prog w) s.heap (isInstance (.ref a) (.type "dict")) false) (h : R (.ok (.ret .notImplemented)) s) :
    wpAny (model prog w) A.in1 (Builtin.«dict.__ne__» ⟨[.ref l, .ref a], []⟩) (fun fin s' => match fin with | .done f => R (.ok f) s' | .again c' => c'.quiet = true ∧ codeAny (model prog w) A c' R s') (fun e s' => R (.error e) s') s := by
  have e : Builtin.Dict.dictSlotArgs "__ne__" ⟨[.ref l, .ref a], []⟩ = pure (.ref l, .ref a) := by kernel_rfl
  refine wpAny_bind (m := Builtin.Dict.dictSlotArgs _ _) ?_
  rw [e]
  refine wpAny_pure ?_
  refine wpAny_bind (m := isInstance _ _) (sub.here ?_)
  wp_walk
  exact h
end
end
end AmL
/-! rules over the hand layer: operators of an own class, beside built-in values too -/
namespace Am
open PySem PySem.Spec PyProof.Rows L2

/-- values of built-in types -/
inductive Bk (H : Hp) : V → String → Prop where
  | non : Bk H .non "NoneType"
  | bl (b : Bool) : Bk H (.bl b) "bool"
  | int (i : Int) : Bk H (.int i) "int"
  | str (z : Str) : Bk H (.str z) "str"
  | lst {a : Addr} {xs : List V} (h : H a = some (.lst xs)) : Bk H (.ref a) "list"
  | tup {a : Addr} {xs : List V} (h : H a = some (.tup xs)) : Bk H (.ref a) "tuple"
  | dK {a : Addr} {kvs : List (Key × V)} (h : H a = some (.dK kvs)) : Bk H (.ref a) "dict"
def isI : V → Bool
  | .int _ => true
  | _ => false
theorem Bk.same {H H' : Hp} (e : Same H H') {x : V} {T : String} (b : Bk H x T) : Bk H' x T := by
  cases b with
  | non => exact .non
  | bl b => exact .bl b
  | int i => exact .int i
  | str z => exact .str z
  | lst h => exact .lst (e _ _ h)
  | tup h => exact .tup (e _ _ h)
  | dK h => exact .dK (e _ _ h)
theorem Bk.tyOf {K : PySem.W.Frag} {H : Hp} {x : V} {T : String} (b : Bk H x T) : TyOf K H x (.type T) := by
  cases b with
  | non => exact .non
  | bl b => exact .bl b
  | int i => exact .int i
  | str z => exact .str z
  | lst h => exact .lst h
  | tup h => exact .tup h
  | dK h => exact .dK h
section
variable {X : Cx} {pins : List (Addr × Obj)} {σ : L2.St} {H : Hp} {s : Shared}
theorem Bk.typeIs {x : V} {T : String} {u : Value} (b : Bk H x T) (I : Inv X pins σ H s) (r : RelV x u) : s.TypeIs u T := by
  cases b with
  | non => cases (show u = Value.none from r); rfl
  | bl b => cases (show u = Value.bool b from r); rfl
  | int i => obtain ⟨t, q⟩ := (show ∃ t, u = Value.int i t from r); cases q; rfl
  | str z => obtain ⟨t, q⟩ := (show ∃ t, u = Value.str z t from r); cases q; rfl
  | @lst a xs ea =>
    cases (show u = Value.ref a from r)
    obtain ⟨_, _, n, _, h1⟩ := (show ObjOk X.prog X.w H s.heap a (.lst xs) from I.hok a _ ea)
    exact ⟨_, h1, rfl⟩
  | @tup a xs ea =>
    cases (show u = Value.ref a from r)
    obtain ⟨_, _, _, o, h1, h2, _⟩ := (show ObjOk X.prog X.w H s.heap a (.tup xs) from I.hok a _ ea)
    exact ⟨o, h1, h2⟩
  | @dK a kvs ea =>
    cases (show u = Value.ref a from r)
    obtain ⟨_, _, vs, _, o, es, ep, h1, h2, _⟩ := (show ObjOk X.prog X.w H s.heap a (.dK kvs) from I.hok a _ ea)
    exact ⟨o, h1, h2.1⟩
theorem looks_typeIs {M : Model} {u : Value} {T : String} (h : s.TypeIs u T) : PySem.W.Looks M s.heap (typeOf u) (.type T) := by
  intro A Q E s' k q
  have h' : s'.TypeIs u T := by
    cases u with
    | ref a => obtain ⟨o, ho, hc⟩ := h; exact ⟨o, k _ _ ho, hc⟩
    | _ => exact h
  exact wpAny_typeOf h' q
end

/-- what the operators ask of the class -/
structure OpC (K : PySem.W.Frag) (C : Addr) : Prop where
  sf : PySem.W.selfFirst K C = true
  ne : PySem.W.findIn K (.ref C) "__ne__" = some (some (.builtin "object.__ne__"))
  ob : PySem.W.mroIn K C (.type "object") = some true
  s1 : PySem.W.subIn K (.ref C) (.type "int") = some false
  s2 : PySem.W.subIn K (.ref C) (.type "bool") = some false
  s3 : PySem.W.subIn K (.ref C) (.type "NoneType") = some false
  s4 : PySem.W.subIn K (.ref C) (.type "str") = some false
  s5 : PySem.W.subIn K (.ref C) (.type "list") = some false
  s6 : PySem.W.subIn K (.ref C) (.type "tuple") = some false
  s7 : PySem.W.subIn K (.ref C) (.type "dict") = some false
  r1 : PySem.W.subIn K (.type "int") (.ref C) = some false
  r2 : PySem.W.subIn K (.type "bool") (.ref C) = some false
  r3 : PySem.W.subIn K (.type "NoneType") (.ref C) = some false
  r4 : PySem.W.subIn K (.type "str") (.ref C) = some false
  r5 : PySem.W.subIn K (.type "list") (.ref C) = some false
  r6 : PySem.W.subIn K (.type "tuple") (.ref C) = some false
  r7 : PySem.W.subIn K (.type "dict") (.ref C) = some false
theorem OpC.sub {K : PySem.W.Frag} {C : Addr} {H : Hp} {x : V} {T : String} (c : OpC K C) (b : Bk H x T) : PySem.W.subIn K (.ref C) (.type T) = some false := by
  cases b <;> first | exact c.s1 | exact c.s2 | exact c.s3 | exact c.s4 | exact c.s5 | exact c.s6 | exact c.s7
theorem OpC.rev {K : PySem.W.Frag} {C : Addr} {H : Hp} {x : V} {T : String} (c : OpC K C) (b : Bk H x T) : PySem.W.subIn K (.type T) (.ref C) = some false := by
  cases b <;> first | exact c.r1 | exact c.r2 | exact c.r3 | exact c.r4 | exact c.r5 | exact c.r6 | exact c.r7
theorem OpC.nf {K : PySem.W.Frag} {C : Addr} {H : Hp} {x : V} {T : String} (c : OpC K C) (b : Bk H x T) : PySem.W.notFirst K C (.type T) = true := by
  unfold PySem.W.notFirst
  rw [c.rev b]
  simp
theorem nf_self {K : PySem.W.Frag} {C : Addr} : PySem.W.notFirst K C (.ref C) = true := by
  unfold PySem.W.notFirst
  simp

/-- a method that an operator calls -/
structure Om (X : Cx) (C : Addr) (name : Str) (g : Addr) : Prop where
  hs : PySem.W.findIn X.K (.ref C) name = some (some (.ref g))
  hf : PySem.W.isFn X.K (.ref g) = true
/-- an instance of C, or a value of a built-in type -/
def OrB (C : Addr) (H : Hp) (y : V) : Prop := (∃ b dy gs, y = .ref b ∧ H b = some (.ins C dy gs)) ∨ ∃ T, Bk H y T
section
variable {X : Cx} {C g : Addr} {k : Nat} {fd : FuncData} {ps : List Str} {sp : Sp} {CX : CXT} {E : XK} {pins : List (Addr × Obj)} {σ : L2.St} {H : Hp} {s : Shared}
theorem inst_of {a dx : Addr} {fs : List (Str × V)} (I : Inv X pins σ H s) (ha : H a = some (.ins C dx fs)) : ∃ od, PySem.W.InstAt s.heap a (PySem.W.instObj C dx) C (some od) := by
  obtain ⟨mA, J, _⟩ := ins_get I.hok ha
  obtain ⟨od, J, _⟩ := J.look
  exact ⟨od, J⟩
theorem plain_of {a dx : Addr} {fs : List (Str × V)} (I : Inv X pins σ H s) (ha : H a = some (.ins C dx fs)) : AmL.PlainAt s a C := by
  obtain ⟨_, _, _, h, _⟩ := (show ObjOk X.prog X.w H s.heap a (.ins C dx fs) from I.hok a _ ha)
  exact ⟨_, _, h⟩
theorem orB_type {y : V} {u : Value} (c : OpC X.K C) (I : Inv X pins σ H s) (ry : RelV y u) (h : OrB C H y) : ∃ tb, PySem.W.Looks (model X.prog X.w) s.heap (typeOf u) tb ∧ PySem.W.notFirst X.K C tb = true := by
  rcases h with ⟨b, dy, gs, rfl, hb⟩ | ⟨T, b⟩
  · cases (show u = Value.ref b from ry)
    obtain ⟨od, J⟩ := inst_of I hb
    exact ⟨.ref C, J.type, nf_self⟩
  · exact ⟨.type T, looks_typeIs (b.typeIs I ry), c.nf b⟩

/-- x op y: x an instance -/
def rCmp (C : Addr) (sp : Sp) (E : XK) : R2 := fun x y H Q => (∃ a dx fs, x = .ref a ∧ H a = some (.ins C dx fs)) ∧ OrB C H y ∧ sp [x, y] H Q E
theorem op_cmpC {op : CmpOp} (hop : ∀ a b, compareOp op a b = richCompare op a b) (c : OpC X.K C) (m : Om X C (cmpInfo op).2.1 g) (F : FnOk X.prog X.w X.K X.mg X.base CX k g fd ps sp) (hr : Room k X.A) (hb : Binds X.K fd ps [])
    (hx : Passes CX X E) : OpR X (compareOp op) (rCmp C sp E) := by
  intro pins s σ H x y v u Q I rx ry h
  obtain ⟨⟨a, dx, fs, rfl, ha⟩, hy, q⟩ := h
  cases (show v = Value.ref a from rx)
  obtain ⟨od, J⟩ := inst_of I ha
  obtain ⟨tb, ht, hn⟩ := orB_type c I ry hy
  obtain ⟨mm, hF⟩ := I.fr
  rw [hop]
  refine PySem.W.cmp_K (op := op) hr.units0 hF I.ok.mod.kin J ht hn m.hs m.hf ?_
  refine wpAny_mono (run_fn (us := [.ref a, u]) (vs := [.ref a, y]) (dvs := []) F hr hb .nil hx I (.cons rfl (.cons ry .nil)) q) (fun w s' z => ?_) fun _ _ x => x
  obtain ⟨z', H', I', rz, qz⟩ := z
  exact SlX.cmpback rz ⟨z', H', I', rz, qz⟩

theorem room_in1 {A : Around} (hr : Room (k + 1) A) : Room k A.in1 := hr.in1
/-- the callee runs one builtin below -/
theorem run_in1 {Q : VK} {us : List Value} {vs : List V} (F : FnOk X.prog X.w X.K X.mg X.base CX k g fd ps sp) (hr : Room (k + 1) X.A) (hb : Binds X.K fd ps []) (hx : Passes CX X E)
    (I : Inv X pins σ H s) (r : Vals vs us) (h : sp vs H Q E) : wpAny (model X.prog X.w) X.A.in1 (call (.ref g) us) (EP X pins σ Q) X.xe s := by
  have hl : us.length = ps.length := by rw [← r.length]; exact F.len _ _ _ _ h
  refine wpAny_call (codeAny_mono (F.run X.A.in1 X.stack s H ⟨us, []⟩ us vs Q E hr.in1 I.env0.in1 (by
    have := hb s us I.kIn (by simpa using hl)
    simpa using this) r h) fun r s' hq => ?_)
  cases r with
  | error e => exact hx pins σ H s e s' I hq
  | ok fl =>
    cases fl with
    | ret u => exact I.after hq
    | next => exact False.elim hq
    | brk => exact False.elim hq
    | cont => exact False.elim hq

/-- x != y: x an instance whose class has an own ==, that hands back a truth value -/
def rNeC (C : Addr) (sp : Sp) (E : XK) : R2 := fun x y H Q => (∃ a dx fs, x = .ref a ∧ H a = some (.ins C dx fs)) ∧ OrB C H y ∧ sp [x, y] H (fun v H' => ∃ b, v = .bl b ∧ Q (.bl (!b)) H') E
theorem op_neC (c : OpC X.K C) (m : Om X C "__eq__" g) (F : FnOk X.prog X.w X.K X.mg X.base CX k g fd ps sp) (hr : Room (k + 1) X.A) (hb : Binds X.K fd ps [])
    (hx : Passes CX X E) : OpR X (compareOp .NotEq) (rNeC C sp E) := by
  intro pins s σ H x y v u Q I rx ry h
  obtain ⟨⟨a, dx, fs, rfl, ha⟩, hy, q⟩ := h
  cases (show v = Value.ref a from rx)
  obtain ⟨od, J⟩ := inst_of I ha
  obtain ⟨tb, ht, hn⟩ := orB_type c I ry hy
  show wpAny (model X.prog X.w) X.A (richCompare .NotEq _ _) (EP X pins σ Q) X.xe s
  refine AmL.ne_inst (by have := hr.units; omega) I.kIn J ht hn c.ne c.ob m.hs m.hf ?_
  refine wpAny_mono (run_in1 (us := [.ref a, u]) (vs := [.ref a, y]) F hr hb hx I (.cons rfl (.cons ry .nil)) q) (fun w s' z => ?_) fun _ _ x => x
  obtain ⟨z', H', I', rz, b, rfl, qz⟩ := z
  cases (show w = Value.bool b from rz)
  exact ⟨b, rfl, .bl (!b), H', I', rfl, qz⟩

theorem insub {a dx : Addr} {fs : List (Str × V)} {T : String} (I : Inv X pins σ H s) (ha : H a = some (.ins C dx fs)) (h : PySem.W.subIn X.K (.ref C) (.type T) = some false) :
    PySem.W.Looks (model X.prog X.w) s.heap (isInstance (.ref a) (.type T)) false := by
  obtain ⟨od, J⟩ := inst_of I ha
  exact J.type.andThen (PySem.W.looks_subIn I.kIn h)

/-- what declines -/
structure Dec (X : Cx) (op : CmpOp) (P : Hp → V → Prop) : Prop where
  run : ∀ (pins : List (Addr × Obj)) (σ : L2.St) (H : Hp) (s : Shared) (C a dx : Addr) (fs : List (Str × V)) (x : V) (v : Value), OpC X.K C → Inv X pins σ H s → RelV x v → P H x → H a = some (.ins C dx fs) →
    ∃ T id, Bk H x T ∧ Slot T (cmpInfo op).2.1 id ∧ ∀ (E : Value → Shared → Prop) (Q' : Value → Shared → Prop), Q' .notImplemented s → wpAny (model X.prog X.w) X.A (call (.builtin id) [v, .ref a]) Q' E s

/-- x op y: x a value that declines, y an instance -/
def rRef (C : Addr) (P : Hp → V → Prop) (sp : Sp) (E : XK) : R2 := fun x y H Q => P H x ∧ (∃ a dx fs, y = .ref a ∧ H a = some (.ins C dx fs)) ∧ sp [y, x] H Q E
theorem op_refC {op : CmpOp} {P : Hp → V → Prop} (hop : ∀ a b, compareOp op a b = richCompare op a b) (d : Dec X op P) (c : OpC X.K C) (m : Om X C (cmpInfo op).2.2 g) (F : FnOk X.prog X.w X.K X.mg X.base CX k g fd ps sp) (hr : Room k X.A)
    (hb : Binds X.K fd ps []) (hx : Passes CX X E) : OpR X (compareOp op) (rRef C P sp E) := by
  intro pins s σ H x y v u Q I rx ry h
  obtain ⟨hp, ⟨a, dx, fs, rfl, ha⟩, q⟩ := h
  cases (show u = Value.ref a from ry)
  obtain ⟨od, J⟩ := inst_of I ha
  obtain ⟨T, id, bk, slot, dec⟩ := d.run pins σ H s C a dx fs x v c I rx hp ha
  rw [hop]
  refine AmL.refl_inst (op := op) hr.units0 I.kIn J (bk.typeIs I rx) slot (fun Q' q' => dec _ Q' q') (c.sub bk) m.hs m.hf ?_
  refine wpAny_mono (run_fn (us := [.ref a, v]) (vs := [.ref a, x]) (dvs := []) F hr hb .nil hx I (.cons rfl (.cons rx .nil)) q) (fun w s' z => ?_) fun _ _ x => x
  obtain ⟨z', H', I', rz, qz⟩ := z
  exact SlX.cmpback rz ⟨z', H', I', rz, qz⟩
def rRefN (C : Addr) (P : Hp → V → Prop) (sp : Sp) (E : XK) : R2 := fun x y H Q => P H x ∧ (∃ a dx fs, y = .ref a ∧ H a = some (.ins C dx fs)) ∧ sp [y, x] H (fun v H' => ∃ b, v = .bl b ∧ Q (.bl (!b)) H') E
theorem op_refN {P : Hp → V → Prop} (d : Dec X .NotEq P) (c : OpC X.K C) (m : Om X C "__eq__" g) (F : FnOk X.prog X.w X.K X.mg X.base CX k g fd ps sp) (hr : Room (k + 1) X.A)
    (hb : Binds X.K fd ps []) (hx : Passes CX X E) : OpR X (compareOp .NotEq) (rRefN C P sp E) := by
  intro pins s σ H x y v u Q I rx ry h
  obtain ⟨hp, ⟨a, dx, fs, rfl, ha⟩, q⟩ := h
  cases (show u = Value.ref a from ry)
  obtain ⟨od, J⟩ := inst_of I ha
  obtain ⟨T, id, bk, slot, dec⟩ := d.run pins σ H s C a dx fs x v c I rx hp ha
  show wpAny (model X.prog X.w) X.A (richCompare .NotEq _ _) (EP X pins σ Q) X.xe s
  refine AmL.ne_refl (by have := hr.units; omega) I.kIn J (bk.typeIs I rx) slot (fun Q' q' => dec _ Q' q') (c.sub bk) c.ne c.ob m.hs m.hf ?_
  refine wpAny_mono (run_in1 (us := [.ref a, v]) (vs := [.ref a, x]) F hr hb hx I (.cons rfl (.cons rx .nil)) q) (fun w s' z => ?_) fun _ _ x => x
  obtain ⟨z', H', I', rz, b, rfl, qz⟩ := z
  cases (show w = Value.bool b from rz)
  exact ⟨b, rfl, .bl (!b), H', I', rfl, qz⟩
end
section
variable {X : Cx}
theorem meets_call {T : String} {name : Str} {id : String} {B : Builtin} {v : Value} {rest : List Value} {A : Around} {E : Value → Shared → Prop} {s : Shared} {prog : Program} {w : World} (slot : Slot T name id) (hT : s.TypeIs v T) (entry : entryFor table id = some B) (args : argsOk id ⟨v :: rest, []⟩)
    {P : Shared → Prop} (g : PySem.Meets (B ⟨v :: rest, []⟩) (fun _ R s => P s ∧ R (.ok (.ret .notImplemented)) s)) (hp : P s) (Q' : Value → Shared → Prop) (q : Q' .notImplemented s) : wpAny (model prog w) A (call (.builtin id) (v :: rest)) Q' E s :=
  wpAny_call (codeAny_call_builtin slot.plain entry (slot.check _ _ _ _ _ _ _ _ hT args (g prog w A (wants Q' E) s ⟨hp, q⟩)))
def PInt : Hp → V → Prop := fun _ x => ∃ i, x = .int i
theorem dec_intEq : Dec X .Eq PInt := ⟨fun pins σ H s C a dx fs x v c I r hp ha => by
  obtain ⟨i, rfl⟩ := hp
  obtain ⟨t, rfl⟩ := (show ∃ t, v = Value.int i t from r)
  exact ⟨"int", _, .int i, PySem.F.slot_int_eq, fun E Q' q => meets_call PySem.F.slot_int_eq (typeIs_int s i t) PySem.F.entry_int_eq (PySem.F.args_int_eq_2 _ _) (AmL.dec_int_eq i t C) (plain_of I ha) Q' q⟩⟩
theorem dec_intNotEq : Dec X .NotEq PInt := ⟨fun pins σ H s C a dx fs x v c I r hp ha => by
  obtain ⟨i, rfl⟩ := hp
  obtain ⟨t, rfl⟩ := (show ∃ t, v = Value.int i t from r)
  exact ⟨"int", _, .int i, PySem.F.slot_int_ne, fun E Q' q => meets_call PySem.F.slot_int_ne (typeIs_int s i t) PySem.F.entry_int_ne (PySem.F.args_int_ne_2 _ _) (AmL.dec_int_ne i t C) (plain_of I ha) Q' q⟩⟩
theorem dec_intLt : Dec X .Lt PInt := ⟨fun pins σ H s C a dx fs x v c I r hp ha => by
  obtain ⟨i, rfl⟩ := hp
  obtain ⟨t, rfl⟩ := (show ∃ t, v = Value.int i t from r)
  exact ⟨"int", _, .int i, PySem.F.slot_int_lt, fun E Q' q => meets_call PySem.F.slot_int_lt (typeIs_int s i t) PySem.F.entry_int_lt (PySem.F.args_int_lt_2 _ _) (AmL.dec_int_lt i t C) (plain_of I ha) Q' q⟩⟩
theorem dec_intLtE : Dec X .LtE PInt := ⟨fun pins σ H s C a dx fs x v c I r hp ha => by
  obtain ⟨i, rfl⟩ := hp
  obtain ⟨t, rfl⟩ := (show ∃ t, v = Value.int i t from r)
  exact ⟨"int", _, .int i, PySem.F.slot_int_le, fun E Q' q => meets_call PySem.F.slot_int_le (typeIs_int s i t) PySem.F.entry_int_le (PySem.F.args_int_le_2 _ _) (AmL.dec_int_le i t C) (plain_of I ha) Q' q⟩⟩
theorem dec_intGt : Dec X .Gt PInt := ⟨fun pins σ H s C a dx fs x v c I r hp ha => by
  obtain ⟨i, rfl⟩ := hp
  obtain ⟨t, rfl⟩ := (show ∃ t, v = Value.int i t from r)
  exact ⟨"int", _, .int i, PySem.F.slot_int_gt, fun E Q' q => meets_call PySem.F.slot_int_gt (typeIs_int s i t) PySem.F.entry_int_gt (PySem.F.args_int_gt_2 _ _) (AmL.dec_int_gt i t C) (plain_of I ha) Q' q⟩⟩
theorem dec_intGtE : Dec X .GtE PInt := ⟨fun pins σ H s C a dx fs x v c I r hp ha => by
  obtain ⟨i, rfl⟩ := hp
  obtain ⟨t, rfl⟩ := (show ∃ t, v = Value.int i t from r)
  exact ⟨"int", _, .int i, PySem.F.slot_int_ge, fun E Q' q => meets_call PySem.F.slot_int_ge (typeIs_int s i t) PySem.F.entry_int_ge (PySem.F.args_int_ge_2 _ _) (AmL.dec_int_ge i t C) (plain_of I ha) Q' q⟩⟩
def PBk : Hp → V → Prop := fun H x => ∃ T, Bk H x T
theorem dec_bkEq : Dec X .Eq PBk := ⟨fun pins σ H s C a dx fs x v c I r hp ha => by
  obtain ⟨T, b⟩ := hp
  refine ⟨T, ?_⟩
  have hT := b.typeIs I r
  cases b with
  | non =>
    cases (show v = Value.none from r)
    exact ⟨_, .non, PySem.F.slot_NoneType_eq, fun E Q' q => call_gives PySem.F.slot_NoneType_eq hT PySem.F.entry_NoneType_eq (PySem.F.args_NoneType_eq_2 _ _) AmL.dec_none_eq q⟩
  | bl k =>
    cases (show v = Value.bool k from r)
    exact ⟨_, .bl k, PySem.F.slot_bool_eq, fun E Q' q => meets_call PySem.F.slot_bool_eq hT PySem.F.entry_int_eq (PySem.F.args_int_eq_2 _ _) (AmL.dec_bool_eq k C) (plain_of I ha) Q' q⟩
  | int i =>
    obtain ⟨t, rfl⟩ := (show ∃ t, v = Value.int i t from r)
    exact ⟨_, .int i, PySem.F.slot_int_eq, fun E Q' q => meets_call PySem.F.slot_int_eq hT PySem.F.entry_int_eq (PySem.F.args_int_eq_2 _ _) (AmL.dec_int_eq i t C) (plain_of I ha) Q' q⟩
  | str z =>
    obtain ⟨t, rfl⟩ := (show ∃ t, v = Value.str z t from r)
    exact ⟨_, .str z, PySem.F.slot_str_eq, fun E Q' q => meets_call PySem.F.slot_str_eq hT PySem.F.entry_str_eq (PySem.F.args_str_eq_2 _ _) (AmL.dec_str_eq z t C) (plain_of I ha) Q' q⟩
  | @lst l xs ea =>
    cases (show v = Value.ref l from r)
    exact ⟨_, .lst ea, PySem.F.slot_list_eq, fun E Q' q => GQ.call_here PySem.F.slot_list_eq hT PySem.F.entry_list_eq (PySem.F.args_list_eq_2 _ _) (AmL.dec_list_eq (R := wants Q' E) (insub I ha c.s5) q)⟩
  | @tup l xs ea =>
    cases (show v = Value.ref l from r)
    exact ⟨_, .tup ea, PySem.F.slot_tuple_eq, fun E Q' q => GQ.call_here PySem.F.slot_tuple_eq hT PySem.F.entry_tuple_eq (PySem.F.args_tuple_eq_2 _ _) (AmL.dec_tuple_eq (R := wants Q' E) (insub I ha c.s6) q)⟩
  | @dK l kvs ea =>
    cases (show v = Value.ref l from r)
    exact ⟨_, .dK ea, PySem.F.slot_dict_eq, fun E Q' q => GQ.call_here PySem.F.slot_dict_eq hT PySem.F.entry_dict_eq (PySem.F.args_dict_eq_2 _ _) (AmL.dec_dict_eq (R := wants Q' E) (insub I ha c.s7) q)⟩⟩
theorem dec_bkNotEq : Dec X .NotEq PBk := ⟨fun pins σ H s C a dx fs x v c I r hp ha => by
  obtain ⟨T, b⟩ := hp
  refine ⟨T, ?_⟩
  have hT := b.typeIs I r
  cases b with
  | non =>
    cases (show v = Value.none from r)
    exact ⟨_, .non, PySem.F.slot_NoneType_ne, fun E Q' q => call_gives PySem.F.slot_NoneType_ne hT PySem.F.entry_NoneType_ne (PySem.F.args_NoneType_ne_2 _ _) AmL.dec_none_ne q⟩
  | bl k =>
    cases (show v = Value.bool k from r)
    exact ⟨_, .bl k, PySem.F.slot_bool_ne, fun E Q' q => meets_call PySem.F.slot_bool_ne hT PySem.F.entry_int_ne (PySem.F.args_int_ne_2 _ _) (AmL.dec_bool_ne k C) (plain_of I ha) Q' q⟩
  | int i =>
    obtain ⟨t, rfl⟩ := (show ∃ t, v = Value.int i t from r)
    exact ⟨_, .int i, PySem.F.slot_int_ne, fun E Q' q => meets_call PySem.F.slot_int_ne hT PySem.F.entry_int_ne (PySem.F.args_int_ne_2 _ _) (AmL.dec_int_ne i t C) (plain_of I ha) Q' q⟩
  | str z =>
    obtain ⟨t, rfl⟩ := (show ∃ t, v = Value.str z t from r)
    exact ⟨_, .str z, PySem.F.slot_str_ne, fun E Q' q => meets_call PySem.F.slot_str_ne hT PySem.F.entry_str_ne (PySem.F.args_str_ne_2 _ _) (AmL.dec_str_ne z t C) (plain_of I ha) Q' q⟩
  | @lst l xs ea =>
    cases (show v = Value.ref l from r)
    exact ⟨_, .lst ea, PySem.F.slot_list_ne, fun E Q' q => GQ.call_here PySem.F.slot_list_ne hT PySem.F.entry_list_ne (PySem.F.args_list_ne_2 _ _) (AmL.dec_list_ne (R := wants Q' E) (insub I ha c.s5) q)⟩
  | @tup l xs ea =>
    cases (show v = Value.ref l from r)
    exact ⟨_, .tup ea, PySem.F.slot_tuple_ne, fun E Q' q => GQ.call_here PySem.F.slot_tuple_ne hT PySem.F.entry_tuple_ne (PySem.F.args_tuple_ne_2 _ _) (AmL.dec_tuple_ne (R := wants Q' E) (insub I ha c.s6) q)⟩
  | @dK l kvs ea =>
    cases (show v = Value.ref l from r)
    exact ⟨_, .dK ea, PySem.F.slot_dict_ne, fun E Q' q => GQ.call_here PySem.F.slot_dict_ne hT PySem.F.entry_dict_ne (PySem.F.args_dict_ne_2 _ _) (AmL.dec_dict_ne (R := wants Q' E) (insub I ha c.s7) q)⟩⟩
end
section
variable {X : Cx} {C g : Addr} {k : Nat} {fd : FuncData} {ps : List Str} {sp : Sp} {CX : CXT} {E : XK}
/-- what an arithmetic operator asks of the type int -/
structure OpI (X : Cx) (C : Addr) (nm : String) : Prop where
  h1 : ∃ fo, PySem.W.findIn X.K (.type "int") (PySem.dunder nm) = some fo
  h2 : ∃ ro, PySem.W.findIn X.K (.type "int") (PySem.dunderR nm) = some ro
  hr : ∃ g : Addr, PySem.W.findIn X.K (.ref C) (PySem.dunderR nm) = some (some (.ref g))
/-- x op y: x an instance, y an instance or an int -/
def OrI (C : Addr) (H : Hp) (y : V) : Prop := (∃ b dy gs, y = .ref b ∧ H b = some (.ins C dy gs)) ∨ ∃ i, y = .int i
def rBin (C : Addr) (sp : Sp) (E : XK) : R2 := fun x y H Q => (∃ a dx fs, x = .ref a ∧ H a = some (.ins C dx fs)) ∧ OrI C H y ∧ sp [x, y] H Q E
theorem op_binC {op : Operator} (c : OpC X.K C) (ci : OpI X C op.info.2) (m : Om X C (PySem.dunder op.info.2) g) (F : FnOk X.prog X.w X.K X.mg X.base CX k g fd ps sp) (hr : Room k X.A) (hb : Binds X.K fd ps [])
    (hx : Passes CX X E) : OpR X (binaryOp op) (rBin C sp E) := by
  intro pins s σ H x y v u Q I rx ry h
  obtain ⟨⟨a, dx, fs, rfl, ha⟩, hy, q⟩ := h
  cases (show v = Value.ref a from rx)
  obtain ⟨od, J⟩ := inst_of I ha
  obtain ⟨mm, hF⟩ := I.fr
  have fin : wpAny (model X.prog X.w) X.A (call (.ref g) [.ref a, u]) (PySem.W.CmpBack (EP X pins σ Q)) X.xe s := by
    refine wpAny_mono (run_fn (us := [.ref a, u]) (vs := [.ref a, y]) (dvs := []) F hr hb .nil hx I (.cons rfl (.cons ry .nil)) q) (fun w s' z => ?_) fun _ _ x => x
    obtain ⟨z', H', I', rz, qz⟩ := z
    exact SlX.cmpback rz ⟨z', H', I', rz, qz⟩
  rcases hy with ⟨b, dy, gs, rfl, hb'⟩ | ⟨i, rfl⟩
  · cases (show u = Value.ref b from ry)
    obtain ⟨od', J'⟩ := inst_of I hb'
    exact PySem.W.binop_K hF I.ok.mod.kin J J'.type c.sf m.hs m.hf fin
  · obtain ⟨t, rfl⟩ := (show ∃ t, u = Value.int i t from ry)
    obtain ⟨fo, h1⟩ := ci.h1
    obtain ⟨ro, h2⟩ := ci.h2
    obtain ⟨g', h3⟩ := ci.hr
    exact PySem.W.ksp_binT hF I.ok.mod.kin J rfl c.sf m.hs m.hf h3 (.inr ⟨g', rfl⟩) h1 h2 c.r1 fin
/-- -x -/
def rNegC (C : Addr) (sp : Sp) (E : XK) : V → Hp → VK → Prop := fun x H Q => (∃ a dx fs, x = .ref a ∧ H a = some (.ins C dx fs)) ∧ sp [x] H Q E
theorem un_negC (m : Om X C "__neg__" g) (F : FnOk X.prog X.w X.K X.mg X.base CX k g fd ps sp) (hr : Room k X.A) (hb : Binds X.K fd ps [])
    (hx : Passes CX X E) : UnR X (unaryOp .USub) (rNegC C sp E) := by
  intro pins s σ H x v Q I rx h
  obtain ⟨⟨a, dx, fs, rfl, ha⟩, q⟩ := h
  cases (show v = Value.ref a from rx)
  obtain ⟨od, J⟩ := inst_of I ha
  obtain ⟨mm, hF⟩ := I.fr
  exact PySem.W.ksp_neg hF I.ok.mod.kin J m.hs m.hf (run_fn (us := [.ref a]) (vs := [.ref a]) (dvs := []) F hr hb .nil hx I (.cons rfl .nil) q)
theorem UnR.or {f : Value → Sem Value} {r r' : V → Hp → VK → Prop} (h : UnR X f r) (h' : UnR X f r') : UnR X f (fun x H Q => r x H Q ∨ r' x H Q) := by
  intro pins s σ H x v Q I rx q
  rcases q with q | q
  · exact h pins s σ H x v Q I rx q
  · exact h' pins s σ H x v Q I rx q
end
end Am
namespace Am
/-! fractions in least terms -/
def gc (n u : Int) : Int := ((Nat.gcd n.natAbs u.natAbs : Nat) : Int)
def sg (n u : Int) : Int := if u < 0 then -gc n u else gc n u
def fr (n u : Int) : Int × Int := (n.fdiv (sg n u), u.fdiv (sg n u))
def Low (n u : Int) : Prop := 0 < u ∧ Nat.gcd n.natAbs u.natAbs = 1

theorem gc_pos {n u : Int} (hu : u ≠ 0) : 0 < gc n u := by
  unfold gc
  have : 0 < Nat.gcd n.natAbs u.natAbs := Nat.gcd_pos_of_pos_right _ (by omega)
  omega
theorem gc_dvd_l (n u : Int) : gc n u ∣ n := by
  unfold gc
  exact Int.ofNat_dvd_left.mpr (Nat.gcd_dvd_left _ _)
theorem gc_dvd_r (n u : Int) : gc n u ∣ u := by
  unfold gc
  exact Int.ofNat_dvd_left.mpr (Nat.gcd_dvd_right _ _)
theorem sg_ne {n u : Int} (hu : u ≠ 0) : sg n u ≠ 0 := by
  have := gc_pos (n := n) hu
  unfold sg
  split <;> omega
theorem sg_dvd_l (n u : Int) : sg n u ∣ n := by
  unfold sg
  split
  · exact Int.neg_dvd.mpr (gc_dvd_l n u)
  · exact gc_dvd_l n u
theorem sg_dvd_r (n u : Int) : sg n u ∣ u := by
  unfold sg
  split
  · exact Int.neg_dvd.mpr (gc_dvd_r n u)
  · exact gc_dvd_r n u
theorem fdiv_mul {a b : Int} (h : b ∣ a) : a.fdiv b * b = a := by
  obtain ⟨c, rfl⟩ := h
  by_cases hb : b = 0
  · subst hb; simp
  · rw [Int.mul_fdiv_cancel_left _ hb, Int.mul_comm]
theorem fr_l {n u : Int} : (fr n u).1 * sg n u = n := fdiv_mul (sg_dvd_l n u)
theorem fr_r {n u : Int} : (fr n u).2 * sg n u = u := fdiv_mul (sg_dvd_r n u)
theorem natAbs_sg (n u : Int) : (sg n u).natAbs = Nat.gcd n.natAbs u.natAbs := by
  unfold sg gc
  split <;> omega
theorem fr_low {n u : Int} (hu : u ≠ 0) : Low (fr n u).1 (fr n u).2 := by
  have hg := gc_pos (n := n) hu
  have h1 := fr_l (n := n) (u := u)
  have h2 := fr_r (n := n) (u := u)
  have a1 : (fr n u).1.natAbs * Nat.gcd n.natAbs u.natAbs = n.natAbs := by
    rw [← natAbs_sg, ← Int.natAbs_mul, h1]
  have a2 : (fr n u).2.natAbs * Nat.gcd n.natAbs u.natAbs = u.natAbs := by
    rw [← natAbs_sg, ← Int.natAbs_mul, h2]
  have gp : 0 < Nat.gcd n.natAbs u.natAbs := Nat.gcd_pos_of_pos_right _ (by omega)
  refine ⟨?_, ?_⟩
  · by_cases c : u < 0
    · have e : sg n u = -gc n u := if_pos c
      rw [e] at h2
      refine Int.lt_of_not_ge fun q => ?_
      have : 0 ≤ (fr n u).2 * -gc n u := by
        have := Int.mul_nonneg (a := -(fr n u).2) (b := gc n u) (by omega) (by omega)
        rw [Int.neg_mul] at this
        rw [Int.mul_neg]
        exact this
      omega
    · have e : sg n u = gc n u := if_neg c
      rw [e] at h2
      refine Int.lt_of_not_ge fun q => ?_
      have : 0 ≤ -((fr n u).2 * gc n u) := by
        have := Int.mul_nonneg (a := -(fr n u).2) (b := gc n u) (by omega) (by omega)
        rw [Int.neg_mul] at this
        exact this
      omega
  · have k : Nat.gcd ((fr n u).1.natAbs * Nat.gcd n.natAbs u.natAbs) ((fr n u).2.natAbs * Nat.gcd n.natAbs u.natAbs) = Nat.gcd n.natAbs u.natAbs := by
      rw [a1, a2]
    rw [Nat.gcd_mul_right] at k
    have k' : Nat.gcd (fr n u).1.natAbs (fr n u).2.natAbs * Nat.gcd n.natAbs u.natAbs = 1 * Nat.gcd n.natAbs u.natAbs := by rw [k, Nat.one_mul]
    exact Nat.eq_of_mul_eq_mul_right gp k'
theorem Low.ne {n u : Int} (h : Low n u) : u ≠ 0 := by have := h.1; omega
theorem low_one (n : Int) : Low n 1 := ⟨by decide, by simp⟩
theorem Low.neg {n u : Int} (h : Low n u) : Low (-n) u := ⟨h.1, by rw [Int.natAbs_neg]; exact h.2⟩
theorem fr_of_low {n u : Int} (h : Low n u) : fr n u = (n, u) := by
  have e : sg n u = 1 := by
    unfold sg gc
    rw [h.2, if_neg (by have := h.1; omega)]
    rfl
  unfold fr
  rw [e, Int.fdiv_one, Int.fdiv_one]
theorem fr_pos_lt {n u : Int} (hu : 0 < u) : decide ((fr n u).1 < 0) = decide (n < 0) := by
  have e : sg n u = gc n u := if_neg (by omega)
  have hg := gc_pos (n := n) (u := u) (by omega)
  have h := fr_l (n := n) (u := u)
  rw [e] at h
  refine decide_eq_decide.mpr ⟨fun q => ?_, fun q => ?_⟩
  · have := Int.mul_neg_of_neg_of_pos q hg
    omega
  · refine Int.lt_of_not_ge fun z => ?_
    have := Int.mul_nonneg z (Int.le_of_lt hg)
    omega
theorem fr_pos_le {n u : Int} (hu : 0 < u) : decide ((fr n u).1 ≤ 0) = decide (n ≤ 0) := by
  have e : sg n u = gc n u := if_neg (by omega)
  have hg := gc_pos (n := n) (u := u) (by omega)
  have h := fr_l (n := n) (u := u)
  rw [e] at h
  refine decide_eq_decide.mpr ⟨fun q => ?_, fun q => ?_⟩
  · have := Int.mul_nonneg (a := -(fr n u).1) (b := gc n u) (by omega) (by omega)
    rw [Int.neg_mul] at this
    omega
  · refine Int.le_of_not_gt fun z => ?_
    have := Int.mul_pos z hg
    omega
theorem le_of_mul {a b c : Nat} (h : a * b = c) (hb : 0 < b) : a ≤ c := by
  rw [← h]
  exact Nat.le_mul_of_pos_right a hb
theorem fr_le1 {n u : Int} (hu : u ≠ 0) : (fr n u).1.natAbs ≤ n.natAbs := by
  have gp : 0 < Nat.gcd n.natAbs u.natAbs := Nat.gcd_pos_of_pos_right _ (by omega)
  exact le_of_mul (b := Nat.gcd n.natAbs u.natAbs) (by rw [← natAbs_sg, ← Int.natAbs_mul, fr_l]) gp
theorem fr_le2 {n u : Int} (hu : u ≠ 0) : (fr n u).2.natAbs ≤ u.natAbs := by
  have gp : 0 < Nat.gcd n.natAbs u.natAbs := Nat.gcd_pos_of_pos_right _ (by omega)
  exact le_of_mul (b := Nat.gcd n.natAbs u.natAbs) (by rw [← natAbs_sg, ← Int.natAbs_mul, fr_r]) gp
theorem sg_le {n u : Int} (hu : u ≠ 0) : (sg n u).natAbs ≤ u.natAbs := by
  rw [natAbs_sg]
  exact Nat.le_of_dvd (by omega) (Nat.gcd_dvd_right _ _)
/-- the law's own fraction: the sign ahead, then // by the greatest divisor -/
theorem law_fr {n u : Int} (hu : u ≠ 0) : fr n u = (((if u > 0 then 1 else -1) * n).fdiv (gc n u), ((if u > 0 then 1 else -1) * u).fdiv (gc n u)) := by
  unfold fr sg
  by_cases c : u < 0
  · rw [if_pos c, if_neg (by omega)]
    have e : ∀ x : Int, x.fdiv (-gc n u) = (-1 * x).fdiv (gc n u) := fun x => by
      have := Int.neg_fdiv_neg (-x) (gc n u)
      rw [Int.neg_neg] at this
      rw [this]
      congr 1
      omega
    rw [e, e]
  · rw [if_neg c, if_pos (by omega), Int.one_mul, Int.one_mul]
end Am
namespace Am
open PySem PySem.Spec PyProof.Rows L2
def top (i : Nat) : Stmt := PySem.Challenge.pw_whoseuse_k36_rules_refused.main.body.getD i (.Pass ⟨0, 0, 0, 0⟩)
abbrev sF__wall : Stmt := top 1
abbrev sInitE : Stmt := inClass (top 3) 0
abbrev sWhole : Stmt := top 9
abbrev sDec : Stmt := top 10
abbrev sRule_init : Stmt := inClass (top 15) 0
abbrev sRule_text : Stmt := inClass (top 15) 1
abbrev sRule_runs : Stmt := inClass (top 15) 2
abbrev sRule_eq : Stmt := inClass (top 15) 3
abbrev sF_ways_of : Stmt := top 16
abbrev sF_way_of : Stmt := top 17
abbrev sInit : Stmt := inClass (top 21) 0
abbrev sText : Stmt := inClass (top 21) 1
abbrev sOfA : Stmt := inClass (top 21) 2
abbrev sRep : Stmt := inClass (top 21) 3
abbrev sEq : Stmt := inClass (top 21) 4
abbrev sLt : Stmt := inClass (top 21) 5
abbrev sLe : Stmt := inClass (top 21) 6
abbrev sGt : Stmt := inClass (top 21) 7
abbrev sGe : Stmt := inClass (top 21) 8
abbrev sNeg : Stmt := inClass (top 21) 9
abbrev sAbs : Stmt := inClass (top 21) 10
abbrev sAdd : Stmt := inClass (top 21) 11
abbrev sRadd : Stmt := inClass (top 21) 12
abbrev sSub : Stmt := inClass (top 21) 13
abbrev sRsub : Stmt := inClass (top 21) 14
abbrev sMul : Stmt := inClass (top 21) 15
abbrev sRmul : Stmt := inClass (top 21) 16
abbrev sFdiv : Stmt := inClass (top 21) 17
abbrev sRfdiv : Stmt := inClass (top 21) 18
abbrev sIsAm : Stmt := top 22
abbrev sParts : Stmt := top 23
abbrev sQuot : Stmt := top 24
abbrev sFig : Stmt := top 25
abbrev sJar : Stmt := top 27
abbrev sTake : Stmt := top 28
abbrev sOf : Stmt := top 29
abbrev sL_rule : Stmt := top 30
abbrev sL_rule_text : Stmt := top 31
abbrev sL_caught : Stmt := top 32
abbrev sL_odd : Stmt := top 33
abbrev sL_rule_line : Stmt := top 34
abbrev sL_wrong_rule : Stmt := top 35
abbrev sL_bent_lines : Stmt := top 36
abbrev sL_right : Stmt := top 37
abbrev sLaw : Stmt := top 38
end Am
namespace Am
open PySem PySem.Spec PyProof.Rows L2

/-! ### data -/
def pf (n u : Int) : List (Str × V) := putF "under" (.int u) (putF "number" (.int n) [])
theorem nu_ : ¬ (("number" : Str) = "under") := by decide +kernel
theorem un_ : ¬ (("under" : Str) = "number") := by decide +kernel
theorem pf_number (n u : Int) : (pf n u).lookup ("number" : Str) = some (.int n) := by
  unfold pf
  rw [lookup_putF, if_neg nu_, lookup_putF, if_pos rfl]
theorem pf_under (n u : Int) : (pf n u).lookup ("under" : Str) = some (.int u) := by
  unfold pf
  rw [lookup_putF, if_pos rfl]
/-- an Amount in least terms -/
def AmAt (C : Addr) (H : Hp) (v : V) (n u : Int) : Prop := Low n u ∧ ∃ a dx, v = .ref a ∧ H a = some (.ins C dx (pf n u))
/-- an Amount or an integer -/
def AmV (C : Addr) (H : Hp) (v : V) (n u : Int) : Prop := AmAt C H v n u ∨ (v = .int n ∧ u = 1)
theorem AmAt.same {C : Addr} {H H' : Hp} {v : V} {n u : Int} (e : Same H H') (h : AmAt C H v n u) : AmAt C H' v n u := by
  obtain ⟨l, a, dx, rfl, h⟩ := h
  exact ⟨l, a, dx, rfl, e _ _ h⟩
theorem AmV.same {C : Addr} {H H' : Hp} {v : V} {n u : Int} (e : Same H H') (h : AmV C H v n u) : AmV C H' v n u := h.elim (fun h => .inl (h.same e)) .inr
theorem AmAt.low {C : Addr} {H : Hp} {v : V} {n u : Int} (h : AmAt C H v n u) : Low n u := h.1
theorem AmV.low {C : Addr} {H : Hp} {v : V} {n u : Int} (h : AmV C H v n u) : Low n u := h.elim (fun h => h.1) fun ⟨_, e⟩ => by rw [e]; exact low_one n
theorem AmAt.inst {C : Addr} {H : Hp} {v : V} {n u : Int} (h : AmAt C H v n u) : ∃ a dx fs, v = .ref a ∧ H a = some (.ins C dx fs) := by
  obtain ⟨l, a, dx, rfl, h⟩ := h
  exact ⟨a, dx, _, rfl, h⟩
theorem AmV.orB {C : Addr} {H : Hp} {v : V} {n u : Int} (h : AmV C H v n u) : OrB C H v := by
  rcases h with h | ⟨rfl, _⟩
  · obtain ⟨a, dx, fs, rfl, ha⟩ := h.inst
    exact .inl ⟨a, dx, fs, rfl, ha⟩
  · exact .inr ⟨_, .int n⟩
theorem AmV.orI {C : Addr} {H : Hp} {v : V} {n u : Int} (h : AmV C H v n u) : OrI C H v := by
  rcases h with h | ⟨rfl, _⟩
  · obtain ⟨a, dx, fs, rfl, ha⟩ := h.inst
    exact .inl ⟨a, dx, fs, rfl, ha⟩
  · exact .inr ⟨n, rfl⟩
def Bd (k : Nat) (n : Int) : Prop := n.natAbs < 2 ^ k
theorem same_upd {H : Hp} {p : Addr} {o : HO} (h : H p = none) : Same H (upd H p o) := fun b u e => by rw [upd_ne (ne_of_none e h)]; exact e

/-! ### facts of the text -/
structure Txt (K : PySem.W.Frag) (mg : Str → Option Value) (C : Addr) : Prop where
  cl : Cls K C
  op : OpC K C
  ca : PySem.W.findIn K (.ref C) "__class__" = some (some (.builtin "object.__class__"))
  cn : PySem.W.specialIn K (.builtin "object.__class__") "__get__" = some (some (.builtin "getset_descriptor.__get__"))
  ct : PySem.W.takesIn K (.builtin "object.__class__") = some true
  kC : PySem.W.kitOne K (.ref C) (.ref C) = some true
  kI : PySem.W.kitOne K (.ref C) (.type "int") = some false
  k1 : PySem.W.kitOne K (.type "int") (.ref C) = some false
  k2 : PySem.W.kitOne K (.type "bool") (.ref C) = some false
  k3 : PySem.W.kitOne K (.type "NoneType") (.ref C) = some false
  k4 : PySem.W.kitOne K (.type "str") (.ref C) = some false
  k5 : PySem.W.kitOne K (.type "list") (.ref C) = some false
  k6 : PySem.W.kitOne K (.type "tuple") (.ref C) = some false
  k7 : PySem.W.kitOne K (.type "dict") (.ref C) = some false
  nN : NoAttr K C "number"
  nU : NoAttr K C "under"
  mgC : mg "Amount" = some (.ref C)
  isi : mg "isinstance" = none
  int : mg "int" = none
  bool : mg "bool" = none
  gcd : mg "gcd" = some (.builtin "math.gcd")
theorem Txt.kOf {K : PySem.W.Frag} {mg : Str → Option Value} {C : Addr} {H : Hp} {x : V} {T : String} (t : Txt K mg C) (b : Bk H x T) : PySem.W.kitOne K (.type T) (.ref C) = some false := by
  cases b <;> first | exact t.k1 | exact t.k2 | exact t.k3 | exact t.k4 | exact t.k5 | exact t.k6 | exact t.k7
def isIB : V → Bool
  | .int _ => true
  | .bl _ => true
  | _ => false
def isB : V → Bool
  | .bl _ => true
  | _ => false
theorem kB_int {K : PySem.W.Frag} {H : Hp} {x : V} {T : String} (b : Bk H x T) : PySem.W.kitOne K (.type T) (.type "int") = some (isIB x) := by
  cases b with
  | non => exact kit_ty (show kitB "NoneType" "int" = some false by decide +kernel)
  | bl => exact kit_ty (show kitB "bool" "int" = some true by decide +kernel)
  | int => exact kit_ty (show kitB "int" "int" = some true by decide +kernel)
  | str => exact kit_ty (show kitB "str" "int" = some false by decide +kernel)
  | lst => exact kit_ty (show kitB "list" "int" = some false by decide +kernel)
  | tup => exact kit_ty (show kitB "tuple" "int" = some false by decide +kernel)
  | dK => exact kit_ty (show kitB "dict" "int" = some false by decide +kernel)
theorem kB_bool {K : PySem.W.Frag} {H : Hp} {x : V} {T : String} (b : Bk H x T) : PySem.W.kitOne K (.type T) (.type "bool") = some (isB x) := by
  cases b with
  | non => exact kit_ty (show kitB "NoneType" "bool" = some false by decide +kernel)
  | bl => exact kit_ty (show kitB "bool" "bool" = some true by decide +kernel)
  | int => exact kit_ty (show kitB "int" "bool" = some false by decide +kernel)
  | str => exact kit_ty (show kitB "str" "bool" = some false by decide +kernel)
  | lst => exact kit_ty (show kitB "list" "bool" = some false by decide +kernel)
  | tup => exact kit_ty (show kitB "tuple" "bool" = some false by decide +kernel)
  | dK => exact kit_ty (show kitB "dict" "bool" = some false by decide +kernel)
theorem Txt.tyC {K : PySem.W.Frag} {mg : Str → Option Value} {C a dx : Addr} {H : Hp} {fs : List (Str × V)} (t : Txt K mg C) (h : H a = some (.ins C dx fs)) : TyX K H (.ref a) (.ref C) :=
  .base (.ins h t.cl t.ca t.cn t.ct t.op.ob)

/-! ### promises -/
def spWhole (C : Addr) : Sp := fun vs H Q _ => ∃ v, vs = [v] ∧ ((∃ T, Bk H v T) ∨ ∃ a dx fs, v = .ref a ∧ H a = some (.ins C dx fs)) ∧ Q (.bl (isI v)) H
def IsAm (C : Addr) (H : Hp) (v : V) (b : Bool) : Prop := ((∃ T, Bk H v T) ∧ b = isI v) ∨ ((∃ a dx fs, v = .ref a ∧ H a = some (.ins C dx fs)) ∧ b = true)
def spIsAm (C : Addr) : Sp := fun vs H Q _ => ∃ v b, vs = [v] ∧ IsAm C H v b ∧ Q (.bl b) H
theorem AmV.isAm {C : Addr} {H : Hp} {y : V} {n u : Int} (h : AmV C H y n u) : IsAm C H y true := by
  rcases h with h | ⟨rfl, _⟩
  · exact .inr ⟨h.inst, rfl⟩
  · exact .inl ⟨⟨_, .int n⟩, rfl⟩
def spParts (C : Addr) : Sp := fun vs H Q _ => ∃ v n u, vs = [v] ∧ AmV C H v n u ∧ ∀ p, H p = none → Q (.ref p) (upd H p (.tup [.int n, .int u]))
def spInit (C : Addr) : Sp := fun vs H Q _ => ∃ x dx n u, vs = [.ref x, .int n, .int u] ∧ H x = some (.ins C dx []) ∧ u ≠ 0 ∧ Bd 8900 n ∧ Bd 8900 u ∧
  ∀ H' : Hp, H' x = some (.ins C dx (pf (fr n u).1 (fr n u).2)) → (∀ b o, H b = some o → b ≠ x → H' b = some o) → Q .non H'
/-- // by any divisor below 2 ^ 9000 -/
theorem op_fdivX {X : Cx} : OpR X (binaryOp .FloorDiv) (rI (fun _ j => j ≠ 0 ∧ j.natAbs.log2 < 9000) fun i j => .int (i.fdiv j)) := opI fun i j _ _ _ _ _ hc q =>
  floordiv_int hc.1 q (.inl (PyProof.noPylong_of_log2 hc.2))

section
variable {P : Program} {w : World} {K : PySem.W.Frag} {mg : Str → Option Value} {base : Heap}
theorem b_isi : bootBuiltins "isinstance" = some (.builtin "isinstance") := by decide +kernel
theorem b_int : bootBuiltins "int" = some (.type "int") := by decide +kernel
theorem b_bool : bootBuiltins "bool" = some (.type "bool") := by decide +kernel

theorem scWhole : FnScope ["value"] ["value"] (defScope sWhole) := ⟨rfl, rfl, rfl, by decide +kernel, rfl, by decide +kernel, by decide +kernel⟩
theorem ok_whole {f C : Addr} {fd : FuncData} (F : Fun K "is_whole" "is_whole" sWhole f fd) (T : Txt K mg C) : FnOk P w K mg base CX0 1 f fd ["value"] (spWhole C) := by
  refine F.ok scWhole (fun vs H Q E h => ?_) (fun cdv A outer s H vs Q E hr h => ?_)
  · obtain ⟨v, rfl, _⟩ := h
    rfl
  · obtain ⟨v, rfl, hv, q⟩ := h
    refine ⟨_, pss_one (ps_ret (pe_and (pe_callB call_isi (by rfl) T.isi b_isi (pa_cons (pv 0) (pa_cons (pe_bltn (v := .ty "int") (by rfl) T.int b_int rfl) pa_nil)))
      (pe_one (pe_not (pe_callB call_isi (by rfl) T.isi b_isi (pa_cons (pv 0) (pa_cons (pe_bltn (v := .ty "bool") (by rfl) T.bool b_bool rfl) pa_nil))))))), ?_⟩
    rcases hv with ⟨Ty, b⟩ | ⟨a, dx, fs, rfl, ha⟩
    · refine ⟨_, rfl, v, .ty "int", .type Ty, .type "int", _, rfl, .ty _, .base b.tyOf, kB_int b, _, rfl, ?_⟩
      have kb := kB_bool (K := K) b
      cases v with
      | int i => exact iteT ⟨_, rfl, _, .ty "bool", .type Ty, .type "bool", _, rfl, .ty _, .base b.tyOf, kb, _, rfl, q⟩
      | bl i => exact iteT ⟨_, rfl, _, .ty "bool", .type Ty, .type "bool", _, rfl, .ty _, .base b.tyOf, kb, _, rfl, q⟩
      | _ => exact iteF q
    · exact ⟨_, rfl, .ref a, .ty "int", .ref C, .type "int", _, rfl, .ty _, T.tyC ha, T.kI, _, rfl, iteF q⟩
theorem scIsAm : FnScope ["value"] ["value"] (defScope sIsAm) := ⟨rfl, rfl, rfl, by decide +kernel, rfl, by decide +kernel, by decide +kernel⟩
theorem ok_isAm {f C fW : Addr} {fd fdW : FuncData} (F : Fun K "is_amount" "is_amount" sIsAm f fd) (T : Txt K mg C) (GW : FnOk P w K mg base CX0 1 fW fdW ["value"] (spWhole C)) (bW : Binds K fdW ["value"] []) (mW : mg "is_whole" = some (.ref fW)) (kW : PySem.W.keepIn K (.ref fW) = true) :
    FnOk P w K mg base CX0 2 f fd ["value"] (spIsAm C) := by
  refine F.ok scIsAm (fun vs H Q E h => ?_) (fun cdv A outer s H vs Q E hr h => ?_)
  · obtain ⟨v, b, rfl, _⟩ := h
    rfl
  · obtain ⟨v, k, rfl, hv, q⟩ := h
    refine ⟨_, pss_one (ps_ret (pe_or (pe_callB call_isi (by rfl) T.isi b_isi (pa_cons (pv 0) (pa_cons (pe_glob (v := .ref C) (by rfl) T.mgC rfl) pa_nil)))
      (pe_one (pe_call GW hr (by rfl) mW kW bW .nil pass0 (pa_cons (pv 0) pa_nil))))), ?_⟩
    rcases hv with ⟨⟨Ty, b⟩, rfl⟩ | ⟨⟨a, dx, fs, rfl, ha⟩, rfl⟩
    · exact ⟨_, rfl, v, .ref C, .type Ty, .ref C, _, rfl, .own _, .base b.tyOf, T.kOf b, _, rfl, iteF ⟨_, rfl, _, rfl, .inl ⟨Ty, b⟩, q⟩⟩
    · exact ⟨_, rfl, .ref a, .ref C, .ref C, .ref C, _, rfl, .own _, T.tyC ha, T.kC, _, rfl, iteT q⟩
theorem scParts : FnScope ["amount"] ["amount"] (defScope sParts) := ⟨rfl, rfl, rfl, by decide +kernel, rfl, by decide +kernel, by decide +kernel⟩
theorem ok_parts {f C : Addr} {fd : FuncData} (F : Fun K "parts" "parts" sParts f fd) (T : Txt K mg C) : FnOk P w K mg base CX0 1 f fd ["amount"] (spParts C) := by
  refine F.ok scParts (fun vs H Q E h => ?_) (fun cdv A outer s H vs Q E hr h => ?_)
  · obtain ⟨v, n, u, rfl, _⟩ := h
    rfl
  · obtain ⟨v, n, u, rfl, hv, q⟩ := h
    refine ⟨_, pss_cons (ps_if (pt_val (pe_callB call_isi (by rfl) T.isi b_isi (pa_cons (pv 0) (pa_cons (pe_glob (v := .ref C) (by rfl) T.mgC rfl) pa_nil))))
      (pss_one (ps_ret (pe_tup (pa_cons (pe_fld (pv 0) rfl) (pa_cons (pe_fld (pv 0) rfl) pa_nil))))) pss_nil)
      (pss_one (ps_ret (pe_tup (pa_cons (pv 0) (pa_cons pe_int pa_nil))))), ?_⟩
    rcases hv with ⟨l, a, dx, rfl, ha⟩ | ⟨rfl, rfl⟩
    · refine ⟨_, rfl, .ref a, .ref C, .ref C, .ref C, _, rfl, .own _, T.tyC ha, T.kC, _, rfl, iteT ?_⟩
      exact ⟨_, rfl, a, C, dx, _, _, rfl, ha, T.cl, T.nN, pf_number _ _, _, rfl, a, C, dx, _, _, rfl, ha, T.cl, T.nU, pf_under _ _, (by show 2 ≤ sizeLine; decide), q⟩
    · refine ⟨_, rfl, .int n, .ref C, .type "int", .ref C, _, rfl, .own _, .base (.int n), T.k1, _, rfl, iteF ?_⟩
      exact ⟨_, rfl, (by show 2 ≤ sizeLine; decide), q⟩
end
end Am
namespace Am
open PySem PySem.Spec PyProof.Rows L2
abbrev FInit (K : PySem.W.Frag) (f : Addr) (fd : FuncData) : Prop := FunD K "__init__" "Amount.__init__" (defArgs sInit) (defBody sInit) (defScope sInit) [.int 1] [] f fd
theorem log2_lt {n : Nat} {k : Nat} (hk : 0 < k) (h : n < 2 ^ k) : n.log2 < k := PySem.Flt.log2_lt_of hk h
theorem bd_sg {n u : Int} (hu : u ≠ 0) (h : Bd 8900 u) : (sg n u).natAbs.log2 < 9000 := Nat.lt_trans (log2_lt (by decide) (Nat.lt_of_le_of_lt (sg_le hu) h)) (by decide)
section
variable {P : Program} {w : World} {K : PySem.W.Frag} {mg : Str → Option Value} {base : Heap}
theorem scInit : FnScope ["self", "number", "under", "shared"] ["self", "number", "under"] (defScope sInit) := ⟨rfl, rfl, rfl, by decide +kernel, rfl, by decide +kernel, by decide +kernel⟩
theorem ok_init {f C fW : Addr} {fd fdW : FuncData} (F : FInit K f fd) (T : Txt K mg C) (GW : FnOk P w K mg base CX0 1 fW fdW ["value"] (spWhole C)) (bW : Binds K fdW ["value"] []) (mW : mg "is_whole" = some (.ref fW)) (kW : PySem.W.keepIn K (.ref fW) = true) :
    FnOk P w K mg base CX0 2 f fd ["self", "number", "under"] (spInit C) := by
  refine F.ok scInit (fun vs H Q E h => ?_) (fun cdv A outer s H vs Q E hr h => ?_)
  · obtain ⟨x, dx, n, u, rfl, _⟩ := h
    rfl
  · obtain ⟨x, dx, n, u, rfl, hx, hu, bn, bu, q⟩ := h
    refine ⟨_, pss_cons (ps_if (PW.pt (pw_or (pt_not (pt_val (pe_call GW hr (by rfl) mW kW bW .nil pass0 (pa_cons (pv 1) pa_nil)))) (pw_or (pt_not (pt_val (pe_call GW hr (by rfl) mW kW bW .nil pass0 (pa_cons (pv 2) pa_nil)))) (pw_or1 (pt_cmpR op_eq (pv 2) pe_int (nomark _)))))) (pss_one ps_never) pss_nil)
      (pss_cons (ps_set (i := 3) scInit.nd rfl (.inl rfl) (pe_callBfun cr_gcd (by rfl) T.gcd (pa_cons (pv 1) (pa_cons (pv 2) pa_nil))))
      (pss_cons (ps_if (pt_cmpR op_lt (pv 2) pe_int (nomark _)) (pss_one (ps_set (i := 3) scInit.nd rfl (.inl rfl) (pe_un un_neg (pv 3)))) pss_nil)
      (pss_cons (ps_fld (pv 0) (pe_op op_fdivX (pv 1) (pv 3)) rfl)
      (pss_one (ps_fld (pv 0) (pe_op op_fdivX (pv 2) (pv 3)) rfl))))), ?_⟩
    have d0 : decide (V.int u = V.int 0) = false := decide_eq_false (fun e => hu (V.int.inj e))
    refine ⟨_, rfl, _, rfl, .inl ⟨_, .int n⟩, _, rfl, iteF ⟨_, rfl, _, rfl, .inl ⟨_, .int u⟩, _, rfl, iteF ⟨_, rfl, rfl, _, rfl, ?_⟩⟩⟩
    rw [d0]
    refine iteF ?_
    refine ⟨_, rfl, _, rfl, _, _, rfl, ?_⟩
    have fin : ∀ s, s = sg n u → tSeq (sFld K (tVar 0) (tOp (rI (fun _ j => j ≠ 0 ∧ j.natAbs.log2 < 9000) fun i j => .int (i.fdiv j)) (tVar 1) (tVar 3)) "number") (sFld K (tVar 0) (tOp (rI (fun _ j => j ≠ 0 ∧ j.natAbs.log2 < 9000) fun i j => .int (i.fdiv j)) (tVar 2) (tVar 3)) "under")
        { nx := fun _ H' => Q .non H', rt := Q } [some (.ref x), some (.int n), some (.int u), some (.int s)] H := by
      rintro s rfl
      refine ⟨_, rfl, _, rfl, _, _, rfl, rfl, ⟨sg_ne hu, bd_sg hu bu⟩, _, rfl, x, C, dx, _, rfl, hx, T.cl, T.nN, (by show 0 < 1000; decide), ?_⟩
      refine ⟨_, rfl, _, rfl, _, _, rfl, rfl, ⟨sg_ne hu, bd_sg hu bu⟩, _, rfl, x, C, dx, _, rfl, upd_same, T.cl, T.nU, (by show 1 < 1000; decide), ?_⟩
      exact q _ upd_same fun b o e nb => by rw [upd_ne nb, upd_ne nb]; exact e
    refine ⟨_, rfl, _, _, rfl, rfl, _, rfl, ite2 (fun c => ?_) (fun c => ?_)⟩
    · refine ⟨_, rfl, _, rfl, ?_⟩
      exact fin _ (by unfold sg; rw [if_pos (of_decide_eq_true c)]; rfl)
    · exact fin _ (by unfold sg; rw [if_neg (fun z => c (decide_eq_true z))]; rfl)
end
end Am
namespace Am
open PySem PySem.Spec PyProof.Rows L2
/-- a def of the module that keeps its promise -/
def GotF (P : Program) (w : World) (K : PySem.W.Frag) (mg : Str → Option Value) (base : Heap) (x : Str) (k : Nat) (ps : List Str) (sp : Sp) : Prop :=
  ∃ (f : Addr) (fd : FuncData), FnOk P w K mg base CX0 k f fd ps sp ∧ Binds K fd ps [] ∧ mg x = some (.ref f) ∧ PySem.W.keepIn K (.ref f) = true
/-- a method of the class -/
def GotM (P : Program) (w : World) (K : PySem.W.Frag) (mg : Str → Option Value) (base : Heap) (C : Addr) (x : Str) (k : Nat) (ps : List Str) (sp : Sp) : Prop :=
  ∃ (f : Addr) (fd : FuncData), FnOk P w K mg base CX0 k f fd ps sp ∧ Binds K fd ps [] ∧ PySem.W.findIn K (.ref C) x = some (some (.ref f)) ∧ PySem.W.isFn K (.ref f) = true
/-- the making of an Amount -/
def GotI (P : Program) (w : World) (K : PySem.W.Frag) (mg : Str → Option Value) (base : Heap) (C : Addr) : Prop :=
  ∃ (f : Addr) (fd : FuncData), FnOk P w K mg base CX0 2 f fd ["self", "number", "under"] (spInit C) ∧ Binds K fd ["self", "number", "under"] [] ∧ (∃ ds, Vals [V.int 1] ds ∧ Binds K fd ["self", "number", "under"] ds) ∧ Mk K C f
structure OpIK (K : PySem.W.Frag) (C : Addr) (nm : String) : Prop where
  h1 : ∃ fo, PySem.W.findIn K (.type "int") (PySem.dunder nm) = some fo
  h2 : ∃ ro, PySem.W.findIn K (.type "int") (PySem.dunderR nm) = some ro
  hr : ∃ g : Addr, PySem.W.findIn K (.ref C) (PySem.dunderR nm) = some (some (.ref g))

theorem make_read {C : Addr} {H : Hp} {Q : VK} {E : XK} {n u : Int} (hu : u ≠ 0) (bn : Bd 8900 n) (bu : Bd 8900 u) (q : ∀ v H', Same H H' → AmAt C H' v (fr n u).1 (fr n u).2 → Q v H') :
    ∀ x dx, H x = none → H dx = none → dx ≠ x → spInit C [.ref x, .int n, .int u] (upd (upd H dx (.own x)) x (.ins C dx [])) (fun v H2 => v = .non ∧ Q (.ref x) H2) E :=
  fun x dx nx ndx nex => ⟨x, dx, n, u, rfl, upd_same, hu, bn, bu, fun H' hx k => ⟨rfl, q _ _ (Same.made nx ndx k) ⟨fr_low hu, x, dx, rfl, hx⟩⟩⟩

theorem Bd.mono {k j : Nat} {n : Int} (h : Bd k n) (hj : k ≤ j) : Bd j n := Nat.lt_of_lt_of_le h (Nat.pow_le_pow_right (by decide) hj)
theorem Bd.neg {k : Nat} {n : Int} (h : Bd k n) : Bd k (-n) := by unfold Bd; rw [Int.natAbs_neg]; exact h
theorem Bd.mul {k j : Nat} {n m : Int} (h : Bd k n) (h' : Bd j m) : Bd (k + j) (n * m) := wide_lt h h'
theorem Bd.add {k : Nat} {n m : Int} (h : Bd k n) (h' : Bd k m) : Bd (k + 1) (n + m) := by
  unfold Bd at *
  have e : 2 ^ (k + 1) = 2 ^ k + 2 ^ k := by omega
  have := Int.natAbs_add_le n m
  omega
theorem Bd.cmul {k : Nat} {n m : Int} (h : Bd k n) (h' : Bd k m) (h0 : 0 < k) (hk : k ≤ 5000) : CMulW n m := wide_mul h h' h0 h0 (by omega)

def spEq (C : Addr) : Sp := fun vs H Q _ => ∃ a y n u, vs = [a, y] ∧ AmAt C H a n u ∧ ((∃ n' u', AmV C H y n' u' ∧ ∀ H', Same H H' → Q (.bl (decide (n = n' ∧ u = u'))) H') ∨ ((∃ T, Bk H y T) ∧ isI y = false ∧ Q (.bl false) H))
def spNeg (C : Addr) : Sp := fun vs H Q _ => ∃ a n u, vs = [a] ∧ AmAt C H a n u ∧ Bd 8900 n ∧ Bd 8900 u ∧ ∀ v H', Same H H' → AmAt C H' v (-n) u → Q v H'
def spAdd (C : Addr) : Sp := fun vs H Q _ => ∃ a y n u n' u', vs = [a, y] ∧ AmAt C H a n u ∧ AmV C H y n' u' ∧ (Bd 4000 n ∧ Bd 4000 u ∧ Bd 4000 n' ∧ Bd 4000 u') ∧
  ∀ v H', Same H H' → AmAt C H' v (fr (n * u' + n' * u) (u * u')).1 (fr (n * u' + n' * u) (u * u')).2 → Q v H'
def spSub (C : Addr) : Sp := fun vs H Q _ => ∃ a y n u n' u', vs = [a, y] ∧ AmAt C H a n u ∧ AmV C H y n' u' ∧ (Bd 4000 n ∧ Bd 4000 u ∧ Bd 4000 n' ∧ Bd 4000 u') ∧
  ∀ v H', Same H H' → AmAt C H' v (fr (n * u' + -n' * u) (u * u')).1 (fr (n * u' + -n' * u) (u * u')).2 → Q v H'
def spCmp (C : Addr) (r : Int → Bool) : Sp := fun vs H Q _ => ∃ a y n u n' u', vs = [a, y] ∧ AmAt C H a n u ∧ AmV C H y n' u' ∧ (Bd 4000 n ∧ Bd 4000 u ∧ Bd 4000 n' ∧ Bd 4000 u') ∧
  ∀ H', Same H H' → Q (.bl (r (fr (n * u' + -n' * u) (u * u')).1)) H'
theorem eqv_two (n u n' u' : Int) : PyData.eqv (.tuple [.int n, .int u]) (.tuple [.int n', .int u']) = decide (n = n' ∧ u = u') := by
  simp [PyData.eqv, PyData.eqvAll, Bool.beq_eq_decide_eq]
section
variable {P : Program} {w : World} {K : PySem.W.Frag} {mg : Str → Option Value} {base : Heap} {C : Addr}
theorem scNeg : FnScope ["self"] ["self"] (defScope sNeg) := ⟨rfl, rfl, rfl, by decide +kernel, rfl, by decide +kernel, by decide +kernel⟩
theorem ok_neg {f : Addr} {fd : FuncData} (F : Fun K "__neg__" "Amount.__neg__" sNeg f fd) (T : Txt K mg C) (GI : GotI P w K mg base C) : FnOk P w K mg base CX0 4 f fd ["self"] (spNeg C) := by
  obtain ⟨fI, fdI, GI, bI, _, M⟩ := GI
  refine F.ok scNeg (fun vs H Q E h => ?_) (fun cdv A outer s H vs Q E hr h => ?_)
  · obtain ⟨a, n, u, rfl, _⟩ := h
    rfl
  · obtain ⟨a, n, u, rfl, ⟨l, x, dx, rfl, hx⟩, bn, bu, q⟩ := h
    refine ⟨_, pss_one (ps_ret (pe_make M GI hr (by rfl) T.mgC bI .nil pass0 (pa_cons (pe_un un_neg (pe_fld (pv 0) rfl)) (pa_cons (pe_fld (pv 0) rfl) pa_nil)))), ?_⟩
    refine ⟨_, rfl, x, C, dx, _, _, rfl, hx, T.cl, T.nN, pf_number _ _, _, rfl, _, rfl, x, C, dx, _, _, rfl, hx, T.cl, T.nU, pf_under _ _, ?_⟩
    refine make_read l.ne bn.neg bu fun v H' e h => q v H' e ?_
    rw [fr_of_low l.neg] at h
    exact h
theorem scAdd : FnScope ["self", "other", "number", "under"] ["self", "other"] (defScope sAdd) := ⟨rfl, rfl, rfl, by decide +kernel, rfl, by decide +kernel, by decide +kernel⟩
theorem ok_add {f : Addr} {fd : FuncData} (F : Fun K "__add__" "Amount.__add__" sAdd f fd) (T : Txt K mg C) (GI : GotI P w K mg base C) (GA : GotF P w K mg base "is_amount" 2 ["value"] (spIsAm C)) (GP : GotF P w K mg base "parts" 1 ["amount"] (spParts C)) :
    FnOk P w K mg base CX0 4 f fd ["self", "other"] (spAdd C) := by
  obtain ⟨fI, fdI, GI, bI, _, M⟩ := GI
  obtain ⟨fA, fdA, GA, bA, mA, kA⟩ := GA
  obtain ⟨fP, fdP, GP, bP, mP, kP⟩ := GP
  refine F.ok scAdd (fun vs H Q E h => ?_) (fun cdv A outer s H vs Q E hr h => ?_)
  · obtain ⟨a, y, n, u, n', u', rfl, _⟩ := h
    rfl
  · obtain ⟨a, y, n, u, n', u', rfl, ⟨l, x, dx, rfl, hx⟩, hy, ⟨b1, b2, b3, b4⟩, q⟩ := h
    have hr1 : Room 1 _ := hr.mono (by decide)
    have hr2 : Room 2 _ := hr.mono (by decide)
    refine ⟨_, pss_cons (ps_if (pt_not (pt_val (pe_call GA hr2 (by rfl) mA kA bA .nil pass0 (pa_cons (pv 1) pa_nil)))) (pss_one ps_never) pss_nil)
      (pss_cons (ps_asg (pe_call GP hr1 (by rfl) mP kP bP .nil pass0 (pa_cons (pv 1) pa_nil)) (pg_tup rfl (pgs_cons (pg_name (i := 2) scAdd.nd rfl (.inl rfl)) (pgs_cons (pg_name (i := 3) scAdd.nd rfl (.inl rfl)) pgs_nil))))
      (pss_one (ps_ret (pe_make M GI hr (by rfl) T.mgC bI .nil pass0 (pa_cons (pe_op op_add (pe_op op_mulW (pe_fld (pv 0) rfl) (pv 3)) (pe_op op_mulW (pv 2) (pe_fld (pv 0) rfl))) (pa_cons (pe_op op_mulW (pe_fld (pv 0) rfl) (pv 3)) pa_nil)))))), ?_⟩
    refine ⟨_, rfl, _, true, rfl, hy.isAm, _, rfl, iteF ?_⟩
    refine ⟨_, rfl, y, n', u', rfl, hy, fun p np => ⟨p, _, rfl, SqT.of upd_same, rfl, _, _, rfl, _, _, rfl, rfl, ?_⟩⟩
    have hx1 : (upd H p (.tup [V.int n', V.int u'])) x = some (.ins C dx (pf n u)) := by rw [upd_ne (ne_of_none hx np)]; exact hx
    refine ⟨_, rfl, x, C, dx, _, _, rfl, hx1, T.cl, T.nN, pf_number _ _, _, rfl, _, _, rfl, rfl, b1.cmul b4 (by decide) (by decide), ?_⟩
    refine ⟨_, rfl, _, rfl, x, C, dx, _, _, rfl, hx1, T.cl, T.nU, pf_under _ _, _, _, rfl, rfl, b3.cmul b2 (by decide) (by decide), _, _, rfl, rfl, ?_⟩
    refine ⟨_, rfl, x, C, dx, _, _, rfl, hx1, T.cl, T.nU, pf_under _ _, _, rfl, _, _, rfl, rfl, b2.cmul b4 (by decide) (by decide), ?_⟩
    have hu : u * u' ≠ 0 := Int.mul_ne_zero l.ne hy.low.ne
    refine make_read hu ((b1.mul b4).add (b3.mul b2) |>.mono (by decide)) ((b2.mul b4).mono (by decide)) fun v H' e h => q v H' ((same_upd np).trans e) h
theorem scSub : FnScope ["self", "other"] ["self", "other"] (defScope sSub) := ⟨rfl, rfl, rfl, by decide +kernel, rfl, by decide +kernel, by decide +kernel⟩
theorem ok_sub {f : Addr} {fd : FuncData} (F : Fun K "__sub__" "Amount.__sub__" sSub f fd) (T : Txt K mg C) (GA : GotF P w K mg base "is_amount" 2 ["value"] (spIsAm C)) (GN : GotM P w K mg base C "__neg__" 4 ["self"] (spNeg C)) (GD : GotM P w K mg base C "__add__" 4 ["self", "other"] (spAdd C)) (cA : OpIK K C "add") :
    FnOk P w K mg base CX0 5 f fd ["self", "other"] (spSub C) := by
  obtain ⟨fN, fdN, GN, bN, hN, iN⟩ := GN
  obtain ⟨fA, fdA, GA, bA, mA, kA⟩ := GA
  obtain ⟨fD, fdD, GD, bD, hD, iD⟩ := GD
  refine F.ok scSub (fun vs H Q E h => ?_) (fun cdv A outer s H vs Q E hr h => ?_)
  · obtain ⟨a, y, n, u, n', u', rfl, _⟩ := h
    rfl
  · obtain ⟨a, y, n, u, n', u', rfl, ha, hy, ⟨b1, b2, b3, b4⟩, q⟩ := h
    have hr2 : Room 2 _ := hr.mono (by decide)
    refine ⟨_, pss_cons (ps_if (pt_not (pt_val (pe_call GA hr2 (by rfl) mA kA bA .nil pass0 (pa_cons (pv 1) pa_nil)))) (pss_one ps_never) pss_nil)
      (pss_one (ps_ret (pe_op (op_binC (op := .Add) T.op ⟨cA.h1, cA.h2, cA.hr⟩ ⟨hD, iD⟩ GD hr bD pass0) (pv 0) (pe_un (UnR.or (un_negC ⟨hN, iN⟩ GN hr bN pass0) un_neg) (pv 1))))), ?_⟩
    refine ⟨_, rfl, _, true, rfl, hy.isAm, _, rfl, iteF ?_⟩
    have fin : ∀ v1 H1, Same H H1 → AmV C H1 v1 (-n') u' → rBin C (spAdd C) E0 a v1 H1 Q := fun v1 H1 e h1 =>
      ⟨(ha.same e).inst, h1.orI, a, v1, n, u, -n', u', rfl, ha.same e, h1, ⟨b1, b2, b3.neg, b4⟩, fun v H' e' h => q v H' (e.trans e') h⟩
    refine ⟨_, rfl, _, rfl, ?_⟩
    rcases hy with hy | ⟨rfl, rfl⟩
    · exact .inl ⟨hy.inst, y, n', u', rfl, hy, b3.mono (by decide), b4.mono (by decide), fun v1 H1 e h1 => fin v1 H1 e (.inl h1)⟩
    · exact .inr ⟨_, rfl, fin _ _ (Same.refl _) (.inr ⟨rfl, rfl⟩)⟩
theorem scEq : FnScope ["self", "other"] ["self", "other"] (defScope sEq) := ⟨rfl, rfl, rfl, by decide +kernel, rfl, by decide +kernel, by decide +kernel⟩
theorem ok_eq {f : Addr} {fd : FuncData} (F : Fun K "__eq__" "Amount.__eq__" sEq f fd) (T : Txt K mg C) (GA : GotF P w K mg base "is_amount" 2 ["value"] (spIsAm C)) (GP : GotF P w K mg base "parts" 1 ["amount"] (spParts C)) :
    FnOk P w K mg base CX0 3 f fd ["self", "other"] (spEq C) := by
  obtain ⟨fA, fdA, GA, bA, mA, kA⟩ := GA
  obtain ⟨fP, fdP, GP, bP, mP, kP⟩ := GP
  refine F.ok scEq (fun vs H Q E h => ?_) (fun cdv A outer s H vs Q E hr h => ?_)
  · obtain ⟨a, y, n, u, rfl, _⟩ := h
    rfl
  · obtain ⟨a, y, n, u, rfl, ⟨l, x, dx, rfl, hx⟩, hy⟩ := h
    have hr1 : Room 1 _ := hr.mono (by decide)
    refine ⟨_, pss_cons (ps_if (pt_not (pt_val (pe_call GA hr (by rfl) mA kA bA .nil pass0 (pa_cons (pv 1) pa_nil)))) (pss_one (ps_ret pe_bl)) pss_nil)
      (pss_one (ps_ret (pe_cmpR (op_eqD hr.units) (pe_tup (pa_cons (pe_fld (pv 0) rfl) (pa_cons (pe_fld (pv 0) rfl) pa_nil))) (pe_call GP hr1 (by rfl) mP kP bP .nil pass0 (pa_cons (pv 1) pa_nil)) (nomark _)))), ?_⟩
    rcases hy with ⟨n', u', hy, q⟩ | ⟨⟨Ty, b⟩, hi, q⟩
    · refine ⟨_, rfl, _, true, rfl, hy.isAm, _, rfl, iteF ?_⟩
      refine ⟨_, rfl, x, C, dx, _, _, rfl, hx, T.cl, T.nN, pf_number _ _, _, rfl, x, C, dx, _, _, rfl, hx, T.cl, T.nU, pf_under _ _, (by show 2 ≤ sizeLine; decide), fun p np => ?_⟩
      have s1 := same_upd (o := .tup [V.int n, V.int u]) np
      refine ⟨_, rfl, y, n', u', rfl, hy.same s1, fun p' np' => ?_⟩
      have npp : p ≠ p' := fun e => by rw [← e, upd_same] at np'; cases np'
      have s2 := same_upd (o := .tup [V.int n', V.int u']) np'
      refine ⟨.tuple [.int n, .int u], .tuple [.int n', .int u'], .tup (SqT.of (Eq.trans (upd_ne npp) upd_same)) (.cons (.int n) (.cons (.int u) .nil)), .tup (SqT.of upd_same) (.cons (.int n') (.cons (.int u') .nil)), rfl, rfl, ?_⟩
      rw [eqv_two]
      exact q _ (s1.trans s2)
    · exact ⟨_, rfl, _, false, rfl, .inl ⟨⟨Ty, b⟩, hi.symm⟩, _, rfl, iteT q⟩
theorem scLt : FnScope ["self", "other"] ["self", "other"] (defScope sLt) := ⟨rfl, rfl, rfl, by decide +kernel, rfl, by decide +kernel, by decide +kernel⟩
theorem ok_lt {f : Addr} {fd : FuncData} (F : Fun K "__lt__" "Amount.__lt__" sLt f fd) (T : Txt K mg C) (GA : GotF P w K mg base "is_amount" 2 ["value"] (spIsAm C)) (GS : GotM P w K mg base C "__sub__" 5 ["self", "other"] (spSub C)) (cS : OpIK K C "sub") :
    FnOk P w K mg base CX0 6 f fd ["self", "other"] (spCmp C (fun i => decide (i < 0))) := by
  obtain ⟨fA, fdA, GA, bA, mA, kA⟩ := GA
  obtain ⟨fS, fdS, GS, bS, hS, iS⟩ := GS
  refine F.ok scLt (fun vs H Q E h => ?_) (fun cdv A outer s H vs Q E hr h => ?_)
  · obtain ⟨a, y, n, u, n', u', rfl, _⟩ := h
    rfl
  · obtain ⟨a, y, n, u, n', u', rfl, ha, hy, bb, q⟩ := h
    have hr2 : Room 2 _ := hr.mono (by decide)
    refine ⟨_, pss_cons (ps_if (pt_not (pt_val (pe_call GA hr2 (by rfl) mA kA bA .nil pass0 (pa_cons (pv 1) pa_nil)))) (pss_one ps_never) pss_nil)
      (pss_one (ps_ret (pe_cmpR op_lt (pe_fld (pe_op (op_binC (op := .Sub) T.op ⟨cS.h1, cS.h2, cS.hr⟩ ⟨hS, iS⟩ GS hr bS pass0) (pv 0) (pv 1)) rfl) pe_int (nomark _)))), ?_⟩
    refine ⟨_, rfl, _, true, rfl, hy.isAm, _, rfl, iteF ?_⟩
    refine ⟨_, rfl, _, rfl, ha.inst, hy.orI, a, y, n, u, n', u', rfl, ha, hy, bb, fun v H' e h => ?_⟩
    obtain ⟨l, z, dz, rfl, hz⟩ := h
    exact ⟨z, C, dz, _, _, rfl, hz, T.cl, T.nN, pf_number _ _, _, _, rfl, rfl, q H' e⟩
theorem scLe : FnScope ["self", "other"] ["self", "other"] (defScope sLe) := ⟨rfl, rfl, rfl, by decide +kernel, rfl, by decide +kernel, by decide +kernel⟩
theorem ok_le {f : Addr} {fd : FuncData} (F : Fun K "__le__" "Amount.__le__" sLe f fd) (T : Txt K mg C) (GA : GotF P w K mg base "is_amount" 2 ["value"] (spIsAm C)) (GS : GotM P w K mg base C "__sub__" 5 ["self", "other"] (spSub C)) (cS : OpIK K C "sub") :
    FnOk P w K mg base CX0 6 f fd ["self", "other"] (spCmp C (fun i => decide (i ≤ 0))) := by
  obtain ⟨fA, fdA, GA, bA, mA, kA⟩ := GA
  obtain ⟨fS, fdS, GS, bS, hS, iS⟩ := GS
  refine F.ok scLe (fun vs H Q E h => ?_) (fun cdv A outer s H vs Q E hr h => ?_)
  · obtain ⟨a, y, n, u, n', u', rfl, _⟩ := h
    rfl
  · obtain ⟨a, y, n, u, n', u', rfl, ha, hy, bb, q⟩ := h
    have hr2 : Room 2 _ := hr.mono (by decide)
    refine ⟨_, pss_cons (ps_if (pt_not (pt_val (pe_call GA hr2 (by rfl) mA kA bA .nil pass0 (pa_cons (pv 1) pa_nil)))) (pss_one ps_never) pss_nil)
      (pss_one (ps_ret (pe_cmpR op_le (pe_fld (pe_op (op_binC (op := .Sub) T.op ⟨cS.h1, cS.h2, cS.hr⟩ ⟨hS, iS⟩ GS hr bS pass0) (pv 0) (pv 1)) rfl) pe_int (nomark _)))), ?_⟩
    refine ⟨_, rfl, _, true, rfl, hy.isAm, _, rfl, iteF ?_⟩
    refine ⟨_, rfl, _, rfl, ha.inst, hy.orI, a, y, n, u, n', u', rfl, ha, hy, bb, fun v H' e h => ?_⟩
    obtain ⟨l, z, dz, rfl, hz⟩ := h
    exact ⟨z, C, dz, _, _, rfl, hz, T.cl, T.nN, pf_number _ _, _, _, rfl, rfl, q H' e⟩
theorem scGt : FnScope ["self", "other"] ["self", "other"] (defScope sGt) := ⟨rfl, rfl, rfl, by decide +kernel, rfl, by decide +kernel, by decide +kernel⟩
theorem ok_gt {f : Addr} {fd : FuncData} (F : Fun K "__gt__" "Amount.__gt__" sGt f fd) (T : Txt K mg C) (GA : GotF P w K mg base "is_amount" 2 ["value"] (spIsAm C)) (GS : GotM P w K mg base C "__sub__" 5 ["self", "other"] (spSub C)) (cS : OpIK K C "sub") :
    FnOk P w K mg base CX0 6 f fd ["self", "other"] (spCmp C (fun i => decide (0 < i))) := by
  obtain ⟨fA, fdA, GA, bA, mA, kA⟩ := GA
  obtain ⟨fS, fdS, GS, bS, hS, iS⟩ := GS
  refine F.ok scGt (fun vs H Q E h => ?_) (fun cdv A outer s H vs Q E hr h => ?_)
  · obtain ⟨a, y, n, u, n', u', rfl, _⟩ := h
    rfl
  · obtain ⟨a, y, n, u, n', u', rfl, ha, hy, bb, q⟩ := h
    have hr2 : Room 2 _ := hr.mono (by decide)
    refine ⟨_, pss_cons (ps_if (pt_not (pt_val (pe_call GA hr2 (by rfl) mA kA bA .nil pass0 (pa_cons (pv 1) pa_nil)))) (pss_one ps_never) pss_nil)
      (pss_one (ps_ret (pe_cmpR op_gt (pe_fld (pe_op (op_binC (op := .Sub) T.op ⟨cS.h1, cS.h2, cS.hr⟩ ⟨hS, iS⟩ GS hr bS pass0) (pv 0) (pv 1)) rfl) pe_int (nomark _)))), ?_⟩
    refine ⟨_, rfl, _, true, rfl, hy.isAm, _, rfl, iteF ?_⟩
    refine ⟨_, rfl, _, rfl, ha.inst, hy.orI, a, y, n, u, n', u', rfl, ha, hy, bb, fun v H' e h => ?_⟩
    obtain ⟨l, z, dz, rfl, hz⟩ := h
    exact ⟨z, C, dz, _, _, rfl, hz, T.cl, T.nN, pf_number _ _, _, _, rfl, rfl, q H' e⟩
theorem scGe : FnScope ["self", "other"] ["self", "other"] (defScope sGe) := ⟨rfl, rfl, rfl, by decide +kernel, rfl, by decide +kernel, by decide +kernel⟩
theorem ok_ge {f : Addr} {fd : FuncData} (F : Fun K "__ge__" "Amount.__ge__" sGe f fd) (T : Txt K mg C) (GA : GotF P w K mg base "is_amount" 2 ["value"] (spIsAm C)) (GS : GotM P w K mg base C "__sub__" 5 ["self", "other"] (spSub C)) (cS : OpIK K C "sub") :
    FnOk P w K mg base CX0 6 f fd ["self", "other"] (spCmp C (fun i => decide (0 ≤ i))) := by
  obtain ⟨fA, fdA, GA, bA, mA, kA⟩ := GA
  obtain ⟨fS, fdS, GS, bS, hS, iS⟩ := GS
  refine F.ok scGe (fun vs H Q E h => ?_) (fun cdv A outer s H vs Q E hr h => ?_)
  · obtain ⟨a, y, n, u, n', u', rfl, _⟩ := h
    rfl
  · obtain ⟨a, y, n, u, n', u', rfl, ha, hy, bb, q⟩ := h
    have hr2 : Room 2 _ := hr.mono (by decide)
    refine ⟨_, pss_cons (ps_if (pt_not (pt_val (pe_call GA hr2 (by rfl) mA kA bA .nil pass0 (pa_cons (pv 1) pa_nil)))) (pss_one ps_never) pss_nil)
      (pss_one (ps_ret (pe_cmpR op_ge (pe_fld (pe_op (op_binC (op := .Sub) T.op ⟨cS.h1, cS.h2, cS.hr⟩ ⟨hS, iS⟩ GS hr bS pass0) (pv 0) (pv 1)) rfl) pe_int (nomark _)))), ?_⟩
    refine ⟨_, rfl, _, true, rfl, hy.isAm, _, rfl, iteF ?_⟩
    refine ⟨_, rfl, _, rfl, ha.inst, hy.orI, a, y, n, u, n', u', rfl, ha, hy, bb, fun v H' e h => ?_⟩
    obtain ⟨l, z, dz, rfl, hz⟩ := h
    exact ⟨z, C, dz, _, _, rfl, hz, T.cl, T.nN, pf_number _ _, _, _, rfl, rfl, q H' e⟩
end
end Am
/-! texts as lists of signs: one sign found, cut at, parted at -/
namespace SL
open PySem PySem.StrLaws PySem.Builtin PySem.Builtin.Str
abbrev ofL (l : List Nat) : Str := ⟨l.toArray⟩
theorem ofL_toList (x : Str) : ofL x.cps.toList = x := by cases x; simp [ofL]
theorem toList_ofL (l : List Nat) : (ofL l).cps.toList = l := by simp [ofL]
theorem len_toList (x : Str) : x.cps.toList.length = x.length := Array.length_toList
theorem ext {x y : Str} (h : x.cps.toList = y.cps.toList) : x = y := by rw [← ofL_toList x, ← ofL_toList y, h]
/-- where the sign stands -/
def idxs (c : Nat) : List Nat → Nat → List Nat
  | [], _ => []
  | y :: ys, k => if y = c then k :: idxs c ys (k + 1) else idxs c ys (k + 1)
theorem occ_run (x : Str) (c limit : Nat) : ∀ (m : List Nat) (i : Nat) (acc : Array Nat) (free : Nat), x.cps.toList.drop i = m → i + m.length = x.length → acc.size ≤ limit → free ≤ i →
    (forIn (List.range' i (m.length + 1)) (acc, free) (occBody x ⟨#[c]⟩ x.length limit)).run.fst.toList = acc.toList ++ (idxs c m i).take (limit - acc.size)
  | [], i, acc, free, hd, hl, hs, hf => by
    have hl' : i = x.length := by simpa using hl
    subst hl'
    rw [show List.range' x.length (([] : List Nat).length + 1) = [x.length] from rfl, List.forIn_cons]
    unfold occBody
    rw [if_neg (by rintro ⟨⟨_, h⟩, _⟩; have : (⟨#[c]⟩ : Str).length = 1 := rfl; omega)]
    simp [idxs]
  | y :: m, i, acc, free, hd, hl, hs, hf => by
    have hi : x.cps.toList[i]? = some y := by
      have e := congrArg (·[0]?) hd
      simpa using e
    have hd' : x.cps.toList.drop (i + 1) = m := by
      have e := congrArg List.tail hd
      simpa using e
    have hl' : (i + 1) + m.length = x.length := by simp only [List.length_cons] at hl; omega
    rw [List.length_cons, List.range'_succ, List.forIn_cons]
    unfold occBody
    by_cases hc : y = c
    · subst hc
      have hat := (subAt_one x y i).mpr hi
      by_cases hlt : acc.size < limit
      · rw [if_pos ⟨⟨⟨hlt, hf⟩, hat.1⟩, hat.2⟩]
        have ih := occ_run x y limit m (i + 1) (acc.push i) (i + (⟨#[y]⟩ : Str).length) hd' hl' (by rw [Array.size_push]; omega) (Nat.le_refl _)
        refine Eq.trans ih ?_
        have e : limit - acc.size = (limit - (acc.push i).size) + 1 := by rw [Array.size_push]; omega
        rw [e]
        simp [idxs]
      · rw [if_neg (by rintro ⟨⟨⟨h, _⟩, _⟩, _⟩; exact hlt h)]
        have ih := occ_run x y limit m (i + 1) acc free hd' hl' hs (by omega)
        refine Eq.trans ih ?_
        have e : limit - acc.size = 0 := by omega
        rw [e]
        simp
    · rw [if_neg (by rintro ⟨⟨_, h1⟩, h2⟩; have h3 := (subAt_one x c i).mp ⟨h1, h2⟩; rw [hi] at h3; exact hc (Option.some.inj h3))]
      have ih := occ_run x c limit m (i + 1) acc free hd' hl' hs (by omega)
      refine Eq.trans ih ?_
      simp [idxs, hc]
theorem occ_sign (x : Str) (c limit : Nat) : occurrences x ⟨#[c]⟩ 0 x.length limit = (idxs c x.cps.toList 0).take limit := by
  rw [occ_eq]
  have h := occ_run x c limit x.cps.toList 0 #[] 0 (by simp) (by rw [len_toList]; omega) (Nat.zero_le _) (Nat.le_refl _)
  have e : x.length + 1 - 0 = x.cps.toList.length + 1 := by rw [len_toList]; omega
  rw [e, h]
  simp
theorem idxs_len (c : Nat) : ∀ (m : List Nat) (k : Nat), (idxs c m k).length ≤ m.length
  | [], _ => Nat.le_refl _
  | y :: m, k => by
    have := idxs_len c m (k + 1)
    unfold idxs
    split <;> simp <;> omega
theorem idxs_none {c : Nat} : ∀ {m : List Nat} {k : Nat}, c ∉ m → idxs c m k = []
  | [], _, _ => rfl
  | y :: m, k, h => by
    unfold idxs
    rw [if_neg (fun e => h (by rw [e]; exact List.mem_cons_self ..))]
    exact idxs_none (fun z => h (List.mem_cons_of_mem _ z))
theorem idxs_app {c : Nat} {r : List Nat} : ∀ {p : List Nat} {k : Nat}, c ∉ p → idxs c (p ++ c :: r) k = (k + p.length) :: idxs c r (k + p.length + 1)
  | [], k, _ => by simp [idxs]
  | y :: p, k, h => by
    have ih := idxs_app (r := r) (k := k + 1) (fun z => h (List.mem_cons_of_mem _ z) : c ∉ p)
    rw [List.cons_append, idxs, if_neg (fun e => h (by rw [e]; exact List.mem_cons_self ..)), ih, List.length_cons]
    rw [show k + 1 + p.length = k + (p.length + 1) by omega]
/-- the list cut at each c -/
def cutAt (c : Nat) : List Nat → List (List Nat)
  | [] => [[]]
  | y :: ys => if y = c then [] :: cutAt c ys else match cutAt c ys with
    | [] => [[y]]
    | w :: ws => (y :: w) :: ws
theorem cut_ne (c : Nat) (l : List Nat) : cutAt c l ≠ [] := by
  cases l with
  | nil => simp [cutAt]
  | cons y ys =>
    unfold cutAt
    split
    · simp
    · split <;> simp
theorem cut_none {c : Nat} : ∀ {l : List Nat}, c ∉ l → cutAt c l = [l]
  | [], _ => rfl
  | y :: ys, h => by
    unfold cutAt
    rw [if_neg (fun e => h (by rw [e]; exact List.mem_cons_self ..)), cut_none (fun z => h (List.mem_cons_of_mem _ z))]
theorem cut_app {c : Nat} {r : List Nat} : ∀ {p : List Nat}, c ∉ p → cutAt c (p ++ c :: r) = p :: cutAt c r
  | [], _ => by simp [cutAt]
  | y :: p, h => by
    have ih := cut_app (r := r) (fun z => h (List.mem_cons_of_mem _ z) : c ∉ p)
    rw [List.cons_append, cutAt, if_neg (fun e => h (by rw [e]; exact List.mem_cons_self ..)), ih]
theorem first_c {c : Nat} : ∀ {l : List Nat}, c ∈ l → ∃ p r, l = p ++ c :: r ∧ c ∉ p
  | [], h => by cases h
  | y :: ys, h => by
    by_cases e : y = c
    · exact ⟨[], ys, by rw [e]; rfl, by simp⟩
    · rcases List.mem_cons.mp h with z | z
      · exact (e z.symm).elim
      · obtain ⟨p, r, h1, h2⟩ := first_c z
        refine ⟨y :: p, r, by rw [h1]; rfl, ?_⟩
        intro z
        rcases List.mem_cons.mp z with z | z
        · exact e z.symm
        · exact h2 z
theorem sub_ofL (x : Str) (a b : Nat) : strSub x a b = ofL ((x.cps.toList.drop a).take (b - a)) := ext (by rw [strSub_toList, toList_ofL])
theorem parts_eq (x : Str) (c : Nat) : ∀ (n : Nat) (m : List Nat) (a : Nat), m.length ≤ n → x.cps.toList.drop a = m → a + m.length = x.length →
    ((a :: (idxs c m a).map (· + 1)).zip (idxs c m a ++ [x.length])).map (fun p => strSub x p.1 p.2) = (cutAt c m).map ofL := by
  intro n
  induction n with
  | zero =>
    intro m a hn hd hl
    have e : m = [] := List.eq_nil_of_length_eq_zero (by omega)
    subst e
    simp [idxs, cutAt, sub_ofL, hd]
  | succ n ih =>
    intro m a hn hd hl
    by_cases hc : c ∈ m
    · obtain ⟨p, r, e, hp⟩ := first_c hc
      subst e
      have hl2 : a + (p.length + (r.length + 1)) = x.length := by simpa using hl
      have hd2 : x.cps.toList.drop (a + p.length + 1) = r := by
        have e : x.cps.toList.drop (a + p.length + 1) = (x.cps.toList.drop a).drop (p.length + 1) := by rw [List.drop_drop]; congr 1
        rw [e, hd]
        simp
      rw [idxs_app hp, cut_app hp]
      have h := ih r (a + p.length + 1) (by simp only [List.length_append, List.length_cons] at hn; omega) hd2 (by omega)
      show strSub x a (a + p.length) :: List.map (fun p => strSub x p.1 p.2) (((a + p.length + 1) :: (idxs c r (a + p.length + 1)).map (· + 1)).zip (idxs c r (a + p.length + 1) ++ [x.length])) = ofL p :: (cutAt c r).map ofL
      rw [h, sub_ofL, hd]
      have e : a + p.length - a = p.length := by omega
      rw [e]
      simp
    · rw [idxs_none hc, cut_none hc]
      show [strSub x a x.length] = [ofL m]
      rw [sub_ofL, hd]
      have e : x.length - a = m.length := by omega
      rw [e]
      simp
theorem split_sign (x : Str) (c : Nat) (h0 : x.length ≠ 0 → strKind x ≥ strKind ⟨#[c]⟩) : Txt.split x ⟨#[c]⟩ = (cutAt c x.cps.toList).map ofL := by
  unfold Txt.split
  have l1 : (⟨#[c]⟩ : Str).length = 1 := rfl
  rw [occ_sign, l1]
  by_cases hx : x.length = 0
  · have e : x.cps.toList = [] := List.eq_nil_of_length_eq_zero (by rw [len_toList]; exact hx)
    have hlt : (decide (x.length < 1) || decide (strKind x < strKind ⟨#[c]⟩)) = true := by rw [hx]; simp
    rw [if_pos hlt, e]
    show [x] = [ofL []]
    rw [← e, ofL_toList]
  · have hlt : ¬ (decide (x.length < 1) || decide (strKind x < strKind ⟨#[c]⟩)) = true := by
      have := h0 hx
      simp only [Bool.or_eq_true, decide_eq_true_eq]
      omega
    rw [if_neg hlt]
    have hlen : (idxs c x.cps.toList 0).take (x.length + 1) = idxs c x.cps.toList 0 := by
      refine List.take_of_length_le ?_
      have := idxs_len c x.cps.toList 0
      rw [len_toList] at this
      omega
    rw [hlen]
    have key := parts_eq x c x.cps.toList.length x.cps.toList 0 (Nat.le_refl _) (by simp) (by rw [len_toList]; omega)
    by_cases hem : (idxs c x.cps.toList 0).isEmpty = true
    · rw [if_pos hem]
      have e : idxs c x.cps.toList 0 = [] := List.isEmpty_iff.mp hem
      rw [e] at key
      rw [← key]
      show [x] = [strSub x 0 x.length]
      rw [sub_ofL]
      have e2 : (x.cps.toList.drop 0).take (x.length - 0) = x.cps.toList := by
        rw [List.drop_zero]
        exact List.take_of_length_le (by rw [len_toList]; omega)
      rw [e2, ofL_toList]
    · rw [if_neg hem, ← key]
      rfl
theorem part_sign (x : Str) (c : Nat) (p r : List Nat) (h : x.cps.toList = p ++ c :: r) (hp : c ∉ p) : Txt.partition x ⟨#[c]⟩ = (ofL p, ⟨#[c]⟩, ofL r) := by
  unfold Txt.partition
  rw [occ_sign, h, idxs_app hp]
  show (strSub x 0 (0 + p.length), (⟨#[c]⟩ : Str), strSub x (0 + p.length + 1) x.length) = _
  rw [sub_ofL, sub_ofL, h]
  have l : x.length = p.length + (r.length + 1) := by rw [← len_toList, h]; simp
  congr 1
  · simp
  · congr 1
    rw [l]
    have e : (p ++ c :: r).drop (0 + p.length + 1) = r := by
      have e : (0 + p.length + 1) = p.length + 1 := by omega
      rw [e]
      simp
    rw [e]
    congr 2
    refine List.take_of_length_le ?_
    omega
theorem part_none (x : Str) (c : Nat) (h : c ∉ x.cps.toList) : Txt.partition x ⟨#[c]⟩ = (x, Str.empty, Str.empty) := by
  unfold Txt.partition
  rw [occ_sign, idxs_none h]
  rfl
end SL
/-! texts of amounts: what is read, and what is written -/
namespace Mt
open PySem PySem.NumText SL
/-- the figures of a number -/
def dg (m : Nat) : List Nat := (Nat.toDigits 10 m).map Char.toNat
theorem dg_str (m : Nat) : (Str.ofString (toString ((m : Nat) : Int))).cps.toList = dg m := PySem.W.KIN.signs_num m
theorem dg_val (m : Nat) : digitsVal (dg m) = m := PySem.W.KIN.val_back m
theorem dg_all (m : Nat) : AllDigits (dg m) := by
  intro c hc
  obtain ⟨ch, hch, e⟩ := List.mem_map.mp hc
  have r := PyProof.Rows.digit_range (Nat.isDigit_of_mem_toDigits (by decide) (by decide) hch)
  rw [← e]
  exact r
theorem dg_lt {d : Nat} (h : d < 10) : dg d = [48 + d] := by
  have e := Nat.toDigits_of_lt_base (b := 10) h
  unfold dg
  rw [e]
  match d, h with
  | 0, _ | 1, _ | 2, _ | 3, _ | 4, _ | 5, _ | 6, _ | 7, _ | 8, _ | 9, _ => rfl
theorem dg_step {m d : Nat} (hm : 0 < m) (hd : d < 10) : dg (10 * m + d) = dg m ++ [48 + d] := by
  rw [← dg_lt hd]
  unfold dg
  rw [← List.map_append, Nat.toDigits_append_toDigits (by decide) hm hd]
theorem dg_ne (m : Nat) : dg m ≠ [] := by
  by_cases h : m < 10
  · rw [dg_lt h]; simp
  · have e : m = 10 * (m / 10) + m % 10 := by omega
    rw [e, dg_step (by omega) (by omega)]
    simp
/-- zeros ahead, to k signs -/
def zpad (k : Nat) (l : List Nat) : List Nat := List.replicate (k - l.length) 48 ++ l
theorem dg_len : ∀ (k m : Nat), m < 10 ^ (k + 1) → (dg m).length ≤ k + 1
  | 0, m, h => by rw [dg_lt (by simpa using h)]; simp
  | k + 1, m, h => by
    by_cases c : m < 10
    · rw [dg_lt c]; simp
    · have e : m = 10 * (m / 10) + m % 10 := by omega
      have h2 : m / 10 < 10 ^ (k + 1) := by rw [Nat.pow_succ] at h; omega
      have := dg_len k (m / 10) h2
      rw [e, dg_step (by omega) (by omega)]
      simp only [List.length_append, List.length_cons, List.length_nil]
      omega
theorem dg_block {q : Nat} (hq : 0 < q) : ∀ (k b : Nat), b < 10 ^ (k + 1) → dg (q * 10 ^ (k + 1) + b) = dg q ++ zpad (k + 1) (dg b)
  | 0, b, h => by
    have hb : b < 10 := by simpa using h
    have e : q * 10 ^ (0 + 1) + b = 10 * q + b := by rw [show 10 ^ (0 + 1) = 10 from rfl]; omega
    rw [e, dg_step hq hb, dg_lt hb]
    rfl
  | k + 1, b, h => by
    have hd : b % 10 < 10 := by omega
    have hb : b / 10 < 10 ^ (k + 1) := by rw [Nat.pow_succ] at h; omega
    have e : q * 10 ^ (k + 1 + 1) + b = 10 * (q * 10 ^ (k + 1) + b / 10) + b % 10 := by rw [Nat.pow_succ 10 (k + 1), ← Nat.mul_assoc]; omega
    have pos : 0 < q * 10 ^ (k + 1) + b / 10 := Nat.lt_of_lt_of_le (Nat.mul_pos hq (Nat.pow_pos (by decide))) (Nat.le_add_right _ _)
    rw [e, dg_step pos hd, dg_block hq k (b / 10) hb, List.append_assoc]
    congr 1
    by_cases z : b < 10
    · have e0 : b / 10 = 0 := by omega
      have e1 : b % 10 = b := by omega
      rw [e0, e1, dg_lt z, dg_lt (by decide : 0 < 10)]
      unfold zpad
      show List.replicate (k + 1 - 1) 48 ++ [48] ++ [48 + b] = List.replicate (k + 1 + 1 - 1) 48 ++ [48 + b]
      rw [show k + 1 - 1 = k from rfl, show k + 1 + 1 - 1 = k + 1 from rfl, List.replicate_succ']
    · have e2 : b = 10 * (b / 10) + b % 10 := by omega
      have e3 : dg b = dg (b / 10) ++ [48 + b % 10] := by rw [e2, dg_step (by omega) (by omega)]; congr 2 <;> omega
      have l3 := dg_len k (b / 10) hb
      rw [e3]
      unfold zpad
      rw [List.length_append, List.length_cons, List.length_nil, List.append_assoc]
      congr 2
      omega
theorem fold_lt : ∀ (cs : List Nat) (a : Nat), AllDigits cs → cs.foldl (fun acc c => acc * 10 + (c - 48)) a < (a + 1) * 10 ^ cs.length
  | [], a, _ => by simp
  | c :: cs, a, h => by
    have ih := fold_lt cs (a * 10 + (c - 48)) h.tail
    have hc := h.head
    rw [List.length_cons, Nat.pow_succ, Nat.mul_comm (10 ^ cs.length) 10, ← Nat.mul_assoc]
    exact Nat.lt_of_lt_of_le ih (Nat.mul_le_mul_right _ (by omega))
theorem val_lt {cs : List Nat} (h : AllDigits cs) : digitsVal cs < 10 ^ cs.length := by
  have := fold_lt cs 0 h
  simpa [digitsVal] using this
def digB (c : Nat) : Bool := decide (48 ≤ c ∧ c ≤ 57)
/-- the number that a word writes; -1 if it writes none -/
def num (l : List Nat) : Int := if (!l.isEmpty && l.all digB) = true then (if (l.head? = some 48 ∧ l ≠ [48]) then -1 else (digitsVal l : Int)) else -1
theorem all_dig {l : List Nat} (h : l.all digB = true) : AllDigits l := fun c hc => by
  have := List.all_eq_true.mp h c hc
  exact of_decide_eq_true this
theorem num_lt {l : List Nat} {k : Nat} (h : l.length ≤ k) : (num l).natAbs < 10 ^ k ∨ num l = -1 := by
  unfold num
  split
  · rename_i c
    rw [Bool.and_eq_true] at c
    split
    · exact .inr rfl
    · exact .inl (Nat.lt_of_lt_of_le (val_lt (all_dig c.2)) (Nat.pow_le_pow_right (by decide) h))
  · exact .inr rfl
theorem num_ge (l : List Nat) : -1 ≤ num l := by
  unfold num
  split
  · split
    · omega
    · omega
  · omega
theorem num_not {l : List Nat} {c : Nat} (h : c ∈ l) (hc : digB c = false) : num l = -1 := by
  unfold num
  rw [if_neg]
  intro z
  rw [Bool.and_eq_true] at z
  have := List.all_eq_true.mp z.2 c h
  rw [hc] at this
  cases this
theorem num_dg (m : Nat) : num (dg m) = m := by
  have h : (!(dg m).isEmpty && (dg m).all digB) = true := by
    rw [Bool.and_eq_true]
    refine ⟨?_, List.all_eq_true.mpr fun c hc => decide_eq_true (dg_all m c hc)⟩
    have := dg_ne m
    cases e : dg m with
    | nil => exact absurd e this
    | cons a r => rfl
  unfold num
  rw [if_pos h, if_neg, dg_val]
  rintro ⟨h1, h2⟩
  by_cases z : m < 10
  · rw [dg_lt z] at h1 h2
    have e : 48 + m = 48 := by simpa using h1
    exact h2 (by rw [e])
  · -- the first figure is no nought
    have key : ∀ n, 0 < n → (dg n).head? ≠ some 48 := by
      intro n
      induction n using Nat.strongRecOn with
      | _ n ih =>
        intro hn
        by_cases z : n < 10
        · rw [dg_lt z]
          simp
          omega
        · have e : n = 10 * (n / 10) + n % 10 := by omega
          rw [e, dg_step (by omega) (by omega), List.head?_append]
          have := ih (n / 10) (by omega) (by omega)
          cases q : (dg (n / 10)).head? with
          | none => exact absurd (List.head?_eq_none_iff.mp q) (dg_ne _)
          | some v => rw [q] at this; simpa using this
    exact key m (by omega) h1
/-- the sign ahead left out -/
def bare (l : List Nat) : List Nat := if l.head? = some 45 then l.tail else l
def sgn (l : List Nat) : Bool := decide (l.head? = some 45)
/-- the text of a whole number -/
def intL (n : Int) : List Nat := (Str.ofString (toString n)).cps.toList
def textT (n u : Int) : Str := Str.ofString (toString n) ++ (if u = 1 then ("" : Str) else ("/" : Str) ++ Str.ofString (toString u))
def fin (neg : Bool) (number under : Int) (x : Str) : Option (Int × Int) := if textT (Am.fr (if neg then -number else number) under).1 (Am.fr (if neg then -number else number) under).2 = x then some (Am.fr (if neg then -number else number) under) else none
def readB (x : Str) (l : List Nat) (top : List Nat) (under : Int) : Option (Int × Int) := if num (bare top) < 0 ∨ under < 1 then none else fin (sgn l) (num (bare top)) under x
/-- what the text is read as -/
def readT (x : Str) : Option (Int × Int) :=
  if 47 ∈ x.cps.toList then readB x x.cps.toList (x.cps.toList.takeWhile (fun c => decide (c ≠ 47))) (num (x.cps.toList.dropWhile (fun c => decide (c ≠ 47))).tail)
  else readB x x.cps.toList x.cps.toList 1
theorem intL_pos {n : Int} (h : 0 ≤ n) : intL n = dg n.natAbs := by
  obtain ⟨m, rfl⟩ := Int.eq_ofNat_of_zero_le h
  exact dg_str m
theorem intL_neg {n : Int} (h : n < 0) : intL n = 45 :: dg n.natAbs := by
  unfold intL
  rw [PyProof.Rows.toString_neg h, Int.zero_sub]
  have e : ∀ a b : String, (Str.ofString (a ++ b)).cps.toList = (Str.ofString a).cps.toList ++ (Str.ofString b).cps.toList := fun a b => by
    rw [Str.ofString_eq_toList, Str.ofString_eq_toList, Str.ofString_eq_toList]
    simp
  rw [e]
  have e2 : (Str.ofString (toString (-n))).cps.toList = dg n.natAbs := by
    have z := intL_pos (n := -n) (by omega)
    unfold intL at z
    rw [z, Int.natAbs_neg]
  rw [e2]
  rfl
theorem not_dig {c : Nat} (h : digB c = false) (m : Nat) : c ∉ dg m := fun z => by
  have := dg_all m c z
  unfold digB at h
  rw [decide_eq_true this] at h
  cases h
theorem dg_head {m : Nat} : (dg m).head? ≠ some 45 := by
  intro z
  have : 45 ∈ dg m := List.mem_of_head? z
  exact not_dig (by decide) m this
theorem bare_int (n : Int) : bare (intL n) = dg n.natAbs ∧ sgn (intL n) = decide (n < 0) := by
  by_cases c : n < 0
  · rw [intL_neg c]
    refine ⟨rfl, ?_⟩
    rw [decide_eq_true c]
    rfl
  · rw [intL_pos (by omega)]
    unfold bare sgn
    rw [if_neg dg_head, decide_eq_false c, decide_eq_false dg_head]
    exact ⟨rfl, rfl⟩
theorem no_slash (n : Int) : 47 ∉ intL n := by
  by_cases c : n < 0
  · rw [intL_neg c]
    intro z
    rcases List.mem_cons.mp z with z | z
    · cases z
    · exact not_dig (by decide) _ z
  · rw [intL_pos (by omega)]
    exact not_dig (by decide) _
theorem textT_L (n u : Int) : (textT n u).cps.toList = intL n ++ (if u = 1 then [] else 47 :: intL u) := by
  unfold textT
  rw [Str.cps_append]
  by_cases c : u = 1
  · rw [if_pos c, if_pos c]
    show ((Str.ofString (toString n)).cps ++ #[]).toList = _
    simp [intL]
  · rw [if_neg c, if_neg c, Str.cps_append]
    show ((Str.ofString (toString n)).cps ++ (#[47] ++ (Str.ofString (toString u)).cps)).toList = _
    simp [intL]
theorem take_ne {p r : List Nat} (hp : 47 ∉ p) : (p ++ 47 :: r).takeWhile (fun c => decide (c ≠ 47)) = p ∧ ((p ++ 47 :: r).dropWhile (fun c => decide (c ≠ 47))).tail = r := by
  induction p with
  | nil => simp
  | cons y p ih =>
    have hy : y ≠ 47 := fun e => hp (by rw [e]; exact List.mem_cons_self ..)
    obtain ⟨h1, h2⟩ := ih (fun z => hp (List.mem_cons_of_mem _ z))
    constructor
    · rw [List.cons_append, List.takeWhile_cons, if_pos (decide_eq_true hy), h1]
    · rw [List.cons_append, List.dropWhile_cons, if_pos (decide_eq_true hy), h2]
theorem readT_no {x : Str} (h : 47 ∉ x.cps.toList) : readT x = readB x x.cps.toList x.cps.toList 1 := if_neg h
theorem readT_yes {x : Str} {p r : List Nat} (h : x.cps.toList = p ++ 47 :: r) (hp : 47 ∉ p) : readT x = readB x x.cps.toList p (num r) := by
  unfold readT
  rw [if_pos (by rw [h]; simp), h, (take_ne hp).1, (take_ne hp).2]
theorem sgn_app {p r : List Nat} : sgn (p ++ 47 :: r) = sgn p := by
  cases p with
  | nil => rfl
  | cons y p => rfl
theorem bare_app {p r : List Nat} : bare (p ++ 47 :: r) = bare p ++ 47 :: r := by
  cases p with
  | nil => rfl
  | cons y p =>
    unfold bare
    by_cases c : y = 45
    · rw [if_pos (by rw [c]; rfl), if_pos (by rw [c]; rfl)]
      rfl
    · rw [if_neg (by show ¬ some y = some 45; simpa using c), if_neg (by show ¬ some y = some 45; simpa using c)]
theorem bare_mem {p : List Nat} {c : Nat} (h : c ∈ bare p) : c ∈ p := by
  unfold bare at h
  split at h
  · exact List.mem_of_mem_tail h
  · exact h
theorem bare_len (p : List Nat) : (bare p).length ≤ p.length := by
  unfold bare
  split
  · simp
  · exact Nat.le_refl _
/-- a text that was written is read -/
theorem read_written {n u : Int} (h : Am.Low n u) : readT (textT n u) = some (n, u) := by
  have hL := textT_L n u
  obtain ⟨b1, b2⟩ := bare_int n
  have abs : (if decide (n < 0) = true then -(n.natAbs : Int) else (n.natAbs : Int)) = n := by
    by_cases c : n < 0
    · rw [if_pos (decide_eq_true c)]; omega
    · rw [if_neg (by simpa using c)]; omega
  by_cases c : u = 1
  · subst c
    rw [if_pos rfl, List.append_nil] at hL
    rw [readT_no (by rw [hL]; exact no_slash n)]
    unfold readB
    rw [hL, b1, b2, num_dg, if_neg (by omega)]
    unfold fin
    rw [abs, Am.fr_of_low h, if_pos rfl]
  · rw [if_neg c] at hL
    have hu := h.1
    rw [readT_yes hL (no_slash n)]
    have e : num (intL u) = u := by rw [intL_pos (by omega), num_dg]; omega
    unfold readB
    rw [hL, sgn_app, b1, b2, num_dg, e, if_neg (by omega)]
    unfold fin
    rw [abs, Am.fr_of_low h, if_pos rfl]
/-- the law's own words for the same -/
theorem due_eq (x : Str) : (if (cutAt 47 (bare x.cps.toList)).length > 2 ∨ num ((cutAt 47 (bare x.cps.toList)).headD []) < 0 ∨ (if (cutAt 47 (bare x.cps.toList)).length = 2 then num ((cutAt 47 (bare x.cps.toList)).getLastD []) else 1) < 1 then none
    else fin (sgn x.cps.toList) (num ((cutAt 47 (bare x.cps.toList)).headD [])) (if (cutAt 47 (bare x.cps.toList)).length = 2 then num ((cutAt 47 (bare x.cps.toList)).getLastD []) else 1) x) = readT x := by
  by_cases h : 47 ∈ x.cps.toList
  · obtain ⟨p, r, e, hp⟩ := first_c h
    rw [readT_yes e hp]
    have hb : 47 ∉ bare p := fun z => hp (bare_mem z)
    rw [e, bare_app, sgn_app, cut_app hb]
    by_cases h2 : 47 ∈ r
    · obtain ⟨p2, r2, e2, hp2⟩ := first_c h2
      have l : (bare p :: cutAt 47 r).length > 2 := by
        rw [e2, cut_app hp2]
        have := cut_ne 47 r2
        have : 0 < (cutAt 47 r2).length := List.length_pos_iff.mpr this
        simp only [List.length_cons]
        omega
      rw [if_pos (.inl l)]
      unfold readB
      rw [num_not h2 (by decide), if_pos (.inr (by decide))]
    · rw [cut_none h2]
      have l : ([bare p, r] : List (List Nat)).length = 2 := rfl
      have hd : ([bare p, r] : List (List Nat)).headD [] = bare p := rfl
      have hl : ([bare p, r] : List (List Nat)).getLastD [] = r := rfl
      rw [if_pos l, hd, hl]
      unfold readB
      rw [sgn_app]
      by_cases z : num (bare p) < 0 ∨ num r < 1
      · rw [if_pos z, if_pos (.inr z)]
      · rw [if_neg z, if_neg (by
          rintro (y | y)
          · rw [l] at y; omega
          · exact z y)]
  · rw [readT_no h]
    have hb : 47 ∉ bare x.cps.toList := fun z => h (bare_mem z)
    rw [cut_none hb]
    have l1 : ¬ ([bare x.cps.toList] : List (List Nat)).length = 2 := by simp
    have hd : ([bare x.cps.toList] : List (List Nat)).headD [] = bare x.cps.toList := rfl
    rw [if_neg l1, hd]
    unfold readB
    by_cases z : num (bare x.cps.toList) < 0
    · rw [if_pos (.inr (.inl z)), if_pos (.inl z)]
    · have l3 : ([bare x.cps.toList] : List (List Nat)).length = 1 := rfl
      rw [if_neg (by rw [l3]; omega), if_neg (by omega)]
end Mt
namespace Am
open PySem PySem.Spec PyProof.Rows L2
/-- decimal(word) -/
def spDec : Sp := fun vs H Q _ => ∃ x : Str, vs = [.str x] ∧ x.length ≤ 640 ∧ Q (.int (Mt.num x.cps.toList)) H
theorem digit_asc : ∀ c, c < 128 → Unicode.isDigit c = Mt.digB c := by
  have h : ∀ c : Fin 128, Unicode.isDigit c.val = Mt.digB c.val := by decide +kernel
  exact fun c hc => h ⟨c, hc⟩
theorem ascB (x : Str) : Txt.isascii x = x.cps.toList.all (fun c => decide (c < 128)) := by
  unfold Txt.isascii
  rw [← Array.all_toList]
theorem digB_asc {c : Nat} (h : Mt.digB c = true) : c < 128 := by
  have := of_decide_eq_true h
  omega
theorem decimal_test (x : Str) : (Txt.isascii x && Txt.isdigit x) = (!x.cps.toList.isEmpty && x.cps.toList.all Mt.digB) := by
  rw [ascB]
  unfold Txt.isdigit
  rw [← Array.all_toList]
  have e0 : decide (x.length > 0) = !x.cps.toList.isEmpty := by
    rw [← SL.len_toList]
    cases x.cps.toList <;> simp
  rw [e0]
  generalize x.cps.toList = l
  cases ha : l.all (fun c => decide (c < 128)) with
  | true =>
    have e : l.all Unicode.isDigit = l.all Mt.digB := by
      rw [Bool.eq_iff_iff, List.all_eq_true, List.all_eq_true]
      have h := List.all_eq_true.mp ha
      exact ⟨fun z c hc => by rw [← digit_asc c (of_decide_eq_true (h c hc))]; exact z c hc, fun z c hc => by rw [digit_asc c (of_decide_eq_true (h c hc))]; exact z c hc⟩
    rw [e, Bool.true_and]
  | false =>
    cases hd : l.all Mt.digB with
    | false => simp
    | true =>
      have h := List.all_eq_true.mp hd
      have : l.all (fun c => decide (c < 128)) = true := List.all_eq_true.mpr fun c hc => decide_eq_true (digB_asc (h c hc))
      rw [ha] at this
      cases this
theorem starts0 (x : Str) : Txt.startswith x "0" = decide (x.cps.toList.head? = some 48) := by
  unfold Txt.startswith
  have e : ("0" : Str) = ⟨#[48]⟩ := by decide +kernel
  rw [e]
  have h := StrLaws.subAt_one x 48 0
  rw [Bool.eq_iff_iff, Bool.and_eq_true, decide_eq_true_eq, decide_eq_true_eq, h, List.head?_eq_getElem?]
theorem is0 (x : Str) : decide (V.str x = V.str ("0" : Str)) = decide (x.cps.toList = [48]) := by
  have e : ("0" : Str) = ⟨#[48]⟩ := by decide +kernel
  rw [e]
  refine decide_eq_decide.mpr ⟨fun h => ?_, fun h => ?_⟩
  · rw [V.str.inj h]
  · rw [SL.ext (x := x) (y := ⟨#[48]⟩) h]
section
variable {P : Program} {w : World} {K : PySem.W.Frag} {mg : Str → Option Value} {base : Heap} {C D : Addr}
theorem scDec : FnScope ["word"] ["word"] (defScope sDec) := ⟨rfl, rfl, rfl, by decide +kernel, rfl, by decide +kernel, by decide +kernel⟩
theorem ok_dec {f : Addr} {fd : FuncData} (F : Fun K "decimal" "decimal" sDec f fd) (ni : mg "int" = none) : FnOk P w K mg base CX0 1 f fd ["word"] spDec := by
  refine F.ok scDec (fun vs H Q E h => ?_) (fun cdv A outer s H vs Q E hr h => ?_)
  · obtain ⟨x, rfl, _⟩ := h
    rfl
  · obtain ⟨x, rfl, hl, q⟩ := h
    refine ⟨_, pss_cons (ps_if (pt_not (PW.pt (pw_and (pt_val (pe_bm0 PySem.F.plainAttrs_str PySem.F.slot_str_isascii PySem.F.type_str_isascii mt_isascii (pv 0))) (pw_and1 (pt_val (pe_bm0 PySem.F.plainAttrs_str PySem.F.slot_str_isdigit PySem.F.type_str_isdigit mt_isdigit (pv 0)))))))
        (pss_one (ps_ret (pe_un un_neg pe_int))) pss_nil)
      (pss_cons (ps_if (PW.pt (pw_and (pt_val (pe_bm PySem.F.plainAttrs_str PySem.F.slot_str_startswith PySem.F.type_str_startswith mt_startswith (pv 0) (pa_cons pe_str pa_nil))) (pw_and1 (pt_cmpR op_ne (pv 0) pe_str (nomark _)))))
        (pss_one (ps_ret (pe_un un_neg pe_int))) pss_nil)
      (pss_one (ps_ret (pe_callTy (call_int_str) (by rfl) ni b_int (pa_cons (pv 0) pa_nil))))), ?_⟩
    have key : Mt.num x.cps.toList = if (Txt.isascii x && Txt.isdigit x) = true then (if (x.cps.toList.head? = some 48 ∧ x.cps.toList ≠ [48]) then -1 else (NumText.digitsVal x.cps.toList : Int)) else -1 := by rw [decimal_test]; rfl
    rw [key] at q
    refine ⟨_, rfl, rfl, x, rfl, rfl, trivial, _, rfl, ?_⟩
    cases ha : Txt.isascii x with
    | false =>
      refine iteF (iteT ?_)
      rw [ha, Bool.false_and, if_neg (by decide)] at q
      exact ⟨_, rfl, q⟩
    | true =>
      refine iteT ⟨_, rfl, rfl, x, rfl, rfl, trivial, _, rfl, ?_⟩
      cases hd : Txt.isdigit x with
      | false =>
        refine iteT ?_
        rw [ha, hd, Bool.and_false, if_neg (by decide)] at q
        exact ⟨_, rfl, q⟩
      | true =>
        refine iteF ?_
        have hT : (!x.cps.toList.isEmpty && x.cps.toList.all Mt.digB) = true := by rw [← decimal_test, ha, hd]; rfl
        rw [Bool.and_eq_true] at hT
        have hne : x.cps.toList ≠ [] := by
          intro e
          rw [e] at hT
          exact absurd hT.1 (by decide)
        have hI : PySem.intText? x = some (NumText.digitsVal x.cps.toList : Int) := PySem.intText_digits (Mt.all_dig hT.2) hne (by omega)
        rw [ha, hd, if_pos (by decide)] at q
        have fin : ¬ (x.cps.toList.head? = some 48 ∧ x.cps.toList ≠ [48]) → tRet (tCB (fun xs H Q => ∃ a n, xs = [V.str a] ∧ intText? a = some n ∧ a.length ≤ 640 ∧ Q (V.int n) H) (tCons (tVar 0) tNil)) { nx := fun x H' => Q V.non H', rt := Q } [some (V.str x)] H := by
          intro z
          rw [if_neg z] at q
          exact ⟨_, rfl, x, _, rfl, hI, hl, q⟩
        refine ⟨_, rfl, rfl, x, _, rfl, rfl, _, rfl, ?_⟩
        rw [starts0]
        by_cases h0 : x.cps.toList.head? = some 48
        · rw [decide_eq_true h0]
          refine iteT ⟨_, rfl, rfl, _, rfl, ?_⟩
          rw [is0]
          by_cases h1 : x.cps.toList = [48]
          · rw [decide_eq_true h1]
            exact iteF (fin fun z => z.2 h1)
          · rw [decide_eq_false h1]
            refine iteT ⟨_, rfl, ?_⟩
            rw [if_pos ⟨h0, h1⟩] at q
            exact q
        · rw [decide_eq_false h0]
          exact iteF (iteF (fin fun z => h0 z.1))
end
end Am
/-! promises of defs that are run where no repr is under way (A.guards = some []): such a def may ask repr of its own objects -/
namespace Gu
open PySem PySem.Spec PyProof.Rows L2
structure FnG (P : Program) (w : World) (K : PySem.W.Frag) (mg : Str → Option Value) (base : Heap) (CX : CXT) (k : Nat) (f : Addr) (fd : FuncData) (ps : List Str) (sp : Sp) : Prop where
  len : ∀ vs H Q E, sp vs H Q E → vs.length = ps.length
  go : ∀ (A : Around) (out : List Env) (s : Shared) (H : Hp) (args : Args) (us : List Value) (vs : List V) (Q : VK) (E : XK), Room k A → A.guards = some [] → Env0 P w K mg base A out s H →
    BindsTo s fd args (ps.zip us) → Vals vs us → sp vs H Q E → codeAny (model P w) A (.call (.ref f) args) (CR CX out P w H s Q E) s
section
variable {P : Program} {w : World} {K : PySem.W.Frag} {mg : Str → Option Value} {base : Heap} {CX : CXT} {k : Nat} {f : Addr} {fd : FuncData} {N ps : List Str} {sp : Sp}
theorem FnG.of (F : FnOk P w K mg base CX k f fd ps sp) : FnG P w K mg base CX k f fd ps sp :=
  ⟨F.len, fun A out s H args us vs Q E hr _ => F.run A out s H args us vs Q E hr⟩
/-- a def by its body, where nothing is guarded -/
theorem okG {x qual : Str} {st : Stmt} (F : Fun K x qual st f fd) (S : FnScope N ps (defScope st)) (len : ∀ vs H Q E, sp vs H Q E → vs.length = ps.length)
    (body : ∀ (cdv : Value) (A : Around) (out : List Env) (s : Shared) (H : Hp) (vs : List V) (Q : VK) (E : XK), A.guards = some [] → Room k (A.deeper (envOfC qual (defScope st) s.heap.objs.size f cdv)) → sp vs H Q E →
      ∃ t, PSs (cxOf CX P w K mg base N qual (defScope st) f cdv A out s H E) (defBody st) t ∧ t { nx := fun _ H' => Q .non H', rt := Q } (start N vs) H) : FnG P w K mg base CX (k + 1) f fd ps sp := by
  obtain ⟨oc, od, kV, doc, pm, an, cdv, ct, osl, rfl, at_, code⟩ := F.ex
  constructor
  · exact len
  intro A out s H args us vs Q E room free e0 bind rel want
  have n1 := len _ _ _ _ want
  have inK : K.In s.heap := e0.mod.kin.keeps (fun b o z => (e0.bs b o z).1)
  have noLim : s.heap.NoLimit := e0.mod.nolimit.keeps (fun b o z => (e0.bs b o z).1)
  have kinds : ∀ y ∈ ps.zip us, (defScope st).names.lookup y.1 = some .local ∨ ((defScope st).names.lookup y.1 = some .cell ∧ ((cellsFrom (s.heap.objs.size + 1) (defScope st).names []).lookup y.1).isSome = true) := by
    rintro ⟨n, v⟩ hy
    exact (S.par n (List.of_mem_zip hy).1).imp id fun q => ⟨q, PySem.W.cellsFrom_some _ _ _ (.inl q)⟩
  apply codeAny_call_function room.depth (inK _ _ at_) rfl S.co S.gen rfl (PySem.W.codeRec_of inK code) (bind _ _ _ _ _)
  apply wpAny_newFunctionEnv_cells S.kind kinds
  intro env he s1 x
  subst he
  refine ⟨noLim.keeps x.toInCall.keep, codeAny_func ?_⟩
  obtain ⟨t, run, go⟩ := body cdv A out s H vs Q E free (room.deeper _) want
  have I := inv_start (CX := CX) (E := E) S room.hd e0 n1 rel x
  apply wpAny_mono (run.run [] s1 (start N vs) H _ I go)
  · intro fl s' q
    match fl, q with
    | .ret u, ⟨v, σ', H', J, rv, qv⟩ => exact ⟨v, H', J.os, J.bare, J.base, J.hok, rv, qv⟩
    | .next, ⟨σ', H', J, qv⟩ => exact ⟨.non, H', J.os, J.bare, J.base, J.hok, rfl, qv⟩
    | .brk, ⟨_, _, _, z⟩ => exact z.elim
    | .cont, ⟨_, _, _, z⟩ => exact z.elim
  · exact fun _ _ z => z
/-- the same where nothing is let out -/
theorem okG0 {x qual : Str} {st : Stmt} (F : Fun K x qual st f fd) (S : FnScope N ps (defScope st)) (len : ∀ vs H Q E, sp vs H Q E → vs.length = ps.length)
    (body : ∀ (cdv : Value) (A : Around) (out : List Env) (s : Shared) (H : Hp) (vs : List V) (Q : VK) (E : XK), A.guards = some [] → Room k (A.deeper (envOfC qual (defScope st) s.heap.objs.size f cdv)) → sp vs H Q E →
      ∃ t, PSs (cxOf CX0 P w K mg base N qual (defScope st) f cdv A out s H E).nox (defBody st) t ∧ t { nx := fun _ H' => Q .non H', rt := Q } (start N vs) H) : FnG P w K mg base CX0 (k + 1) f fd ps sp :=
  okG F S len fun cdv A out s H vs Q E free room want => let ⟨t, h, q⟩ := body cdv A out s H vs Q E free room want; ⟨t, h.nox, q⟩
end
section
variable {X : Cx} {CX : CXT} {k : Nat} {f : Addr} {fd : FuncData} {ps : List Str} {sp : Sp} {E : XK} {x : Str} {p pos : Pos} {e : Expr} {es : List Expr} {t : TA}
/-- f(e, ..): a def whose promise wants that nothing is guarded -/
theorem pe_callG (F : FnG X.prog X.w X.K X.mg X.base CX k f fd ps sp) (free : X.A.guards = some []) (hr : Room k X.A) (hg : Gl X x) (hm : X.mg x = some (.ref f)) (hk : PySem.W.keepIn X.K (.ref f) = true) (hb : Binds X.K fd ps []) (hx : Passes CX X E)
    (ha : PA X (e :: es) t) (h1 : (x == ("__debug__" : Str)) = false := by decide) (h2 : starEach (e :: es) X.env = (false, eval e X.env) :: starEach es X.env := by rfl) (h3 : (backTo pos (starEach es X.env)).any (·.1) = false := by rfl) :
    PE X (.Call (.Name x p) (e :: es) [] pos) (tCall sp [] E t) := by
  constructor
  intro pins s σ H Q I want
  refine wpAny_Call_Name_kw (ld_glob I hg hm ?_ h1)
  refine PySem.W.callWith_K (h₀ := X.base) I.ok.mod.kin hk (thn (ha.run pos pins s σ H _ I want) ?_) h2 h3
  rintro us s1 ⟨vs, H1, I1, rel, q⟩
  refine ⟨I1.kIn, wpAny_call ?_⟩
  have q' : sp vs H1 Q E := by simpa using q
  have n1 : us.length = ps.length := by rw [← rel.length]; exact F.len _ _ _ _ q'
  refine codeAny_mono (F.go X.A X.stack s1 H1 ⟨us, []⟩ us vs Q E hr free I1.env0 (by have := hb s1 us I1.kIn (by simpa using n1); simpa using this) rel q') ?_
  intro r s' z
  match r, z with
  | .error e, z => exact hx pins σ H1 s1 e s' I1 z
  | .ok (.ret u), z => exact I1.after z
end

/-- the data that a value stands for, of a heap -/
def rRepr (K : PySem.W.Frag) : List V → Hp → VK → Prop := fun xs H Q => ∃ a d, xs = [.ref a] ∧ Dp K H (.ref a) d ∧ d.showable = true ∧ d.hasDict = false ∧ d.depth ≤ 60 ∧ d.shown.length ≤ sizeLine ∧ Q (.str d.shown) H
theorem call_reprD {X : Cx} (free : X.A.guards = some []) (hu : X.A.units + 64 < cLine) : CallR X (.builtin "repr") (rRepr X.K) := by
  intro pins s σ H xs us Q I rel want
  obtain ⟨a, d, rfl, hd, sh, nd, dp, sz, q⟩ := want
  obtain ⟨u, rfl, ru⟩ := vals1 rel
  cases (show u = Value.ref a from ru)
  obtain ⟨as, r⟩ := Dp.reads I d (.ref a) _ hd rfl
  refine repr_of_reads' r sh (fun z => by rw [nd] at z; cases z) free (by omega) (fun _ _ z => z) ?_ sz
  intro h' t tk kp
  exact ⟨.str d.shown, H, I.kept kp, ⟨t, rfl⟩, q⟩
end Gu
namespace Gu
open PySem PySem.Spec PyProof.Rows L2
section
variable {P : Program} {w : World} {K : PySem.W.Frag} {mg mb : Str → Option Value} {k : Nat} {fa a : Addr} {fd : FuncData} {x : Str} {sp : Sp} {s : Shared} {vs : List Value} {ns : List Int}
/-- the script's object -/
abbrev scr (vs : List Value) : Obj := { cls := .type "list", data := .seq vs.toArray }
/-- what may be known at the law's call: nothing but the script, as it stands -/
def Bare (a : Addr) (vs : List Value) (ns : List Int) (H : Hp) : Prop := ∀ b u, H b = some u → b = a ∧ u = .frz (scr vs) (.lst (ns.map V.int))
theorem from_caller (inK : K.In s.heap) (glob : s.heap.Ns mainGlobals mg) (bi : s.heap.Ns builtinsNs mb) (hbi : ∀ x : Str, x ≠ "__name__" → mb x = bootBuiltins x) (lim : s.heap.NoLimit) (gens : s.gens = #[])
    (script : s.heap.get? a = some (scr vs)) (room : Room k callerA) (F : ∀ base : Heap, K.In base → base.Ns mainGlobals mg → FnG P w K mg base CX0 k fa fd [x] sp)
    (bind : ∀ (s : Shared) (u : Value), BindsTo s fd ⟨[u], []⟩ [(x, u)]) {H : Hp} (bare : Bare a vs ns H) (ok : HOk P w H s.heap) (off : H a ≠ none → K.lookup a = none)
    (want : sp [.ref a] H (fun v _ => v = .bl true) fun _ _ _ => False) :
    codeAny (model P w) callerA (.call (.ref fa) ⟨[.ref a], []⟩) (fun r s' => r = .ok (.ret (.bool true)) ∧ OldK s.heap s'.heap ∧ s'.os = s.os ∧ AllBare s'.gens) s := by
  -- an object whose data is a dict is not the script, so it is not known
  have apart : ∀ {b : Addr} {o : Obj} {es : Array DictEntry} {n : Nat}, s.heap.get? b = some o → o.data = .dict es n → H b = none := by
    intro b o es n e d
    cases z : H b with
    | none => rfl
    | some u =>
      obtain ⟨rfl, _⟩ := bare b u z
      rw [script] at e
      cases e
      cases (show Data.seq vs.toArray _ = Data.dict es n from d)
  have ns' : ∀ {b : Addr} {m : Str → Option Value}, s.heap.Ns b m → (hidT s.heap H).Ns b m := by
    rintro b m ⟨o, es, n, e, d, rest⟩
    exact ⟨o, es, n, hidT_get e (apart e d), d, rest⟩
  have inB : K.In (hidT s.heap H) := by
    intro b o e
    refine hidT_get (inK b o e) ?_
    cases z : H b with
    | none => rfl
    | some u =>
      obtain ⟨rfl, _⟩ := bare b u z
      rw [off (by rw [z]; exact fun q => by cases q)] at e
      cases e
  obtain ⟨mc, l1, l2⟩ := lim
  have e0 : Env0 P w K mg (hidT s.heap H) callerA [] s H := {
    frames := rfl
    mod := ⟨inB, ns' glob, ⟨mb, ns' bi, hbi⟩, ⟨mc, ns' l1, l2⟩⟩
    bs := fun b o e => of_hidT e
    bsz := Nat.le_of_eq (hidT_size _ _)
    funs := trivial
    frf := by intro b hb; cases hb
    hok := ok
    bare := .of_eq gens }
  refine codeAny_mono ((F _ inB (ns' glob)).go callerA [] s H ⟨[.ref a], []⟩ [.ref a] [.ref a] _ _ room rfl e0 (bind s (.ref a)) (.cons rfl .nil) want) ?_
  intro r s' z
  match r, z with
  | .error e, z => exact z.elim
  | .ok (.ret u), ⟨v, H', os, bare', un, ok', rv, q⟩ =>
    have q' : v = .bl true := q
    subst q'
    cases (show u = Value.bool true from rv)
    refine ⟨rfl, OldK.of_keep (fun b o e => ?_), os, bare'⟩
    cases z : H b with
    | none => exact un.keep b o e z (by intro h; cases h) (by intro h; cases h)
    | some u =>
      obtain ⟨rfl, rfl⟩ := bare b u z
      obtain ⟨e1, _⟩ := ok b _ z
      obtain ⟨e2, _⟩ := ok' b _ (un.frzs b _ _ z)
      rw [e] at e1
      cases e1
      exact e2
end
/-- the end of a law's row, from a promise of that kind -/
theorem walkG {l : PySem.W.OpenLaw} {n k : Nat} {q : Program} {loose : List Str} {XP : (Str → Option Value) → Heap → Prop} {YP : World → Heap → Prop} {d : DefRec} {K : Params → PySem.W.Frag} {sp : PySem.W.Frag → Sp} {x : Str}
    (most : l.most = some n) (small : n ≤ sizeLine) (nodef : d.params.defaults = []) (room : Room k callerA) (inK : ∀ (w : World) (h : Heap), YP w h → (K w.params).In h)
    (F : ∀ (w : World) (mg : Str → Option Value) (fa : Addr) (h : Heap), (K w.params).In h → h.Ns mainGlobals mg → mg d.name = some (.ref fa) →
      ∃ fd : FuncData, (∀ (s : Shared) (u : Value), BindsTo s fd ⟨[u], []⟩ [(x, u)]) ∧ ∀ base : Heap, (K w.params).In base → base.Ns mainGlobals mg → FnG l.prog w (K w.params) mg base CX0 k fa fd [x] (sp (K w.params)))
    (want : ∀ (K : PySem.W.Frag) (H : Hp) (a : Addr) (ns : List Int), ns.length ≤ n → SqL K H a (ns.map V.int) → sp K [.ref a] H (fun v _ => v = .bl true) fun _ _ _ => False) :
    PySem.W.WalkO q loose XP YP l.row.toRowW d [] (fun f vs => PySem.call f vs) := by
  refine Att.attach_call most nodef fun w s₀ s mg mb fa o pm cd doc a vs ns G Y ho hd hcd hmg script hints len gens => ?_
  have kin := inK w _ Y
  obtain ⟨fd, bind, hF⟩ := F w mg fa _ kin G.T.g hmg
  have rel : Vals (ns.map V.int) vs := vals_ints hints
  have small' : (ns.map V.int).length ≤ sizeLine := by rw [List.length_map]; exact Nat.le_trans len small
  have small2 : vs.toArray.size ≤ sizeLine := by rw [List.size_toArray, ← rel.length]; exact small'
  cases known : K w.params |>.lookup a with
  | some o' =>
    have e := kin a o' known
    rw [script] at e
    cases e
    refine from_caller (ns := ns) (H := fun _ => none) kin G.T.g G.T.b G.T.builtins G.T.nolimit gens script room hF bind (by intro b u z; cases z) (by intro b u z; cases z) (fun z => (z rfl).elim) ?_
    exact want _ _ a ns len (.inr ⟨_, vs.toArray, _, known, rfl, rfl, rfl, small2, by simpa using rel⟩)
  | none =>
    refine from_caller (ns := ns) (H := upd (fun _ => none) a (.frz (scr vs) (.lst (ns.map V.int)))) kin G.T.g G.T.b G.T.builtins G.T.nolimit gens script room hF bind ?_ ?_ (fun _ => known) ?_
    · intro b u z
      by_cases c : b = a
      · subst c
        rw [upd_same] at z
        exact ⟨rfl, (Option.some.inj z).symm⟩
      · rw [upd_ne c] at z
        cases z
    · intro b u z
      by_cases c : b = a
      · subst c
        rw [upd_same] at z
        cases z
        exact ⟨script, small', vs, _, rel, script⟩
      · rw [upd_ne c] at z
        cases z
    · exact want _ _ a ns len (.inl (.inr ⟨_, upd_same⟩))
end Gu
namespace Am
open PySem PySem.Spec PyProof.Rows L2
/-- all but p stands as it did -/
def Chg (p : Addr) (H H' : Hp) : Prop := ∀ b u, H b = some u → b ≠ p → H' b = some u
theorem Chg.refl (p : Addr) (H : Hp) : Chg p H H := fun _ _ e _ => e
theorem Chg.trans {p : Addr} {H H1 H2 : Hp} (a : Chg p H H1) (b : Chg p H1 H2) : Chg p H H2 := fun c u e n => b c u (a c u e n) n
theorem Chg.of {p : Addr} {H H' : Hp} (s : Same H H') : Chg p H H' := fun b u e _ => s b u e
theorem Chg.upd {p : Addr} {H : Hp} {o : HO} : Chg p H (upd H p o) := fun b u e n => by rw [upd_ne n]; exact e
/-- the law's jar: what is left of the cell's own digits, the mixed number, how often it was asked -/
def JarAt (H : Hp) (p : Addr) (N : Int) : Prop := ∃ o m c : Int, H p = some (.lst [.int o, .int m, .int c]) ∧ 0 ≤ o ∧ (0 ≤ m ∧ m < 2 ^ 61) ∧ 0 ≤ c ∧ c ≤ N
theorem JarAt.mono {H : Hp} {p : Addr} {N M : Int} (h : JarAt H p N) (l : N ≤ M) : JarAt H p M := by
  obtain ⟨o, m, c, h, a, b, d, e⟩ := h
  exact ⟨o, m, c, h, a, b, d, Int.le_trans e l⟩
theorem JarAt.same {H H' : Hp} {p : Addr} {N : Int} (h : JarAt H p N) (e : Same H H') : JarAt H' p N := by
  obtain ⟨o, m, c, h, r⟩ := h
  exact ⟨o, m, c, e _ _ h, r⟩
theorem JarAt.lst {H : Hp} {p : Addr} {N : Int} (h : JarAt H p N) : ∃ xs, H p = some (.lst xs) := by
  obtain ⟨o, m, c, h, _⟩ := h
  exact ⟨_, h⟩
theorem AmAt.chg {C p : Addr} {H H' : Hp} {N : Int} {v : V} {n u : Int} (j : JarAt H p N) (e : Chg p H H') (h : AmAt C H v n u) : AmAt C H' v n u := by
  obtain ⟨l, a, dx, rfl, h⟩ := h
  obtain ⟨xs, hp⟩ := j.lst
  exact ⟨l, a, dx, rfl, e _ _ h (ne_of h hp (by intro z; cases z))⟩
theorem AmV.chg {C p : Addr} {H H' : Hp} {N : Int} {v : V} {n u : Int} (j : JarAt H p N) (e : Chg p H H') (h : AmV C H v n u) : AmV C H' v n u := h.elim (fun h => .inl (h.chg j e)) .inr
theorem tup_chg {p a : Addr} {H H' : Hp} {N : Int} {xs : List V} (j : JarAt H p N) (e : Chg p H H') (h : H a = some (.tup xs)) : H' a = some (.tup xs) := by
  obtain ⟨ys, hp⟩ := j.lst
  exact e _ _ h (ne_of h hp (by intro z; cases z))
theorem atI_in {xs : List V} {i : Int} (h0 : 0 ≤ i) (h1 : i < xs.length) : ∃ v, atI xs i = some v ∧ v ∈ xs := by
  obtain ⟨j, rfl⟩ := Int.eq_ofNat_of_zero_le h0
  have hj : j < xs.length := by omega
  exact ⟨xs[j], atI_nat (List.getElem?_eq_getElem hj), List.getElem_mem hj⟩
structure Nm (mg : Str → Option Value) : Prop where
  len : mg "len" = none
  abs : mg "abs" = none
  int : mg "int" = none
  max : mg "max" = none
  min : mg "min" = none
  range : mg "range" = none
  all : mg "all" = none
  repr : mg "repr" = none
  isi : mg "isinstance" = none
theorem b_abs : bootBuiltins "abs" = some (.builtin "abs") := by decide +kernel
theorem b_repr : bootBuiltins "repr" = some (.builtin "repr") := by decide +kernel
theorem b_max : bootBuiltins "max" = some (.builtin "max") := by decide +kernel
theorem b_min : bootBuiltins "min" = some (.builtin "min") := by decide +kernel
theorem b_all : bootBuiltins "all" = some (.builtin "all") := by decide +kernel
/-- ** of a written base of any size -/
theorem op_powX {X : Cx} : OpR X (binaryOp .Pow) (rI (fun i j => 0 ≤ j ∧ (Builtin.Int.intBits i : Int) * j ≤ 2 ^ 27) fun i j => .int (i ^ j.toNat)) := opI fun i j _ _ _ _ _ hc q => pow_int hc.1 hc.2 q
theorem b01 (b : Bool) : (-(2 ^ 64) : Int) < (if b = true then 1 else 0) ∧ (if b = true then (1 : Int) else 0) < 2 ^ 64 := by cases b <;> decide
theorem b01n (b : Bool) : (0 : Int) ≤ (if b = true then 1 else 0) := by cases b <;> decide
def spJar (K : PySem.W.Frag) : Sp := fun vs H Q _ => ∃ (a : Addr) (ns : List Int) (k : Int), vs = [.ref a, .int k] ∧ SqL K H a (ns.map V.int) ∧ 0 ≤ k ∧ k ≤ 63 ∧ ∀ p H', Same H H' → H p = none → JarAt H' p 0 → Q (.ref p) H'
def spTake : Sp := fun vs H Q _ => ∃ (p : Addr) (u N : Int), vs = [.ref p, .int u] ∧ (0 < u ∧ u < 1073741824) ∧ JarAt H p N ∧ N ≤ 9999 ∧ ∀ d H', (0 ≤ d ∧ d < u) → Chg p H H' → JarAt H' p (N + 1) → Q (.int d) H'
def spOf : Sp := fun vs H Q _ => ∃ (p l : Addr) (xs : List V) (N : Int), vs = [.ref p, .ref l] ∧ H l = some (.lst xs) ∧ l ≠ p ∧ (0 < xs.length ∧ xs.length ≤ 1000) ∧ JarAt H p N ∧ N ≤ 9999 ∧ ∀ v H', v ∈ xs → Chg p H H' → JarAt H' p (N + 1) → Q v H'
theorem sq_bound {k c : Int} (hk : 0 ≤ k) (hk2 : k ≤ 200000) (h0 : 0 ≤ c) (h1 : c ≤ 10000) : 0 ≤ k * c * c ∧ k * c * c ≤ 20000000000000 := by
  have a : 0 ≤ k * c := Int.mul_nonneg hk h0
  refine ⟨Int.mul_nonneg a h0, ?_⟩
  have b : k * c ≤ 200000 * 10000 := Int.mul_le_mul hk2 h1 h0 (by decide)
  have d : k * c * c ≤ 200000 * 10000 * 10000 := Int.mul_le_mul b h1 h0 (by decide)
  omega
section
variable {P : Program} {w : World} {K : PySem.W.Frag} {mg : Str → Option Value} {base : Heap} {C : Addr}
theorem scJar : FnScope ["_law_script", "_law_k", "_law_cell", "_law_own", "_law_blend"] ["_law_script", "_law_k"] (defScope sJar) := ⟨rfl, rfl, rfl, by decide +kernel, rfl, by decide +kernel, by decide +kernel⟩
theorem ok_jar {f : Addr} {fd : FuncData} (F : Fun K "_law_jar" "_law_jar" sJar f fd) (T : Nm mg) : FnOk P w K mg base CX0 1 f fd ["_law_script", "_law_k"] (spJar K) := by
  refine F.ok scJar (fun vs H Q E h => ?_) (fun cdv A outer s H vs Q E hr h => ?_)
  · obtain ⟨a, ns, k, rfl, _⟩ := h
    rfl
  · obtain ⟨a, ns, k, rfl, hS, h0, h1, q⟩ := h
    refine ⟨_, C8.pss_cut (ps_set (i := 2) scJar.nd rfl (.inl rfl) (pe_ifExp (pt_cmpR op_lt (pv 1) (pe_callB call_len_seq (by rfl) T.len PySem.boot_len (pa_cons (pv 0) pa_nil)) (nomark _)) (pe_ix ix_list (pv 0) (pv 1) (fun _ _ => rfl)) (pe_op op_add (pe_op op_mul pe_int (pv 1)) pe_int)))
      (pss_cons (ps_set (i := 3) scJar.nd rfl (.inl rfl) (pe_op op_mul (pe_op op_mod (pe_callTy call_int1 (by rfl) T.int b_int (pa_cons (pe_callB call_abs (by rfl) T.abs b_abs (pa_cons (pv 2) pa_nil)) pa_nil)) (pe_op op_powX (pe_op op_pow pe_int pe_int) pe_int))
        (pe_callTy call_int1 (by rfl) T.int b_int (pa_cons (pe_cmpR op_ge (pe_callB call_abs (by rfl) T.abs b_abs (pa_cons (pv 2) pa_nil)) (pe_op op_pow pe_int pe_int) (nomark _)) pa_nil))))
      (pss_cons (ps_set (i := 4) scJar.nd rfl (.inl rfl) (pe_op op_add (pe_op op_add (pe_op op_mul (pe_op op_mod (pe_callTy call_int1 (by rfl) T.int b_int (pa_cons (pv 2) pa_nil)) pe_int) pe_int) (pe_op op_mul (pe_op op_mul pe_int (pv 1)) (pv 1))) pe_int))
      (pss_one (ps_ret (pe_lst (pa_cons (pv 3) (pa_cons (pe_op op_mod (pe_callTy call_int1 (by rfl) T.int b_int (pa_cons (pv 4) pa_nil)) pe_int) (pa_cons pe_int pa_nil)))))))), ?_⟩
    refine ⟨fun σ' H' => ∃ cell : Int, σ' = [some (.ref a), some (.int k), some (.int cell), none, none] ∧ H' = H, ?_, ?_⟩
    · refine ⟨_, rfl, _, rfl, a, _, rfl, .inl hS, _, _, rfl, rfl, _, rfl, ite2 (fun c => ?_) (fun c => ?_)⟩
      · have c' := of_decide_eq_true c
        rw [List.length_map] at c'
        obtain ⟨v, hv, mv⟩ := atI_in (xs := ns.map V.int) h0 (by rw [List.length_map]; exact c')
        obtain ⟨z, _, rfl⟩ := List.mem_map.mp mv
        exact ⟨_, rfl, _, rfl, a, _, _, _, rfl, rfl, hS, hv, z, rfl, rfl⟩
      · exact ⟨_, rfl, _, _, rfl, rfl, .inl (by decide), _, _, rfl, rfl, _, rfl, rfl⟩
    · rintro σ' H' ⟨cell, rfl, rfl⟩
      have own0 : ∀ x : Int, 0 ≤ x % (((10 : Int) ^ (60 : Int).toNat) ^ (5 : Int).toNat) := fun x => Int.emod_nonneg _ (by decide +kernel)
      refine ⟨_, rfl, cell, rfl, .inl ⟨_, rfl, _, _, rfl, rfl, ⟨by decide, by decide, by decide⟩, _, _, rfl, rfl, (by decide +kernel), _, _, rfl, rfl, (by show (0 : Int) < (10 ^ (60 : Int).toNat) ^ (5 : Int).toNat; decide +kernel), ?_⟩⟩
      refine ⟨_, rfl, cell, rfl, _, _, rfl, rfl, ⟨by decide, by decide, by decide⟩, _, _, rfl, rfl, .inr ⟨_, rfl, _, _, rfl, rfl, .inr (b01 _), ?_⟩⟩
      refine ⟨_, rfl, .inl ⟨_, rfl, _, _, rfl, rfl, (by show (0 : Int) < 2305843009213693951; decide), _, _, rfl, rfl, .inr (by decide), ?_⟩⟩
      refine ⟨_, rfl, _, _, rfl, rfl, .inl (by decide), _, rfl, _, _, rfl, rfl, .inr (by omega), _, _, rfl, rfl, _, _, rfl, rfl, ?_⟩
      refine ⟨_, rfl, _, rfl, .inl ⟨_, rfl, _, _, rfl, rfl, (by show (0 : Int) < 2305843009213693921; decide), (by show 3 ≤ sizeLine; decide), fun p np => ?_⟩⟩
      refine q p _ (same_upd np) np ⟨_, _, _, upd_same, ?_, ⟨Int.emod_nonneg _ (by decide), Int.lt_of_lt_of_le (Int.emod_lt_of_pos _ (by decide)) (by decide)⟩, Int.le_refl _, Int.le_refl _⟩
      exact Int.mul_nonneg (own0 _) (b01n _)
theorem scTake : FnScope ["_law_jar_here", "_law_many", "_law_digit", "_law_big"] ["_law_jar_here", "_law_many"] (defScope sTake) := ⟨rfl, rfl, rfl, by decide +kernel, rfl, by decide +kernel, by decide +kernel⟩
theorem ok_take {f : Addr} {fd : FuncData} (F : Fun K "_law_take" "_law_take" sTake f fd) (T : Nm mg) : FnOk P w K mg base CX0 1 f fd ["_law_jar_here", "_law_many"] spTake := by
  refine F.ok scTake (fun vs H Q E h => ?_) (fun cdv A outer s H vs Q E hr h => ?_)
  · obtain ⟨p, u, N, rfl, _⟩ := h
    rfl
  · obtain ⟨p, u, N, rfl, ⟨u0, u1⟩, ⟨o, m, c, hp, o0, ⟨m0, m1⟩, c0, c1⟩, hN, q⟩ := h
    refine ⟨_, pss_cons (ps_if (pt_cmpR op_gt (pe_ix ix_list (pv 0) pe_int (fun _ _ => rfl)) pe_int (nomark _))
        (pss_cons (ps_set (i := 2) scTake.nd rfl (.inl rfl) (pe_op op_mod (pe_callTy call_int1 (by rfl) T.int b_int (pa_cons (pe_ix ix_list (pv 0) pe_int (fun _ _ => rfl)) pa_nil)) (pv 1)))
        (pss_cons (ps_asg (pe_op op_fdiv (pe_ix ix_list (pv 0) pe_int (fun _ _ => rfl)) (pv 1)) (pg_sub (pv 0) pe_int set_list))
        (pss_one (ps_ret (pv 2))))) pss_nil)
      (pss_cons (ps_asg (pe_op op_add (pe_ix ix_list (pv 0) pe_int (fun _ _ => rfl)) pe_int) (pg_sub (pv 0) pe_int set_list))
      (pss_cons (ps_set (i := 3) scTake.nd rfl (.inl rfl) (pe_op op_mod (pe_callTy call_int1 (by rfl) T.int b_int (pa_cons (pe_op op_mul (pe_op op_add (pe_op op_add (pe_ix ix_list (pv 0) pe_int (fun _ _ => rfl)) (pe_op op_mul (pe_op op_mul pe_int (pe_ix ix_list (pv 0) pe_int (fun _ _ => rfl))) (pe_ix ix_list (pv 0) pe_int (fun _ _ => rfl)))) pe_int) pe_int) pa_nil)) pe_int))
      (pss_cons (ps_set (i := 3) scTake.nd rfl (.inl rfl) (pe_op op_mod (pe_callTy call_int1 (by rfl) T.int b_int (pa_cons (pe_op op_mul (pv 3) (pe_op op_add (pe_op op_mod (pe_callTy call_int1 (by rfl) T.int b_int (pa_cons (pv 3) pa_nil)) pe_int) (pe_op op_mul pe_int (pe_ix ix_list (pv 0) pe_int (fun _ _ => rfl))))) pa_nil)) pe_int))
      (pss_one (ps_ret (pe_op op_mod (pe_callTy call_int1 (by rfl) T.int b_int (pa_cons (pe_op op_add (pe_op op_fdiv (pv 3) pe_int) (pe_op op_fdiv (pv 3) pe_int)) pa_nil)) (pv 1))))))), ?_⟩
    refine ⟨_, rfl, p, _, _, _, rfl, rfl, SqL.of hp, rfl, _, _, rfl, rfl, _, rfl, ite2 (fun z => ?_) (fun _ => ?_)⟩
    · refine ⟨_, rfl, p, _, _, _, rfl, rfl, SqL.of hp, rfl, .inl ⟨_, rfl, _, rfl, _, _, rfl, rfl, u0, ?_⟩⟩
      refine ⟨_, rfl, p, _, _, _, rfl, rfl, SqL.of hp, rfl, _, rfl, _, _, rfl, rfl, ⟨u0, u1⟩, _, rfl, p, _, _, 0, rfl, rfl, hp, rfl, ?_⟩
      refine ⟨_, rfl, q _ _ ⟨Int.emod_nonneg _ (by omega), Int.emod_lt_of_pos _ u0⟩ Chg.upd ⟨_, _, _, upd_same, Int.ediv_nonneg o0 (by omega), ⟨m0, m1⟩, c0, by omega⟩⟩
    · refine ⟨_, rfl, p, _, _, _, rfl, rfl, SqL.of hp, rfl, _, _, rfl, rfl, _, rfl, p, _, _, 2, rfl, rfl, hp, rfl, ?_⟩
      have hp1 : (upd H p (.lst ([V.int o, .int m, .int c].set 2 (.int (c + 1))))) p = some (.lst [V.int o, .int m, .int (c + 1)]) := upd_same
      have k1 : Chg p H (upd H p (.lst ([V.int o, .int m, .int c].set 2 (.int (c + 1))))) := Chg.upd
      generalize (upd H p (.lst ([V.int o, .int m, .int c].set 2 (.int (c + 1))))) = H1 at hp1 k1 ⊢
      have sq := sq_bound (k := 65539) (c := c + 1) (by decide) (by decide) (by omega) (by omega)
      refine ⟨_, rfl, p, _, _, _, rfl, rfl, SqL.of hp1, rfl, ?_⟩
      refine ⟨_, rfl, p, _, _, _, rfl, rfl, SqL.of hp1, rfl, _, _, rfl, rfl, .inl (by decide), ?_⟩
      refine ⟨_, rfl, p, _, _, _, rfl, rfl, SqL.of hp1, rfl, _, _, rfl, rfl, .inr (by omega), ?_⟩
      refine ⟨_, _, rfl, rfl, _, _, rfl, rfl, _, _, rfl, rfl, .inr (by decide), .inl ⟨_, rfl, _, _, rfl, rfl, (by show (0 : Int) < 2305843009213693921; decide), ?_⟩⟩
      have b0 := fun x : Int => Int.emod_nonneg x (b := 2305843009213693921) (by decide)
      have b1 := fun x : Int => Int.emod_lt_of_pos x (b := 2305843009213693921) (by decide)
      have g0 := b0 ((m + 65539 * (c + 1) * (c + 1) + 59) * 48271)
      have g1 := b1 ((m + 65539 * (c + 1) * (c + 1) + 59) * 48271)
      refine ⟨_, rfl, _, rfl, .inl ⟨_, rfl, _, _, rfl, rfl, (by show (0 : Int) < 1000003; decide), ?_⟩⟩
      refine ⟨_, rfl, p, _, _, _, rfl, rfl, SqL.of hp1, rfl, _, _, rfl, rfl, .inl (by decide), _, _, rfl, rfl, _, _, rfl, rfl, .inl ⟨?_, ?_⟩, .inl ⟨_, rfl, _, _, rfl, rfl, (by show (0 : Int) < 2305843009213693907; decide), ?_⟩⟩
      · omega
      · omega
      refine ⟨_, rfl, _, _, rfl, rfl, ⟨by decide, by decide⟩, _, rfl, _, _, rfl, rfl, ⟨by decide, by decide⟩, _, _, rfl, rfl, .inl ⟨_, rfl, _, rfl, _, _, rfl, rfl, u0, ?_⟩⟩
      exact q _ _ ⟨Int.emod_nonneg _ (by omega), Int.emod_lt_of_pos _ u0⟩ k1 ⟨_, _, _, hp1, o0, ⟨m0, m1⟩, by omega, by omega⟩
theorem scOf : FnScope ["_law_jar_here", "_law_some"] ["_law_jar_here", "_law_some"] (defScope sOf) := ⟨rfl, rfl, rfl, by decide +kernel, rfl, by decide +kernel, by decide +kernel⟩
theorem ok_of {f : Addr} {fd : FuncData} (F : Fun K "_law_of" "_law_of" sOf f fd) (T : Nm mg) (GT : GotF P w K mg base "_law_take" 1 ["_law_jar_here", "_law_many"] spTake) : FnOk P w K mg base CX0 2 f fd ["_law_jar_here", "_law_some"] spOf := by
  obtain ⟨fT, fdT, GT, bT, mT, kT⟩ := GT
  refine F.ok scOf (fun vs H Q E h => ?_) (fun cdv A outer s H vs Q E hr h => ?_)
  · obtain ⟨p, l, xs, N, rfl, _⟩ := h
    rfl
  · obtain ⟨p, l, xs, N, rfl, hl, nlp, ⟨x0, x1⟩, hj, hN, q⟩ := h
    refine ⟨_, pss_one (ps_ret (pe_ix ix_list (pv 1) (pe_call GT hr (by rfl) mT kT bT .nil pass0 (pa_cons (pv 0) (pa_cons (pe_callB call_len_seq (by rfl) T.len PySem.boot_len (pa_cons (pv 1) pa_nil)) pa_nil))) (fun _ _ => rfl))), ?_⟩
    refine ⟨_, rfl, _, rfl, _, rfl, l, _, rfl, .inl (SqL.of hl), ?_⟩
    refine ⟨p, _, N, rfl, ⟨by omega, by omega⟩, hj, hN, fun d H' hd k j => ?_⟩
    obtain ⟨v, hv, mv⟩ := atI_in hd.1 hd.2
    exact ⟨l, xs, d, v, rfl, rfl, SqL.of (k _ _ hl nlp), hv, q v H' mv k j⟩
end
end Am
/-! joined texts, and their parts again -/
namespace SL
open PySem PySem.StrLaws PySem.Builtin PySem.Builtin.Str
theorem fold_list (g : Array Nat) : ∀ (l : List Str) (acc : Array Nat), (l.foldl (fun acc p => acc ++ g ++ p.cps) acc).toList = acc.toList ++ l.flatMap fun p => g.toList ++ p.cps.toList
  | [], acc => by simp
  | p :: l, acc => by
    rw [List.foldl_cons, fold_list g l, List.flatMap_cons]
    simp
theorem join_list (g a : Str) (l : List Str) : (Txt.join g (a :: l)).cps.toList = a.cps.toList ++ l.flatMap fun p => g.cps.toList ++ p.cps.toList := by
  show (List.foldl (fun acc p => acc ++ g.cps ++ p.cps) (List.headD (a :: l) Str.empty).cps (List.drop 1 (a :: l))).toList = _
  exact fold_list g.cps l a.cps
theorem cut_join (c : Nat) : ∀ (l : List Str) (a : Str), c ∉ a.cps.toList → (∀ p ∈ l, c ∉ p.cps.toList) → cutAt c (a.cps.toList ++ l.flatMap fun p => [c] ++ p.cps.toList) = a.cps.toList :: l.map fun p => p.cps.toList
  | [], a, h, _ => by rw [List.flatMap_nil, List.append_nil]; exact cut_none h
  | p :: l, a, h, k => by
    rw [List.flatMap_cons]
    show cutAt c (a.cps.toList ++ (c :: (p.cps.toList ++ _))) = _
    rw [cut_app h, cut_join c l p (k p (by simp)) (fun q hq => k q (by simp [hq]))]
    rfl
theorem split_join (c : Nat) (a : Str) (l : List Str) (h : ∀ p ∈ a :: l, c ∉ p.cps.toList) (h0 : ∀ x : Str, Builtin.Str.strKind x ≥ Builtin.Str.strKind ⟨#[c]⟩) : Txt.split (Txt.join ⟨#[c]⟩ (a :: l)) ⟨#[c]⟩ = a :: l := by
  rw [split_sign _ _ (fun _ => h0 _), join_list]
  have e : (⟨#[c]⟩ : Str).cps.toList = [c] := rfl
  rw [e, cut_join c l a (h a (by simp)) (fun p hp => h p (by simp [hp])), List.map_cons, List.map_map, ofL_toList]
  congr 1
  rw [show (ofL ∘ fun p : Str => p.cps.toList) = _root_.id from funext fun p => ofL_toList p, List.map_id]
theorem join_len (g a : Str) (l : List Str) : (Txt.join g (a :: l)).length = a.length + (l.map fun p => g.length + p.length).sum := by
  rw [← len_toList, join_list, List.length_append, len_toList, List.length_flatMap]
  congr 2
  apply List.map_congr_left
  intro p _
  rw [List.length_append, len_toList, len_toList]
theorem kind_ge {c : Nat} (hc : c < 256) (x : Str) : Builtin.Str.strKind x ≥ Builtin.Str.strKind ⟨#[c]⟩ := by
  have e : Builtin.Str.strKind ⟨#[c]⟩ = 1 := by
    unfold Builtin.Str.strKind
    rw [if_pos (by simp [hc])]
  rw [e]
  unfold Builtin.Str.strKind
  split
  · exact Nat.le_refl _
  · split <;> decide
end SL
/-! the parts of a text are no longer than it is -/
namespace SL
open PySem PySem.StrLaws PySem.Builtin PySem.Builtin.Str
theorem cut_small (c : Nat) : ∀ l : List Nat, (cutAt c l).length ≤ l.length + 1 ∧ ∀ p ∈ cutAt c l, p.length ≤ l.length ∧ c ∉ p ∧ ∀ x ∈ p, x ∈ l
  | [] => by
    refine ⟨by simp [cutAt], fun p hp => ?_⟩
    simp [cutAt] at hp
    subst hp
    exact ⟨by simp, by simp, fun _ h => by cases h⟩
  | y :: ys => by
    obtain ⟨a, b⟩ := cut_small c ys
    unfold cutAt
    by_cases e : y = c
    · rw [if_pos e]
      refine ⟨by simp; exact a, fun p hp => ?_⟩
      rcases List.mem_cons.mp hp with rfl | hp
      · exact ⟨by simp, by simp, fun _ h => by cases h⟩
      · obtain ⟨h1, h2, h3⟩ := b p hp
        exact ⟨by simp; omega, h2, fun x hx => List.mem_cons_of_mem _ (h3 x hx)⟩
    · rw [if_neg e]
      cases hc : cutAt c ys with
      | nil => exact absurd hc (cut_ne c ys)
      | cons w ws =>
        rw [hc] at a b
        refine ⟨by simp at a ⊢; omega, fun p hp => ?_⟩
        rcases List.mem_cons.mp hp with rfl | hp
        · obtain ⟨h1, h2, h3⟩ := b w (by simp)
          refine ⟨by simp; exact h1, fun z => ?_, fun x hx => ?_⟩
          · rcases List.mem_cons.mp z with z | z
            · exact e z.symm
            · exact h2 z
          · rcases List.mem_cons.mp hx with rfl | hx
            · exact List.mem_cons_self ..
            · exact List.mem_cons_of_mem _ (h3 x hx)
        · obtain ⟨h1, h2, h3⟩ := b p (List.mem_cons_of_mem _ hp)
          exact ⟨by simp; omega, h2, fun x hx => List.mem_cons_of_mem _ (h3 x hx)⟩
theorem split_small {x : Str} {c : Nat} (hc : c < 256) : (Txt.split x ⟨#[c]⟩).length ≤ x.length + 1 ∧ ∀ p ∈ Txt.split x ⟨#[c]⟩, p.length ≤ x.length ∧ c ∉ p.cps.toList ∧ ∀ y ∈ p.cps.toList, y ∈ x.cps.toList := by
  rw [split_sign x c (fun _ => kind_ge hc x)]
  obtain ⟨a, b⟩ := cut_small c x.cps.toList
  rw [List.length_map]
  refine ⟨by rw [← len_toList x]; exact a, fun p hp => ?_⟩
  obtain ⟨l, hl, rfl⟩ := List.mem_map.mp hp
  obtain ⟨h1, h2, h3⟩ := b l hl
  refine ⟨?_, by rw [toList_ofL]; exact h2, by rw [toList_ofL]; exact h3⟩
  rw [← len_toList, toList_ofL, ← len_toList x]
  exact h1
theorem sp_32 : (" " : Str) = ⟨#[32]⟩ := by decide +kernel
theorem nl_10 : ("\n" : Str) = ⟨#[10]⟩ := by decide +kernel
theorem split_sp {x : Str} : ∀ p ∈ Txt.split x " ", p.length ≤ x.length := fun p hp => by
  rw [sp_32] at hp
  exact ((split_small (by decide)).2 p hp).1
theorem split_nl {x : Str} : (Txt.split x "\n").length ≤ x.length + 1 ∧ ∀ p ∈ Txt.split x "\n", p.length ≤ x.length := by
  rw [nl_10]
  exact ⟨(split_small (by decide)).1, fun p hp => ((split_small (by decide)).2 p hp).1⟩
end SL
/-! what a line of a rule tells -/
namespace Ru
open PySem PySem.Spec PyProof.Rows L2 Am
theorem str_eq (x y : Str) : decide (V.str x = V.str y) = decide (x = y) := decide_eq_decide.mpr ⟨V.str.inj, fun h => by rw [h]⟩
theorem int_eq (x y : Int) : decide (V.int x = V.int y) = decide (x = y) := decide_eq_decide.mpr ⟨V.int.inj, fun h => by rw [h]⟩
theorem inV_strs (x : Str) : ∀ ys : List Str, inV (V.str x) (ys.map V.str) = decide (x ∈ ys)
  | [] => by simp [inV]
  | y :: ys => by
    have ih := inV_strs x ys
    have e : eqV (V.str y) (V.str x) = decide (x = y) := by
      show (y == x) = _
      rw [Bool.eq_iff_iff, beq_iff_eq, decide_eq_true_eq]
      exact eq_comm
    show (eqV (V.str y) (V.str x) || inV (V.str x) (ys.map V.str)) = _
    rw [e, ih, Bool.eq_iff_iff, Bool.or_eq_true, decide_eq_true_eq, decide_eq_true_eq, decide_eq_true_eq, List.mem_cons]
inductive Way
  | int (n : Nat)
  | str (s : Str)
def Way.v : Way → V
  | .int n => .int n
  | .str s => .str s
def wv : Option Way → V
  | none => .non
  | some y => y.v
def wEvery (x : Str) : Option Way := if 1 ≤ Mt.num x.cps.toList ∧ Mt.num x.cps.toList ≤ 14 then some (.int (Mt.num x.cps.toList).toNat) else none
def wBehind (x : Str) : Option Way := if x = "before" ∨ x = "nothing" then some (.str x) else if 0 ≤ Mt.num x.cps.toList ∧ Mt.num x.cps.toList ≤ 9 then some (.int (Mt.num x.cps.toList).toNat) else none
def waysFor (word : Str) : List Str := if word = "late" then ["now", "back"] else if word = "block" then ["days", "last"] else ["heads", "places", "house"]
def wayX (word x : Str) : Option Way := if word = "every" then wEvery x else if word = "behind" then wBehind x else if x ∈ waysFor word then some (.str x) else none
def wayOf (line word : Str) : Option Way := match Txt.split line " " with
  | [w, x] => if w = word then wayX word x else none
  | _ => none
def fiveW : List Str := ["every", "behind", "late", "block", "rest"]
structure Rc (K : PySem.W.Frag) (w : World) (mg : Str → Option Value) : Prop where
  bh : ∃ B, mg "BEHIND" = some (.ref B) ∧ ∀ H, SqT K H B [V.str "before", V.str "nothing"]
  wy : ∃ W, mg "WAYS" = some (.ref W) ∧ ∀ z : Str, z ∈ ([("late" : Str), "block", "rest"] : List Str) → ∃ T, KDct K w W z (.ref T) ∧ ∀ H, SqT K H T ((waysFor z).map V.str)
theorem kstr {K : PySem.W.Frag} : PySem.W.kitOne K (.type "str") (.type "str") = some true := kit_ty (show kitB "str" "str" = some true by decide +kernel)
def spWayOf : Sp := fun vs H Q _ => ∃ l z : Str, vs = [.str l, .str z] ∧ l.length ≤ 600 ∧ z ∈ fiveW ∧ ∀ H', Same H H' → Q (wv (wayOf l z)) H'
section
variable {P : Program} {w : World} {K : PySem.W.Frag} {mg : Str → Option Value} {base : Heap}
theorem scWayOf : FnScope ["line", "word", "words", "way"] ["line", "word"] (defScope sF_way_of) := ⟨rfl, rfl, rfl, by decide +kernel, rfl, by decide +kernel, by decide +kernel⟩
theorem ok_wayOf {f : Addr} {fd : FuncData} (F : Fun K "way_of" "way_of" sF_way_of f fd) (R : Rc K w mg) (T : Nm mg) (GD : GotF P w K mg base "decimal" 1 ["word"] spDec) : FnOk P w K mg base CX0 2 f fd ["line", "word"] spWayOf := by
  obtain ⟨⟨B, mB, hB⟩, W, mW, hW⟩ := R
  obtain ⟨fD, fdD, GD, bD, mD, kD⟩ := GD
  refine F.ok scWayOf (fun vs H Q E h => ?_) (fun cdv A outer s H vs Q E hr h => ?_)
  · obtain ⟨l, z, rfl, _⟩ := h
    rfl
  · obtain ⟨l, z, rfl, hl, hz, q⟩ := h
    refine ⟨_, pss_cons (ps_set (i := 2) scWayOf.nd rfl (.inl rfl) (pe_split (pv 0) pe_str))
      (pss_cons (ps_if (PW.pt (pw_or (pt_cmpR op_ne (pe_callB call_len_seq (by rfl) T.len PySem.boot_len (pa_cons (pv 2) pa_nil)) pe_int (nomark _)) (pw_or1 (pt_cmpR op_ne (pe_ix ix_list (pv 2) pe_int (fun _ _ => rfl)) (pv 1) (nomark _))))) (pss_one (ps_ret pe_non)) pss_nil)
      (pss_cons (ps_set (i := 3) scWayOf.nd rfl (.inl rfl) (pe_ix ix_list (pv 2) pe_int (fun _ _ => rfl)))
      (pss_cons (ps_if (pt_cmpR op_eq (pv 1) pe_str (nomark _)) (pss_one (ps_ret (pe_ifExp (pt_chain op_le op_le pe_int (pe_call GD hr (by rfl) mD kD bD .nil pass0 (pa_cons (pv 3) pa_nil)) pe_int) (pe_call GD hr (by rfl) mD kD bD .nil pass0 (pa_cons (pv 3) pa_nil)) pe_non))) pss_nil)
      (pss_cons (ps_if (pt_cmpR op_eq (pv 1) pe_str (nomark _))
        (pss_cons (ps_if (pt_cmpR op_in_seq (pv 3) (pe_glob (v := .ref B) (by rfl) mB rfl) (by rfl)) (pss_one (ps_ret (pv 3))) pss_nil)
        (pss_one (ps_ret (pe_ifExp (pt_chain op_le op_le pe_int (pe_call GD hr (by rfl) mD kD bD .nil pass0 (pa_cons (pv 3) pa_nil)) pe_int) (pe_call GD hr (by rfl) mD kD bD .nil pass0 (pa_cons (pv 3) pa_nil)) pe_non)))) pss_nil)
      (pss_one (ps_ret (pe_ifExp (pt_cmpR op_in_seq (pv 3) (pe_ix ix_kdict (pe_glob (v := .ref W) (by rfl) mW rfl) (pv 1) (fun _ _ => rfl)) (by rfl)) (pv 3) pe_non))))))), ?_⟩
    refine ⟨_, rfl, ⟨_, rfl⟩, _, _, rfl, rfl, by decide +kernel, Nat.le_trans (show l.length + 2 ≤ 4002 by omega) (by decide), fun D nD => ?_⟩
    have e1 := same_upd (o := .lst ((Txt.split l " ").map V.str)) nD
    have pl := SL.split_sp (x := l)
    have qq := q _ e1
    unfold wayOf at qq
    generalize hs : Txt.split l " " = ps at e1 pl qq ⊢
    refine ⟨_, rfl, D, _, rfl, .inl (SqL.of upd_same), ?_⟩
    have len2 : ps.length ≠ 2 → Q (wv none) (upd H D (.lst (ps.map V.str))) := fun h => by
      match ps, h, qq with
      | [], _, qq => exact qq
      | [_], _, qq => exact qq
      | [_, _], h, _ => exact absurd rfl h
      | _ :: _ :: _ :: _, _, qq => exact qq
    refine ⟨rfl, _, rfl, ?_⟩
    rw [int_eq, List.length_map]
    by_cases c2 : ps.length = 2
    · match ps, c2 with
      | [x, y], _ =>
        clear len2
        refine iteF ?_
        have ly := pl y (by simp)
        refine ⟨_, rfl, D, _, _, _, rfl, rfl, SqL.of upd_same, rfl, _, rfl, rfl, _, rfl, ?_⟩
        rw [str_eq]
        by_cases hxz : x = z
        · subst hxz
          rw [decide_eq_true rfl]
          refine iteF ⟨_, rfl, D, _, _, _, rfl, rfl, SqL.of upd_same, rfl, ?_⟩
          refine ⟨_, rfl, rfl, _, rfl, ?_⟩
          rw [str_eq]
          replace qq : Q (wv (wayX x y)) (upd H D (.lst ([x, y].map V.str))) := by
            rw [show (match [x, y] with | [w, u] => if w = x then wayX x u else none | _ => none) = wayX x y from if_pos rfl] at qq
            exact qq
          unfold wayX at qq
          by_cases h1 : x = "every"
          · rw [if_pos h1] at qq
            rw [decide_eq_true h1]
            refine iteT ⟨_, rfl, y, rfl, by omega, _, _, rfl, rfl, _, rfl, ?_⟩
            unfold wEvery at qq
            by_cases a1 : 1 ≤ Mt.num y.cps.toList
            · rw [decide_eq_true a1]
              refine iteT ⟨_, _, rfl, rfl, _, rfl, ?_⟩
              by_cases a2 : Mt.num y.cps.toList ≤ 14
              · rw [decide_eq_true a2]
                refine iteT ⟨_, rfl, y, rfl, by omega, ?_⟩
                rw [if_pos ⟨a1, a2⟩] at qq
                rw [show Mt.num y.cps.toList = ((Mt.num y.cps.toList).toNat : Int) by omega]
                exact qq
              · rw [decide_eq_false a2]
                rw [if_neg (fun z => a2 z.2)] at qq
                exact iteF qq
            · rw [decide_eq_false a1]
              rw [if_neg (fun z => a1 z.1)] at qq
              exact iteF ⟨_, rfl, iteF qq⟩
          · rw [if_neg h1] at qq
            rw [decide_eq_false h1]
            refine iteF ⟨_, rfl, rfl, _, rfl, ?_⟩
            rw [str_eq]
            by_cases h2 : x = "behind"
            · rw [if_pos h2] at qq
              rw [decide_eq_true h2]
              refine iteT ⟨_, rfl, B, _, rfl, .inr (hB _), rfl, rfl, _, rfl, ?_⟩
              rw [if_neg (by decide), show ([V.str "before", V.str "nothing"] : List V) = [("before" : Str), "nothing"].map V.str from rfl, inV_strs]
              unfold wBehind at qq
              by_cases h3 : y = "before" ∨ y = "nothing"
              · rw [if_pos h3] at qq
                rw [decide_eq_true (show y ∈ ([("before" : Str), "nothing"] : List Str) by simpa using h3)]
                exact iteT ⟨_, rfl, qq⟩
              · rw [if_neg h3] at qq
                rw [decide_eq_false (show ¬ y ∈ ([("before" : Str), "nothing"] : List Str) by simpa using h3)]
                refine iteF ⟨_, rfl, y, rfl, by omega, _, _, rfl, rfl, _, rfl, ?_⟩
                by_cases a1 : 0 ≤ Mt.num y.cps.toList
                · rw [decide_eq_true a1]
                  refine iteT ⟨_, _, rfl, rfl, _, rfl, ?_⟩
                  by_cases a2 : Mt.num y.cps.toList ≤ 9
                  · rw [decide_eq_true a2]
                    refine iteT ⟨_, rfl, y, rfl, by omega, ?_⟩
                    rw [if_pos ⟨a1, a2⟩] at qq
                    rw [show Mt.num y.cps.toList = ((Mt.num y.cps.toList).toNat : Int) by omega]
                    exact qq
                  · rw [decide_eq_false a2]
                    rw [if_neg (fun z => a2 z.2)] at qq
                    exact iteF qq
                · rw [decide_eq_false a1]
                  rw [if_neg (fun z => a1 z.1)] at qq
                  exact iteF ⟨_, rfl, iteF qq⟩
            · rw [if_neg h2] at qq
              rw [decide_eq_false h2]
              have hz' : x ∈ ([("late" : Str), "block", "rest"] : List Str) := by
                unfold fiveW at hz
                simp only [List.mem_cons, List.not_mem_nil, or_false] at hz ⊢
                rcases hz with e | e | e
                · exact absurd e h1
                · exact absurd e h2
                · exact e
              obtain ⟨T3, k3, t3⟩ := hW x hz'
              refine iteF ⟨_, rfl, _, rfl, W, x, _, rfl, rfl, k3, T3, _, rfl, .inr (t3 _), rfl, (by rw [List.all_map]; exact List.all_eq_true.mpr fun _ _ => rfl), _, rfl, ?_⟩
              rw [if_neg (by decide), inV_strs]
              by_cases h3 : y ∈ waysFor x
              · rw [if_pos h3] at qq
                rw [decide_eq_true h3]
                exact iteT ⟨_, rfl, qq⟩
              · rw [if_neg h3] at qq
                rw [decide_eq_false h3]
                exact iteF qq
        · rw [decide_eq_false hxz]
          refine iteT ?_
          rw [show (match [x, y] with | [w, u] => if w = z then wayX z u else none | _ => none) = none from if_neg hxz] at qq
          exact qq
    · rw [show decide ((ps.length : Int) = 2) = false from decide_eq_false (by omega)]
      exact iteT (len2 c2)
end
end Ru
/-! int op x, x an instance with the turned operator -/
namespace AmL
open PySem PySem.SeqAt PySem.Calls PyProof.Rows
open AutoSeq1 (wpAny_loadPart')
open MeetsSeq
section
variable {prog : Program} {w : World} {A : Around} {E : Value → Shared → Prop} {s : Shared} {K : PySem.W.Frag} {C : Addr}
theorem dec_int_add {a : Addr} (b : Int) (u : Tok) (C : Addr) : Meets (Builtin.«int.__add__» ⟨[.int b u, .ref a], []⟩) (fun _ R s => PlainAt s a C ∧ R (.ok (.ret .notImplemented)) s) :=
  .of_wp fun prog w A R s h => by obtain ⟨hp, g, d, tk, os⟩ := s; obtain ⟨⟨dd, sl, hl⟩, h⟩ := h; wp_walk using wpAny_loadPart' hl, wpAny_load hl; exact ⟨_, rfl, h⟩
theorem dec_int_sub {a : Addr} (b : Int) (u : Tok) (C : Addr) : Meets (Builtin.«int.__sub__» ⟨[.int b u, .ref a], []⟩) (fun _ R s => PlainAt s a C ∧ R (.ok (.ret .notImplemented)) s) :=
  .of_wp fun prog w A R s h => by obtain ⟨hp, g, d, tk, os⟩ := s; obtain ⟨⟨dd, sl, hl⟩, h⟩ := h; wp_walk using wpAny_loadPart' hl, wpAny_load hl; exact ⟨_, rfl, h⟩
theorem dec_int_mul {a : Addr} (b : Int) (u : Tok) (C : Addr) : Meets (Builtin.«int.__mul__» ⟨[.int b u, .ref a], []⟩) (fun _ R s => PlainAt s a C ∧ R (.ok (.ret .notImplemented)) s) :=
  .of_wp fun prog w A R s h => by obtain ⟨hp, g, d, tk, os⟩ := s; obtain ⟨⟨dd, sl, hl⟩, h⟩ := h; wp_walk using wpAny_loadPart' hl, wpAny_load hl; exact ⟨_, rfl, h⟩
theorem dec_int_fdiv {a : Addr} (b : Int) (u : Tok) (C : Addr) : Meets (Builtin.«int.__floordiv__» ⟨[.int b u, .ref a], []⟩) (fun _ R s => PlainAt s a C ∧ R (.ok (.ret .notImplemented)) s) :=
  .of_wp fun prog w A R s h => by obtain ⟨hp, g, d, tk, os⟩ := s; obtain ⟨⟨dd, sl, hl⟩, h⟩ := h; wp_walk using wpAny_loadPart' hl, wpAny_load hl; exact ⟨_, rfl, h⟩

/-- a method of a built-in type that declines -/
theorem tryM_declines {v o : Value} {T : String} {name : Str} {id : String} {Q : Option Value → Shared → Prop} (hT : s.TypeIs v T)
    (slot : Slot T name id) (told : wpAny (model prog w) A (call (.builtin id) [v, o]) (fun r z => r = .notImplemented ∧ Q none z) E s) : wpAny (model prog w) A (tryMethod v name o) Q E s := by
  have asked : wpAny (model prog w) A (callSpecial? v name [o]) (fun r z => r = some .notImplemented ∧ Q none z) E s :=
    wpAny_callSpecial?_slot hT slot (wpAny_mono told (fun _ _ y => ⟨congrArg some y.1, y.2⟩) fun _ _ y => y)
  unfold tryMethod
  refine wpAny_bind (wpAny_mono asked (fun r z y => ?_) fun _ _ y => y)
  obtain ⟨rfl, q⟩ := y
  exact wpAny_pure q
open PySem.W in
/-- v op x: v of a built-in type that declines, x an instance with an own turned operator -/
theorem refl_bin {x f g : Addr} {v : Value} {T id : String} {op : Operator} {ox : Obj} {od : Option Obj} {fo ro : Option Value} {Q : Value → Shared → Prop}
    (X : K.In s.heap) (I : InstAt s.heap x ox C od) (hb : typeOf v = pure (.type T)) (hT : s.TypeIs v T) (hc : selfFirst K C = true)
    (hs : findIn K (.ref C) (PySem.dunder op.info.2) = some (some (.ref f))) (hr : findIn K (.ref C) (dunderR op.info.2) = some (some (.ref g))) (hg : isFn K (.ref g) = true)
    (h1 : findIn K (.type T) (PySem.dunder op.info.2) = some fo) (h2 : findIn K (.type T) (dunderR op.info.2) = some ro) (hsub : subIn K (.ref C) (.type T) = some false)
    (slot : Slot T (PySem.dunder op.info.2) id) (dec : ∀ Q' : Value → Shared → Prop, Q' .notImplemented s → wpAny (model prog w) A (call (.builtin id) [v, .ref x]) Q' E s)
    (h : wpAny (model prog w) A (call (.ref g) [.ref x, v]) (PySem.W.CmpBack Q) E s) : wpAny (model prog w) A (binaryOp op v (.ref x)) Q E s := by
  rcases ksp_first hc with ⟨cd, more, isC, first⟩
  rcases sg : op.info with ⟨sign, word⟩
  simp only [sg] at hs hr h1 h2 slot
  have turned := ksp_try X I hr hg h
  have declined : ∀ {R : Option Value → Shared → Prop}, R none s → wpAny (model prog w) A (tryMethod v (PySem.dunder word) (.ref x)) R E s := fun q => tryM_declines hT slot (dec _ ⟨rfl, q⟩)
  rcases s with ⟨hh, gg, dr, tk, oo⟩
  have typeX := I.type (M := model prog w)
  have typeV : Looks (model prog w) hh (typeOf v) (.type T) := .of_pure hb
  have fillsX := fills_K (M := model prog w) X isC first hs
  have fillsV := ksp_fillsT (M := model prog w) X h1 h2
  have apart := looks_subIn (M := model prog w) X hsub
  have notPy : Looks (model prog w) hh (numberSlotInPython (.type T) word) false := .of_pure rfl
  have differ : (Value.type T == Value.ref C) = false := beq_eq_false_iff_ne.mpr fun q => by cases q
  generalize (fo.isSome && !isSeqSlot fo || ro.isSome && !isSeqSlot ro) = some? at fillsV
  unfold binaryOp binaryOp1
  simp only [sg]
  refine wpAny_holding (wpAny_bind (wpAny_bind (typeV.at (wpAny_bind (typeX.at (wpAny_bind (fillsV.at ?_)))))))
  simp only [differ, Bool.false_eq_true, if_false]
  have fin : ∀ {R : Option Value → Shared → Prop}, (∀ u z, Q u z → R (some u) z) → wpAny (model prog w) A (tryMethod (.ref x) (dunderR word) v) R E ⟨hh, gg, dr, tk, oo⟩ := fun k => wpAny_mono turned (fun r z y => by
    obtain ⟨u, rfl, q⟩ := y
    exact k u z q) fun _ _ y => y
  cases some? with
  | false =>
    ksp_lk
    refine fin fun u z q => ?_
    ksp_lk
    exact q
  | true =>
    ksp_lk
    refine declined ?_
    ksp_lk
    refine fin fun u z q => ?_
    ksp_lk
    exact q
end
end AmL
/-! operators of an own class, turned ones too, that may raise -/
namespace Am
open PySem PySem.Spec PyProof.Rows L2
/-- a two-place operation whose wish may speak of the slots -/
def OpS (X : Cx) (f : Value → Value → Sem Value) (r : L2.St → R2) : Prop :=
  ∀ (pins : List (Addr × Obj)) (s : Shared) (σ : L2.St) (H : Hp) (x y : V) (v u : Value) (Q : VK), Inv X pins σ H s → RelV x v → RelV y u → r σ x y H Q →
    wpAny (model X.prog X.w) X.A (f v u) (EP X pins σ Q) X.xe s
def tOpS (r : L2.St → R2) (ta tb : TE) : TE := fun σ H Q => ta σ H fun x H1 => tb σ H1 fun y H2 => r σ x y H2 Q
section
variable {X : Cx} {a b : Expr} {ta tb : TE} {pos : Pos}
theorem pe_opS {op : Operator} {r : L2.St → R2} (ho : OpS X (binaryOp op) r) (ha : PE X a ta) (hb : PE X b tb) : PE X (.BinOp a op b pos) (tOpS r ta tb) := by
  refine ⟨fun pins s σ H Q I h => ?_⟩
  exact wpAny_BinOp (binT ha hb I h fun v u z x y G J rx ry q => ho pins z σ G x y v u Q J rx ry q)
end
structure DecB (X : Cx) (op : Operator) : Prop where
  run : ∀ (pins : List (Addr × Obj)) (σ : L2.St) (H : Hp) (s : Shared) (C a dx : Addr) (fs : List (Str × V)) (i : Int) (t : Tok), Inv X pins σ H s → H a = some (.ins C dx fs) →
    ∃ id, Slot "int" (PySem.dunder op.info.2) id ∧ ∀ (E : Value → Shared → Prop) (Q' : Value → Shared → Prop), Q' .notImplemented s → wpAny (model X.prog X.w) X.A (call (.builtin id) [.int i t, .ref a]) Q' E s
theorem decB_add {X : Cx} : DecB X .Add := ⟨fun pins σ H s C a dx fs i t I ha => ⟨_, PySem.F.slot_int_add, fun E Q' q => meets_call PySem.F.slot_int_add (typeIs_int s i t) PySem.F.entry_int_add (PySem.F.args_int_add_2 _ _) (AmL.dec_int_add i t C) (plain_of I ha) Q' q⟩⟩
theorem decB_sub {X : Cx} : DecB X .Sub := ⟨fun pins σ H s C a dx fs i t I ha => ⟨_, PySem.F.slot_int_sub, fun E Q' q => meets_call PySem.F.slot_int_sub (typeIs_int s i t) PySem.F.entry_int_sub (PySem.F.args_int_sub_2 _ _) (AmL.dec_int_sub i t C) (plain_of I ha) Q' q⟩⟩
theorem decB_mul {X : Cx} : DecB X .Mult := ⟨fun pins σ H s C a dx fs i t I ha => ⟨_, PySem.F.slot_int_mul, fun E Q' q => meets_call PySem.F.slot_int_mul (typeIs_int s i t) PySem.F.entry_int_mul (PySem.F.args_int_mul_2 _ _) (AmL.dec_int_mul i t C) (plain_of I ha) Q' q⟩⟩
theorem decB_fdiv {X : Cx} : DecB X .FloorDiv := ⟨fun pins σ H s C a dx fs i t I ha => ⟨_, PySem.F.slot_int_floordiv, fun E Q' q => meets_call PySem.F.slot_int_floordiv (typeIs_int s i t) PySem.F.entry_int_floordiv (PySem.F.args_int_floordiv_2 _ _) (AmL.dec_int_fdiv i t C) (plain_of I ha) Q' q⟩⟩
/-- what x op y asks: x an instance (sp), or a whole number and y an instance (spr) -/
def rBinS (C : Addr) (sp spr : Sp) (E : L2.St → XK) : L2.St → R2 := fun σ x y H Q =>
  ((∃ a dx fs, x = .ref a ∧ H a = some (.ins C dx fs)) ∧ OrI C H y ∧ sp [x, y] H Q (E σ)) ∨ ((∃ i, x = .int i) ∧ (∃ a dx fs, y = .ref a ∧ H a = some (.ins C dx fs)) ∧ spr [y, x] H Q (E σ))
/-- the methods behind an operator -/
structure BinM (X : Cx) (C : Addr) (nm : String) (CX : CXT) (k : Nat) (sp spr : Sp) : Prop where
  fo : ∃ (f : Addr) (fd : FuncData) (ps : List Str), Om X C (PySem.dunder nm) f ∧ FnOk X.prog X.w X.K X.mg X.base CX k f fd ps sp ∧ Binds X.K fd ps []
  ba : ∃ (f : Addr) (fd : FuncData) (ps : List Str), Om X C (PySem.dunderR nm) f ∧ FnOk X.prog X.w X.K X.mg X.base CX k f fd ps spr ∧ Binds X.K fd ps []
  h1 : ∃ fo, PySem.W.findIn X.K (.type "int") (PySem.dunder nm) = some fo
  h2 : ∃ ro, PySem.W.findIn X.K (.type "int") (PySem.dunderR nm) = some ro
section
variable {X : Cx} {C : Addr} {k : Nat} {sp spr : Sp} {CX : CXT} {E : L2.St → XK}
theorem opS_bin {op : Operator} (c : OpC X.K C) (d : DecB X op) (m : BinM X C op.info.2 CX k sp spr) (hr : Room k X.A) (hx : ∀ σ, PassesAt CX X σ (E σ)) : OpS X (binaryOp op) (rBinS C sp spr E) := by
  intro pins s σ H x y v u Q I rx ry h
  obtain ⟨f, fd, ps, mf, F, hb⟩ := m.fo
  obtain ⟨g, gd, qs, mg, G, hg⟩ := m.ba
  obtain ⟨fo, h1⟩ := m.h1
  obtain ⟨ro, h2⟩ := m.h2
  obtain ⟨mm, hF⟩ := I.fr
  rcases h with ⟨⟨a, dx, fs, rfl, ha⟩, hy, q⟩ | ⟨⟨i, rfl⟩, ⟨a, dx, fs, rfl, ha⟩, q⟩
  · cases (show v = Value.ref a from rx)
    obtain ⟨od, J⟩ := inst_of I ha
    have fin : wpAny (model X.prog X.w) X.A (call (.ref f) [.ref a, u]) (PySem.W.CmpBack (EP X pins σ Q)) X.xe s := by
      refine wpAny_mono (run_fnS (us := [.ref a, u]) (vs := [.ref a, y]) F hr hb (hx σ) I (.cons rfl (.cons ry .nil)) q) (fun w s' z => ?_) fun _ _ x => x
      obtain ⟨z', H', I', rz, qz⟩ := z
      exact SlX.cmpback rz ⟨z', H', I', rz, qz⟩
    rcases hy with ⟨b, dy, gs, rfl, hb'⟩ | ⟨i, rfl⟩
    · cases (show u = Value.ref b from ry)
      obtain ⟨od', J'⟩ := inst_of I hb'
      exact PySem.W.binop_K hF I.ok.mod.kin J J'.type c.sf mf.hs mf.hf fin
    · obtain ⟨t, rfl⟩ := (show ∃ t, u = Value.int i t from ry)
      exact PySem.W.ksp_binT hF I.ok.mod.kin J rfl c.sf mf.hs mf.hf mg.hs (.inr ⟨g, rfl⟩) h1 h2 c.r1 fin
  · cases (show u = Value.ref a from ry)
    obtain ⟨t, rfl⟩ := (show ∃ t, v = Value.int i t from rx)
    obtain ⟨od, J⟩ := inst_of I ha
    obtain ⟨id, slot, dec⟩ := d.run pins σ H s C a dx fs i t I ha
    refine AmL.refl_bin (op := op) I.kIn J rfl (typeIs_int s i t) c.sf mf.hs mg.hs mg.hf h1 h2 c.s1 slot (fun Q' q' => dec _ Q' q') ?_
    refine wpAny_mono (run_fnS (us := [.ref a, .int i t]) (vs := [.ref a, .int i]) G hr hg (hx σ) I (.cons rfl (.cons rx .nil)) q) (fun w s' z => ?_) fun _ _ x => x
    obtain ⟨z', H', I', rz, qz⟩ := z
    exact SlX.cmpback rz ⟨z', H', I', rz, qz⟩
theorem passS0 : ∀ σ, PassesAt CX0 X σ (E σ) := fun _ _ _ _ _ _ _ h => h.elim
end
end Am
namespace Am
open PySem PySem.Spec PyProof.Rows L2
section
variable {X : Cx} {C g : Addr} {k : Nat} {fd : FuncData} {ps : List Str} {sp : Sp}
/-- abs(x), x an instance with an own __abs__ -/
theorem call_absC (m : Om X C "__abs__" g) (F : FnOk X.prog X.w X.K X.mg X.base CX0 k g fd ps sp) (hr : Room (k + 1) X.A) (hb : Binds X.K fd ps []) :
    CallR X (.builtin "abs") (fun xs H Q => ∃ x, xs = [x] ∧ (∃ a dx fs, x = .ref a ∧ H a = some (.ins C dx fs)) ∧ sp [x] H Q E0) := by
  intro pins s σ H xs us Q I r h
  obtain ⟨x, rfl, ⟨a, dx, fs, rfl, ha⟩, q⟩ := h
  obtain ⟨u, rfl, ru⟩ := vals1 r
  cases (show u = Value.ref a from ru)
  obtain ⟨od, J⟩ := inst_of I ha
  refine Calls.call_function_entry kind_abs plain_abs entry_abs (args_abs _) ?_
  unfold Builtin.«abs»
  refine wpAny_bind (m := oneArg "abs" _) (wpAny_pure ?_)
  refine wpAny_bind (m := callSpecial? (.ref a) (Str.ofString "__abs__")) (PySem.W.special_fn I.kIn J m.hs (beq_iff_eq.mp m.hf) (wpAny_mono (run_in1 (us := [.ref a]) (vs := [.ref a]) F hr hb pass0 I (.cons rfl .nil) q) (fun v s' z => ?_) fun _ _ y => y))
  exact wpAny_pure ⟨_, rfl, z⟩
theorem CallR.either {f : Value} {r r' : List V → Hp → VK → Prop} (h : CallR X f r) (h' : CallR X f r') : CallR X f (fun xs H Q => r xs H Q ∨ r' xs H Q) := by
  intro pins s σ H xs us Q I rr q
  rcases q with q | q
  · exact h pins s σ H xs us Q I rr q
  · exact h' pins s σ H xs us Q I rr q
end
end Am
/-! try .. except X as n: .. kept = n: the caught object stands on behind the suite -/
namespace Kt
open PySem PySem.Spec PyProof.Rows L2
/-- an exception object that was raised and caught: its class, its dict -/
def EO (a : Addr) (cls : Value) (d : Option Addr) : HO := .ext fun h => ∃ (oe : Obj) (vs : Array Value), h.get? a = some oe ∧ Zc cls d oe ∧ oe.data = .fields vs
theorem eo_ok {P : Program} {w : World} {H : Hp} {h : Heap} {a : Addr} {cls : Value} {d : Option Addr} {oe : Obj} {vs : Array Value} (e : h.get? a = some oe) (z : Zc cls d oe) (f : oe.data = .fields vs) : ObjOk P w H h a (EO a cls d) :=
  ⟨⟨oe, vs, e, z, f⟩, ⟨oe, e⟩, fun _ _ ⟨o, v, q, r⟩ k => ⟨o, v, k o q, r⟩⟩
theorem eo_at {P : Program} {w : World} {H : Hp} {h : Heap} {a : Addr} {cls : Value} {d : Option Addr} (ok : HOk P w H h) (e : H a = some (EO a cls d)) : ∃ oe vs, h.get? a = some oe ∧ Zc cls d oe ∧ oe.data = .fields vs := by
  obtain ⟨p, _, _⟩ := ok a _ e
  exact p
section
variable {X : Cx} {pins : List (Addr × Obj)} {τ : L2.St} {G : Hp} {z : Shared} {a : Addr} {o : HO}
/-- an object that is new since the entry becomes known -/
theorem track (I : Inv X pins τ G z) (na : G a = none) (n0 : X.s_0.heap.get? a = none) (nL : a ≠ X.env.locals) (np : ∀ p ∈ X.pn ++ pins, p.1 ≠ a) (nc : ∀ v, ¬ z.heap.IsCell a v)
    (new : ObjOk X.prog X.w (upd G a o) z.heap a o) : Inv X pins τ (upd G a o) z := by
  have elder : ∀ {b u}, X.s_0.heap.get? b = some u → b ≠ a := fun e y => by subst y; rw [n0] at e; cases e
  have same : ∀ {b u}, G b = some u → upd G a o b = some u := fun e => (upd_ne (ne_of_none e na)).trans e
  constructor
  case ok => exact I.ok
  case os => exact I.os
  case bare => exact I.bare
  case loc => exact I.loc
  case cell => exact I.cell
  case len => exact I.len
  case free => exact (upd_ne (Ne.symm nL)).trans I.free
  case freeC =>
    intro y c hc
    refine (upd_ne fun y' => ?_).trans (I.freeC y c hc)
    obtain ⟨v, hv⟩ := I.cell y c hc
    exact nc v (y' ▸ hv)
  case pin =>
    intro p hp
    have q := I.pin p hp
    exact ⟨q.1, (upd_ne (np p hp)).trans q.2.1, q.2.2⟩
  case base =>
    exact { I.base with
      free := fun b u e n x => (upd_ne (elder e)).trans (I.base.free b u e n x)
      tups := fun b xs e => same (I.base.tups b xs e)
      frzs := fun b w u e => same (I.base.frzs b w u e)
      tbls := fun b ps e => (I.base.tbls b ps e).imp fun _ => same }
  case hok =>
    intro b u e
    by_cases c : b = a
    · subst c
      obtain rfl : o = u := Option.some.inj (upd_same.symm.trans e)
      exact new
    · exact (I.hok b u ((upd_ne c).symm.trans e)).stay (fun _ _ _ y => y) (fun _ => same) fun _ _ => same
/-- into an except suite that pins nothing of its own, and out of it -/
theorem toSuite (I : Inv X pins τ G z) (a : Addr) : Inv (X.suite a (X.pn ++ pins)) [] τ G z :=
  { ok := I.ok.suite _ _, os := I.os, bare := I.bare, base := I.base, loc := I.loc, cell := I.cell, free := I.free, freeC := I.freeC, hok := I.hok, len := I.len, pin := fun p hp => I.pin p ((List.append_nil (X.pn ++ pins)) ▸ hp) }
theorem ofSuite {more : List (Addr × Obj)} (I : Inv (X.suite a (X.pn ++ pins)) more τ G z) (ok : X.Ok) : Inv X pins τ G z :=
  { ok := ok, os := I.os, bare := I.bare, base := I.base, loc := I.loc, cell := I.cell, free := I.free, freeC := I.freeC, hok := I.hok, len := I.len, pin := fun p hp => I.pin p (List.mem_append.mpr (.inl hp)) }
end
/-- the wish -/
def wKeep (K : PySem.W.Frag) (c : Value) (i : Nat) (ts : TS) (Wout : WX) (D : Ends) : WX := fun cls d σ H =>
  ∃ b, PySem.W.exmOne K cls c = some b ∧ (b = true → ∀ a, H a = none → ts { nx := fun σ' H' => D.nx (σ'.set i none) H', rt := D.rt, bk := fun σ' H' => D.bk (σ'.set i none) H', ct := fun σ' H' => D.ct (σ'.set i none) H' } (σ.set i (some (.ref a))) (upd H a (EO a cls d))) ∧
    (b = false → Wout cls d σ H)
section
variable {X : Cx} {x n : Str} {c : Value} {i : Nat} {body suite : List Stmt} {b₀ : Stmt} {np pos pos' : Pos} {tb : WX → TS} {ts : TS} {Wout : WX} {pins : List (Addr × Obj)} {τ : L2.St} {G : Hp} {D : Ends}
/-- what is to be done with an exception of a try's body -/
abbrev Fate (X : Cx) (hds : List ExceptHandler) (pins : List (Addr × Obj)) (D : Ends) (e : Value) (z : Shared) : Prop :=
  wpAny (model X.prog X.w) X.A (noteFrame e X.env) (fun _ z1 => wpAny (model X.prog X.w) X.A (setFlight e none) (fun _ z2 => wpAny (model X.prog X.w) X.A (handleBy e X.env hds) (SP X pins D) X.xe z2) X.xe z1) X.xe z
/-- the clause's test names the class c -/
theorem names_eval (hc : Names X x c) {a : Addr} {oe : Obj} {h3 : Heap} {z : Shared} (S : Inv (X.suite a ((a, oe) :: (X.pn ++ pins))) [] τ G { z with heap := h3 }) {Q E : Value → Shared → Prop} (q : Q c { z with heap := h3 }) :
    wpAny (model X.prog X.w) (X.A.mark (some (.ref a))) (eval (.Name x np) X.env) Q E { z with heap := h3 } := by
  rcases hc with ⟨g, nd, own | ⟨no, boot, nn⟩⟩
  · exact L2.ld_glob (X := X.suite a ((a, oe) :: (X.pn ++ pins))) S g own q nd
  · exact L2.ld_blt (X := X.suite a ((a, oe) :: (X.pn ++ pins))) S g no boot q nn nd
/-- the suite, run with the caught object known -/
theorem keep_suite (hN : X.N.Nodup) (hi : X.N[i]? = some n) (hln : X.env.kindOf n = some .local) (hsu : ∀ (a : Addr) (pn : List (Addr × Obj)), PSs (X.suite a pn) (b₀ :: suite) ts) {a : Addr} {z : Shared}
    (I : Inv X pins τ G z) (want : ts { nx := fun σ' H' => D.nx (σ'.set i none) H', rt := D.rt, bk := fun σ' H' => D.bk (σ'.set i none) H', ct := fun σ' H' => D.ct (σ'.set i none) H' } (τ.set i (some (.ref a))) G) {E1 E2 : Value → Shared → Prop} :
    wpAny (model X.prog X.w) (X.A.mark (some (.ref a))) (storeName X.env n (.ref a)) (fun _ z1 => wpAny (model X.prog X.w) (X.A.mark (some (.ref a))) (execs (b₀ :: suite) X.env) (fun fl z2 => wpAny (model X.prog X.w) X.A (do bindName X.env n .none; unbindBehindTheSuite X.env n pos') (fun _ z3 => SP X pins D fl z3) X.xe z2) E1 z1) E2 z := by
  refine L2.store_ok (X := X.suite a (X.pn ++ pins)) (v := .ref a) (toSuite I a) hN hi (.inl hln) rfl (fun z1 J => ?_) (.inr hln)
  have run := (hsu a (X.pn ++ pins)).run [] z1 _ _ _ J want
  have behind : ∀ {τ2 : L2.St} {G2 : Hp} {z2 : Shared} {Q : Shared → Prop}, Inv (X.suite a (X.pn ++ pins)) [] τ2 G2 z2 → (∀ z3, Inv X pins (τ2.set i none) G2 z3 → Q z3) →
      wpAny (model X.prog X.w) X.A (do bindName X.env n .none; unbindBehindTheSuite X.env n pos') (fun _ z3 => Q z3) X.xe z2 := fun J2 k => L2.gone_ok (ofSuite J2 I.ok) hN hi hln k
  refine wpAny_mono run (fun fl z2 r => ?_) fun _ _ no => no.elim
  match fl, r with
  | .next, ⟨_, _, J2, q⟩ => exact behind J2 fun _ J3 => ⟨_, _, J3, q⟩
  | .brk, ⟨_, _, J2, q⟩ => exact behind J2 fun _ J3 => ⟨_, _, J3, q⟩
  | .cont, ⟨_, _, J2, q⟩ => exact behind J2 fun _ J3 => ⟨_, _, J3, q⟩
  | .ret _, ⟨_, _, _, J2, rel, q⟩ => exact behind J2 fun _ J3 => ⟨_, _, _, J3, rel, q⟩
/-- an exception of the body meets the clause -/
theorem keep_fate (hx : X.ex = []) (hs : X.stack = X.env :: X.outer) (hf : X.env.frame = some X.env.locals) (hN : X.N.Nodup) (hi : X.N[i]? = some n) (hln : X.env.kindOf n = some .local) (hc : Names X x c) (tk : Takes X Wout) (ok : X.Ok)
    (hsu : ∀ (a : Addr) (pn : List (Addr × Obj)), PSs (X.suite a pn) (b₀ :: suite) ts) {u : Value} {z : Shared} {xe : Value → Shared → Prop} (air : XE (X.tr (X.pn ++ pins) xe) (wKeep X.K c i ts Wout D) u z) :
    Fate X [.ExceptHandler (some (.Name x np)) (some n) (b₀ :: suite) pos'] pins D u z := by
  obtain ⟨a, B, g, pins', τ, G, cls, d, rfl, J0, ground, up, sky, na, os, ag, b, meets, yes, no⟩ := air
  have J : Inv X pins τ G g := L2.Inv.ofTry J0 ok
  have sky1 : Sky B (X.env :: X.outer) a (Zc cls d) X.env.locals z.heap := hs ▸ sky
  refine Sky.land Zc.steady (ok.frames.trans (congrArg some hs)) hf sky1 fun k fl upk => ?_
  obtain ⟨oe, vs, at_, zc, rec⟩ := fl.there
  -- the object is no frame's, and new since the entry
  have noframe : a ∉ frs (X.env :: X.outer) := fun m => by
    obtain ⟨_, o', e', nr⟩ := fl.2.2.1.mem m
    obtain rfl : oe = o' := Option.some.inj (at_.symm.trans e')
    exact nr _ rec
  have nL : a ≠ X.env.locals := fun y => noframe (List.mem_filterMap.mpr ⟨_, .head _, hf.trans (congrArg some y.symm)⟩)
  have nF : a ∉ X.fs := fun m => noframe (by
    obtain ⟨e, me, q⟩ := List.mem_filterMap.mp m
    exact List.mem_filterMap.mpr ⟨e, .tail _ me, q⟩)
  have nG : g.heap.get? a = none := Option.eq_none_iff_forall_ne_some.mpr fun o e => by
    have q := ground a o e (hs ▸ noframe)
    rw [fl.2.1] at q
    cases q
  have n0 : X.s_0.heap.get? a = none := Option.eq_none_iff_forall_ne_some.mpr fun o e => by
    obtain ⟨o', q⟩ := J.base.there a o e (hx ▸ List.not_mem_nil)
    exact Option.some_ne_none _ (q.symm.trans nG)
  have npin : ∀ p ∈ X.pn ++ pins, p.1 ≠ a := fun p hp y => Option.some_ne_none _ ((J.pin p hp).1.symm.trans ((congrArg g.heap.get? y).trans nG))
  have K1 : Inv X pins τ G { z with heap := k } := L2.Inv.landed J ground fl.1 (up.trans upk) os ag
  have S1 := L2.Inv.suite K1 at_ rec na nL nF
  have isCls : PySem.W.Looks (model X.prog X.w) k (typeOf (.ref a)) cls := fun _ _ _ _ keep q => wpAny_typeOf_ref (keep _ _ at_) (zc.1.symm ▸ q)
  refine wpAny_handleBy_cons (codeAny_handlers_test (names_eval hc S1 ((PySem.W.exm_one (M := model X.prog X.w) K1.kIn isCls meets).here ?_))) (fun q => nomatch q)
  cases b with
  | true =>
    refine codeAny_handlers_suite_as (HandSPX.lands_againZ fl fun k2 fl2 up2 => ?_)
    obtain ⟨oe2, vs2, at2, zc2, rec2⟩ := fl2.there
    have K2 : Inv X pins τ G { z with heap := k2 } := L2.Inv.landed J ground fl2.1 ((up.trans upk).trans up2) os ag
    have K3 : Inv X pins τ (upd G a (EO a cls d)) { z with heap := k2 } := track K2 na n0 nL npin (fun v ⟨o, e, dv⟩ => by
      obtain rfl : oe2 = o := Option.some.inj (at2.symm.trans e)
      exact Data.noConfusion (rec2.symm.trans dv)) (eo_ok at2 zc2 rec2)
    exact keep_suite hN hi hln hsu K3 (yes rfl a na)
  | false =>
    refine wpAny_handleBy_nil ?_
    obtain ⟨_, _, _, oe', vs', T, _, _, e1, _, e2, e3, _⟩ := id fl
    have on : wpAny (model X.prog X.w) X.A (setFlight (.ref a) X.env.frame) (fun _ z1 => wpAny (model X.prog X.w) X.A (throw (.ref a) : Sem Flow) (SP X pins D) X.xe z1) X.xe { z with heap := k } := by
      rw [hf]
      refine HandSPX.setFlight_upZ fl fun k2 held up2 => wpAny_throw (tk _ _ ?_)
      refine ⟨a, B, g, pins, τ, G, cls, d, rfl, J, ground, (up.trans upk).trans up2, ?_, na, os, ag, no rfl⟩
      exact .inr (.inr (hs.symm ▸ held))
    unfold PySem.passOn
    refine wpAny_bind (wpAny_field e1 e2 e3 ?_)
    rw [if_neg (fun y => by simp at y)]
    first | exact wpAny_bind on | exact wpAny_bind (wpAny_pure (wpAny_bind on))
/-- try: body / except x as n: suite, the caught object known from then on -/
theorem ps_try_keep (hx : X.ex = []) (hs : X.stack = X.env :: X.outer) (hf : X.env.frame = some X.env.locals) (hN : X.N.Nodup) (hi : X.N[i]? = some n) (hln : X.env.kindOf n = some .local) (hc : Names X x c) (tk : Takes X Wout)
    (hb : ∀ (W : WX) (pn : List (Addr × Obj)) (xe : Value → Shared → Prop), Takes (X.tr pn xe) W → PassesOwn (model X.prog X.w) X.A X.env xe → PSs (X.tr pn xe) body (tb W))
    (hsu : ∀ (a : Addr) (pn : List (Addr × Obj)), PSs (X.suite a pn) (b₀ :: suite) ts) :
    PS X (.Try body [.ExceptHandler (some (.Name x np)) (some n) (b₀ :: suite) pos'] [] [] pos) (fun D σ H => tb (wKeep X.K c i ts Wout D) D σ H) := by
  constructor
  intro pins z τ G D I want
  have inner := hb (wKeep X.K c i ts Wout D) (X.pn ++ pins) (Fate X [.ExceptHandler (some (.Name x np)) (some n) (b₀ :: suite) pos'] pins D)
    (fun _ _ air => keep_fate hx hs hf hN hi hln hc tk I.ok hsu air) PassesOwn.looking
  refine wpAny_Try_except (wpAny_mono (inner.run [] z τ G D (L2.Inv.toTry I _) want) (fun fl z1 r => ?_) fun _ _ y => y)
  match fl, r with
  | .next, ⟨_, _, J, q⟩ => exact wpAny_execs_nil ⟨_, _, L2.Inv.ofTry J I.ok, q⟩
  | .brk, ⟨_, _, J, q⟩ => exact ⟨_, _, L2.Inv.ofTry J I.ok, q⟩
  | .cont, ⟨_, _, J, q⟩ => exact ⟨_, _, L2.Inv.ofTry J I.ok, q⟩
  | .ret _, ⟨_, _, _, J, rel, q⟩ => exact ⟨_, _, _, L2.Inv.ofTry J I.ok, rel, q⟩
/-- kept.f, kept a caught exception with an own dict -/
def tEf (C : Addr) (f : Str) (te : TE) : TE := fun σ H Q => te σ H fun x H1 => ∃ (a dd : Addr) (fs : List (Str × V)) (v : V), x = .ref a ∧ H1 a = some (EO a (.ref C) (some dd)) ∧ H1 dd = some (.xd fs) ∧ fs.lookup f = some v ∧ Q v H1
theorem pe_ef {C : Addr} {e : Expr} {te : TE} {pos : Pos} {n : Str} (T : XfC X.K C) (hno : PySem.W.findIn X.K (.ref C) n = some none)
    (he : PE X e te) (hb : attributeBase e n X.env (eval e X.env) = eval e X.env := by rfl) : PE X (.Attribute e n pos) (tEf C n te) := by
  refine ⟨fun pins z τ G Q I want => attr_of hb (thn (he.run pins z τ G _ I want) fun u z1 got => ?_)⟩
  obtain ⟨_, G1, J, rel, a, dd, fs, v, rfl, ea, ed, look, q⟩ := got
  cases (show u = Value.ref a from rel)
  obtain ⟨oe, vs, at_, zc, rec⟩ := eo_at J.hok ea
  obtain ⟨m, space, fits⟩ := (show ObjOk X.prog X.w G1 z1.heap dd (.xd fs) from J.hok dd _ ed)
  obtain ⟨od, od_at, od_look⟩ := lookIn_ns space
  have fit := fits n
  rw [look] at fit
  obtain ⟨w, w_is, w_rel⟩ := RelO.some_of fit
  have inst : PySem.W.InstAt z1.heap a oe C (some od) := by
    refine ⟨at_, zc.1, ?_, ?_⟩
    · unfold PySem.W.notCls
      rw [rec] <;> rfl
    · rw [zc.2]
      exact od_at
  have found := PySem.W.findObj_own (K := X.K) (C := C) (name := n) T.hdC hno rfl ((od_look n).trans (congrArg some w_is))
  exact HandSPX.exc_get J.kIn inst T.ga T.gg T.exC found (handed_of w_rel) ⟨v, G1, J.tok _, w_rel, q⟩
end
end Kt
namespace Am
open PySem PySem.Spec PyProof.Rows L2
def spInitE (K : PySem.W.Frag) : Sp := fun vs H Q _ => ∃ (a D : Addr) (v : V), vs = [.ref a, v] ∧ OexC K D ∧ PySem.W.findIn K (.ref D) "value" = some none ∧ H a = some (exo a D none) ∧ ∀ dx, H dx = none → dx ≠ a → Q .non (upd (upd H dx (exd dx [("value", v)])) a (exo a D (some dx)))
/-- an error class of the text -/
structure Err (K : PySem.W.Frag) (mg : Str → Option Value) (x : Str) (D fI : Addr) : Prop where
  oex : OexC K D
  iC : PySem.W.findIn K (.ref D) "__init__" = some (some (.ref fI))
  tI : PySem.W.typeIn K (.ref fI) = some (.type "function")
  gD : mg x = some (.ref D)
  nv : PySem.W.findIn K (.ref D) "value" = some none
  xf : XfC K D
  te : PySem.W.exmOne K (.ref D) (.ref D) = some true
def GotX (P : Program) (w : World) (K : PySem.W.Frag) (mg : Str → Option Value) (base : Heap) (x : Str) (k : Nat) (ps : List Str) (sp : Sp) : Prop :=
  ∃ (f : Addr) (fd : FuncData), FnOk P w K mg base (L2.CX P w) k f fd ps sp ∧ Binds K fd ps [] ∧ mg x = some (.ref f) ∧ PySem.W.keepIn K (.ref f) = true
section
variable {P : Program} {w : World} {K : PySem.W.Frag} {mg : Str → Option Value} {base : Heap} {C D : Addr}
theorem scInitE : FnScope ["self", "value"] ["self", "value"] (defScope sInitE) := ⟨rfl, rfl, rfl, by decide +kernel, rfl, by decide +kernel, by decide +kernel⟩
theorem ok_initE {f : Addr} {fd : FuncData} (F : Fun K "__init__" "MeterError.__init__" sInitE f fd) : FnOk P w K mg base CX0 1 f fd ["self", "value"] (spInitE K) := by
  refine F.ok scInitE (fun vs H Q E h => ?_) (fun cdv A outer s H vs Q E hr h => ?_)
  · obtain ⟨a, D, v, rfl, _⟩ := h
    rfl
  · obtain ⟨a, D, v, rfl, T, nv, ha, q⟩ := h
    exact ⟨_, pss_one (ps_ost (pv 0) (pv 1)), _, rfl, _, rfl, a, D, rfl, T, nv, .inl ⟨ha, fun dx hd ne => q dx hd ne⟩⟩
/-- a made error, told -/
theorem err_read {fI : Addr} {x : Str} (T : Err K mg x D fI) {H : Hp} {v : V} {Q : XK} (q : ∀ d H', Same H H' → H' d = some (.xd [("value", v)]) → Q (.ref D) (some d) H') :
    ∀ a, H a = none → spInitE K (.ref a :: ([v] ++ [])) (upd H a (exo a D none)) (fun r H2 => r = .non ∧ ∃ (d : Addr) (fs : List (Str × V)), H2 a = some (exo a D (some d)) ∧ H2 d = some (exd d fs) ∧ H d = none ∧ Q (.ref D) (some d) (upd (del H2 a) d (.xd fs))) (fun _ _ _ => False) := by
  intro a na
  refine ⟨a, D, v, rfl, T.oex, T.nv, upd_same, fun dx nd ne => ⟨rfl, dx, [("value", v)], upd_same, ?_, ?_, ?_⟩⟩
  · rw [upd_ne ne]; exact upd_same
  · rw [upd_ne ne] at nd; exact nd
  · refine q dx _ (fun b o e => ?_) upd_same
    have hd : H dx = none := by rw [upd_ne ne] at nd; exact nd
    have n1 : b ≠ dx := ne_of_none e hd
    have n2 : b ≠ a := ne_of_none e na
    rw [upd_ne n1, del_ne n2, upd_ne n2, upd_ne n1, upd_ne n2]
    exact e
end
end Am
/-! for k, x in enumerate(xs, start=..) -/
namespace Enu
open PySem PySem.Spec PyProof.Rows L2
theorem callWith_type_kwB {M : Model} {A : Around} {E : Value → Shared → Prop} {s : Shared} {pos : Pos} {T : String} {first : List Value} {args : List (Bool × Sem Value)} {keywords : List (Option Str × Sem Value)} {Q : Value → Shared → Prop}
    (hplain : (args.any fun x => x.fst) = false) (hkw : (keywords.any fun x => x.fst.isNone) = false)
    (h : wpAny M A (evalArgs (Value.type T) true args keywords) (fun a s₁ => wpAny M A (call (Value.type T) (first ++ a.pos) a.kw) Q E s₁) E s) : wpAny M A (callWith pos (Value.type T) first args keywords) Q E s := by
  unfold callWith
  refine wpAny_bind (wpAny_holding (wpAny_mono h (fun a s₁ h₁ => ?_) fun _ _ z => z))
  refine wpAny_bind (wpAny_standAt ?_)
  simp only [hplain, hkw, Bool.or_false]
  refine wpAny_bind (wpAny_pure ?_)
  refine wpAny_bind (wpAny_mono h₁ (fun r s₂ hr => wpAny_bind (wpAny_holding (wpAny_point (wpAny_pure hr)))) fun _ _ z => z)
def IteF (K : PySem.W.Frag) (a : Addr) (k : Int) : It :=
  { go := fun i H => ∃ xs x, SqL K H a xs ∧ xs[i]? = some x
    yld := fun i H v H' => ∃ T x, v = V.ref T ∧ H T = none ∧ H' = upd H T (HO.tup [V.int (k + i), x]) ∧ ∀ (xs : List V), SqL K H a xs → xs[i]? = some x
    stop := fun i H => ∃ xs, SqL K H a xs ∧ xs.length = i }
theorem turn_enumF {P : Program} {w : World} {K : PySem.W.Frag} {elts : List Expr} {kk : Nat} {tpos : Pos} (a e it : Addr) (k : Int) :
    Turn P w K (Expr.Tuple elts kk tpos) (IteF K a k) [e, it] e fun i h => (∃ old, IsEnum h e it (k + i) old) ∧ h.IsListIter it a i ∧ e ≠ it := by
  refine ⟨by simp, ?_, ?_, ?_, ?_, ?_⟩
  · rintro i h ⟨⟨old, he⟩, ⟨o, ho, hc, hd⟩, ne⟩ b hb
    have e' : b = e ∨ b = it := by simpa using hb
    rcases e' with rfl | rfl
    · exact ⟨_, he, fun v q => nomatch q⟩
    · exact ⟨o, ho, fun v q => by rw [hd] at q; exact nomatch q⟩
  · rintro i h h' ⟨⟨old, he⟩, hi, ne⟩ kp
    exact ⟨⟨old, kp e (by simp) _ he⟩, hi.at fun o q => kp it (by simp) o q, ne⟩
  · rintro X rfl rfl rfl hc i pins s σ H E I hf ⟨⟨old, he⟩, hit, ne⟩ ⟨xs, x, hq, hx⟩
    obtain ⟨its, rv, p, hz⟩ := I.list hq
    obtain ⟨u, hu, ru⟩ := Vals.get rv hx
    have hel := Heap.lt_size he
    have hil : it < s.heap.objs.size := by obtain ⟨w, q, _⟩ := hit; exact Heap.lt_size q
    have hal : s.heap.IsList a its.toArray := p.isList
    have nai : a ≠ it := by
      rintro rfl
      obtain ⟨o1, q1, c1, _⟩ := id hit
      obtain ⟨o2, q2, c2, _⟩ := id hal
      rw [q1] at q2
      cases q2
      rw [c1] at c2
      exact absurd c2 (by decide)
    have nae : a ≠ e := by
      rintro rfl
      obtain ⟨o2, q2, c2, _⟩ := id hal
      have := he.symm.trans q2
      cases this
      exact absurd (show Value.type "enumerate" = Value.type "list" from c2) (by decide)
    have G := GoesN.enumFrom (elts := elts) (x1 := kk) (pos := tpos) k (Draws.list (prog := X.prog) (w := X.w) (A := X.A.in1) (I.ok.hd hc) it a nai its.toArray) e ne (by simp [ne, nae.symm]) (by simp)
    have ilt : i < its.toArray.size := by
      have h1 := (List.getElem?_eq_some_iff.mp hu).1
      simpa using h1
    refine G.goes i s _ E ilt ⟨⟨old, he⟩, hit, hal⟩ ?_
    rintro v h' tk ⟨T, t, y, rfl, hT, hy, hTu⟩ ⟨hen, hit', hal'⟩ kp htk
    have ey : y = u := by
      have h1 : its.toArray[i]? = some u := by rw [List.getElem?_toArray]; exact hu
      exact Option.some.inj (hy.symm.trans h1)
    subst ey
    obtain ⟨oT, qT, cT, nT, dT⟩ := hTu
    refine ⟨.ref T, upd H T (.tup [.int (k + i), x]), Inv.turnedNew (ch := [e, it]) I (fun b o nb z => kp b o nb z) hf hT ?_, rfl, ⟨T, x, rfl, I.hok.fresh hT, rfl, fun ys hys => ?_⟩, ⟨?_, hit', ne⟩, fun b hb => ?_⟩
    · exact ⟨(show 2 ≤ sizeLine by decide), [Value.int (k + i) t, y], .cons ⟨t, rfl⟩ (.cons ru .nil), oT, qT, cT, nT, dT⟩
    · rw [I.list_inj hys hq]
      exact hx
    · exact hen
    · have e' : b = e ∨ b = it := by simpa using hb
      have hlt : b < s.heap.objs.size := by rcases e' with rfl | rfl <;> assumption
      rw [upd_ne (Nat.ne_of_lt (Nat.lt_of_lt_of_le hlt hT))]
      exact (hf b hb).1
  · rintro X rfl rfl rfl hc i pins s σ H E I hf ⟨⟨old, he⟩, hit, ne⟩ ⟨xs, hq, hx⟩
    obtain ⟨its, rv, p, hz⟩ := I.list hq
    have hal : s.heap.IsList a its.toArray := p.isList
    have nai : a ≠ it := by
      rintro rfl
      obtain ⟨o1, q1, c1, _⟩ := id hit
      obtain ⟨o2, q2, c2, _⟩ := id hal
      rw [q1] at q2
      cases q2
      rw [c1] at c2
      exact absurd c2 (by decide)
    have nae : a ≠ e := by
      rintro rfl
      obtain ⟨o2, q2, c2, _⟩ := id hal
      have := he.symm.trans q2
      cases this
      exact absurd (show Value.type "enumerate" = Value.type "list" from c2) (by decide)
    have G := GoesN.enumFrom (elts := elts) (x1 := kk) (pos := tpos) k (Draws.list (prog := X.prog) (w := X.w) (A := X.A.in1) (I.ok.hd hc) it a nai its.toArray) e ne (by simp [ne, nae.symm]) (by simp)
    have en : its.toArray.size = i := by
      rw [← hx, rv.length]
      simp
    rw [← en] at he hit
    refine wpAny_mono (G.stops s (fun s1 => L2.Inv X pins σ H s1) E ⟨⟨old, he⟩, hit, hal⟩ ?_) (fun _ _ z => z) fun _ _ z => z
    intro h' tk kp htk
    exact I.turnedL (ch := [e, it]) (fun b o nb z => kp b o nb z) hf
  · rintro A i s Q E ⟨⟨old, he⟩, _⟩ q
    exact wpAny_pyIter_enum he q
theorem walk_enumF {K : PySem.W.Frag} {a : Addr} {xs : List V} {k : Int} : Walk (IteF K a k) xs.length (fun H => SqL K H a xs) (YPair (fun i => some (V.int (k + i))) fun i => xs[i]?) := by
  refine ⟨fun i H hi g => ⟨xs, xs[i], g, List.getElem?_eq_getElem hi⟩, fun H g => ⟨xs, g, rfl⟩, ?_⟩
  rintro i H x H' hi g ⟨T, y, rfl, nT, rfl, hy⟩
  exact ⟨T, _, y, rfl, nT, rfl, rfl, hy xs g⟩
def iEnumS (K : PySem.W.Frag) (ta tk : TA) : TI := fun σ H R => ta σ H fun vs H1 => tk σ H1 fun zs H2 => ∃ a xs k, vs = [V.ref a] ∧ zs = [V.int k] ∧ -2 ^ 63 ≤ k ∧ k < 2 ^ 63 ∧ SqL K H2 a xs ∧ R (IteF K a k) H2
theorem pi_enumS {X : Cx} {e : Expr} {ta tk : TA} {p pos tpos : Pos} {elts : List Expr} {kk : Nat} {kws : List Keyword} (hg : Gl X "enumerate") (hm : X.mg "enumerate" = none) (ha : PA X [e] ta) (hk : PK X kws tk)
    (he : backTo pos (starEach [e] X.env) = [(false, eval e X.env)] := by rfl)
    (hpl : ((backTo pos (starEach [e] X.env)).any fun x => x.fst) = false := by rfl)
    (hall : ((backToKw pos (keywordEach kws X.env)).all fun x => x.fst.isSome) = true := by rfl)
    (hnone : ((backToKw pos (keywordEach kws X.env)).any fun x => x.fst.isNone) = false := by rfl)
    (hks : List.filterMap (fun x => x.fst) (backToKw pos (keywordEach kws X.env)) = [("start" : Str)] := by rfl) :
    PI X (Expr.Tuple elts kk tpos) ((Expr.Name "enumerate" p).Call [e] kws pos) (iEnumS X.K ta tk) := by
  refine ⟨fun pins s σ H R I h => wpAny_Call_Name_kw (ld_blt I hg hm boot_enumerate (callWith_type_kwB hpl hnone ?_) (by decide +kernel) (by decide +kernel))⟩
  rw [he]
  refine evalArgs_kwB hall ?_
  have h0 := ha.run pos pins s σ H _ I h
  rw [he] at h0
  refine thn h0 ?_
  rintro us s1 ⟨vs, H1, I1, r1, q1⟩
  refine thn (hk.run pos pins s1 σ H1 _ I1 q1) ?_
  rintro ws s2 ⟨zs, H2, I2, r2, a, xs, k, rfl, rfl, k1, k2, hq, q⟩
  rw [hks]
  cases r1 with
  | cons ra rra =>
  cases rra
  cases ra
  cases r2 with
  | cons rk rrk =>
  cases rrk
  obtain ⟨tt, rfl⟩ := rk
  obtain ⟨its, rv, p', hz⟩ := I2.list hq
  refine enum_begins_start (begins_list a its.toArray) p'.isList k1 k2 ?_
  intro h' hen hit hsz hkp
  have I3 := I2.kept (t' := s2.toks) hkp
  refine wpAny_pyIter_enum hen ?_
  refine ⟨s2.heap.objs.size + 1, [s2.heap.objs.size + 1, s2.heap.objs.size], _, IteF X.K a k, H2, rfl, I3, turn_enumF a (s2.heap.objs.size + 1) s2.heap.objs.size k, ⟨⟨Value.none, ?_⟩, ?_, Nat.succ_ne_self _⟩, fun b hb => ?_, q⟩
  · rw [show k + ((0 : Nat) : Int) = k from Int.add_zero k]
    exact hen
  · exact ⟨_, hit, rfl, rfl⟩
  · have e' : b = s2.heap.objs.size + 1 ∨ b = s2.heap.objs.size := by simpa using hb
    have hle : s2.heap.objs.size ≤ b := by
      rcases e' with z | z
      · rw [z]; exact Nat.le_add_right _ 1
      · rw [z]; exact Nat.le_refl _
    exact Inv.fpOk I2 hle (HOk.fresh I2.hok hle)
end Enu
/-! what the lines of a rule tell, or which one is wrong -/
namespace Ru
open PySem PySem.Spec PyProof.Rows L2 Am
/-- the way that the line with this number tells -/
def wayAt (i : Nat) (l : Str) : Option Way := if i ≤ 5 then wayOf l (fiveW.getD (i - 1) "") else none
/-- the ways, or the number of the first wrong line, or of the missing one -/
def readW : Nat → List Str → List Way → Sum Nat (List Way)
  | _, [], acc => if acc.length < 5 then .inl (acc.length + 1) else .inr acc
  | i, l :: ls, acc => match wayAt i l with
    | none => .inl i
    | some y => readW (i + 1) ls (acc ++ [y])
def isS : V → Bool
  | .str _ => true
  | _ => false
theorem kB_str {K : PySem.W.Frag} {H : Hp} {x : V} {T : String} (b : Bk H x T) : PySem.W.kitOne K (.type T) (.type "str") = some (isS x) := by
  cases b with
  | non => exact kit_ty (show kitB "NoneType" "str" = some false by decide +kernel)
  | bl => exact kit_ty (show kitB "bool" "str" = some false by decide +kernel)
  | int => exact kit_ty (show kitB "int" "str" = some false by decide +kernel)
  | str => exact kit_ty (show kitB "str" "str" = some true by decide +kernel)
  | lst => exact kit_ty (show kitB "list" "str" = some false by decide +kernel)
  | tup => exact kit_ty (show kitB "tuple" "str" = some false by decide +kernel)
  | dK => exact kit_ty (show kitB "dict" "str" = some false by decide +kernel)
theorem kS_of {K : PySem.W.Frag} {C : Addr} (s : PySem.W.subIn K (.ref C) (.type "str") = some false) : PySem.W.kitOne K (.ref C) (.type "str") = some false := by
  unfold PySem.W.kitOne
  rw [if_neg (by simp)]
  show (if PySem.W.kitMeta "str" = true then PySem.W.subIn K (.ref C) (.type "str") else none) = _
  rw [if_pos (by decide +kernel)]
  exact s
theorem Way.v_ne : ∀ y : Way, y.v ≠ .non
  | .int _ => by intro h; cases h
  | .str _ => by intro h; cases h
/-- how the reading of a value ends: C is Amount, D is BadRule -/
def EndsW (C D : Addr) (v : V) (H : Hp) (ok : ∀ ys : List Way, Prop) (E : XK) : Prop :=
  (∃ x : Str, v = .str x ∧ x.length ≤ 600 ∧ (∀ ys, readW 1 (Txt.split x "\n") [] = .inr ys → ok ys) ∧ (∀ n, readW 1 (Txt.split x "\n") [] = .inl n → ∀ d H', Same H H' → H' d = some (.xd [("value", .int n)]) → E (.ref D) (some d) H')) ∨
  (isS v = false ∧ ((∃ T, Bk H v T) ∨ ∃ b dy gs, v = .ref b ∧ H b = some (.ins C dy gs)) ∧ ∀ d H', Same H H' → H' d = some (.xd [("value", .int (-1))]) → E (.ref D) (some d) H')
def spWaysX (C D : Addr) : Sp := fun vs H Q E => ∃ v : V, vs = [v] ∧ EndsW C D v H (fun ys => ∀ H' l, Same H H' → H' l = some (.lst (ys.map Way.v)) → H l = none → Q (.ref l) H') E
section
variable {P : Program} {w : World} {K : PySem.W.Frag} {mg : Str → Option Value} {base : Heap} {C D : Addr}
theorem scWays : FnScope ["text", "lines", "ways", "at", "line", "way"] ["text"] (defScope sF_ways_of) := ⟨rfl, rfl, rfl, by decide +kernel, rfl, by decide +kernel, by decide +kernel⟩
theorem ok_waysX {f fE : Addr} {fd fdE : FuncData} (F : Fun K "ways_of" "ways_of" sF_ways_of f fd) (T : Nm mg) (TC : Txt K mg C) (ns : mg "str" = none) (ne : mg "enumerate" = none) (TE : Err K mg "BadRule" D fE) (GE : FnOk P w K mg base CX0 1 fE fdE ["self", "value"] (spInitE K)) (bE : Binds K fdE ["self", "value"] [])
    (hL : ∃ A, mg "LINES" = some (.ref A) ∧ ∀ H, SqT K H A (fiveW.map V.str)) (GW : GotF P w K mg base "way_of" 2 ["line", "word"] spWayOf) : FnOk P w K mg base (L2.CX P w) 3 f fd ["text"] (spWaysX C D) := by
  obtain ⟨A5, mL, hL⟩ := hL
  obtain ⟨fW, fdW, GW, bW, mW, kW⟩ := GW
  refine F.okX scWays (fun vs H Q E h => ?_) (fun cdv A outer s H vs Q E hr h => ?_)
  · obtain ⟨v, rfl, _⟩ := h
    rfl
  · obtain ⟨v, rfl, want⟩ := h
    have hr2 : Room 2 _ := hr.mono (by decide)
    have b_str : bootBuiltins "str" = some (.type "str") := by decide +kernel
    refine ⟨_, (pss_cons (ps_if (pt_not (pt_val (pe_callB call_isi (by rfl) T.isi b_isi (pa_cons (pv 0) (pa_cons (pe_bltn (v := .ty "str") (by rfl) ns b_str rfl) pa_nil))))) (pss_one (ps_raise rfl (takes_of rfl rfl rfl rfl) (pmk_oex TE.oex TE.iC TE.tI GE hr2 bE .nil pass0 (by rfl) TE.gD (pa_cons (pe_un un_neg pe_int) pa_nil)))) pss_nil)
      (pss_cons (ps_par (by rfl) scWays.nd (i := 1) (j := 2) rfl rfl (by decide) rfl rfl (pa_cons (pe_split (pv 0) pe_str) (pa_cons (pe_lst pa_nil) pa_nil)) (by rfl))
      (pss_cons (ps_for (g := (gTup K 2 (gCons (gName 3) (gCons (gName 4) gNil)))) (passes_of rfl) rfl (Enu.pi_enumS (by rfl) ne (pa_cons (pv 1) pa_nil) (pk_cons pe_int pk_nil)) (pg_tup rfl (pgs_cons (pg_name (i := 3) scWays.nd rfl (.inl rfl)) (pgs_cons (pg_name (i := 4) scWays.nd rfl (.inl rfl)) pgs_nil))) (pss_cons (ps_set (i := 5) scWays.nd rfl (.inl rfl) (pe_ifExp (pt_cmpR op_le (pv 3) (pe_callB call_len_seq (by rfl) T.len PySem.boot_len (pa_cons (pe_glob (v := .ref A5) (by rfl) mL rfl) pa_nil)) (nomark _)) (pe_call GW hr2 (by rfl) mW kW bW .nil pass0 (pa_cons (pv 4) (pa_cons (pe_ix ix_tup (pe_glob (v := .ref A5) (by rfl) mL rfl) (pe_op op_sub (pv 3) pe_int) (fun _ _ => rfl)) pa_nil))) pe_non))
      (pss_cons (ps_if (pt_cmp (pc_isN (pv 5))) (pss_one (ps_raise rfl (takes_of rfl rfl rfl rfl) (pmk_oex TE.oex TE.iC TE.tI GE hr2 bE .nil pass0 (by rfl) TE.gD (pa_cons (pv 3) pa_nil)))) pss_nil)
      (pss_one (ps_expr (pe_bm PySem.F.plainAttrs_list PySem.F.slot_list_append PySem.F.type_list_append mt_append (pv 2) (pa_cons (pv 5) pa_nil)))))))
      (pss_cons (ps_if (pt_cmpR op_lt (pe_callB call_len_seq (by rfl) T.len PySem.boot_len (pa_cons (pv 2) pa_nil)) (pe_callB call_len_seq (by rfl) T.len PySem.boot_len (pa_cons (pe_glob (v := .ref A5) (by rfl) mL rfl) pa_nil)) (nomark _)) (pss_one (ps_raise rfl (takes_of rfl rfl rfl rfl) (pmk_oex TE.oex TE.iC TE.tI GE hr2 bE .nil pass0 (by rfl) TE.gD (pa_cons (pe_op op_add (pe_callB call_len_seq (by rfl) T.len PySem.boot_len (pa_cons (pv 2) pa_nil)) pe_int) pa_nil)))) pss_nil)
      (pss_one (ps_ret (pv 2))))))), ?_⟩
    rcases want with ⟨x, rfl, hl, q1, q2⟩ | ⟨hS, w1, q⟩
    · refine ⟨_, rfl, .str x, .ty "str", .type "str", .type "str", _, rfl, .ty _, .base (Bk.tyOf (.str x)), kB_str (H := H) (.str x), _, rfl, iteF ?_⟩
      refine ⟨_, rfl, ⟨_, rfl⟩, _, _, rfl, rfl, by decide +kernel, Nat.le_trans (show x.length + 2 ≤ 4002 by omega) (by decide), fun l nl => ⟨by decide, fun Dl nD => ⟨_, _, rfl, ?_⟩⟩⟩
      obtain ⟨sp1, sp2⟩ := SL.split_nl (x := x)
      have e1 := same_upd (o := .lst ((Txt.split x "
").map V.str)) nl
      have e2 := same_upd (o := .lst []) nD
      have hl0 := e2 _ _ (upd_same (H := H) (a := l) (o := .lst ((Txt.split x "
").map V.str)))
      have nDH : H Dl = none := by
        cases z : H Dl with
        | none => rfl
        | some u => rw [e1 _ _ z] at nD; cases nD
      have nlD : l ≠ Dl := fun z => by rw [← z, upd_same] at nD; cases nD
      have hD0 := upd_same (H := upd H l (.lst ((Txt.split x "
").map V.str))) (a := Dl) (o := .lst [])
      have e0 := e1.trans e2
      generalize Txt.split x "
" = lines at *
      generalize upd (upd H l (.lst (lines.map V.str))) Dl (.lst []) = H0 at *
      refine ⟨_, rfl, l, _, 1, rfl, rfl, by decide, by decide, SqL.of hl0, for_it (Enu.walk_enumF (xs := lines.map V.str)) (fun i σ H' => ∃ (acc : List Way) (s3 s4 s5 : Option V), σ = [some (.str x), some (.ref l), some (.ref Dl), s3, s4, s5] ∧ Same H H' ∧ H' l = some (.lst (lines.map V.str)) ∧ H' Dl = some (.lst (acc.map Way.v)) ∧ acc.length = i ∧ readW (i + 1) (lines.drop i) acc = readW 1 lines []) ?_ ?_ ?_ ?_⟩
      · exact ⟨[], _, _, _, rfl, e0, hl0, hD0, rfl, rfl⟩
      · rintro i σ H' _ ⟨_, _, _, _, _, _, h, _⟩
        exact SqL.of h
      · rintro i v σ H2 H3 hi ⟨acc_, s3, s4, s5, rfl, s2, hl2, hD2, la, hre⟩ ⟨T, v1, v2, rfl, nT, rfl, hv1, hv2⟩
        have hi' : i < lines.length := by simpa using hi
        obtain rfl : v2 = .str lines[i] := by
          replace hv2 : (lines.map V.str)[i]? = some v2 := hv2
          rw [List.getElem?_map, List.getElem?_eq_getElem hi'] at hv2
          exact (Option.some.inj hv2).symm
        obtain rfl : v1 = .int (1 + i) := (Option.some.inj hv1).symm
        have e3 := same_upd (o := .tup [V.int (1 + i), .str lines[i]]) nT
        refine ⟨T, _, rfl, SqT.of upd_same, rfl, _, _, rfl, _, _, rfl, rfl, ?_⟩
        have hD3 := e3 _ _ hD2
        have hl3 := e3 _ _ hl2
        have s23 := s2.trans e3
        generalize upd H2 T (.tup [V.int (1 + i), .str lines[i]]) = H3 at *
        rw [List.drop_eq_getElem_cons hi', readW] at hre
        refine ⟨_, rfl, A5, _, rfl, .inr (hL _), _, _, rfl, rfl, _, rfl, ?_⟩
        have c5 : decide ((1 + (i : Int)) ≤ ((fiveW.map V.str).length : Int)) = decide (i + 1 ≤ 5) := decide_eq_decide.mpr (by rw [List.length_map]; show (1 + (i : Int)) ≤ 5 ↔ _; omega)
        rw [c5]
        have raised : ∀ H4, Same H3 H4 → wayAt (i + 1) lines[i] = none → ∀ d H', Same H4 H' → H' d = some (.xd [("value", .int (1 + i))]) → E (.ref D) (some d) H' := fun H4 e4 hw d H' e' hd => by
          rw [hw] at hre
          refine q2 (i + 1) hre.symm d H' ((s23.trans e4).trans e') ?_
          rw [hd, show (1 + (i : Int)) = ((i + 1 : Nat) : Int) by omega]
        cases hc : decide (i + 1 ≤ 5) with
        | false =>
          have hn : wayAt (i + 1) lines[i] = none := by unfold wayAt; rw [if_neg (of_decide_eq_false hc)]
          refine iteF ⟨_, rfl, _, rfl, iteT ⟨_, rfl, (show 1 ≤ 1000 by decide), err_read TE fun d H' e h => raised H3 (Same.refl _) hn d H' e h⟩⟩
        | true =>
          have i5 : i < fiveW.length := by
            have := of_decide_eq_true hc
            show i < 5
            omega
          have hw : wayAt (i + 1) lines[i] = wayOf lines[i] fiveW[i] := by
            unfold wayAt
            rw [if_pos (of_decide_eq_true hc), Nat.add_sub_cancel]
            congr 1
            rw [List.getD_eq_getElem?_getD, List.getElem?_eq_getElem i5]
            rfl
          refine iteT ⟨_, rfl, _, rfl, _, _, rfl, rfl, A5, _, _, .str fiveW[i], rfl, rfl, hL _, ?_, lines[i], fiveW[i], rfl, Nat.le_trans (sp2 _ (List.getElem_mem hi')) hl, List.getElem_mem i5, fun H4 e4 => ?_⟩
          · rw [show (1 + (i : Int) - 1) = (i : Int) by omega]
            exact atI_nat (by rw [List.getElem?_map, List.getElem?_eq_getElem i5]; rfl)
          rw [hw] at hre
          cases hwo : wayOf lines[i] fiveW[i] with
          | none => exact ⟨_, rfl, _, rfl, iteT ⟨_, rfl, (show 1 ≤ 1000 by decide), err_read TE fun d H' e h => raised H4 e4 (hw.trans hwo) d H' e h⟩⟩
          | some y =>
            rw [hwo] at hre
            have hD4 := e4 _ _ hD3
            have hl4 := e4 _ _ hl3
            have s24 := s23.trans e4
            have len : (acc_.map Way.v).length < sizeLine := by
              rw [List.length_map, la]
              exact Nat.lt_of_lt_of_le i5 (by decide)
            have fin : ∀ u, u = y.v → ∃ (acc : List Way) (s3 s4 s5 : Option V), [some (V.str x), some (.ref l), some (.ref Dl), some (.int (1 + i)), some (.str lines[i]), some u] = [some (.str x), some (.ref l), some (.ref Dl), s3, s4, s5] ∧ Same H (upd H4 Dl (.lst ((acc_.map Way.v) ++ [u]))) ∧ (upd H4 Dl (.lst ((acc_.map Way.v) ++ [u]))) l = some (.lst (lines.map V.str)) ∧ (upd H4 Dl (.lst ((acc_.map Way.v) ++ [u]))) Dl = some (.lst (acc.map Way.v)) ∧ acc.length = i + 1 ∧ readW (i + 1 + 1) (lines.drop (i + 1)) acc = readW 1 lines [] := by
              rintro u rfl
              refine ⟨acc_ ++ [y], _, _, _, rfl, fun b v z => ?_, by rw [upd_ne nlD]; exact hl4, by rw [upd_same, List.map_append]; rfl, by rw [List.length_append, la]; rfl, hre⟩
              rw [upd_ne (ne_of_none z nDH)]
              exact s24 _ _ z
            cases y with
            | int n => exact ⟨_, rfl, _, rfl, iteF ⟨_, rfl, .inl ⟨rfl, _, SqL.of hD4⟩, _, rfl, Dl, _, _, rfl, rfl, hD4, len, fin _ rfl⟩⟩
            | str z => exact ⟨_, rfl, _, rfl, iteF ⟨_, rfl, .inl ⟨rfl, _, SqL.of hD4⟩, _, rfl, Dl, _, _, rfl, rfl, hD4, len, fin _ rfl⟩⟩
      · rintro σ H2 ⟨acc, s3, s4, s5, rfl, s2, hl2, hD2, la, hre⟩
        rw [show lines.drop (lines.map V.str).length = [] from by rw [List.length_map]; exact List.drop_length, readW] at hre
        refine ⟨_, rfl, Dl, _, rfl, .inl (SqL.of hD2), A5, _, rfl, .inr (hL _), _, _, rfl, rfl, _, rfl, ?_⟩
        have c5 : decide (((acc.map Way.v).length : Int) < ((fiveW.map V.str).length : Int)) = decide (acc.length < 5) := decide_eq_decide.mpr (by rw [List.length_map, List.length_map]; show ((acc.length : Int)) < 5 ↔ _; omega)
        rw [c5]
        by_cases hc : acc.length < 5
        · rw [decide_eq_true hc]
          rw [if_pos hc] at hre
          refine iteT ⟨_, rfl, Dl, _, rfl, .inl (SqL.of hD2), _, _, rfl, rfl, (show 1 ≤ 1000 by decide), err_read TE fun d H' e h => ?_⟩
          refine q2 (acc.length + 1) hre.symm d H' (s2.trans e) ?_
          rw [h, List.length_map]
          rfl
        · rw [decide_eq_false hc]
          rw [if_neg hc] at hre
          exact iteF ⟨_, rfl, q1 acc hre.symm _ _ s2 hD2 nDH⟩
    · rcases w1 with ⟨Ty, b⟩ | ⟨a, dx, fs, rfl, ha⟩
      · refine ⟨_, rfl, v, .ty "str", .type Ty, .type "str", _, rfl, .ty _, .base b.tyOf, kB_str b, _, rfl, ?_⟩
        rw [hS]
        exact iteT ⟨_, rfl, (show 1 ≤ 1000 by decide), err_read TE fun d H' e h => q d H' e h⟩
      · exact ⟨_, rfl, .ref a, .ty "str", .ref C, .type "str", _, rfl, .ty _, TC.tyC ha, kS_of TC.op.s4, _, rfl, iteT ⟨_, rfl, (show 1 ≤ 1000 by decide), err_read TE fun d H' e h => q d H' e h⟩⟩
end
end Ru
/-! all but what is named stands (the same names as in HA, HG, HI) -/
namespace Hs
open PySem PySem.Spec PyProof.Rows L2 Am
def Fr (ms : List Addr) (H H' : Hp) : Prop := ∀ b u, H b = some u → b ∉ ms → H' b = some u
theorem Fr.same {ms : List Addr} {H H' : Hp} (e : Same H H') : Fr ms H H' := fun b u h _ => e b u h
theorem Fr.trans {ms : List Addr} {H H1 H2 : Hp} (a : Fr ms H H1) (b : Fr ms H1 H2) : Fr ms H H2 := fun c u e n => b c u (a c u e n) n
theorem Fr.upd {ms : List Addr} {H : Hp} {d : Addr} {o : HO} (h : d ∈ ms) : Fr ms H (upd H d o) := fun b u e n => by
  rw [upd_ne (fun z => n (by rw [z]; exact h))]
  exact e
theorem Fr.mono {ms ns : List Addr} {H H' : Hp} (h : Fr ms H H') (e : ∀ x ∈ ms, x ∈ ns) : Fr ns H H' := fun b u z n => h b u z (fun y => n (e b y))
theorem Fr.tr {ms : List Addr} {H H1 H2 : Hp} (a : Fr ms H H1) (b : Same H1 H2) : Fr ms H H2 := fun c u e n => b c u (a c u e n)
theorem putF_len (k : Str) (v : V) : ∀ fs : List (Str × V), (putF k v fs).length ≤ fs.length + 1
  | [] => by simp [putF]
  | (a, b) :: r => by
    have := putF_len k v r
    simp only [putF]
    by_cases c : a = k
    · rw [if_pos c]; simp
    · rw [if_neg c]; simp; omega
theorem mk_same {H H' : Hp} {C h dx : Addr} (nh : H h = none) (nd : H dx = none) (ne : dx ≠ h) (f : Fr [h] (upd (upd H dx (.own h)) h (.ins C dx [])) H') : Same H H' := fun b u e =>
  f _ _ (((same_upd nd).trans (same_upd (by rw [upd_ne (Ne.symm ne)]; exact nh))) _ _ e) (by simpa using ne_of_none e nh)
end Hs
/-! a rule -/
namespace Ru
open PySem PySem.Spec PyProof.Rows L2 Am Hs
def rfs (x : Str) (a b c d e : V) : List (Str × V) := putF "rest" e (putF "block" d (putF "late" c (putF "behind" b (putF "every" a (putF "_text" (.str x) [])))))
section
variable (x : Str) (a b c d e : V)
theorem rfs_re : (rfs x a b c d e).lookup ("rest" : Str) = some e := by unfold rfs; rw [lookup_putF, if_pos rfl]
theorem rfs_bl : (rfs x a b c d e).lookup ("block" : Str) = some d := by unfold rfs; rw [lookup_putF, if_neg (by decide +kernel), lookup_putF, if_pos rfl]
theorem rfs_la : (rfs x a b c d e).lookup ("late" : Str) = some c := by unfold rfs; rw [lookup_putF, if_neg (by decide +kernel), lookup_putF, if_neg (by decide +kernel), lookup_putF, if_pos rfl]
theorem rfs_be : (rfs x a b c d e).lookup ("behind" : Str) = some b := by unfold rfs; rw [lookup_putF, if_neg (by decide +kernel), lookup_putF, if_neg (by decide +kernel), lookup_putF, if_neg (by decide +kernel), lookup_putF, if_pos rfl]
theorem rfs_ev : (rfs x a b c d e).lookup ("every" : Str) = some a := by unfold rfs; rw [lookup_putF, if_neg (by decide +kernel), lookup_putF, if_neg (by decide +kernel), lookup_putF, if_neg (by decide +kernel), lookup_putF, if_neg (by decide +kernel), lookup_putF, if_pos rfl]
theorem rfs_tx : (rfs x a b c d e).lookup ("_text" : Str) = some (.str x) := by unfold rfs; rw [lookup_putF, if_neg (by decide +kernel), lookup_putF, if_neg (by decide +kernel), lookup_putF, if_neg (by decide +kernel), lookup_putF, if_neg (by decide +kernel), lookup_putF, if_neg (by decide +kernel), lookup_putF, if_pos rfl]
end
structure RuC (K : PySem.W.Frag) (C : Addr) : Prop where
  cl : Cls K C
  n1 : NoAttr K C "_text"
  n2 : NoAttr K C "every"
  n3 : NoAttr K C "behind"
  n4 : NoAttr K C "late"
  n5 : NoAttr K C "block"
  n6 : NoAttr K C "rest"
def RuleAt (C : Addr) (H : Hp) (r : Addr) (x : Str) (a b c d e : Way) : Prop := ∃ dx, H r = some (.ins C dx (rfs x a.v b.v c.v d.v e.v))
theorem RuleAt.same {C : Addr} {H H' : Hp} {r : Addr} {x : Str} {a b c d e : Way} (h : RuleAt C H r x a b c d e) (s : Same H H') : RuleAt C H' r x a b c d e := by
  obtain ⟨dx, h⟩ := h
  exact ⟨dx, s _ _ h⟩
theorem readW_len : ∀ (ls : List Str) (acc ys : List Way), acc.length ≤ 5 → readW (acc.length + 1) ls acc = .inr ys → ys.length = 5
  | [], acc, ys, h, e => by
    rw [readW] at e
    by_cases c : acc.length < 5
    · rw [if_pos c] at e; cases e
    · rw [if_neg c] at e
      cases e
      omega
  | l :: ls, acc, ys, h, e => by
    rw [readW] at e
    cases hw : wayAt (acc.length + 1) l with
    | none => rw [hw] at e; cases e
    | some y =>
      rw [hw] at e
      have c : acc.length + 1 ≤ 5 := by
        unfold wayAt at hw
        by_cases c : acc.length + 1 ≤ 5
        · exact c
        · rw [if_neg c] at hw; cases hw
      refine readW_len ls (acc ++ [y]) ys (by rw [List.length_append]; exact c) ?_
      rw [List.length_append]
      exact e
def spRInitX (C A D : Addr) : Sp := fun vs H Q E => ∃ (r dx : Addr) (v : V), vs = [.ref r, v] ∧ H r = some (.ins C dx []) ∧ EndsW A D v H (fun _ => ∀ H', Fr [r] H H' → (∃ fs, H' r = some (.ins C dx fs)) → Q .non H') E
section
variable {P : Program} {w : World} {K : PySem.W.Frag} {mg : Str → Option Value} {base : Heap} {C : Addr}
theorem scRInit : FnScope ["self", "text", "ways"] ["self", "text"] (defScope sRule_init) := ⟨rfl, rfl, rfl, by decide +kernel, rfl, by decide +kernel, by decide +kernel⟩
theorem ok_rInitX {A D f : Addr} {fd : FuncData} (F : Fun K "__init__" "Rule.__init__" sRule_init f fd) (rc : RuC K C) (GW : GotX P w K mg base "ways_of" 3 ["text"] (spWaysX A D)) : FnOk P w K mg base (L2.CX P w) 4 f fd ["self", "text"] (spRInitX C A D) := by
  obtain ⟨fW, fdW, GW, bW, mW, kW⟩ := GW
  refine F.okX scRInit (fun vs H Q E h => ?_) (fun cdv A outer s H vs Q E hr h => ?_)
  · obtain ⟨r, dx, v, rfl, _⟩ := h
    rfl
  · obtain ⟨r, dx, v, rfl, ob, want⟩ := h
    refine ⟨_, pss_cons (ps_set (i := 2) scRInit.nd rfl (.inl rfl) (pe_call GW hr (by rfl) mW kW bW .nil (passes_call (takes_of rfl rfl rfl rfl) (fun _ _ _ _ h => h)) (pa_cons (pv 1) pa_nil)))
      (pss_cons (ps_fld (pv 0) (pv 1) rfl)
      (pss_cons (ps_fld (pv 0) (pe_ix ix_list (pv 2) pe_int (fun _ _ => rfl)) rfl)
      (pss_cons (ps_fld (pv 0) (pe_ix ix_list (pv 2) pe_int (fun _ _ => rfl)) rfl)
      (pss_cons (ps_fld (pv 0) (pe_ix ix_list (pv 2) pe_int (fun _ _ => rfl)) rfl)
      (pss_cons (ps_fld (pv 0) (pe_ix ix_list (pv 2) pe_int (fun _ _ => rfl)) rfl)
      (pss_one (ps_fld (pv 0) (pe_ix ix_list (pv 2) pe_int (fun _ _ => rfl)) rfl))))))), ?_⟩
    have len5 : ∀ {x : Str} {ys : List Way}, readW 1 (Txt.split x "\n") [] = .inr ys → ys.length = 5 := fun h => readW_len _ [] _ (by decide) h
    refine ⟨_, rfl, v, rfl, ?_⟩
    have key : ∀ (ys : List Way), ys.length = 5 → (∀ H', Fr [r] H H' → (∃ fs, H' r = some (.ins C dx fs)) → Q .non H') → ∃ a b c d e, ys = [a, b, c, d, e] := fun ys h _ => by
      match ys, h with
      | [a, b, c, d, e], _ => exact ⟨a, b, c, d, e, rfl⟩
    rcases want with ⟨x, rfl, hl, q1, q2⟩ | h
    · refine .inl ⟨x, rfl, hl, fun ys hy => ?_, q2⟩
      intro H1 Dl e1 hD nD
      have q := q1 ys hy
      obtain ⟨a, b, c, d, e, rfl⟩ := key ys (len5 hy) q
      have nDr : Dl ≠ r := fun z => by rw [z, ob] at nD; cases nD
      have pl : ∀ {k : Str} {v : V} {fs : List (Str × V)} {n : Nat}, fs.length ≤ n → (putF k v fs).length ≤ n + 1 := fun h => Nat.le_trans (putF_len _ _ _) (Nat.succ_le_succ h)
      have ob1 := e1 _ _ ob
      refine ⟨_, rfl, _, rfl, r, C, dx, _, rfl, ob1, rc.cl, rc.n1, by decide, ?_⟩
      generalize hG : upd H1 r (.ins C dx (putF "_text" (.str x) [])) = G1
      have og : G1 r = some (.ins C dx (putF "_text" (.str x) [])) := by rw [← hG]; exact upd_same
      have dg : G1 Dl = some (.lst ([a, b, c, d, e].map Way.v)) := by rw [← hG, upd_ne nDr]; exact hD
      have fr : Fr [r] H G1 := by rw [← hG]; exact Fr.trans (Fr.same e1) (Fr.upd (by simp))
      clear hG
      refine ⟨_, rfl, Dl, _, _, _, rfl, rfl, SqL.of dg, rfl, _, rfl, r, C, dx, _, rfl, og, rc.cl, rc.n2, Nat.lt_of_le_of_lt (pl (Nat.le_refl 0)) (by decide), ?_⟩
      generalize hG : upd G1 r (.ins C dx (putF "every" (a.v) (putF "_text" (.str x) []))) = G2
      have og : G2 r = some (.ins C dx (putF "every" (a.v) (putF "_text" (.str x) []))) := by rw [← hG]; exact upd_same
      have dg : G2 Dl = some (.lst ([a, b, c, d, e].map Way.v)) := by rw [← hG, upd_ne nDr]; exact dg
      have fr : Fr [r] H G2 := by rw [← hG]; exact Fr.trans fr (Fr.upd (by simp))
      clear hG
      refine ⟨_, rfl, Dl, _, _, _, rfl, rfl, SqL.of dg, rfl, _, rfl, r, C, dx, _, rfl, og, rc.cl, rc.n3, Nat.lt_of_le_of_lt (pl (pl (Nat.le_refl 0))) (by decide), ?_⟩
      generalize hG : upd G2 r (.ins C dx (putF "behind" (b.v) (putF "every" (a.v) (putF "_text" (.str x) [])))) = G3
      have og : G3 r = some (.ins C dx (putF "behind" (b.v) (putF "every" (a.v) (putF "_text" (.str x) [])))) := by rw [← hG]; exact upd_same
      have dg : G3 Dl = some (.lst ([a, b, c, d, e].map Way.v)) := by rw [← hG, upd_ne nDr]; exact dg
      have fr : Fr [r] H G3 := by rw [← hG]; exact Fr.trans fr (Fr.upd (by simp))
      clear hG
      refine ⟨_, rfl, Dl, _, _, _, rfl, rfl, SqL.of dg, rfl, _, rfl, r, C, dx, _, rfl, og, rc.cl, rc.n4, Nat.lt_of_le_of_lt (pl (pl (pl (Nat.le_refl 0)))) (by decide), ?_⟩
      generalize hG : upd G3 r (.ins C dx (putF "late" (c.v) (putF "behind" (b.v) (putF "every" (a.v) (putF "_text" (.str x) []))))) = G4
      have og : G4 r = some (.ins C dx (putF "late" (c.v) (putF "behind" (b.v) (putF "every" (a.v) (putF "_text" (.str x) []))))) := by rw [← hG]; exact upd_same
      have dg : G4 Dl = some (.lst ([a, b, c, d, e].map Way.v)) := by rw [← hG, upd_ne nDr]; exact dg
      have fr : Fr [r] H G4 := by rw [← hG]; exact Fr.trans fr (Fr.upd (by simp))
      clear hG
      refine ⟨_, rfl, Dl, _, _, _, rfl, rfl, SqL.of dg, rfl, _, rfl, r, C, dx, _, rfl, og, rc.cl, rc.n5, Nat.lt_of_le_of_lt (pl (pl (pl (pl (Nat.le_refl 0))))) (by decide), ?_⟩
      generalize hG : upd G4 r (.ins C dx (putF "block" (d.v) (putF "late" (c.v) (putF "behind" (b.v) (putF "every" (a.v) (putF "_text" (.str x) [])))))) = G5
      have og : G5 r = some (.ins C dx (putF "block" (d.v) (putF "late" (c.v) (putF "behind" (b.v) (putF "every" (a.v) (putF "_text" (.str x) [])))))) := by rw [← hG]; exact upd_same
      have dg : G5 Dl = some (.lst ([a, b, c, d, e].map Way.v)) := by rw [← hG, upd_ne nDr]; exact dg
      have fr : Fr [r] H G5 := by rw [← hG]; exact Fr.trans fr (Fr.upd (by simp))
      clear hG
      refine ⟨_, rfl, Dl, _, _, _, rfl, rfl, SqL.of dg, rfl, _, rfl, r, C, dx, _, rfl, og, rc.cl, rc.n6, Nat.lt_of_le_of_lt (pl (pl (pl (pl (pl (Nat.le_refl 0)))))) (by decide), ?_⟩
      generalize hG : upd G5 r (.ins C dx (putF "rest" (e.v) (putF "block" (d.v) (putF "late" (c.v) (putF "behind" (b.v) (putF "every" (a.v) (putF "_text" (.str x) []))))))) = G6
      have og : G6 r = some (.ins C dx (putF "rest" (e.v) (putF "block" (d.v) (putF "late" (c.v) (putF "behind" (b.v) (putF "every" (a.v) (putF "_text" (.str x) []))))))) := by rw [← hG]; exact upd_same
      have dg : G6 Dl = some (.lst ([a, b, c, d, e].map Way.v)) := by rw [← hG, upd_ne nDr]; exact dg
      have fr : Fr [r] H G6 := by rw [← hG]; exact Fr.trans fr (Fr.upd (by simp))
      clear hG
      exact q _ fr ⟨_, og⟩
    · exact .inr h
end
end Ru
/-! the law: a drawn rule, its text -/
namespace Ru
open PySem PySem.Spec PyProof.Rows L2 Am Hs
abbrev sj (n : Nat) : Str := Str.ofString (toString (n : Int))
theorem sj_len {n : Nat} (h : n ≤ 99) : (sj n).length ≤ 2 := by
  have : ∀ k : Fin 100, (sj k.val).length ≤ 2 := by decide +kernel
  exact this ⟨n, by omega⟩
theorem sj_log {n : Nat} (h : n ≤ 99) : ((n : Int).natAbs).log2 < 1920 := log2_lt (by decide) (Nat.lt_of_le_of_lt (show (n : Int).natAbs ≤ 99 by omega) (by decide))
/-- what a drawn rule is made of -/
structure Due where
  ev : Nat
  be : Str
  la : Str
  bl : Str
  re : Str
structure Due.Ok (d : Due) : Prop where
  ev : 1 ≤ d.ev ∧ d.ev ≤ 14
  be : (d.be = "before" ∨ d.be = "nothing") ∨ ∃ k, k < 10 ∧ d.be = sj k
  la : d.la ∈ [("now" : Str), "back"]
  bl : d.bl ∈ [("days" : Str), "last"]
  re : d.re ∈ [("heads" : Str), "places", "house"]
def Due.lines (d : Due) : List Str := [("every " : Str) ++ sj d.ev, ("behind " : Str) ++ d.be, ("late " : Str) ++ d.la, ("block " : Str) ++ d.bl, ("rest " : Str) ++ d.re]
def Due.text (d : Due) : Str := Txt.join "\n" d.lines
def DueAt (H : Hp) (t : Addr) (d : Due) : Prop := H t = some (.tup [.int d.ev, .str d.be, .str d.la, .str d.bl, .str d.re])
theorem draw {H0 H : Hp} {p l : Addr} {o : HO} {N : Int} (c : Chg p H0 H) (j : JarAt H p N) (nl : H l = none) : JarAt (upd H l o) p N ∧ Chg p H0 (upd H l o) ∧ l ≠ p := by
  have e := same_upd (o := o) nl
  obtain ⟨_, _, _, hp, _⟩ := id j
  exact ⟨j.same e, c.trans (Chg.of e), fun z => by rw [z, hp] at nl; cases nl⟩
def spRule : Sp := fun vs H Q _ => ∃ (p : Addr) (N : Int), vs = [.ref p] ∧ JarAt H p N ∧ N ≤ 9900 ∧ ∀ (H' : Hp) (t : Addr) (d : Due), Chg p H H' → H t = none → JarAt H' p (N + 7) → DueAt H' t d → d.Ok → Q (.ref t) H'
section
variable {P : Program} {w : World} {K : PySem.W.Frag} {mg : Str → Option Value} {base : Heap}
theorem scRule : FnScope ["_law_jar_here", "_law_behind", "_law_every", "_law_rest"] ["_law_jar_here"] (defScope sL_rule) := ⟨rfl, rfl, rfl, by decide +kernel, rfl, by decide +kernel, by decide +kernel⟩
theorem ok_rule {f : Addr} {fd : FuncData} (F : Fun K "_law_rule" "_law_rule" sL_rule f fd) (nst : mg "str" = none) (GT : GotF P w K mg base "_law_take" 1 ["_law_jar_here", "_law_many"] spTake) (GO : GotF P w K mg base "_law_of" 2 ["_law_jar_here", "_law_some"] spOf) : FnOk P w K mg base CX0 3 f fd ["_law_jar_here"] spRule := by
  obtain ⟨fT, fdT, GT, bT, mT, kT⟩ := GT
  obtain ⟨fO, fdO, GO, bO, mO, kO⟩ := GO
  refine F.ok scRule (fun vs H Q E h => ?_) (fun cdv A outer s H vs Q E hr h => ?_)
  · obtain ⟨p, N, rfl, _⟩ := h
    rfl
  · obtain ⟨p, N, rfl, hj, hN, q⟩ := h
    have hr1 : Room 1 _ := hr.mono (by decide)
    have b_str : bootBuiltins "str" = some (.type "str") := by decide +kernel
    refine ⟨_, pss_cons (ps_set (i := 1) scRule.nd rfl (.inl rfl) (pe_call GO hr (by rfl) mO kO bO .nil pass0 (pa_cons (pv 0) (pa_cons (pe_lst (pa_cons pe_str (pa_cons pe_str (pa_cons pe_str (pa_cons (pe_callTy call_str_int (by rfl) nst b_str (pa_cons (pe_call GT hr1 (by rfl) mT kT bT .nil pass0 (pa_cons (pv 0) (pa_cons pe_int pa_nil))) pa_nil)) pa_nil))))) pa_nil))))
      (pss_cons (ps_set (i := 2) scRule.nd rfl (.inl rfl) (pe_call GO hr (by rfl) mO kO bO .nil pass0 (pa_cons (pv 0) (pa_cons (pe_lst (pa_cons pe_int (pa_cons pe_int (pa_cons pe_int (pa_cons pe_int (pa_cons pe_int (pa_cons (pe_op op_add pe_int (pe_call GT hr1 (by rfl) mT kT bT .nil pass0 (pa_cons (pv 0) (pa_cons pe_int pa_nil)))) pa_nil))))))) pa_nil))))
      (pss_cons (ps_set (i := 3) scRule.nd rfl (.inl rfl) (pe_call GO hr (by rfl) mO kO bO .nil pass0 (pa_cons (pv 0) (pa_cons (pe_lst (pa_cons pe_str (pa_cons pe_str (pa_cons pe_str pa_nil)))) pa_nil))))
      (pss_one (ps_ret (pe_tup (pa_cons (pv 2) (pa_cons (pv 1) (pa_cons (pe_call GO hr (by rfl) mO kO bO .nil pass0 (pa_cons (pv 0) (pa_cons (pe_lst (pa_cons pe_str (pa_cons pe_str pa_nil))) pa_nil)))
        (pa_cons (pe_call GO hr (by rfl) mO kO bO .nil pass0 (pa_cons (pv 0) (pa_cons (pe_lst (pa_cons pe_str (pa_cons pe_str (pa_cons pe_str pa_nil)))) pa_nil))) (pa_cons (pv 3) pa_nil)))))))))), ?_⟩
    refine ⟨_, rfl, _, rfl, p, 10, N, rfl, ⟨by decide, by decide⟩, hj, by omega, fun k H1 hk c1 j1 => ?_⟩
    obtain ⟨k0, k1⟩ := hk
    obtain ⟨kn, rfl⟩ := Int.eq_ofNat_of_zero_le k0
    refine ⟨_, rfl, sj_log (by omega), (show 4 ≤ sizeLine by decide), fun l1 nl1 => ?_⟩
    obtain ⟨j1', c1', ne1⟩ := draw c1 j1 nl1
    refine ⟨p, l1, _, _, rfl, upd_same, ne1, ⟨show 0 < 4 by decide, show 4 ≤ 1000 by decide⟩, j1', by omega, fun v H2 hv c2 j2 => ?_⟩
    obtain ⟨be, rfl, hbe⟩ : ∃ be : Str, v = .str be ∧ ((be = "before" ∨ be = "nothing") ∨ ∃ k, k < 10 ∧ be = sj k) := by
      simp only [List.mem_cons, List.not_mem_nil, or_false] at hv
      rcases hv with rfl | rfl | rfl | rfl
      · exact ⟨_, rfl, .inl (.inl rfl)⟩
      · exact ⟨_, rfl, .inl (.inl rfl)⟩
      · exact ⟨_, rfl, .inl (.inr rfl)⟩
      · exact ⟨_, rfl, .inr ⟨kn, by omega, rfl⟩⟩
    replace c2 := c1'.trans c2
    refine ⟨_, rfl, _, rfl, p, 14, _, rfl, ⟨by decide, by decide⟩, j2, by omega, fun m H3 hm c3 j3 => ?_⟩
    obtain ⟨m0, m1⟩ := hm
    replace c3 := c2.trans c3
    refine ⟨_, _, rfl, rfl, (show 6 ≤ sizeLine by decide), fun l2 nl2 => ?_⟩
    obtain ⟨j3', c3', ne2⟩ := draw c3 j3 nl2
    refine ⟨p, l2, _, _, rfl, upd_same, ne2, ⟨show 0 < 6 by decide, show 6 ≤ 1000 by decide⟩, j3', by omega, fun v H4 hv c4 j4 => ?_⟩
    obtain ⟨ev, rfl, hev⟩ : ∃ ev : Nat, v = .int ev ∧ (1 ≤ ev ∧ ev ≤ 14) := by
      obtain ⟨mn, rfl⟩ := Int.eq_ofNat_of_zero_le m0
      simp only [List.mem_cons, List.not_mem_nil, or_false] at hv
      rcases hv with rfl | rfl | rfl | rfl | rfl | rfl
      · exact ⟨1, rfl, by decide, by decide⟩
      · exact ⟨2, rfl, by decide, by decide⟩
      · exact ⟨3, rfl, by decide, by decide⟩
      · exact ⟨4, rfl, by decide, by decide⟩
      · exact ⟨14, rfl, by decide, by decide⟩
      · exact ⟨1 + mn, by rw [Int.natCast_add]; rfl, by omega, by omega⟩
    replace c4 := c3'.trans c4
    refine ⟨_, rfl, by decide, fun l3 nl3 => ?_⟩
    obtain ⟨j4', c4', ne3⟩ := draw c4 j4 nl3
    refine ⟨p, l3, _, _, rfl, upd_same, ne3, ⟨show 0 < 3 by decide, show 3 ≤ 1000 by decide⟩, j4', by omega, fun v H5 hv c5 j5 => ?_⟩
    obtain ⟨re, rfl, hre⟩ : ∃ re : Str, v = .str re ∧ re ∈ [("heads" : Str), "places", "house"] := by
      simp only [List.mem_cons, List.not_mem_nil, or_false] at hv ⊢
      rcases hv with rfl | rfl | rfl <;> exact ⟨_, rfl, by simp⟩
    replace c5 := c4'.trans c5
    refine ⟨_, rfl, _, rfl, _, rfl, by decide, fun l4 nl4 => ?_⟩
    obtain ⟨j5', c5', ne4⟩ := draw c5 j5 nl4
    refine ⟨p, l4, _, _, rfl, upd_same, ne4, ⟨show 0 < 2 by decide, show 2 ≤ 1000 by decide⟩, j5', by omega, fun v H6 hv c6 j6 => ?_⟩
    obtain ⟨la, rfl, hla⟩ : ∃ la : Str, v = .str la ∧ la ∈ [("now" : Str), "back"] := by
      simp only [List.mem_cons, List.not_mem_nil, or_false] at hv ⊢
      rcases hv with rfl | rfl <;> exact ⟨_, rfl, by simp⟩
    replace c6 := c5'.trans c6
    refine ⟨_, rfl, by decide, fun l5 nl5 => ?_⟩
    obtain ⟨j6', c6', ne5⟩ := draw c6 j6 nl5
    refine ⟨p, l5, _, _, rfl, upd_same, ne5, ⟨show 0 < 3 by decide, show 3 ≤ 1000 by decide⟩, j6', by omega, fun v H7 hv c7 j7 => ?_⟩
    obtain ⟨bl, rfl, hbl⟩ : ∃ bl : Str, v = .str bl ∧ bl ∈ [("days" : Str), "last"] := by
      simp only [List.mem_cons, List.not_mem_nil, or_false] at hv ⊢
      rcases hv with rfl | rfl | rfl <;> exact ⟨_, rfl, by simp⟩
    replace c7 := c6'.trans c7
    refine ⟨_, rfl, (show 5 ≤ sizeLine by decide), fun t nt => ?_⟩
    have eT := same_upd (o := .tup [V.int ev, .str be, .str la, .str bl, .str re]) nt
    have ntH : H t = none := by
      obtain ⟨_, _, _, hp, _⟩ := id j7
      have npt : t ≠ p := fun z => by rw [z, hp] at nt; cases nt
      cases z : H t with
      | none => rfl
      | some u => rw [c7 _ _ z npt] at nt; cases nt
    exact q _ t ⟨ev, be, la, bl, re⟩ (c7.trans (Chg.of eT)) ntH ((j7.same eT).mono (by omega)) upd_same ⟨hev, hbe, hla, hbl, hre⟩
end
end Ru
/-! the law: the text of a drawn rule, and that it says its ways -/
namespace Ru
open PySem PySem.Spec PyProof.Rows L2 Am Hs
instance : DecidableEq Way
  | .int n, .int m => if h : n = m then isTrue (by rw [h]) else isFalse fun z => h (Way.int.inj z)
  | .str x, .str y => if h : x = y then isTrue (by rw [h]) else isFalse fun z => h (Way.str.inj z)
  | .int _, .str _ => isFalse fun z => by cases z
  | .str _, .int _ => isFalse fun z => by cases z
def behW (be : Str) : Way := if be = "before" ∨ be = "nothing" then .str be else .int (Mt.num be.cps.toList).toNat
def Due.ways (d : Due) : List Way := [.int d.ev, behW d.be, .str d.la, .str d.bl, .str d.re]
/-- a line of a text: no line feed, short -/
def Ln (x : Str) : Prop := 10 ∉ x.cps.toList ∧ x.length ≤ 20 ∧ (x.cps.toList.all fun c => decide (c < 256)) = true
instance (x : Str) : Decidable (Ln x) := by unfold Ln; infer_instance
theorem w_ev {k : Nat} (h : 1 ≤ k ∧ k ≤ 14) : wayOf (("every " : Str) ++ sj k) "every" = some (.int k) ∧ Ln (("every " : Str) ++ sj k) := by
  have : ∀ k : Fin 15, 1 ≤ k.val → wayOf (("every " : Str) ++ sj k.val) "every" = some (.int k.val) ∧ Ln (("every " : Str) ++ sj k.val) := by decide +kernel
  exact this ⟨k, by omega⟩ h.1
theorem beh_cases {be : Str} (h : (be = "before" ∨ be = "nothing") ∨ ∃ k, k < 10 ∧ be = sj k) (R : Str → Prop) (h1 : R "before") (h2 : R "nothing") (h3 : ∀ k : Fin 10, R (sj k.val)) : R be := by
  rcases h with (rfl | rfl) | ⟨k, hk, rfl⟩
  · exact h1
  · exact h2
  · exact h3 ⟨k, hk⟩
theorem w_be {be : Str} (h : (be = "before" ∨ be = "nothing") ∨ ∃ k, k < 10 ∧ be = sj k) : wayOf (("behind " : Str) ++ be) "behind" = some (behW be) ∧ Ln (("behind " : Str) ++ be) :=
  beh_cases h (fun be => wayOf (("behind " : Str) ++ be) "behind" = some (behW be) ∧ Ln (("behind " : Str) ++ be)) (by decide +kernel) (by decide +kernel) (by decide +kernel)
theorem w_la : ∀ x ∈ [("now" : Str), "back"], wayOf (("late " : Str) ++ x) "late" = some (.str x) ∧ Ln (("late " : Str) ++ x) := by decide +kernel
theorem w_bl : ∀ x ∈ [("days" : Str), "last"], wayOf (("block " : Str) ++ x) "block" = some (.str x) ∧ Ln (("block " : Str) ++ x) := by decide +kernel
theorem w_re : ∀ x ∈ [("heads" : Str), "places", "house"], wayOf (("rest " : Str) ++ x) "rest" = some (.str x) ∧ Ln (("rest " : Str) ++ x) := by decide +kernel
theorem Due.Ok.ln {d : Due} (h : d.Ok) : ∀ l ∈ d.lines, Ln l := by
  intro l hl
  unfold Due.lines at hl
  simp only [List.mem_cons, List.not_mem_nil, or_false] at hl
  rcases hl with rfl | rfl | rfl | rfl | rfl
  · exact (w_ev h.ev).2
  · exact (w_be h.be).2
  · exact (w_la _ h.la).2
  · exact (w_bl _ h.bl).2
  · exact (w_re _ h.re).2
theorem Due.Ok.split {d : Due} (h : d.Ok) : Txt.split d.text "\n" = d.lines := by
  unfold Due.text
  have hl := h.ln
  rw [SL.nl_10]
  unfold Due.lines at hl ⊢
  exact SL.split_join 10 _ _ (fun p hp => (hl p hp).1) (fun x => SL.kind_ge (by decide) x)
theorem Due.Ok.len {d : Due} (h : d.Ok) : d.text.length ≤ 200 := by
  have hl := h.ln
  unfold Due.text Due.lines at *
  rw [SL.join_len]
  have a0 := (hl (("every " : Str) ++ sj d.ev) (by simp)).2.1
  have a1 := (hl (("behind " : Str) ++ d.be) (by simp)).2.1
  have a2 := (hl (("late " : Str) ++ d.la) (by simp)).2.1
  have a3 := (hl (("block " : Str) ++ d.bl) (by simp)).2.1
  have a4 := (hl (("rest " : Str) ++ d.re) (by simp)).2.1
  have n1 : ("\n" : Str).length = 1 := rfl
  simp only [List.map_cons, List.map_nil, List.sum_cons, List.sum_nil, n1]
  omega
theorem Due.Ok.lo {d : Due} (h : d.Ok) : ∀ c ∈ d.text.cps.toList, c < 256 := by
  have hl := h.ln
  unfold Due.text Due.lines at *
  intro c hc
  rw [SL.join_list] at hc
  have lo : ∀ {x : Str}, Ln x → c ∈ x.cps.toList → c < 256 := fun h m => of_decide_eq_true (List.all_eq_true.mp h.2.2 c m)
  rcases List.mem_append.mp hc with z | z
  · exact lo (hl _ (List.mem_cons_self ..)) z
  · obtain ⟨p, hp, z⟩ := List.mem_flatMap.mp z
    rcases List.mem_append.mp z with z | z
    · rw [show ("\n" : Str).cps.toList = [10] from rfl] at z
      rw [List.mem_singleton.mp z]
      decide
    · exact lo (hl _ (List.mem_cons_of_mem _ hp)) z
def spRuleText : Sp := fun vs H Q _ => ∃ (t : Addr) (d : Due), vs = [.ref t] ∧ DueAt H t d ∧ d.Ok ∧ ∀ H', Same H H' → Q (.str d.text) H'
section
variable {P : Program} {w : World} {K : PySem.W.Frag} {mg : Str → Option Value} {base : Heap}
theorem scRuleText : FnScope ["_law_rule_here", "_law_words"] ["_law_rule_here"] (defScope sL_rule_text) := ⟨rfl, rfl, rfl, by decide +kernel, rfl, by decide +kernel, by decide +kernel⟩
theorem ok_ruleText {f : Addr} {fd : FuncData} (F : Fun K "_law_rule_text" "_law_rule_text" sL_rule_text f fd) (nst : mg "str" = none) : FnOk P w K mg base CX0 1 f fd ["_law_rule_here"] spRuleText := by
  refine F.ok scRuleText (fun vs H Q E h => ?_) (fun cdv A outer s H vs Q E hr h => ?_)
  · obtain ⟨t, d, rfl, _⟩ := h
    rfl
  · obtain ⟨t, d, rfl, ht, ok, q⟩ := h
    have b_str : bootBuiltins "str" = some (.type "str") := by decide +kernel
    refine ⟨_, pss_cons (ps_set (i := 1) scRuleText.nd rfl (.inl rfl) (pe_lst (pa_cons (pe_op op_add_str pe_str (pe_callTy call_str_int (by rfl) nst b_str (pa_cons (pe_ix ix_tup (pv 0) pe_int (fun _ _ => rfl)) pa_nil)))
        (pa_cons (pe_op op_add_str pe_str (pe_ix ix_tup (pv 0) pe_int (fun _ _ => rfl))) (pa_cons (pe_op op_add_str pe_str (pe_ix ix_tup (pv 0) pe_int (fun _ _ => rfl))) (pa_cons (pe_op op_add_str pe_str (pe_ix ix_tup (pv 0) pe_int (fun _ _ => rfl))) (pa_cons (pe_op op_add_str pe_str (pe_ix ix_tup (pv 0) pe_int (fun _ _ => rfl))) pa_nil)))))))
      (pss_one (ps_ret (pe_join pe_str (pv 1)))), ?_⟩
    have ln := ok.ln
    unfold Due.lines at ln
    have big : ∀ {x y : Str}, Ln (x ++ y) → x.length + y.length ≤ sizeLine := fun h => by
      have := h.2.1
      rw [strLen_append] at this
      exact Nat.le_trans (show _ ≤ 20 by omega) (by decide)
    have dev := ok.ev
    refine ⟨_, rfl, t, _, _, _, rfl, rfl, SqT.of ht, rfl, _, rfl, sj_log (by omega), _, _, rfl, rfl, big (ln _ (List.mem_cons_self ..)), ?_⟩
    refine ⟨_, rfl, t, _, _, _, rfl, rfl, SqT.of ht, rfl, _, _, rfl, rfl, big (ln _ (by simp)), ?_⟩
    refine ⟨_, rfl, t, _, _, _, rfl, rfl, SqT.of ht, rfl, _, _, rfl, rfl, big (ln _ (by simp)), ?_⟩
    refine ⟨_, rfl, t, _, _, _, rfl, rfl, SqT.of ht, rfl, _, _, rfl, rfl, big (ln _ (by simp)), ?_⟩
    refine ⟨_, rfl, t, _, _, _, rfl, rfl, SqT.of ht, rfl, _, _, rfl, rfl, big (ln _ (by simp)), (show 5 ≤ sizeLine by decide), fun l nl => ?_⟩
    refine ⟨⟨_, rfl⟩, _, rfl, _, l, d.lines, rfl, rfl, .inl (SqL.of upd_same), ?_, q _ (same_upd nl)⟩
    have a0 := (ln (("every " : Str) ++ sj d.ev) (by simp)).2.1
    have a1 := (ln (("behind " : Str) ++ d.be) (by simp)).2.1
    have a2 := (ln (("late " : Str) ++ d.la) (by simp)).2.1
    have a3 := (ln (("block " : Str) ++ d.bl) (by simp)).2.1
    have a4 := (ln (("rest " : Str) ++ d.re) (by simp)).2.1
    have n1 : ("\n" : Str).length = 1 := rfl
    unfold Due.lines
    simp only [List.map_cons, List.map_nil, List.sum_cons, List.sum_nil, n1, List.length_cons, List.length_nil]
    omega
end
end Ru
/-! the law: odd values -/
namespace Ru
open PySem PySem.Spec PyProof.Rows L2 Am Hs
/-- a value of a built-in type, or an instance of D -/
def Odd (D : Addr) (H : Hp) (v : V) : Prop := (∃ T, Bk H v T) ∨ ∃ b dy gs, v = .ref b ∧ H b = some (.ins D dy gs)
theorem Odd.same {D : Addr} {H H' : Hp} {v : V} (h : Odd D H v) (e : Same H H') : Odd D H' v := h.elim (fun ⟨T, b⟩ => .inl ⟨T, b.same e⟩) fun ⟨b, dy, gs, a, z⟩ => .inr ⟨b, dy, gs, a, e _ _ z⟩
theorem Bk.chg {p : Addr} {H H' : Hp} {v : V} {T : String} (h : Bk H v T) (n : v ≠ .ref p) (c : Chg p H H') : Bk H' v T := by
  have ne : ∀ {a : Addr}, V.ref a ≠ V.ref p → a ≠ p := fun h z => h (by rw [z])
  cases h with
  | non => exact .non
  | bl b => exact .bl b
  | int i => exact .int i
  | str z => exact .str z
  | lst h => exact .lst (c _ _ h (ne n))
  | tup h => exact .tup (c _ _ h (ne n))
  | dK h => exact .dK (c _ _ h (ne n))
theorem Odd.chg {D p : Addr} {H H' : Hp} {v : V} {N : Int} (h : Odd D H v) (j : JarAt H p N) (n : v ≠ .ref p) (c : Chg p H H') : Odd D H' v := by
  obtain ⟨_, _, _, hp, _⟩ := j
  rcases h with ⟨T, b⟩ | ⟨b, dy, gs, rfl, z⟩
  · exact .inl ⟨T, Bk.chg b n c⟩
  · exact .inr ⟨b, dy, gs, rfl, c _ _ z (ne_of z hp (by intro q; cases q))⟩
def spOdd (D : Addr) : Sp := fun vs H Q _ => ∃ (p : Addr) (N : Int), vs = [.ref p] ∧ JarAt H p N ∧ N ≤ 9900 ∧ ∀ (H' : Hp) (v : V), Chg p H H' → JarAt H' p (N + 1) → Odd D H' v → v ≠ .ref p → (∀ z, v = .str z → z.length ≤ 600) → Q v H'
section
variable {P : Program} {w : World} {K : PySem.W.Frag} {mg : Str → Option Value} {base : Heap} {D : Addr}
theorem scOdd : FnScope ["_law_jar_here", "_law_some"] ["_law_jar_here"] (defScope sL_odd) := ⟨rfl, rfl, rfl, by decide +kernel, rfl, by decide +kernel, by decide +kernel⟩
theorem ok_odd {f : Addr} {fd : FuncData} (F : Fun K "_law_odd" "_law_odd" sL_odd f fd) (mA : mg "Amount" = some (.ref D)) (GI : GotI P w K mg base D) (GO : GotF P w K mg base "_law_of" 2 ["_law_jar_here", "_law_some"] spOf) : FnOk P w K mg base CX0 4 f fd ["_law_jar_here"] (spOdd D) := by
  obtain ⟨fI, fdI, GI, bI, ⟨ds, v2, b2⟩, MkI⟩ := GI
  obtain ⟨fO, fdO, GO, bO, mO, kO⟩ := GO
  refine F.ok scOdd (fun vs H Q E h => ?_) (fun cdv A outer s H vs Q E hr h => ?_)
  · obtain ⟨p, N, rfl, _⟩ := h
    rfl
  · obtain ⟨p, N, rfl, hj, hN, q⟩ := h
    have hr2 : Room 2 _ := hr.mono (by decide)
    refine ⟨_, pss_cons (ps_set (i := 1) scOdd.nd rfl (.inl rfl) (pe_lst (pa_cons pe_non (pa_cons pe_bl (pa_cons pe_bl (pa_cons pe_int (pa_cons pe_int (pa_cons (pe_un un_neg pe_int) (pa_cons pe_int (pa_cons pe_int (pa_cons pe_str (pa_cons pe_str (pa_cons pe_str (pa_cons pe_str (pa_cons (pe_tup pa_nil) (pa_cons (pe_tup (pa_cons pe_int pa_nil)) (pa_cons (pe_tup (pa_cons pe_str (pa_cons pe_int pa_nil))) (pa_cons (pe_lst pa_nil) (pa_cons (pe_lst (pa_cons pe_int pa_nil)) (pa_cons pe_dnewK (pa_cons (pe_disp (pps_cons pe_str pe_int pps_nil) (by rfl) (by rfl) (by simp) (by decide)) pa_nil)))))))))))))))))))))
      (pss_one (ps_ret (pe_call GO hr2 (by rfl) mO kO bO .nil pass0 (pa_cons (pv 0) (pa_cons (pe_op op_cat (pv 1) (pe_lst (pa_cons (pe_tup (pa_cons (pe_tup pa_nil) pa_nil)) (pa_cons (pe_tup (pa_cons pe_int (pa_cons pe_int (pa_cons pe_int pa_nil)))) (pa_cons pe_int (pa_cons pe_str (pa_cons pe_str (pa_cons (pe_tup (pa_cons pe_str (pa_cons pe_bl pa_nil))) (pa_cons (pe_un un_neg pe_int) (pa_cons (pe_make MkI GI hr (by rfl) mA b2 v2 pass0 (pa_cons pe_int pa_nil)) (pa_cons (pe_make MkI GI hr (by rfl) mA bI .nil pass0 (pa_cons pe_int (pa_cons pe_int pa_nil))) pa_nil))))))))))) pa_nil))))), ?_⟩
    refine ⟨_, rfl, (show 0 ≤ sizeLine by decide), fun t0 nt0 => ?_⟩
    have e1 := same_upd (o := .tup []) nt0
    have ot0 := upd_same (H := H) (a := t0) (o := .tup [])
    have es := e1
    generalize upd H t0 (.tup []) = A1 at *
    clear e1 nt0
    refine ⟨(show 1 ≤ sizeLine by decide), fun t1 nt1 => ?_⟩
    have e2 := same_upd (o := .tup [.int 1]) nt1
    have ot1 := upd_same (H := A1) (a := t1) (o := .tup [.int 1])
    replace ot0 := e2 _ _ ot0
    replace es := es.trans e2
    generalize upd A1 t1 (.tup [.int 1]) = A2 at *
    clear e2 nt1
    refine ⟨(show 2 ≤ sizeLine by decide), fun t2 nt2 => ?_⟩
    have e3 := same_upd (o := .tup [.str "main", .int 1]) nt2
    have ot2 := upd_same (H := A2) (a := t2) (o := .tup [.str "main", .int 1])
    replace ot0 := e3 _ _ ot0
    replace ot1 := e3 _ _ ot1
    replace es := es.trans e3
    generalize upd A2 t2 (.tup [.str "main", .int 1]) = A3 at *
    clear e3 nt2
    refine ⟨(show 0 ≤ sizeLine by decide), fun l0 nl0 => ?_⟩
    have e4 := same_upd (o := .lst []) nl0
    have ol0 := upd_same (H := A3) (a := l0) (o := .lst [])
    replace ot0 := e4 _ _ ot0
    replace ot1 := e4 _ _ ot1
    replace ot2 := e4 _ _ ot2
    replace es := es.trans e4
    generalize upd A3 l0 (.lst []) = A4 at *
    clear e4 nl0
    refine ⟨(show 1 ≤ sizeLine by decide), fun l1 nl1 => ?_⟩
    have e5 := same_upd (o := .lst [.int 1]) nl1
    have ol1 := upd_same (H := A4) (a := l1) (o := .lst [.int 1])
    replace ot0 := e5 _ _ ot0
    replace ot1 := e5 _ _ ot1
    replace ot2 := e5 _ _ ot2
    replace ol0 := e5 _ _ ol0
    replace es := es.trans e5
    generalize upd A4 l1 (.lst [.int 1]) = A5 at *
    clear e5 nl1
    refine fun d0 nd0 => ?_
    have e6 := same_upd (o := .dK []) nd0
    have od0 := upd_same (H := A5) (a := d0) (o := .dK [])
    replace ot0 := e6 _ _ ot0
    replace ot1 := e6 _ _ ot1
    replace ot2 := e6 _ _ ot2
    replace ol0 := e6 _ _ ol0
    replace ol1 := e6 _ _ ol1
    replace es := es.trans e6
    generalize upd A5 d0 (.dK []) = A6 at *
    clear e6 nd0
    refine fun d1 nd1 => ?_
    have sd : Same A6 (upd (upd A6 d1 (.dK [])) d1 (.dK (mergeK [] [((.inr "a" : Key), V.int 1)]))) := fun b u e => by
      have n := ne_of_none e nd1
      rw [upd_ne n, upd_ne n]
      exact e
    have od1 := upd_same (H := upd A6 d1 (.dK [])) (a := d1) (o := .dK (mergeK [] [((.inr "a" : Key), V.int 1)]))
    refine ⟨upd_same, [(.inr "a", .int 1)], rfl, by decide, (show 19 ≤ sizeLine by decide), fun lq nlq => ?_⟩
    replace ot0 := sd _ _ ot0
    replace ot1 := sd _ _ ot1
    replace ot2 := sd _ _ ot2
    replace ol0 := sd _ _ ol0
    replace ol1 := sd _ _ ol1
    replace od0 := sd _ _ od0
    replace es := es.trans sd
    generalize upd (upd A6 d1 (.dK [])) d1 (.dK (mergeK [] [((.inr "a" : Key), V.int 1)])) = A7 at *
    clear sd nd1
    have e8 := same_upd (o := .lst [V.non, .bl true, .bl false, .int 0, .int 1, .int (-1), .int 2, .int 15, .str "", .str "main", .str "house", .str "a", .ref t0, .ref t1, .ref t2, .ref l0, .ref l1, .ref d0, .ref d1]) nlq
    have olq := upd_same (H := A7) (a := lq) (o := .lst [V.non, .bl true, .bl false, .int 0, .int 1, .int (-1), .int 2, .int 15, .str "", .str "main", .str "house", .str "a", .ref t0, .ref t1, .ref t2, .ref l0, .ref l1, .ref d0, .ref d1])
    replace ot0 := e8 _ _ ot0
    replace ot1 := e8 _ _ ot1
    replace ot2 := e8 _ _ ot2
    replace ol0 := e8 _ _ ol0
    replace ol1 := e8 _ _ ol1
    replace od0 := e8 _ _ od0
    replace od1 := e8 _ _ od1
    replace es := es.trans e8
    generalize hA8 : upd A7 lq _ = A8 at *
    clear e8 nlq hA8
    refine ⟨_, rfl, _, rfl, (show 0 ≤ sizeLine by decide), fun t3 nt3 => ?_⟩
    have e1 := same_upd (o := .tup []) nt3
    have ot3 := upd_same (H := A8) (a := t3) (o := .tup [])
    replace ot0 := e1 _ _ ot0
    replace ot1 := e1 _ _ ot1
    replace ot2 := e1 _ _ ot2
    replace ol0 := e1 _ _ ol0
    replace ol1 := e1 _ _ ol1
    replace od0 := e1 _ _ od0
    replace od1 := e1 _ _ od1
    replace olq := e1 _ _ olq
    replace es := es.trans e1
    generalize upd A8 t3 (.tup []) = B1 at *
    clear e1 nt3
    refine ⟨(show 1 ≤ sizeLine by decide), fun t4 nt4 => ?_⟩
    have e2 := same_upd (o := .tup [.ref t3]) nt4
    have ot4 := upd_same (H := B1) (a := t4) (o := .tup [.ref t3])
    replace ot0 := e2 _ _ ot0
    replace ot1 := e2 _ _ ot1
    replace ot2 := e2 _ _ ot2
    replace ol0 := e2 _ _ ol0
    replace ol1 := e2 _ _ ol1
    replace od0 := e2 _ _ od0
    replace od1 := e2 _ _ od1
    replace olq := e2 _ _ olq
    replace ot3 := e2 _ _ ot3
    replace es := es.trans e2
    generalize upd B1 t4 (.tup [.ref t3]) = B2 at *
    clear e2 nt4
    refine ⟨(show 3 ≤ sizeLine by decide), fun t5 nt5 => ?_⟩
    have e3 := same_upd (o := .tup [.int 1, .int 2, .int 3]) nt5
    have ot5 := upd_same (H := B2) (a := t5) (o := .tup [.int 1, .int 2, .int 3])
    replace ot0 := e3 _ _ ot0
    replace ot1 := e3 _ _ ot1
    replace ot2 := e3 _ _ ot2
    replace ol0 := e3 _ _ ol0
    replace ol1 := e3 _ _ ol1
    replace od0 := e3 _ _ od0
    replace od1 := e3 _ _ od1
    replace olq := e3 _ _ olq
    replace ot3 := e3 _ _ ot3
    replace ot4 := e3 _ _ ot4
    replace es := es.trans e3
    generalize upd B2 t5 (.tup [.int 1, .int 2, .int 3]) = B3 at *
    clear e3 nt5
    refine ⟨(show 2 ≤ sizeLine by decide), fun t6 nt6 => ?_⟩
    have e4 := same_upd (o := .tup [.str "a", .bl true]) nt6
    have ot6 := upd_same (H := B3) (a := t6) (o := .tup [.str "a", .bl true])
    replace ot0 := e4 _ _ ot0
    replace ot1 := e4 _ _ ot1
    replace ot2 := e4 _ _ ot2
    replace ol0 := e4 _ _ ol0
    replace ol1 := e4 _ _ ol1
    replace od0 := e4 _ _ od0
    replace od1 := e4 _ _ od1
    replace olq := e4 _ _ olq
    replace ot3 := e4 _ _ ot3
    replace ot4 := e4 _ _ ot4
    replace ot5 := e4 _ _ ot5
    replace es := es.trans e4
    generalize upd B3 t6 (.tup [.str "a", .bl true]) = B4 at *
    clear e4 nt6
    refine ⟨_, rfl, ?_⟩
    intro a1 da1 na1 nda1 nad1
    have m1 : Same B4 (upd (upd B4 da1 (.own a1)) a1 (.ins D da1 [])) := (same_upd nda1).trans (same_upd (by rw [upd_ne (Ne.symm nad1)]; exact na1))
    refine ⟨a1, da1, 1, 1, rfl, upd_same, by decide, (show Bd 3 1 by unfold Bd; decide).mono (by decide), (show Bd 3 1 by unfold Bd; decide).mono (by decide), fun C1 oa1 hk1 => ⟨rfl, ?_⟩⟩
    have e1 : Same B4 C1 := fun b u e => hk1 _ _ (m1 _ _ e) (ne_of_none e na1)
    replace ot0 := e1 _ _ ot0
    replace ot1 := e1 _ _ ot1
    replace ot2 := e1 _ _ ot2
    replace ol0 := e1 _ _ ol0
    replace ol1 := e1 _ _ ol1
    replace od0 := e1 _ _ od0
    replace od1 := e1 _ _ od1
    replace olq := e1 _ _ olq
    replace ot3 := e1 _ _ ot3
    replace ot4 := e1 _ _ ot4
    replace ot5 := e1 _ _ ot5
    replace ot6 := e1 _ _ ot6
    replace es := es.trans e1
    clear e1 hk1 m1 na1 nda1 nad1
    intro a2 da2 na2 nda2 nad2
    have m2 : Same C1 (upd (upd C1 da2 (.own a2)) a2 (.ins D da2 [])) := (same_upd nda2).trans (same_upd (by rw [upd_ne (Ne.symm nad2)]; exact na2))
    refine ⟨a2, da2, 1, 2, rfl, upd_same, by decide, (show Bd 3 1 by unfold Bd; decide).mono (by decide), (show Bd 3 2 by unfold Bd; decide).mono (by decide), fun C2 oa2 hk2 => ⟨rfl, ?_⟩⟩
    have e2 : Same C1 C2 := fun b u e => hk2 _ _ (m2 _ _ e) (ne_of_none e na2)
    replace ot0 := e2 _ _ ot0
    replace ot1 := e2 _ _ ot1
    replace ot2 := e2 _ _ ot2
    replace ol0 := e2 _ _ ol0
    replace ol1 := e2 _ _ ol1
    replace od0 := e2 _ _ od0
    replace od1 := e2 _ _ od1
    replace olq := e2 _ _ olq
    replace ot3 := e2 _ _ ot3
    replace ot4 := e2 _ _ ot4
    replace ot5 := e2 _ _ ot5
    replace ot6 := e2 _ _ ot6
    replace oa1 := e2 _ _ oa1
    replace es := es.trans e2
    clear e2 hk2 m2 na2 nda2 nad2
    refine ⟨(show 9 ≤ sizeLine by decide), fun lm nlm => ?_⟩
    have e9 := same_upd (o := .lst [V.ref t4, .ref t5, .int 10000, .str "1", .str "rest", .ref t6, .int (-99999), .ref a1, .ref a2]) nlm
    have olm := upd_same (H := C2) (a := lm) (o := .lst [V.ref t4, .ref t5, .int 10000, .str "1", .str "rest", .ref t6, .int (-99999), .ref a1, .ref a2])
    replace ot0 := e9 _ _ ot0
    replace ot1 := e9 _ _ ot1
    replace ot2 := e9 _ _ ot2
    replace ol0 := e9 _ _ ol0
    replace ol1 := e9 _ _ ol1
    replace od0 := e9 _ _ od0
    replace od1 := e9 _ _ od1
    replace olq := e9 _ _ olq
    replace ot3 := e9 _ _ ot3
    replace ot4 := e9 _ _ ot4
    replace ot5 := e9 _ _ ot5
    replace ot6 := e9 _ _ ot6
    replace oa1 := e9 _ _ oa1
    replace oa2 := e9 _ _ oa2
    replace es := es.trans e9
    generalize hD0 : upd C2 lm _ = D0 at *
    clear e9 nlm hD0
    refine ⟨lq, lm, _, _, rfl, rfl, olq, olm, (show 28 ≤ sizeLine by decide), fun lc nlc => ?_⟩
    have eC := same_upd (o := .lst ([V.non, .bl true, .bl false, .int 0, .int 1, .int (-1), .int 2, .int 15, .str "", .str "main", .str "house", .str "a", .ref t0, .ref t1, .ref t2, .ref l0, .ref l1, .ref d0, .ref d1] ++ [V.ref t4, .ref t5, .int 10000, .str "1", .str "rest", .ref t6, .int (-99999), .ref a1, .ref a2])) nlc
    have olc := upd_same (H := D0) (a := lc) (o := .lst ([V.non, .bl true, .bl false, .int 0, .int 1, .int (-1), .int 2, .int 15, .str "", .str "main", .str "house", .str "a", .ref t0, .ref t1, .ref t2, .ref l0, .ref l1, .ref d0, .ref d1] ++ [V.ref t4, .ref t5, .int 10000, .str "1", .str "rest", .ref t6, .int (-99999), .ref a1, .ref a2]))
    have odd0 : ∀ v ∈ [V.non, .bl true, .bl false, .int 0, .int 1, .int (-1), .int 2, .int 15, .str "", .str "main", .str "house", .str "a", .ref t0, .ref t1, .ref t2, .ref l0, .ref l1, .ref d0, .ref d1] ++ [V.ref t4, .ref t5, .int 10000, .str "1", .str "rest", .ref t6, .int (-99999), .ref a1, .ref a2], Odd D D0 v := by
      intro v hv
      simp only [List.cons_append, List.nil_append, List.mem_cons, List.not_mem_nil, or_false] at hv
      rcases hv with rfl | rfl | rfl | rfl | rfl | rfl | rfl | rfl | rfl | rfl | rfl | rfl | rfl | rfl | rfl | rfl | rfl | rfl | rfl | rfl | rfl | rfl | rfl | rfl | rfl | rfl | rfl | rfl
      · exact .inl ⟨_, .non⟩
      · exact .inl ⟨_, .bl _⟩
      · exact .inl ⟨_, .bl _⟩
      · exact .inl ⟨_, .int _⟩
      · exact .inl ⟨_, .int _⟩
      · exact .inl ⟨_, .int _⟩
      · exact .inl ⟨_, .int _⟩
      · exact .inl ⟨_, .int _⟩
      · exact .inl ⟨_, .str _⟩
      · exact .inl ⟨_, .str _⟩
      · exact .inl ⟨_, .str _⟩
      · exact .inl ⟨_, .str _⟩
      · exact .inl ⟨_, .tup ot0⟩
      · exact .inl ⟨_, .tup ot1⟩
      · exact .inl ⟨_, .tup ot2⟩
      · exact .inl ⟨_, .lst ol0⟩
      · exact .inl ⟨_, .lst ol1⟩
      · exact .inl ⟨_, .dK od0⟩
      · exact .inl ⟨_, .dK od1⟩
      · exact .inl ⟨_, .tup ot4⟩
      · exact .inl ⟨_, .tup ot5⟩
      · exact .inl ⟨_, .int _⟩
      · exact .inl ⟨_, .str _⟩
      · exact .inl ⟨_, .str _⟩
      · exact .inl ⟨_, .tup ot6⟩
      · exact .inl ⟨_, .int _⟩
      · exact .inr ⟨_, _, _, rfl, oa1⟩
      · exact .inr ⟨_, _, _, rfl, oa2⟩
    have j0 := hj.same es
    have np0 : ∀ v ∈ [V.non, .bl true, .bl false, .int 0, .int 1, .int (-1), .int 2, .int 15, .str "", .str "main", .str "house", .str "a", .ref t0, .ref t1, .ref t2, .ref l0, .ref l1, .ref d0, .ref d1] ++ [V.ref t4, .ref t5, .int 10000, .str "1", .str "rest", .ref t6, .int (-99999), .ref a1, .ref a2], v ≠ .ref p := by
      obtain ⟨o, m, c, hp, _⟩ := id j0
      have ref : ∀ {a : Addr} {ob : HO}, D0 a = some ob → ob ≠ .lst [.int o, .int m, .int c] → V.ref a ≠ .ref p := fun h n z => by
        rw [V.ref.inj z, hp] at h
        exact n (Option.some.inj h).symm
      intro v hv
      simp only [List.cons_append, List.nil_append, List.mem_cons, List.not_mem_nil, or_false] at hv
      rcases hv with rfl | rfl | rfl | rfl | rfl | rfl | rfl | rfl | rfl | rfl | rfl | rfl | rfl | rfl | rfl | rfl | rfl | rfl | rfl | rfl | rfl | rfl | rfl | rfl | rfl | rfl | rfl | rfl <;>
        first | (intro z; cases z; done) | exact ref ot0 (by intro z; cases z) | exact ref ot1 (by intro z; cases z) | exact ref ot2 (by intro z; cases z) | exact ref ol0 (by intro z; cases z) | exact ref ol1 (by intro z; cases z) | exact ref od0 (by intro z; cases z) | exact ref od1 (by intro z; cases z) | exact ref ot4 (by intro z; cases z) | exact ref ot5 (by intro z; cases z) | exact ref ot6 (by intro z; cases z) | exact ref oa1 (by intro z; cases z) | exact ref oa2 (by intro z; cases z)
    have sh0 : ∀ v ∈ [V.non, .bl true, .bl false, .int 0, .int 1, .int (-1), .int 2, .int 15, .str "", .str "main", .str "house", .str "a", .ref t0, .ref t1, .ref t2, .ref l0, .ref l1, .ref d0, .ref d1] ++ [V.ref t4, .ref t5, .int 10000, .str "1", .str "rest", .ref t6, .int (-99999), .ref a1, .ref a2], ∀ z, v = .str z → z.length ≤ 600 := by
      intro v hv
      simp only [List.cons_append, List.nil_append, List.mem_cons, List.not_mem_nil, or_false] at hv
      rcases hv with rfl | rfl | rfl | rfl | rfl | rfl | rfl | rfl | rfl | rfl | rfl | rfl | rfl | rfl | rfl | rfl | rfl | rfl | rfl | rfl | rfl | rfl | rfl | rfl | rfl | rfl | rfl | rfl <;>
        first | (intro z e; cases e; done) | (intro z e; cases e; decide +kernel)
    have nlp : lc ≠ p := fun z => by
      obtain ⟨_, _, _, hp, _⟩ := id j0
      rw [z, hp] at nlc
      cases nlc
    refine ⟨p, lc, _, N, rfl, olc, nlp, ⟨show 0 < 28 by decide, show 28 ≤ 1000 by decide⟩, j0.same eC, by omega, fun v H9 hv c9 j9 => ?_⟩
    exact q H9 v ((Chg.of (es.trans eC)).trans c9) j9 (((odd0 v hv).same eC).chg (j0.same eC) (np0 v hv) c9) (np0 v hv) (sh0 v hv)
end
end Ru
/-! list of a text -/
namespace Lst
open PySem PySem.Spec PyProof.Rows L2
def rListS : List V → Hp → VK → Prop := fun xs H Q => ∃ z : Str, xs = [.str z] ∧ z.length ≤ sizeLine ∧ ∀ l, H l = none → Q (.ref l) (upd H l (.lst (z.cps.toList.map fun c => V.str ⟨#[c]⟩)))
theorem call_listS {X : Cx} (hc : X.calm = true) : CallR X (.type "list") rListS := by
  intro pins s σ H xs us Q I rel want
  obtain ⟨z, rfl, nl, q⟩ := want
  cases rel with
  | cons r1 rel =>
  cases rel
  obtain ⟨t, rfl⟩ := r1
  refine PySem.call_list_str (I.ok.hd hc) z t (fun h' tk acc c' keep hl items => ?_) nl
  refine ⟨.ref s.heap.objs.size, upd H s.heap.objs.size (.lst (z.cps.toList.map fun c => V.str ⟨#[c]⟩)), I.laid keep (Nat.le_refl _) ⟨by rw [List.length_map]; simp; exact nl, acc.toList, c', ?_, by simpa using hl⟩, rfl, q _ (HOk.fresh I.hok (Nat.le_refl _))⟩
  obtain ⟨size, at_⟩ := items
  have key : ∀ (cs : List Nat) (vs : List Value) (k : Nat), vs.length = cs.length → (∀ (j : Nat) (v : Value), vs[j]? = some v → ∃ c t, cs[j]? = some c ∧ v = Value.str ⟨#[c]⟩ t) → Vals (cs.map fun c => V.str ⟨#[c]⟩) vs := by
    intro cs
    induction cs with
    | nil =>
      intro vs k hl _
      rw [List.eq_nil_of_length_eq_zero hl]
      exact .nil
    | cons c cs ih =>
      intro vs k hl hv
      cases vs with
      | nil => simp at hl
      | cons v vs =>
        rw [List.map_cons]
        obtain ⟨c', t', e1, e2⟩ := hv 0 v rfl
        refine .cons ?_ (ih vs k (by simpa using hl) fun j w hw => hv (j + 1) w (by simpa using hw))
        cases e1
        exact ⟨t', e2⟩
  refine key z.cps.toList acc.toList 0 (by simpa using size) fun j v hv => ?_
  obtain ⟨c, u, e1, e2⟩ := at_ j v (by simpa using hv)
  exact ⟨c, u, by rw [Array.getElem?_toList]; exact e1, e2⟩
end Lst
/-! the law: what a line tells; a draw from a text -/
namespace Ru
open PySem PySem.Spec PyProof.Rows L2 Am Hs NumText

def Tk (H1 : Hp) (D : Addr) (ys : List V) (i : Nat) (H : Hp) : Prop := Same H1 H ∧ H D = some (.lst (ys.take i))
theorem Tk.start {H1 : Hp} {D : Addr} {ys : List V} (nD : H1 D = none) : Tk H1 D ys 0 (upd H1 D (.lst [])) := ⟨same_upd nD, by rw [upd_same]; rfl⟩
theorem Tk.step {H1 H H' : Hp} {D : Addr} {ys : List V} {i : Nat} {y : V} (nD : H1 D = none) (h : Tk H1 D ys i H) (e : Same H H') (hy : ys[i]? = some y) (hn : ys.length ≤ 1000) :
    ∃ acc, H' D = some (.lst acc) ∧ acc.length < sizeLine ∧ Tk H1 D ys (i + 1) (upd H' D (.lst (acc ++ [y]))) := by
  refine ⟨_, e _ _ h.2, ?_, ?_, ?_⟩
  · rw [List.length_take]
    exact Nat.lt_of_le_of_lt (Nat.le_trans (Nat.min_le_right _ _) hn) (by decide)
  · intro b o z
    rw [upd_ne (ne_of_none z nD)]
    exact e _ _ (h.1 _ _ z)
  · rw [upd_same, List.take_add_one, hy]
    rfl
theorem Tk.done {H1 H : Hp} {D : Addr} {ys : List V} {n : Nat} (h : Tk H1 D ys n H) (hn : n = ys.length) : H D = some (.lst ys) := by
  have := h.2
  rw [hn, List.take_length] at this
  exact this
theorem flat_strs (xs : List Str) : (xs.map V.str).all flatV = true := List.all_eq_true.mpr fun v hv => by
  obtain ⟨z, _, rfl⟩ := List.mem_map.mp hv
  rfl
theorem dg_of : ∀ (r : List Nat), r ≠ [] → AllDigits r.reverse → r.reverse.head? ≠ some 48 → r.reverse = Mt.dg (digitsVal r.reverse) ∧ 0 < digitsVal r.reverse := by
  intro r
  induction r with
  | nil => intro h; exact absurd rfl h
  | cons c r ih =>
    intro _ ha hh
    rw [List.reverse_cons] at ha hh ⊢
    have hc := ha c (by simp)
    have ev : digitsVal (r.reverse ++ [c]) = digitsVal r.reverse * 10 + (c - 48) := by
      unfold digitsVal
      rw [List.foldl_append]
      rfl
    have c9 : 48 ≤ c ∧ c ≤ 57 := hc
    cases r with
    | nil =>
      have e0 : digitsVal (([] : List Nat).reverse ++ [c]) = c - 48 := by rw [ev]; simp [digitsVal]
      have n48 : c ≠ 48 := fun z => hh (by rw [z]; rfl)
      rw [e0]
      refine ⟨?_, by omega⟩
      rw [Mt.dg_lt (by omega), show 48 + (c - 48) = c by omega]
      rfl
    | cons d r' =>
      obtain ⟨i1, i2⟩ := ih (by simp) (fun x hx => ha x (by simp at hx ⊢; rcases hx with h | h; exact .inl h; exact .inr (.inl h))) (by
        intro z
        apply hh
        rw [List.head?_append, z]
        rfl)
      rw [ev]
      refine ⟨?_, by omega⟩
      have := Mt.dg_step i2 (d := c - 48) (by omega)
      rw [show digitsVal (d :: r').reverse * 10 + (c - 48) = 10 * digitsVal (d :: r').reverse + (c - 48) by omega, this, ← i1, show 48 + (c - 48) = c by omega]
theorem num_fit {l : List Nat} (h : 0 ≤ Mt.num l) : l = Mt.dg (Mt.num l).toNat := by
  unfold Mt.num at h ⊢
  by_cases c1 : (!l.isEmpty && l.all Mt.digB) = true
  · rw [if_pos c1] at h ⊢
    rw [Bool.and_eq_true] at c1
    by_cases c2 : l.head? = some 48 ∧ l ≠ [48]
    · rw [if_pos c2] at h; exact absurd h (by decide)
    · rw [if_neg c2] at h ⊢
      have a := Mt.all_dig c1.2
      by_cases c3 : l = [48]
      · rw [c3]; decide +kernel
      · have hh : l.head? ≠ some 48 := fun z => c2 ⟨z, c3⟩
        have ne : l.reverse ≠ [] := by
          intro z
          have : l = [] := by simpa using z
          rw [this] at c1
          exact absurd c1.1 (by simp)
        have := (dg_of l.reverse ne (by rw [List.reverse_reverse]; exact a) (by rw [List.reverse_reverse]; exact hh)).1
        rw [List.reverse_reverse] at this
        exact this
  · rw [if_neg c1] at h; exact absurd h (by decide)
def txN (n : Nat) : Str := Str.ofString (toString (n : Int))
theorem txN_L (n : Nat) : (txN n).cps.toList = Mt.dg n := Mt.dg_str n
theorem str_ext {a b : Str} (h : a.cps.toList = b.cps.toList) : a = b := by
  cases a; cases b
  congr 1
  exact Array.toList_inj.mp h
theorem num_tx {y : Str} {n : Nat} : y = txN n ↔ Mt.num y.cps.toList = n := by
  refine ⟨fun h => by rw [h, txN_L, Mt.num_dg], fun h => str_ext ?_⟩
  rw [txN_L, num_fit (l := y.cps.toList) (by omega), h]
  rfl
theorem every_iff {y : Str} : y ∈ (List.range 14).map (fun i => txN (1 + i)) ↔ (wEvery y).isSome = true := by
  unfold wEvery
  rw [List.mem_map]
  constructor
  · rintro ⟨i, hi, rfl⟩
    rw [List.mem_range] at hi
    rw [if_pos ⟨by rw [txN_L, Mt.num_dg]; omega, by rw [txN_L, Mt.num_dg]; omega⟩]
    rfl
  · intro h
    by_cases c : 1 ≤ Mt.num y.cps.toList ∧ Mt.num y.cps.toList ≤ 14
    · refine ⟨(Mt.num y.cps.toList).toNat - 1, List.mem_range.mpr (by omega), (num_tx.mpr ?_).symm⟩
      omega
    · rw [if_neg c] at h; exact absurd h (by simp)
theorem digs : (("0123456789" : Str).cps.toList.map fun c => V.str ⟨#[c]⟩) = (List.range 10).map (fun i => V.str (txN i)) := by decide +kernel
theorem behind_iff {y : Str} : y ∈ [("before" : Str), "nothing"] ++ (List.range 10).map txN ↔ (wBehind y).isSome = true := by
  unfold wBehind
  rw [List.mem_append, List.mem_map]
  constructor
  · rintro (h | ⟨i, hi, rfl⟩)
    · rw [if_pos (by simpa using h)]; rfl
    · rw [List.mem_range] at hi
      by_cases c : txN i = "before" ∨ txN i = "nothing"
      · rw [if_pos c]; rfl
      · rw [if_neg c, if_pos ⟨by rw [txN_L, Mt.num_dg]; omega, by rw [txN_L, Mt.num_dg]; omega⟩]; rfl
  · intro h
    by_cases c : y = "before" ∨ y = "nothing"
    · exact .inl (by simpa using c)
    · rw [if_neg c] at h
      by_cases c2 : 0 ≤ Mt.num y.cps.toList ∧ Mt.num y.cps.toList ≤ 9
      · refine .inr ⟨(Mt.num y.cps.toList).toNat, List.mem_range.mpr (by omega), (num_tx.mpr ?_).symm⟩
        omega
      · rw [if_neg c2] at h; exact absurd h (by simp)
theorem wayX_in {z y : Str} {zs : List Str} (h1 : z ≠ "every") (h2 : z ≠ "behind") (h : waysFor z = zs) : y ∈ zs ↔ (wayX z y).isSome = true := by
  subst h
  unfold wayX
  rw [if_neg h1, if_neg h2]
  by_cases c : y ∈ waysFor z
  · rw [if_pos c]; exact ⟨fun _ => rfl, fun _ => c⟩
  · rw [if_neg c]; exact ⟨fun h => absurd h c, fun h => absurd h (by simp)⟩
def spOfS : Sp := fun vs H Q _ => ∃ (p : Addr) (z : Str) (N : Int), vs = [.ref p, .str z] ∧ (0 < z.length ∧ z.length ≤ 1000) ∧ JarAt H p N ∧ N ≤ 9999 ∧ ∀ c H', c ∈ z.cps.toList → Chg p H H' → JarAt H' p (N + 1) → Q (.str ⟨#[c]⟩) H'
def spRuleLine : Sp := fun vs H Q _ => ∃ (l : Str) (k : Nat) (hk : k < fiveW.length), vs = [.str l, .int k] ∧ l.length ≤ 600 ∧ ∀ H', Same H H' → Q (.bl (wayOf l fiveW[k]).isSome) H'
section
variable {P : Program} {w : World} {K : PySem.W.Frag} {mg : Str → Option Value} {base : Heap}
theorem ok_ofS {f : Addr} {fd : FuncData} (F : Fun K "_law_of" "_law_of" sOf f fd) (T : Nm mg) (GT : GotF P w K mg base "_law_take" 1 ["_law_jar_here", "_law_many"] spTake) : FnOk P w K mg base CX0 2 f fd ["_law_jar_here", "_law_some"] spOfS := by
  obtain ⟨fT, fdT, GT, bT, mT, kT⟩ := GT
  refine F.ok scOf (fun vs H Q E h => ?_) (fun cdv A outer s H vs Q E hr h => ?_)
  · obtain ⟨p, z, N, rfl, _⟩ := h
    rfl
  · obtain ⟨p, z, N, rfl, ⟨x0, x1⟩, hj, hN, q⟩ := h
    refine ⟨_, pss_one (ps_ret (pe_ix ix_str (pv 1) (pe_call GT hr (by rfl) mT kT bT .nil pass0 (pa_cons (pv 0) (pa_cons (pe_callB call_len_str (by rfl) T.len PySem.boot_len (pa_cons (pv 1) pa_nil)) pa_nil))) (fun _ _ => rfl))), ?_⟩
    have big : z.length ≤ sizeLine := Nat.le_trans x1 (by decide)
    refine ⟨_, rfl, _, rfl, _, rfl, z, rfl, big, ?_⟩
    refine ⟨p, _, N, rfl, ⟨by omega, by omega⟩, hj, hN, fun d H' hd k j => ?_⟩
    obtain ⟨d0, d1⟩ := hd
    obtain ⟨dn, rfl⟩ := Int.eq_ofNat_of_zero_le d0
    have hl : dn < z.cps.toList.length := by rw [SL.len_toList]; omega
    exact ⟨z, dn, _, rfl, rfl, big, atI_nat (List.getElem?_eq_getElem hl), q _ H' (List.getElem_mem hl) k j⟩
theorem scRuleLine : FnScope ["_law_line", "_law_at", "_law_words", "_law_some", "_law_number"] ["_law_line", "_law_at"] (defScope sL_rule_line) := ⟨rfl, rfl, rfl, by decide +kernel, rfl, by decide +kernel, by decide +kernel⟩
theorem ok_ruleLine {f : Addr} {fd : FuncData} (F : Fun K "_law_rule_line" "_law_rule_line" sL_rule_line f fd) (T : Nm mg) (nst : mg "str" = none) (nl : mg "list" = none) : FnOk P w K mg base CX0 1 f fd ["_law_line", "_law_at"] spRuleLine := by
  refine F.ok scRuleLine (fun vs H Q E h => ?_) (fun cdv A outer s H vs Q E hr h => ?_)
  · obtain ⟨l, k, hk, rfl, _⟩ := h
    rfl
  · obtain ⟨l, k, hk, rfl, hl, q⟩ := h
    have hu := hu_of hr
    have b_str : bootBuiltins "str" = some (.type "str") := by decide +kernel
    have b_list : bootBuiltins "list" = some (.type "list") := by decide +kernel
    refine ⟨_, (pss_cons (ps_set (i := 2) scRuleLine.nd rfl (.inl rfl) (pe_split (pv 0) pe_str))
      (pss_cons (ps_if (PW.pt (pw_or (pt_cmpR op_ne (pe_callB call_len_seq (by rfl) T.len PySem.boot_len (pa_cons (pv 2) pa_nil)) pe_int (nomark _)) (pw_or1 (pt_cmpR op_ne (pe_ix ix_list (pv 2) pe_int (fun _ _ => rfl)) (pe_ix ix_list (pe_lst (pa_cons pe_str (pa_cons pe_str (pa_cons pe_str (pa_cons pe_str (pa_cons pe_str pa_nil)))))) (pv 1) (fun _ _ => rfl)) (nomark _))))) (pss_one (ps_ret pe_bl)) pss_nil)
      (pss_cons (ps_if (pt_cmpR op_eq (pv 1) pe_int (nomark _)) (pss_one (ps_ret (pe_cmpR op_in_seq (pe_ix ix_list (pv 2) pe_int (fun _ _ => rfl)) (pe_lc (own := [("_law_number", 4)]) (g := gName 4) (tt := tYes) rfl scRuleLine.nd (pi_range2 (by rfl) T.range (pa_cons pe_int (pa_cons pe_int pa_nil)))
          (blkOk_by (N := ["_law_line", "_law_at", "_law_words", "_law_some", "_law_number"]) (sc := defScope sL_rule_line) (by decide +kernel)) (fun _ _ _ _ _ => (pg_name (i := 4) scRuleLine.nd rfl (.inl rfl))) (fun _ _ _ _ _ => pts_nil) (fun _ _ _ _ _ => (pe_callTy call_str_int (by rfl) nst b_str (pa_cons (pv 4) pa_nil)))) (by rfl)))) pss_nil)
      (pss_cons (ps_set (i := 3) scRuleLine.nd rfl (.inl rfl) (pe_disp (pps_cons pe_int (pe_op op_cat (pe_lst (pa_cons pe_str (pa_cons pe_str pa_nil))) (pe_callTy (Lst.call_listS rfl) (by rfl) nl b_list (pa_cons pe_str pa_nil))) (pps_cons pe_int (pe_lst (pa_cons pe_str (pa_cons pe_str pa_nil))) (pps_cons pe_int (pe_lst (pa_cons pe_str (pa_cons pe_str pa_nil))) pps_nil))) (by rfl) (by rfl) (by simp) (by decide)))
      (pss_one (ps_ret (pe_cmpR op_in_seq (pe_ix ix_list (pv 2) pe_int (fun _ _ => rfl)) (pe_dget2 hu (pv 3) (pv 1) (pe_lst (pa_cons pe_str (pa_cons pe_str (pa_cons pe_str pa_nil)))) ⟨rfl, rfl, rfl, rfl⟩) (by rfl)))))))), ?_⟩
    refine ⟨_, rfl, ⟨_, rfl⟩, _, _, rfl, rfl, by decide +kernel, Nat.le_trans (show l.length + 2 ≤ 4002 by omega) (by decide), fun D nD => ?_⟩
    have e1 := same_upd (o := .lst ((Txt.split l " ").map V.str)) nD
    have qq : ∀ (H' : Hp) (b : Bool), Same H H' → (wayOf l fiveW[k]).isSome = b → Q (.bl b) H' := fun H' b h e => e ▸ q H' h
    unfold wayOf at qq
    have hD := upd_same (H := H) (a := D) (o := .lst ((Txt.split l " ").map V.str))
    generalize hs : Txt.split l " " = ps at e1 qq hD ⊢
    generalize upd H D (.lst (ps.map V.str)) = H1 at *
    refine ⟨_, rfl, D, _, rfl, .inl (SqL.of hD), ?_⟩
    refine ⟨rfl, _, rfl, ?_⟩
    rw [int_eq, List.length_map]
    by_cases c2 : ps.length = 2
    · match ps, c2 with
      | [x, y], _ =>
        refine iteF ?_
        refine ⟨_, rfl, D, _, _, _, rfl, rfl, SqL.of hD, rfl, (show 5 ≤ sizeLine by decide), fun W5 nW5 => ?_⟩
        have e2 := same_upd (o := .lst (fiveW.map V.str)) nW5
        have hW := upd_same (H := H1) (a := W5) (o := .lst (fiveW.map V.str))
        refine ⟨_, rfl, W5, _, _, .str fiveW[k], rfl, rfl, SqL.of hW, ?_, rfl, _, rfl, ?_⟩
        · exact atI_nat (by rw [List.getElem?_map, List.getElem?_eq_getElem hk]; rfl)
        rw [str_eq]
        have e12 := e1.trans e2
        have hD2 := e2 _ _ hD
        by_cases hx : x = fiveW[k]
        · rw [decide_eq_true hx]
          have qz : ∀ (H' : Hp) (b : Bool), Same H H' → (wayX fiveW[k] y).isSome = b → Q (.bl b) H' := fun H' b h e => qq H' b h (by rw [← e]; show (if x = fiveW[k] then _ else _ : Option Way).isSome = _; rw [if_pos hx])
          clear qq
          refine iteF ⟨_, rfl, rfl, _, rfl, ?_⟩
          rw [int_eq]
          have len5 : fiveW.length = 5 := rfl
          by_cases k0 : k = 0
          · subst k0
            have qw : ∀ (H' : Hp) (b : Bool), Same H H' → (wEvery y).isSome = b → Q (.bl b) H' := qz
            clear qz
            refine iteT ⟨_, rfl, D, _, _, _, rfl, rfl, SqL.of hD2, rfl, ?_⟩
            refine ⟨1, 15, rfl, ⟨by decide, by decide, by decide, by decide⟩, fun D2 nD2 => ?_⟩
            refine lc_it (walk_range (lo := 1) (n := 14)) (Pv := Tk (upd H1 W5 (.lst (fiveW.map V.str))) D2 (((List.range 14).map fun i => txN (1 + i)).map V.str)) (Tk.start nD2) (fun _ _ _ _ => trivial) ?_ ?_
            · rintro i v G1 G2 hi hk ⟨rfl, rfl⟩
              refine ⟨rfl, ?_⟩
              unfold tYes
              refine iteT ⟨_, rfl, _, rfl, ?_, ?_⟩
              · show ((1 : Int) + (i : Int)).natAbs.log2 < 1920
                have : ((1 : Int) + (i : Int)).natAbs ≤ 14 := by omega
                exact Nat.lt_of_le_of_lt (Nat.log2_le_self _) (by omega)
              · refine hk.step nD2 (Same.refl _) ?_ (by rw [List.length_map, List.length_map, List.length_range]; decide)
                rw [List.getElem?_map, List.getElem?_map, List.getElem?_range hi]
                rfl
            · rintro G1 hk
              have hD := hk.done (by simp)
              have e5 := hk.1
              refine ⟨D2, _, rfl, .inl (SqL.of hD), rfl, flat_strs _, ?_⟩
              rw [if_neg (by decide), inV_strs]
              exact qw _ _ (e12.trans e5) (by rw [Bool.eq_iff_iff, decide_eq_true_eq]; exact every_iff.symm)
          · rw [decide_eq_false (show ¬ (k : Int) = 0 by omega)]
            refine iteF fun D3 nD3 => ⟨(show 2 ≤ sizeLine by decide), fun P1 n1 => ⟨_, rfl, by decide, fun P2 n2 => ?_⟩⟩
            have e3 := same_upd (o := .dK []) nD3
            have hd3 := upd_same (H := upd H1 W5 (.lst [V.str "every", .str "behind", .str "late", .str "block", .str "rest"])) (a := D3) (o := .dK [])
            have e4 := same_upd (o := .lst [V.str "before", .str "nothing"]) n1
            have hP1 := upd_same (H := upd (upd H1 W5 (.lst [V.str "every", .str "behind", .str "late", .str "block", .str "rest"])) D3 (.dK [])) (a := P1) (o := .lst [V.str "before", .str "nothing"])
            have e5 := same_upd (o := .lst ((("0123456789" : Str).cps.toList.map fun c => V.str ⟨#[c]⟩))) n2
            have hP2 := upd_same (H := upd (upd (upd H1 W5 (.lst [V.str "every", .str "behind", .str "late", .str "block", .str "rest"])) D3 (.dK [])) P1 (.lst [V.str "before", .str "nothing"])) (a := P2) (o := .lst (("0123456789" : Str).cps.toList.map fun c => V.str ⟨#[c]⟩))
            have t1 := (e3.trans e4).trans e5
            have hd5 := e5 _ _ (e4 _ _ hd3)
            have hP15 := e5 _ _ hP1
            change rCat (.ref P1) (.ref P2) (upd (upd (upd (upd H1 W5 (.lst [V.str "every", .str "behind", .str "late", .str "block", .str "rest"])) D3 (.dK [])) P1 (.lst [V.str "before", .str "nothing"])) P2 (.lst (("0123456789" : Str).cps.toList.map fun c => V.str ⟨#[c]⟩))) _
            have tt := e12.trans t1
            have hD5 := t1 _ _ hD2
            have nd : ∀ b o, H b = some o → b ≠ D3 := fun b o h => ne_of_none (e12 _ _ h) nD3
            clear nD3 n1 n2 e3 e4 e5 hd3 hP1 t1 nD nW5 hW e12 e2 hD2
            generalize (upd (upd (upd (upd H1 W5 (.lst [V.str "every", .str "behind", .str "late", .str "block", .str "rest"])) D3 (.dK [])) P1 (.lst [V.str "before", .str "nothing"])) P2 (.lst (("0123456789" : Str).cps.toList.map fun c => V.str ⟨#[c]⟩))) = Ha at *
            refine ⟨P1, P2, _, _, rfl, rfl, hP15, hP2, by decide, fun P3 n3 => ?_⟩
            refine ⟨(show 2 ≤ sizeLine by decide), fun P4 n4 => ⟨(show 2 ≤ sizeLine by decide), fun P5 n5 => ?_⟩⟩
            have e3 := same_upd (o := .lst ([V.str "before", .str "nothing"] ++ (("0123456789" : Str).cps.toList.map fun c => V.str ⟨#[c]⟩))) n3
            have e4 := same_upd (o := .lst [V.str "now", .str "back"]) n4
            have e5 := same_upd (o := .lst [V.str "days", .str "last"]) n5
            have h3 := e5 _ _ (e4 _ _ (upd_same (H := Ha) (a := P3) (o := .lst ([V.str "before", .str "nothing"] ++ (("0123456789" : Str).cps.toList.map fun c => V.str ⟨#[c]⟩)))))
            have h4 := e5 _ _ (upd_same (H := upd Ha P3 (.lst ([V.str "before", .str "nothing"] ++ (("0123456789" : Str).cps.toList.map fun c => V.str ⟨#[c]⟩)))) (a := P4) (o := .lst [V.str "now", .str "back"]))
            have h5 := upd_same (H := upd (upd Ha P3 (.lst ([V.str "before", .str "nothing"] ++ (("0123456789" : Str).cps.toList.map fun c => V.str ⟨#[c]⟩)))) P4 (.lst [V.str "now", .str "back"])) (a := P5) (o := .lst [V.str "days", .str "last"])
            have tb := (e3.trans e4).trans e5
            have hd := tb _ _ hd5
            have hD6 := tb _ _ hD5
            have t6 := tt.trans tb
            change _ ∧ _
            clear n3 n4 n5 e3 e4 e5 hP15 hP2
            generalize upd (upd (upd Ha P3 (.lst ([V.str "before", .str "nothing"] ++ (("0123456789" : Str).cps.toList.map fun c => V.str ⟨#[c]⟩)))) P4 (.lst [V.str "now", .str "back"])) P5 (.lst [V.str "days", .str "last"]) = Hb at *
            refine ⟨hd, [(.inl 1, .ref P3), (.inl 2, .ref P4), (.inl 3, .ref P5)], rfl, (show 3 ≤ 15 by decide), ?_⟩
            have hm : mergeK [] [((.inl 1 : Key), V.ref P3), (.inl 2, .ref P4), (.inl 3, .ref P5)] = [((.inl 1 : Key), V.ref P3), (.inl 2, .ref P4), (.inl 3, .ref P5)] := rfl
            have t7 : Same H (upd Hb D3 (.dK (mergeK [] [((.inl 1 : Key), V.ref P3), (.inl 2, .ref P4), (.inl 3, .ref P5)]))) := fun b o h => by rw [upd_ne (nd _ _ h)]; exact t6 _ _ h
            have lst_ne : ∀ {a : Addr} {xs}, Hb a = some (.lst xs) → a ≠ D3 := fun h => ne_of h hd (by intro z; cases z)
            have hD7 : (upd Hb D3 (.dK (mergeK [] [((.inl 1 : Key), V.ref P3), (.inl 2, .ref P4), (.inl 3, .ref P5)]))) D = some (.lst ([x, y].map V.str)) := by rw [upd_ne (lst_ne hD6)]; exact hD6
            have h37 : (upd Hb D3 (.dK (mergeK [] [((.inl 1 : Key), V.ref P3), (.inl 2, .ref P4), (.inl 3, .ref P5)]))) P3 = some (.lst ([V.str "before", .str "nothing"] ++ (("0123456789" : Str).cps.toList.map fun c => V.str ⟨#[c]⟩))) := by rw [upd_ne (lst_ne h3)]; exact h3
            have h47 : (upd Hb D3 (.dK (mergeK [] [((.inl 1 : Key), V.ref P3), (.inl 2, .ref P4), (.inl 3, .ref P5)]))) P4 = some (.lst [V.str "now", .str "back"]) := by rw [upd_ne (lst_ne h4)]; exact h4
            have h57 : (upd Hb D3 (.dK (mergeK [] [((.inl 1 : Key), V.ref P3), (.inl 2, .ref P4), (.inl 3, .ref P5)]))) P5 = some (.lst [V.str "days", .str "last"]) := by rw [upd_ne (lst_ne h5)]; exact h5
            have hd7 : (upd Hb D3 (.dK (mergeK [] [((.inl 1 : Key), V.ref P3), (.inl 2, .ref P4), (.inl 3, .ref P5)]))) D3 = some (.dK [((.inl 1 : Key), V.ref P3), (.inl 2, .ref P4), (.inl 3, .ref P5)]) := by rw [upd_same, hm]
            change gName 3 (V.ref D3) _ _ _
            clear t6 hD6 h3 h4 h5 tb hd lst_ne hd5 hD5 tt
            generalize upd Hb D3 (.dK (mergeK [] [((.inl 1 : Key), V.ref P3), (.inl 2, .ref P4), (.inl 3, .ref P5)])) = Hc at *
            refine ⟨_, rfl, D, _, _, _, rfl, rfl, SqL.of hD7, rfl, _, rfl, D3, rfl, .inl ⟨_, .inl hd7⟩, _, rfl, (show 3 ≤ sizeLine by decide), fun T3 nT3 => ?_⟩
            have e8 := same_upd (o := .lst [V.str "heads", .str "places", .str "house"]) nT3
            have hT := upd_same (H := Hc) (a := T3) (o := .lst [V.str "heads", .str "places", .str "house"])
            have t8 := t7.trans e8
            have fin : ∀ (zs : List Str) (u : Addr) H', Same Hc H' → H' u = some (.lst (zs.map V.str)) → ((y ∈ zs) ↔ (wayX fiveW[k] y).isSome = true) → rIn (cxOf CX0 P w K mg base ["_law_line", "_law_at", "_law_words", "_law_some", "_law_number"] "_law_rule_line" (defScope sL_rule_line) f cdv A outer s H E).nox.K false (.str y) (.ref u) H' Q := fun zs u H' e h hz => by
              refine ⟨u, _, rfl, .inl (SqL.of h), rfl, flat_strs _, ?_⟩
              rw [if_neg (by decide), inV_strs]
              exact qz _ _ (t7.trans e) (by rw [Bool.eq_iff_iff, decide_eq_true_eq]; exact hz.symm)
            have kk : k = 1 ∨ k = 2 ∨ k = 3 ∨ k = 4 := by omega
            rcases kk with rfl | rfl | rfl | rfl
            · refine ⟨some (.ref P3), .inl ⟨_, .inl 1, .inl (e8 _ _ hd7), rfl, rfl⟩, fin ([("before" : Str), "nothing"] ++ (List.range 10).map txN) P3 _ e8 ?_ behind_iff⟩
              rw [e8 _ _ h37, digs, List.map_append, List.map_map]
              rfl
            · refine ⟨some (.ref P4), .inl ⟨_, .inl 2, .inl (e8 _ _ hd7), rfl, rfl⟩, fin ["now", "back"] P4 _ e8 (e8 _ _ h47) (wayX_in (z := "late") (by decide) (by decide) (by decide +kernel))⟩
            · refine ⟨some (.ref P5), .inl ⟨_, .inl 3, .inl (e8 _ _ hd7), rfl, rfl⟩, fin ["days", "last"] P5 _ e8 (e8 _ _ h57) (wayX_in (z := "block") (by decide) (by decide) (by decide +kernel))⟩
            · refine ⟨none, .inl ⟨_, .inl 4, .inl (e8 _ _ hd7), rfl, rfl⟩, fin ["heads", "places", "house"] T3 _ e8 hT (wayX_in (z := "rest") (by decide) (by decide) (by decide +kernel))⟩
        · rw [decide_eq_false hx]
          exact iteT (qq _ _ e12 (by show (if x = fiveW[k] then _ else _ : Option Way).isSome = _; rw [if_neg hx]; rfl))
    · rw [decide_eq_false (by omega)]
      refine iteT (qq _ _ e1 ?_)
      match ps, c2 with
      | [], _ => rfl
      | [_], _ => rfl
      | [_, _], h => exact absurd rfl h
      | _ :: _ :: _ :: _, _ => rfl
end
end Ru
/-! the law: the number that a value is refused with -/
namespace Ru
open PySem PySem.Spec PyProof.Rows L2 Am Hs
theorem walk_range0 {n : Nat} : Walk (Itr 0 n) n (fun _ => True) (YFn fun i => V.int (i : Int)) := by
  have h : (fun i : Nat => V.int (i : Int)) = fun i : Nat => V.int (0 + (i : Int)) := by funext i; rw [Int.zero_add]
  rw [h]
  exact walk_range
/-- how far the lines are told -/
def Far (lines : List Str) (i : Nat) : Prop := ∃ acc : List Way, acc.length = i ∧ readW 1 lines [] = readW (i + 1) (lines.drop i) acc
theorem Far.short {lines : List Str} {i : Nat} (h : Far lines i) (hi : i < 5) (hl : lines.length ≤ i) : readW 1 lines [] = .inl (i + 1) := by
  obtain ⟨acc, la, e⟩ := h
  rw [e, List.drop_eq_nil_of_le hl, readW, if_pos (by omega), la]
theorem way_at {lines : List Str} {i : Nat} (h5 : i < fiveW.length) (hi : i < lines.length) : wayAt (i + 1) lines[i] = wayOf lines[i] fiveW[i] := by
  have h5' : i < 5 := h5
  unfold wayAt
  rw [if_pos (by omega), Nat.add_sub_cancel]
  congr 1
  rw [List.getD_eq_getElem?_getD, List.getElem?_eq_getElem h5]
  rfl
theorem Far.bad {lines : List Str} {i : Nat} (h : Far lines i) (h5 : i < fiveW.length) (hi : i < lines.length) (w : (wayOf lines[i] fiveW[i]).isSome = false) : readW 1 lines [] = .inl (i + 1) := by
  obtain ⟨acc, la, e⟩ := h
  have e2 : wayOf lines[i] fiveW[i] = none := by simpa using w
  rw [e, List.drop_eq_getElem_cons hi, readW, way_at h5 hi, e2]
theorem Far.good {lines : List Str} {i : Nat} (h : Far lines i) (h5 : i < fiveW.length) (hi : i < lines.length) (w : (wayOf lines[i] fiveW[i]).isSome = true) : Far lines (i + 1) := by
  obtain ⟨acc, la, e⟩ := h
  obtain ⟨y, e2⟩ := Option.isSome_iff_exists.mp w
  refine ⟨acc ++ [y], by simp [la], ?_⟩
  rw [e, List.drop_eq_getElem_cons hi, readW, way_at h5 hi, e2]
theorem Far.end {lines : List Str} (h : Far lines 5) : (match readW 1 lines [] with
    | .inl n => (n : Int)
    | .inr _ => 0) = if 5 < lines.length then 6 else 0 := by
  obtain ⟨acc, la, e⟩ := h
  rw [e]
  by_cases c : 5 < lines.length
  · rw [if_pos c, List.drop_eq_getElem_cons c, readW]
    rfl
  · rw [if_neg c, List.drop_eq_nil_of_le (by omega), readW, if_neg (by omega)]
def wrongN (v : V) : Int := match v with
  | .str x => match readW 1 (Txt.split x "\n") [] with
    | .inl n => n
    | .inr _ => 0
  | _ => -1
def spWrong (C : Addr) : Sp := fun vs H Q _ => ∃ v : V, vs = [v] ∧ Odd C H v ∧ (∀ x, v = .str x → x.length ≤ 600) ∧ ∀ H', Same H H' → Q (.int (wrongN v)) H'
section
variable {P : Program} {w : World} {K : PySem.W.Frag} {mg : Str → Option Value} {base : Heap} {C : Addr}
theorem scWrong : FnScope ["_law_value", "_law_lines", "_law_at"] ["_law_value"] (defScope sL_wrong_rule) := ⟨rfl, rfl, rfl, by decide +kernel, rfl, by decide +kernel, by decide +kernel⟩
theorem ok_wrong {f : Addr} {fd : FuncData} (F : Fun K "_law_wrong_rule" "_law_wrong_rule" sL_wrong_rule f fd) (T : Nm mg) (TC : Txt K mg C) (ns : mg "str" = none) (GR : GotF P w K mg base "_law_rule_line" 1 ["_law_line", "_law_at"] spRuleLine) : FnOk P w K mg base CX0 2 f fd ["_law_value"] (spWrong C) := by
  obtain ⟨fR, fdR, GR, bR, mR, kR⟩ := GR
  refine F.ok scWrong (fun vs H Q E h => ?_) (fun cdv A outer s H vs Q E hr h => ?_)
  · obtain ⟨v, rfl, _⟩ := h
    rfl
  · obtain ⟨v, rfl, odd, hlen, q⟩ := h
    have b_str : bootBuiltins "str" = some (.type "str") := by decide +kernel
    refine ⟨_, (pss_cons (ps_if (pt_not (pt_val (pe_callB call_isi (by rfl) T.isi b_isi (pa_cons (pv 0) (pa_cons (pe_bltn (v := .ty "str") (by rfl) ns b_str rfl) pa_nil))))) (pss_one (ps_ret (pe_un un_neg pe_int))) pss_nil)
      (pss_cons (ps_set (i := 1) scWrong.nd rfl (.inl rfl) (pe_split (pv 0) pe_str))
      (pss_cons (ps_for PassesOwn.never rfl (pi_range1 (by rfl) T.range (pa_cons pe_int pa_nil)) (pg_name (i := 2) scWrong.nd rfl (.inl rfl)) (pss_one (ps_if (PW.pt (pw_or (pt_cmpR op_ge (pv 2) (pe_callB call_len_seq (by rfl) T.len PySem.boot_len (pa_cons (pv 1) pa_nil)) (nomark _)) (pw_or1 (pt_not (pt_val (pe_call GR hr (by rfl) mR kR bR .nil pass0 (pa_cons (pe_ix ix_list (pv 1) (pv 2) (fun _ _ => rfl)) (pa_cons (pv 2) pa_nil)))))))) (pss_one (ps_ret (pe_op op_add (pv 2) pe_int))) pss_nil)))
      (pss_one (ps_ret (pe_ifExp (pt_cmpR op_gt (pe_callB call_len_seq (by rfl) T.len PySem.boot_len (pa_cons (pv 1) pa_nil)) pe_int (nomark _)) pe_int pe_int)))))), ?_⟩
    by_cases hS : isS v = true
    · obtain ⟨x, rfl⟩ : ∃ x, v = .str x := by
        cases v <;> first | exact ⟨_, rfl⟩ | cases hS
      have hl := hlen x rfl
      refine ⟨_, rfl, .str x, .ty "str", .type "str", .type "str", _, rfl, .ty _, .base (Bk.tyOf (.str x)), kB_str (H := H) (.str x), _, rfl, iteF ?_⟩
      refine ⟨_, rfl, ⟨_, rfl⟩, _, _, rfl, rfl, by decide +kernel, Nat.le_trans (show x.length + 2 ≤ 4002 by omega) (by decide), fun l nl => ?_⟩
      obtain ⟨sp1, sp2⟩ := SL.split_nl (x := x)
      have e1 := same_upd (o := .lst ((Txt.split x "
").map V.str)) nl
      have hl0 := upd_same (H := H) (a := l) (o := .lst ((Txt.split x "
").map V.str))
      have hq : wrongN (.str x) = (match readW 1 (Txt.split x "
") [] with
        | .inl n => (n : Int)
        | .inr _ => 0) := rfl
      generalize Txt.split x "
" = lines at *
      generalize upd H l (.lst (lines.map V.str)) = H0 at *
      refine ⟨5, rfl, by decide, by decide, for_it (walk_range0 (n := (5 : Int).toNat)) (fun i σ H' => ∃ (s2 : Option V), σ = [some (.str x), some (.ref l), s2] ∧ Same H H' ∧ H' l = some (.lst (lines.map V.str)) ∧ Far lines i) ?_ (fun _ _ _ _ _ => trivial) ?_ ?_⟩
      · exact ⟨_, rfl, e1, hl0, [], rfl, rfl⟩
      · rintro i v σ H2 H3 hi ⟨s2, rfl, t2, hl2, far⟩ ⟨rfl, rfl⟩
        have hi5 : i < 5 := hi
        refine ⟨_, rfl, _, rfl, l, _, rfl, .inl (SqL.of hl2), _, _, rfl, rfl, _, rfl, ?_⟩
        have cl : decide (((lines.map V.str).length : Int) ≤ (i : Int)) = decide (lines.length ≤ i) := decide_eq_decide.mpr (by rw [List.length_map]; omega)
        rw [cl]
        have q2 := q _ t2
        rw [hq] at q2
        have i5 : i < fiveW.length := hi5
        by_cases hc : lines.length ≤ i
        · rw [decide_eq_true hc]
          rw [far.short hi5 hc] at q2
          exact iteT (iteT ⟨_, rfl, _, _, rfl, rfl, q2⟩)
        · rw [decide_eq_false hc]
          have hi' : i < lines.length := by omega
          refine iteF ⟨_, rfl, _, rfl, l, _, _, .str lines[i], rfl, rfl, SqL.of hl2, atI_nat (by rw [List.getElem?_map, List.getElem?_eq_getElem hi']; rfl), _, rfl, lines[i], i, i5, rfl, Nat.le_trans (sp2 _ (List.getElem_mem hi')) hl, fun H4 e4 => ⟨_, rfl, ?_⟩⟩
          cases hw : (wayOf lines[i] fiveW[i]).isSome with
          | false =>
            rw [far.bad i5 hi' hw] at q2
            have q4 := q _ (t2.trans e4)
            rw [hq, far.bad i5 hi' hw] at q4
            exact iteT ⟨_, rfl, _, _, rfl, rfl, q4⟩
          | true => exact iteF ⟨_, rfl, t2.trans e4, e4 _ _ hl2, far.good i5 hi' hw⟩
      · rintro σ G1 ⟨s2, rfl, t2, hl2, far⟩
        refine ⟨_, rfl, l, _, rfl, .inl (SqL.of hl2), _, _, rfl, rfl, _, rfl, ?_⟩
        have cl : decide ((5 : Int) < ((lines.map V.str).length : Int)) = decide (5 < lines.length) := decide_eq_decide.mpr (by rw [List.length_map]; omega)
        rw [cl]
        have q2 := q _ t2
        rw [hq, Far.end far] at q2
        by_cases hc : 5 < lines.length
        · rw [decide_eq_true hc]
          rw [if_pos hc] at q2
          exact iteT q2
        · rw [decide_eq_false hc]
          rw [if_neg hc] at q2
          exact iteF q2
    · have hS : isS v = false := by simpa using hS
      have hw : wrongN v = -1 := by
        unfold wrongN
        cases v <;> first | rfl | cases hS
      rw [hw] at q
      rcases odd with ⟨Ty, b⟩ | ⟨a, dx, fs, rfl, ha⟩
      · refine ⟨_, rfl, v, .ty "str", .type Ty, .type "str", _, rfl, .ty _, .base b.tyOf, kB_str b, _, rfl, ?_⟩
        rw [hS]
        exact iteT ⟨_, rfl, q _ (Same.refl _)⟩
      · exact ⟨_, rfl, .ref a, .ty "str", .ref C, .type "str", _, rfl, .ty _, TC.tyC ha, kS_of TC.op.s4, _, rfl, iteT ⟨_, rfl, q _ (Same.refl _)⟩⟩
end
end Ru
/-! the law: lines bent -/
namespace Ru
open PySem PySem.Spec PyProof.Rows L2 Am Hs
theorem cut_to (ls : List Str) (k : Nat) : cutV (ls.map V.str) none (some (k : Int)) = (ls.take k).map V.str := by
  unfold cutV
  rw [HT.sIx_none, HT.sIx_nat, List.drop_zero, Nat.sub_zero, List.length_map, List.map_take]
  by_cases c : k ≤ ls.length
  · rw [Nat.min_eq_left c]
  · rw [Nat.min_eq_right (by omega), List.take_of_length_le (by simp), List.take_of_length_le (by simp; omega)]
theorem cut_from (ls : List Str) (k : Nat) : cutV (ls.map V.str) (some (k : Int)) none = (ls.drop k).map V.str := by
  unfold cutV
  rw [HT.sIx_none, HT.sIx_nat, List.length_map, List.map_drop]
  by_cases c : k ≤ ls.length
  · rw [Nat.min_eq_left c, List.take_of_length_le (by simp)]
  · rw [Nat.min_eq_right (by omega), List.drop_eq_nil_of_le (by simp), List.drop_eq_nil_of_le (by simp; omega), List.take_nil]
structure Li (M : Nat) (l : Str) : Prop where
  len : l.length ≤ M
  ok : ∀ c ∈ l.cps.toList, c < 1114112
theorem Li.mono {M N : Nat} {l : Str} (h : Li M l) (e : M ≤ N) : Li N l := ⟨Nat.le_trans h.len e, h.ok⟩
theorem Li.sok {M : Nat} {l : Str} (h : Li M l) : PyData.strOk l = true := by
  unfold PyData.strOk
  rw [← Array.all_toList, List.all_eq_true]
  exact fun c hc => decide_eq_true (h.ok c hc)
theorem app_L (a b : Str) : (a ++ b).cps.toList = a.cps.toList ++ b.cps.toList := by
  show (a.cps ++ b.cps).toList = _
  simp
theorem of_lits {zs : List Str} (h : zs.all (fun z => decide (z.length ≤ 10) && z.cps.toList.all (fun c => decide (c < 1114112))) = true) {v : V} (hv : v ∈ zs.map V.str) : ∃ z, v = .str z ∧ Li 10 z := by
  obtain ⟨z, hz, rfl⟩ := List.mem_map.mp hv
  have := List.all_eq_true.mp h z hz
  rw [Bool.and_eq_true, decide_eq_true_eq, List.all_eq_true] at this
  exact ⟨z, rfl, this.1, fun c hc => of_decide_eq_true (this.2 c hc)⟩
theorem cut_line {z : Str} {M n c : Nat} (h : Li M z) (hn : n ≤ z.length) (hc : c < 1114112) : Li (M + 1) (cutS z none (some (n : Int)) ++ ⟨#[c]⟩ ++ cutS z (some (n : Int)) none) := by
  have e1 : (cutS z none (some (n : Int))).cps.toList = z.cps.toList.take n := by
    unfold cutS
    rw [HT.sIx_none, HT.sIx_nat, List.drop_zero, Nat.sub_zero, Nat.min_eq_left hn]
  have e2 : (cutS z (some (n : Int)) none).cps.toList = z.cps.toList.drop n := by
    unfold cutS
    rw [HT.sIx_none, HT.sIx_nat, Nat.min_eq_left hn]
    show List.take _ _ = _
    rw [List.take_of_length_le (by rw [List.length_drop, SL.len_toList]; omega)]
  have e : (cutS z none (some (n : Int)) ++ ⟨#[c]⟩ ++ cutS z (some (n : Int)) none).cps.toList = z.cps.toList.take n ++ [c] ++ z.cps.toList.drop n := by
    rw [app_L, app_L, e1, e2]
  refine ⟨?_, fun x hx => ?_⟩
  · rw [← SL.len_toList, e]
    have := h.len
    have hn' : n ≤ z.cps.toList.length := by rw [SL.len_toList]; exact hn
    rw [← SL.len_toList] at this
    simp only [List.length_append, List.length_take, List.length_drop, List.length_cons, List.length_nil]
    omega
  · rw [e] at hx
    simp only [List.mem_append, List.mem_singleton] at hx
    rcases hx with (hx | rfl) | hx
    · exact h.ok x (List.mem_of_mem_take hx)
    · exact hc
    · exact h.ok x (List.mem_of_mem_drop hx)
theorem cut_sum (c : Nat) : ∀ l : List Nat, ((SL.cutAt c l).map fun p => p.length + 1).sum = l.length + 1
  | [] => rfl
  | y :: ys => by
    have ih := cut_sum c ys
    rw [SL.cutAt]
    by_cases h : y = c
    · rw [if_pos h]
      simp only [List.map_cons, List.sum_cons, ih, List.length_nil, List.length_cons]
      omega
    · rw [if_neg h]
      cases hc : SL.cutAt c ys with
      | nil => exact absurd hc (SL.cut_ne c ys)
      | cons w ws =>
        rw [hc] at ih
        simp only [List.map_cons, List.sum_cons, List.length_cons] at ih ⊢
        omega
theorem set_sum (w : Str) : ∀ (ls : List Str) (j : Nat), ((ls.set j w).map fun p => p.length + 1).sum ≤ (ls.map fun p => p.length + 1).sum + w.length
  | [], _ => by simp
  | x :: xs, 0 => by simp; omega
  | x :: xs, j + 1 => by
    have := set_sum w xs j
    simp only [List.set_cons_succ, List.map_cons, List.sum_cons]
    omega
theorem join_bound {z w : Str} {M j : Nat} (h : Li M z) (hw : Li 10 w) : Li (M + 20) (Txt.join " " ((Txt.split z " ").set j w)) ∧ (((Txt.split z " ").set j w).map (·.length)).sum + ((Txt.split z " ").set j w).length * 1 ≤ M + 11 := by
  have hp : ∀ p ∈ Txt.split z " ", Li M p := fun p hp => by
    rw [SL.sp_32] at hp
    obtain ⟨a, _, b⟩ := (SL.split_small (by decide)).2 p hp
    exact ⟨Nat.le_trans a h.len, fun c hc => h.ok c (b c hc)⟩
  have hsum : ((Txt.split z " ").map fun p => p.length + 1).sum = z.length + 1 := by
    rw [SL.sp_32, SL.split_sign z 32 (fun _ => SL.kind_ge (by decide) z), List.map_map]
    have : ((fun p : Str => p.length + 1) ∘ SL.ofL) = fun l : List Nat => l.length + 1 := funext fun l => by
      show (SL.ofL l).length + 1 = _
      rw [← SL.len_toList, SL.toList_ofL]
    rw [this, cut_sum, SL.len_toList]
  have hs := set_sum w (Txt.split z " ") j
  have hz := h.len
  have hwl := hw.len
  have hq : ∀ p ∈ (Txt.split z " ").set j w, ∀ c ∈ p.cps.toList, c < 1114112 := fun p hp' c hc => by
    rcases List.mem_or_eq_of_mem_set hp' with h' | rfl
    · exact (hp p h').ok c hc
    · exact hw.ok c hc
  generalize (Txt.split z " ").set j w = ys at *
  rw [hsum] at hs
  have sum1 : ∀ l : List Str, (l.map (·.length)).sum + l.length * 1 = (l.map fun p => p.length + 1).sum := fun l => by
    induction l with
    | nil => rfl
    | cons x xs ih => simp only [List.map_cons, List.sum_cons, List.length_cons] at ih ⊢; omega
  refine ⟨?_, by rw [sum1]; omega⟩
  cases ys with
  | nil => exact ⟨Nat.zero_le _, fun c hc => by cases hc⟩
  | cons x xs =>
    refine ⟨?_, fun c hc => ?_⟩
    · rw [SL.join_len]
      have e : (xs.map fun p => (" " : Str).length + p.length) = xs.map fun p => p.length + 1 := List.map_congr_left fun p _ => Nat.add_comm _ _
      rw [e]
      simp only [List.map_cons, List.sum_cons] at hs
      omega
    · rw [SL.join_list] at hc
      rcases List.mem_append.mp hc with hc | hc
      · exact hq x (by simp) c hc
      · obtain ⟨p, hp, hc⟩ := List.mem_flatMap.mp hc
        rcases List.mem_append.mp hc with hc | hc
        · have : c = 32 := by
            rw [SL.sp_32] at hc
            simpa using hc
          omega
        · exact hq p (by simp [hp]) c hc
theorem split_pos (z : Str) : 0 < (Txt.split z " ").length ∧ (Txt.split z " ").length ≤ z.length + 1 := by
  rw [SL.sp_32]
  refine ⟨?_, (SL.split_small (by decide)).1⟩
  rw [SL.split_sign z 32 (fun _ => SL.kind_ge (by decide) z), List.length_map]
  exact List.length_pos_iff.mpr (SL.cut_ne _ _)
theorem lay_all6 : ∀ ls : List Str, (∀ l ∈ ls, PyData.strOk l = true) → PyData.canLayAll0 (ls.map PyData.str) = true
  | [], _ => rfl
  | x :: xs, h => by simp [PyData.canLayAll0, PyData.canLay0, lay_all6 xs (fun l hl => h l (by simp [hl])), h x (by simp)]
theorem depth_all6 : ∀ ls : List Str, PyData.depthAll (ls.map PyData.str) ≤ 6
  | [] => by simp [PyData.depthAll]
  | x :: xs => by
    have := depth_all6 xs
    simp [PyData.depthAll, PyData.depth]
    omega
theorem shaped_strs (ls : List Str) (h : ∀ l ∈ ls, PyData.strOk l = true) : SeqAt.shaped (.list (ls.map .str)) = true := by
  have a := lay_all6 ls h
  have b := depth_all6 ls
  unfold SeqAt.shaped
  rw [Bool.and_eq_true, decide_eq_true_eq]
  exact ⟨by simp [PyData.canLay0, a], by simp [PyData.depth]; omega⟩
theorem dp_strs {K : PySem.W.Frag} {H : Hp} : ∀ ls : List Str, DpAll K H (ls.map V.str) (ls.map PyData.str)
  | [] => .nil
  | x :: xs => .cons (.str x) (dp_strs xs)
theorem eqv_nil (ls : List Str) : (PyData.list (ls.map PyData.str)).eqv (PyData.list []) = decide (ls = []) := by
  cases ls with
  | nil => rfl
  | cons x xs => rfl
theorem ne_jar {H : Hp} {p b : Addr} {N : Int} (j : JarAt H p N) (n : H b = none) : b ≠ p := fun z => by
  obtain ⟨_, _, _, hp, _⟩ := j
  rw [z, hp] at n
  cases n
def spBent : Sp := fun vs H Q _ => ∃ (p a : Addr) (ls : List Str) (N : Int) (M : Nat), vs = [.ref p, .ref a] ∧ JarAt H p N ∧ N ≤ 9900 ∧ a ≠ p ∧ H a = some (.lst (ls.map V.str)) ∧ ls.length ≤ 6 ∧ M ≤ 60 ∧ (∀ l ∈ ls, Li M l) ∧ ∀ (H' : Hp) (b : Addr) (zs : List Str), Chg p H H' → JarAt H' p (N + 4) → b ≠ p → H' b = some (.lst (zs.map V.str)) → zs.length ≤ ls.length + 1 → (∀ l ∈ zs, Li (M + 20) l) → Q (.ref b) H'
section
variable {P : Program} {w : World} {K : PySem.W.Frag} {mg : Str → Option Value} {base : Heap}
theorem scBent : FnScope ["_law_jar_here", "_law_lines", "_law_way", "_law_at", "_law_words", "_law_some", "_law_spot", "_law_line"] ["_law_jar_here", "_law_lines"] (defScope sL_bent_lines) := ⟨rfl, rfl, rfl, by decide +kernel, rfl, by decide +kernel, by decide +kernel⟩
theorem ok_bent {f : Addr} {fd : FuncData} (F : Fun K "_law_bent_lines" "_law_bent_lines" sL_bent_lines f fd) (T : Nm mg) (GT : GotF P w K mg base "_law_take" 1 ["_law_jar_here", "_law_many"] spTake) (GO : GotF P w K mg base "_law_of" 2 ["_law_jar_here", "_law_some"] spOf) (GS : GotF P w K mg base "_law_of" 2 ["_law_jar_here", "_law_some"] spOfS) : FnOk P w K mg base CX0 3 f fd ["_law_jar_here", "_law_lines"] spBent := by
  obtain ⟨fT, fdT, GT, bT, mT, kT⟩ := GT
  obtain ⟨fO, fdO, GO, bO, mO, kO⟩ := GO
  obtain ⟨fS, fdS, GS, bS, mS, kS⟩ := GS
  refine F.ok scBent (fun vs H Q E h => ?_) (fun cdv A outer s H vs Q E hr h => ?_)
  · obtain ⟨p, a, ls, N, M, rfl, _⟩ := h
    rfl
  · obtain ⟨p, a, ls, N, M, rfl, hj, hN, nap, ha, l6, hM, lM, q⟩ := h
    have hr1 : Room 1 _ := hr.mono (by decide)
    refine ⟨_, (pss_cons (ps_par (by rfl) scBent.nd (i := 2) (j := 3) rfl rfl (by decide) rfl rfl (pa_cons (pe_call GT hr1 (by rfl) mT kT bT .nil pass0 (pa_cons (pv 0) (pa_cons pe_int pa_nil))) (pa_cons (pe_call GT hr1 (by rfl) mT kT bT .nil pass0 (pa_cons (pv 0) (pa_cons (pe_callB (call_max2 rfl) (by rfl) T.max b_max (pa_cons pe_int (pa_cons (pe_callB call_len_seq (by rfl) T.len PySem.boot_len (pa_cons (pv 1) pa_nil)) pa_nil))) pa_nil))) pa_nil)) (by rfl))
      (pss_cons (ps_if (PW.pt (pw_or (pt_cmpR op_eq (pv 2) pe_int (nomark _)) (pw_or1 (pt_cmpR (op_eqD hr.units) (pv 1) (pe_lst pa_nil) (nomark _))))) (pss_one (ps_ret (pe_op op_cat (pe_slice sl_list (pv 1) po_none (po_some (pv 3))) (pe_slice sl_list (pv 1) (po_some (pe_op op_add (pv 3) pe_int)) po_none)))) pss_nil)
      (pss_cons (ps_if (pt_cmpR op_eq (pv 2) pe_int (nomark _)) (pss_one (ps_ret (pe_op op_cat (pe_op op_cat (pe_slice sl_list (pv 1) po_none (po_some (pv 3))) (pe_lst (pa_cons (pe_ix ix_list (pv 1) (pv 3) (fun _ _ => rfl)) pa_nil))) (pe_slice sl_list (pv 1) (po_some (pv 3)) po_none)))) pss_nil)
      (pss_cons (ps_if (pt_cmpR op_eq (pv 2) pe_int (nomark _)) (pss_one (ps_ret (pe_op op_cat (pe_slice sl_list (pv 1) (po_some (pv 3)) po_none) (pe_slice sl_list (pv 1) po_none (po_some (pv 3)))))) pss_nil)
      (pss_cons (ps_set (i := 4) scBent.nd rfl (.inl rfl) (pe_split (pe_ix ix_list (pv 1) (pv 3) (fun _ _ => rfl)) pe_str))
      (pss_cons (ps_set (i := 5) scBent.nd rfl (.inl rfl) (pe_lst (pa_cons pe_str (pa_cons pe_str (pa_cons pe_str (pa_cons pe_str (pa_cons pe_str (pa_cons pe_str (pa_cons pe_str (pa_cons pe_str (pa_cons pe_str (pa_cons pe_str (pa_cons pe_str (pa_cons pe_str (pa_cons pe_str (pa_cons pe_str (pa_cons pe_str pa_nil)))))))))))))))))
      (pss_cons (ps_if (pt_cmpR op_eq (pv 2) pe_int (nomark _)) (pss_one (ps_ret (pe_op op_cat (pe_op op_cat (pe_slice sl_list (pv 1) po_none (po_some (pv 3))) (pe_lst (pa_cons (pe_call GO hr (by rfl) mO kO bO .nil pass0 (pa_cons (pv 0) (pa_cons (pe_lst (pa_cons pe_str (pa_cons pe_str (pa_cons pe_str (pa_cons pe_str (pa_cons pe_str pa_nil)))))) pa_nil))) pa_nil))) (pe_slice sl_list (pv 1) (po_some (pv 3)) po_none)))) pss_nil)
      (pss_cons (ps_if (pt_cmpR op_eq (pv 2) pe_int (nomark _)) (pss_cons (ps_set (i := 6) scBent.nd rfl (.inl rfl) (pe_call GT hr1 (by rfl) mT kT bT .nil pass0 (pa_cons (pv 0) (pa_cons (pe_op op_add (pe_callB call_len_str (by rfl) T.len PySem.boot_len (pa_cons (pe_ix ix_list (pv 1) (pv 3) (fun _ _ => rfl)) pa_nil)) pe_int) pa_nil))))
      (pss_cons (ps_set (i := 7) scBent.nd rfl (.inl rfl) (pe_op op_add_str (pe_op op_add_str (pe_slice sl_str (pe_ix ix_list (pv 1) (pv 3) (fun _ _ => rfl)) po_none (po_some (pv 6))) (pe_call GS hr (by rfl) mS kS bS .nil pass0 (pa_cons (pv 0) (pa_cons pe_str pa_nil)))) (pe_slice sl_str (pe_ix ix_list (pv 1) (pv 3) (fun _ _ => rfl)) (po_some (pv 6)) po_none)))
      (pss_one (ps_ret (pe_op op_cat (pe_op op_cat (pe_slice sl_list (pv 1) po_none (po_some (pv 3))) (pe_lst (pa_cons (pv 7) pa_nil))) (pe_slice sl_list (pv 1) (po_some (pe_op op_add (pv 3) pe_int)) po_none)))))) pss_nil)
      (pss_cons (ps_set (i := 5) scBent.nd rfl (.inl rfl) (pe_op op_cat (pv 5) (pe_lst (pa_cons pe_str (pa_cons pe_str (pa_cons pe_str (pa_cons pe_str (pa_cons pe_str (pa_cons pe_str (pa_cons pe_str (pa_cons pe_str pa_nil)))))))))))
      (pss_cons (ps_asg (pe_call GO hr (by rfl) mO kO bO .nil pass0 (pa_cons (pv 0) (pa_cons (pv 5) pa_nil))) (pg_sub (pv 4) (pe_call GT hr1 (by rfl) mT kT bT .nil pass0 (pa_cons (pv 0) (pa_cons (pe_callB call_len_seq (by rfl) T.len PySem.boot_len (pa_cons (pv 4) pa_nil)) pa_nil))) set_list))
      (pss_one (ps_ret (pe_op op_cat (pe_op op_cat (pe_slice sl_list (pv 1) po_none (po_some (pv 3))) (pe_lst (pa_cons (pe_join pe_str (pv 4)) pa_nil))) (pe_slice sl_list (pv 1) (po_some (pe_op op_add (pv 3) pe_int)) po_none)))))))))))))), ?_⟩
    refine ⟨_, rfl, p, 7, N, rfl, ⟨by decide, by decide⟩, hj, by omega, fun way H1 w1 c1 j1 => ?_⟩
    have ha1 := c1 _ _ ha nap
    refine ⟨_, rfl, _, rfl, a, _, rfl, .inl (SqL.of ha1), ?_⟩
    have hm : ∀ u : Int, u = (if (((ls.map V.str).length : Int)) > 1 then ((ls.map V.str).length : Int) else 1) → (0 < u ∧ u < 1073741824) ∧ u ≤ ((max 1 ls.length : Nat) : Int) := fun u hu => by
      rw [List.length_map] at hu
      split at hu <;> omega
    obtain ⟨hm1, hm2⟩ := hm _ rfl
    refine ⟨_, _, rfl, p, _, _, rfl, hm1, j1, by omega, fun at_ H2 w2 c2 j => ?_⟩
    obtain ⟨k, rfl⟩ := Int.eq_ofNat_of_zero_le w2.1
    have hk : k < max 1 ls.length := by omega
    have c := c1.trans c2
    replace ha := c2 _ _ ha1 nap
    clear hm hm1 hm2 w2 c1 c2 ha1 j1
    refine ⟨_, _, rfl, _, rfl, rfl, _, rfl, ?_⟩
    rw [int_eq]
    by_cases w0 : way = 0
    · rw [decide_eq_true w0]
      refine iteT (iteT ?_)
      refine ⟨_, rfl, _, rfl, k, rfl, a, _, rfl, SqL.of ha, fun b1 nb1 => ?_⟩
      have e := same_upd (o := .lst (cutV (ls.map V.str) none (some (k : Int)))) nb1
      have ob1 := upd_same (H := H2) (a := b1) (o := .lst (cutV (ls.map V.str) none (some (k : Int))))
      have mb1 : b1 ≠ p := ne_jar j nb1
      replace c := c.trans (Chg.of e); replace j := j.same e; replace ha := e _ _ ha
      clear e nb1
      generalize upd H2 b1 (.lst (cutV (ls.map V.str) none (some (k : Int)))) = H2_1 at *
      rw [cut_to] at ob1
      refine ⟨_, rfl, _, rfl, _, _, rfl, rfl, _, rfl, a, _, rfl, SqL.of ha, fun b2 nb2 => ?_⟩
      have e := same_upd (o := .lst (cutV (ls.map V.str) (some ((k : Int) + 1)) none)) nb2
      have ob2 := upd_same (H := H2_1) (a := b2) (o := .lst (cutV (ls.map V.str) (some ((k : Int) + 1)) none))
      have mb2 : b2 ≠ p := ne_jar j nb2
      replace c := c.trans (Chg.of e); replace j := j.same e; replace ha := e _ _ ha
      replace ob1 := e _ _ ob1
      clear e nb2
      generalize upd H2_1 b2 (.lst (cutV (ls.map V.str) (some ((k : Int) + 1)) none)) = H2_2 at *
      rw [show ((k : Int) + 1) = ((k + 1 : Nat) : Int) by omega, cut_from] at ob2
      refine ⟨b1, b2, _, _, rfl, rfl, ob1, ob2, ?_, fun b3 nb3 => ?_⟩
      · simp only [List.length_append, List.length_map, List.length_take, List.length_drop, List.length_cons, List.length_nil]; exact Nat.le_trans (show _ ≤ 100 by omega) (by decide)
      have e := same_upd (o := .lst (((ls.take k).map V.str) ++ ((ls.drop (k + 1)).map V.str))) nb3
      have ob3 := upd_same (H := H2_2) (a := b3) (o := .lst (((ls.take k).map V.str) ++ ((ls.drop (k + 1)).map V.str)))
      have mb3 : b3 ≠ p := ne_jar j nb3
      replace c := c.trans (Chg.of e); replace j := j.same e; replace ha := e _ _ ha
      replace ob1 := e _ _ ob1
      replace ob2 := e _ _ ob2
      clear e nb3
      generalize upd H2_2 b3 (.lst (((ls.take k).map V.str) ++ ((ls.drop (k + 1)).map V.str))) = H2_3 at *
      refine q _ b3 (ls.take k ++ ls.drop (k + 1)) c (j.mono (by omega)) mb3 (by rw [ob3]; simp only [List.map_append, List.map_cons, List.map_nil]) (by simp only [List.length_append, List.length_take, List.length_drop, List.length_cons, List.length_nil]; omega) ?_
      exact fun l hl => by
        exact (lM l (by simp only [List.mem_append] at hl; rcases hl with h | h; exact List.mem_of_mem_take h; exact List.mem_of_mem_drop h)).mono (by omega)
    rw [decide_eq_false w0]
    refine iteF ?_
    refine ⟨_, rfl, (show 0 ≤ sizeLine by decide), fun b0 nb0 => ?_⟩
    have e := same_upd (o := .lst []) nb0
    have ob0 := upd_same (H := H2) (a := b0) (o := .lst [])
    have mb0 : b0 ≠ p := ne_jar j nb0
    replace c := c.trans (Chg.of e); replace j := j.same e; replace ha := e _ _ ha
    clear e nb0
    generalize upd H2 b0 (.lst []) = H2_1 at *
    refine ⟨.list (ls.map .str), .list [], .lst (SqL.of ha) (dp_strs ls), .lst (SqL.of ob0) .nil, shaped_strs ls (fun l hl => (lM l hl).sok), rfl, _, rfl, ?_⟩
    rw [eqv_nil]
    by_cases hls : ls = []
    · rw [decide_eq_true hls]
      refine iteT ?_
      refine ⟨_, rfl, _, rfl, k, rfl, a, _, rfl, SqL.of ha, fun b1 nb1 => ?_⟩
      have e := same_upd (o := .lst (cutV (ls.map V.str) none (some (k : Int)))) nb1
      have ob1 := upd_same (H := H2_1) (a := b1) (o := .lst (cutV (ls.map V.str) none (some (k : Int))))
      have mb1 : b1 ≠ p := ne_jar j nb1
      replace c := c.trans (Chg.of e); replace j := j.same e; replace ha := e _ _ ha
      replace ob0 := e _ _ ob0
      clear e nb1
      generalize upd H2_1 b1 (.lst (cutV (ls.map V.str) none (some (k : Int)))) = H2_2 at *
      rw [cut_to] at ob1
      refine ⟨_, rfl, _, rfl, _, _, rfl, rfl, _, rfl, a, _, rfl, SqL.of ha, fun b2 nb2 => ?_⟩
      have e := same_upd (o := .lst (cutV (ls.map V.str) (some ((k : Int) + 1)) none)) nb2
      have ob2 := upd_same (H := H2_2) (a := b2) (o := .lst (cutV (ls.map V.str) (some ((k : Int) + 1)) none))
      have mb2 : b2 ≠ p := ne_jar j nb2
      replace c := c.trans (Chg.of e); replace j := j.same e; replace ha := e _ _ ha
      replace ob0 := e _ _ ob0
      replace ob1 := e _ _ ob1
      clear e nb2
      generalize upd H2_2 b2 (.lst (cutV (ls.map V.str) (some ((k : Int) + 1)) none)) = H2_3 at *
      rw [show ((k : Int) + 1) = ((k + 1 : Nat) : Int) by omega, cut_from] at ob2
      refine ⟨b1, b2, _, _, rfl, rfl, ob1, ob2, ?_, fun b3 nb3 => ?_⟩
      · simp only [List.length_append, List.length_map, List.length_take, List.length_drop, List.length_cons, List.length_nil]; exact Nat.le_trans (show _ ≤ 100 by omega) (by decide)
      have e := same_upd (o := .lst (((ls.take k).map V.str) ++ ((ls.drop (k + 1)).map V.str))) nb3
      have ob3 := upd_same (H := H2_3) (a := b3) (o := .lst (((ls.take k).map V.str) ++ ((ls.drop (k + 1)).map V.str)))
      have mb3 : b3 ≠ p := ne_jar j nb3
      replace c := c.trans (Chg.of e); replace j := j.same e; replace ha := e _ _ ha
      replace ob0 := e _ _ ob0
      replace ob1 := e _ _ ob1
      replace ob2 := e _ _ ob2
      clear e nb3
      generalize upd H2_3 b3 (.lst (((ls.take k).map V.str) ++ ((ls.drop (k + 1)).map V.str))) = H2_4 at *
      refine q _ b3 (ls.take k ++ ls.drop (k + 1)) c (j.mono (by omega)) mb3 (by rw [ob3]; simp only [List.map_append, List.map_cons, List.map_nil]) (by simp only [List.length_append, List.length_take, List.length_drop, List.length_cons, List.length_nil]; omega) ?_
      exact fun l hl => by
        exact (lM l (by simp only [List.mem_append] at hl; rcases hl with h | h; exact List.mem_of_mem_take h; exact List.mem_of_mem_drop h)).mono (by omega)
    rw [decide_eq_false hls]
    refine iteF ⟨_, rfl, rfl, _, rfl, ?_⟩
    have hk' : k < ls.length := by
      have : ls.length ≠ 0 := fun z => hls (List.eq_nil_of_length_eq_zero z)
      omega
    rw [int_eq]
    by_cases w1 : way = 1
    · rw [decide_eq_true w1]
      refine iteT ?_
      refine ⟨_, rfl, _, rfl, k, rfl, a, _, rfl, SqL.of ha, fun b1 nb1 => ?_⟩
      have e := same_upd (o := .lst (cutV (ls.map V.str) none (some (k : Int)))) nb1
      have ob1 := upd_same (H := H2_1) (a := b1) (o := .lst (cutV (ls.map V.str) none (some (k : Int))))
      have mb1 : b1 ≠ p := ne_jar j nb1
      replace c := c.trans (Chg.of e); replace j := j.same e; replace ha := e _ _ ha
      replace ob0 := e _ _ ob0
      clear e nb1
      generalize upd H2_1 b1 (.lst (cutV (ls.map V.str) none (some (k : Int)))) = H2_2 at *
      rw [cut_to] at ob1
      refine ⟨_, rfl, _, rfl, a, _, _, .str ls[k], rfl, rfl, SqL.of ha, atI_nat (by rw [List.getElem?_map, List.getElem?_eq_getElem hk']; rfl), (show 1 ≤ sizeLine by decide), fun b2 nb2 => ?_⟩
      have e := same_upd (o := .lst [V.str ls[k]]) nb2
      have ob2 := upd_same (H := H2_2) (a := b2) (o := .lst [V.str ls[k]])
      have mb2 : b2 ≠ p := ne_jar j nb2
      replace c := c.trans (Chg.of e); replace j := j.same e; replace ha := e _ _ ha
      replace ob0 := e _ _ ob0
      replace ob1 := e _ _ ob1
      clear e nb2
      generalize upd H2_2 b2 (.lst [V.str ls[k]]) = H2_3 at *
      refine ⟨b1, b2, _, _, rfl, rfl, ob1, ob2, ?_, fun b3 nb3 => ?_⟩
      · simp only [List.length_append, List.length_map, List.length_take, List.length_drop, List.length_cons, List.length_nil]; exact Nat.le_trans (show _ ≤ 100 by omega) (by decide)
      have e := same_upd (o := .lst (((ls.take k).map V.str) ++ [V.str ls[k]])) nb3
      have ob3 := upd_same (H := H2_3) (a := b3) (o := .lst (((ls.take k).map V.str) ++ [V.str ls[k]]))
      have mb3 : b3 ≠ p := ne_jar j nb3
      replace c := c.trans (Chg.of e); replace j := j.same e; replace ha := e _ _ ha
      replace ob0 := e _ _ ob0
      replace ob1 := e _ _ ob1
      replace ob2 := e _ _ ob2
      clear e nb3
      generalize upd H2_3 b3 (.lst (((ls.take k).map V.str) ++ [V.str ls[k]])) = H2_4 at *
      refine ⟨_, rfl, _, rfl, k, rfl, a, _, rfl, SqL.of ha, fun b4 nb4 => ?_⟩
      have e := same_upd (o := .lst (cutV (ls.map V.str) (some (k : Int)) none)) nb4
      have ob4 := upd_same (H := H2_4) (a := b4) (o := .lst (cutV (ls.map V.str) (some (k : Int)) none))
      have mb4 : b4 ≠ p := ne_jar j nb4
      replace c := c.trans (Chg.of e); replace j := j.same e; replace ha := e _ _ ha
      replace ob0 := e _ _ ob0
      replace ob1 := e _ _ ob1
      replace ob2 := e _ _ ob2
      replace ob3 := e _ _ ob3
      clear e nb4
      generalize upd H2_4 b4 (.lst (cutV (ls.map V.str) (some (k : Int)) none)) = H2_5 at *
      rw [cut_from] at ob4
      refine ⟨b3, b4, _, _, rfl, rfl, ob3, ob4, ?_, fun b5 nb5 => ?_⟩
      · simp only [List.length_append, List.length_map, List.length_take, List.length_drop, List.length_cons, List.length_nil]; exact Nat.le_trans (show _ ≤ 100 by omega) (by decide)
      have e := same_upd (o := .lst ((((ls.take k).map V.str) ++ [V.str ls[k]]) ++ ((ls.drop k).map V.str))) nb5
      have ob5 := upd_same (H := H2_5) (a := b5) (o := .lst ((((ls.take k).map V.str) ++ [V.str ls[k]]) ++ ((ls.drop k).map V.str)))
      have mb5 : b5 ≠ p := ne_jar j nb5
      replace c := c.trans (Chg.of e); replace j := j.same e; replace ha := e _ _ ha
      replace ob0 := e _ _ ob0
      replace ob1 := e _ _ ob1
      replace ob2 := e _ _ ob2
      replace ob3 := e _ _ ob3
      replace ob4 := e _ _ ob4
      clear e nb5
      generalize upd H2_5 b5 (.lst ((((ls.take k).map V.str) ++ [V.str ls[k]]) ++ ((ls.drop k).map V.str))) = H2_6 at *
      refine q _ b5 (ls.take k ++ [ls[k]] ++ ls.drop k) c (j.mono (by omega)) mb5 (by rw [ob5]; simp only [List.map_append, List.map_cons, List.map_nil]) (by simp only [List.length_append, List.length_take, List.length_drop, List.length_cons, List.length_nil]; omega) ?_
      exact fun l hl => by
        exact (lM l (by simp only [List.mem_append, List.mem_singleton] at hl; rcases hl with (h | h) | h; exact List.mem_of_mem_take h; rw [h]; exact List.getElem_mem hk'; exact List.mem_of_mem_drop h)).mono (by omega)
    rw [decide_eq_false w1]
    refine iteF ⟨_, rfl, rfl, _, rfl, ?_⟩
    rw [int_eq]
    by_cases w2 : way = 2
    · rw [decide_eq_true w2]
      refine iteT ?_
      refine ⟨_, rfl, _, rfl, k, rfl, a, _, rfl, SqL.of ha, fun b1 nb1 => ?_⟩
      have e := same_upd (o := .lst (cutV (ls.map V.str) (some (k : Int)) none)) nb1
      have ob1 := upd_same (H := H2_1) (a := b1) (o := .lst (cutV (ls.map V.str) (some (k : Int)) none))
      have mb1 : b1 ≠ p := ne_jar j nb1
      replace c := c.trans (Chg.of e); replace j := j.same e; replace ha := e _ _ ha
      replace ob0 := e _ _ ob0
      clear e nb1
      generalize upd H2_1 b1 (.lst (cutV (ls.map V.str) (some (k : Int)) none)) = H2_2 at *
      rw [cut_from] at ob1
      refine ⟨_, rfl, _, rfl, k, rfl, a, _, rfl, SqL.of ha, fun b2 nb2 => ?_⟩
      have e := same_upd (o := .lst (cutV (ls.map V.str) none (some (k : Int)))) nb2
      have ob2 := upd_same (H := H2_2) (a := b2) (o := .lst (cutV (ls.map V.str) none (some (k : Int))))
      have mb2 : b2 ≠ p := ne_jar j nb2
      replace c := c.trans (Chg.of e); replace j := j.same e; replace ha := e _ _ ha
      replace ob0 := e _ _ ob0
      replace ob1 := e _ _ ob1
      clear e nb2
      generalize upd H2_2 b2 (.lst (cutV (ls.map V.str) none (some (k : Int)))) = H2_3 at *
      rw [cut_to] at ob2
      refine ⟨b1, b2, _, _, rfl, rfl, ob1, ob2, ?_, fun b3 nb3 => ?_⟩
      · simp only [List.length_append, List.length_map, List.length_take, List.length_drop, List.length_cons, List.length_nil]; exact Nat.le_trans (show _ ≤ 100 by omega) (by decide)
      have e := same_upd (o := .lst (((ls.drop k).map V.str) ++ ((ls.take k).map V.str))) nb3
      have ob3 := upd_same (H := H2_3) (a := b3) (o := .lst (((ls.drop k).map V.str) ++ ((ls.take k).map V.str)))
      have mb3 : b3 ≠ p := ne_jar j nb3
      replace c := c.trans (Chg.of e); replace j := j.same e; replace ha := e _ _ ha
      replace ob0 := e _ _ ob0
      replace ob1 := e _ _ ob1
      replace ob2 := e _ _ ob2
      clear e nb3
      generalize upd H2_3 b3 (.lst (((ls.drop k).map V.str) ++ ((ls.take k).map V.str))) = H2_4 at *
      refine q _ b3 (ls.drop k ++ ls.take k) c (j.mono (by omega)) mb3 (by rw [ob3]; simp only [List.map_append, List.map_cons, List.map_nil]) (by simp only [List.length_append, List.length_take, List.length_drop, List.length_cons, List.length_nil]; omega) ?_
      exact fun l hl => by
        exact (lM l (by simp only [List.mem_append] at hl; rcases hl with h | h; exact List.mem_of_mem_drop h; exact List.mem_of_mem_take h)).mono (by omega)
    rw [decide_eq_false w2]
    refine iteF ?_
    have hz := lM ls[k] (List.getElem_mem hk')
    have hzl := hz.len
    have hat : atI (ls.map V.str) (k : Int) = some (.str ls[k]) := atI_nat (by rw [List.getElem?_map, List.getElem?_eq_getElem hk']; rfl)
    refine ⟨_, rfl, _, rfl, a, _, _, .str ls[k], rfl, rfl, SqL.of ha, hat, ⟨_, rfl⟩, _, _, rfl, rfl, by decide +kernel, Nat.le_trans (show _ ≤ 400 by omega) (by decide), fun b1 nb1 => ?_⟩
    have hb1 : H b1 = none := by
      cases z : H b1 with
      | none => rfl
      | some u => exact absurd (c _ _ z (ne_jar j nb1)) (by rw [nb1]; simp)
    have ab1 : a ≠ b1 := ne_of_none ha nb1
    have e := same_upd (o := .lst ((Txt.split ls[k] " ").map V.str)) nb1
    have ob1 := upd_same (H := H2_1) (a := b1) (o := .lst ((Txt.split ls[k] " ").map V.str))
    have mb1 : b1 ≠ p := ne_jar j nb1
    replace c := c.trans (Chg.of e); replace j := j.same e; replace ha := e _ _ ha
    replace ob0 := e _ _ ob0
    clear e nb1
    generalize upd H2_1 b1 (.lst ((Txt.split ls[k] " ").map V.str)) = H2_2 at *
    refine ⟨(show 15 ≤ sizeLine by decide), fun b2 nb2 => ?_⟩
    have e := same_upd (o := .lst [V.str "every", V.str "behind", V.str "late", V.str "block", V.str "rest", V.str "0", V.str "14", V.str "15", V.str "01", V.str "-1", V.str "9", V.str "10", V.str "now", V.str "last", V.str "before"]) nb2
    have ob2 := upd_same (H := H2_2) (a := b2) (o := .lst [V.str "every", V.str "behind", V.str "late", V.str "block", V.str "rest", V.str "0", V.str "14", V.str "15", V.str "01", V.str "-1", V.str "9", V.str "10", V.str "now", V.str "last", V.str "before"])
    have mb2 : b2 ≠ p := ne_jar j nb2
    replace c := c.trans (Chg.of e); replace j := j.same e; replace ha := e _ _ ha
    replace ob0 := e _ _ ob0
    replace ob1 := e _ _ ob1
    clear e nb2
    generalize upd H2_2 b2 (.lst [V.str "every", V.str "behind", V.str "late", V.str "block", V.str "rest", V.str "0", V.str "14", V.str "15", V.str "01", V.str "-1", V.str "9", V.str "10", V.str "now", V.str "last", V.str "before"]) = H2_3 at *
    refine ⟨_, rfl, rfl, _, rfl, ?_⟩
    rw [int_eq]
    by_cases w3 : way = 3
    · rw [decide_eq_true w3]
      refine iteT ?_
      refine ⟨_, rfl, _, rfl, k, rfl, a, _, rfl, SqL.of ha, fun b3 nb3 => ?_⟩
      have e := same_upd (o := .lst (cutV (ls.map V.str) none (some (k : Int)))) nb3
      have ob3 := upd_same (H := H2_3) (a := b3) (o := .lst (cutV (ls.map V.str) none (some (k : Int))))
      have mb3 : b3 ≠ p := ne_jar j nb3
      replace c := c.trans (Chg.of e); replace j := j.same e; replace ha := e _ _ ha
      replace ob0 := e _ _ ob0
      replace ob1 := e _ _ ob1
      replace ob2 := e _ _ ob2
      clear e nb3
      generalize upd H2_3 b3 (.lst (cutV (ls.map V.str) none (some (k : Int)))) = H2_4 at *
      rw [cut_to] at ob3
      refine ⟨_, rfl, (show 5 ≤ sizeLine by decide), fun b4 nb4 => ?_⟩
      have e := same_upd (o := .lst [V.str "", V.str " ", V.str "every 3", V.str "rest heads", V.str "late"]) nb4
      have ob4 := upd_same (H := H2_4) (a := b4) (o := .lst [V.str "", V.str " ", V.str "every 3", V.str "rest heads", V.str "late"])
      have mb4 : b4 ≠ p := ne_jar j nb4
      replace c := c.trans (Chg.of e); replace j := j.same e; replace ha := e _ _ ha
      replace ob0 := e _ _ ob0
      replace ob1 := e _ _ ob1
      replace ob2 := e _ _ ob2
      replace ob3 := e _ _ ob3
      clear e nb4
      generalize upd H2_4 b4 (.lst [V.str "", V.str " ", V.str "every 3", V.str "rest heads", V.str "late"]) = H2_5 at *
      refine ⟨p, b4, _, _, rfl, ob4, mb4, ⟨by simp, by simp⟩, j, by omega, fun v H5 hv cc jj => ?_⟩
      obtain ⟨z, rfl, lz⟩ := of_lits (zs := ["", " ", "every 3", "rest heads", "late"]) (by decide +kernel) hv
      clear hv
      replace c := c.trans cc; replace ha := cc _ _ ha nap
      replace ob0 := cc _ _ ob0 mb0
      replace ob1 := cc _ _ ob1 mb1
      replace ob2 := cc _ _ ob2 mb2
      replace ob3 := cc _ _ ob3 mb3
      replace ob4 := cc _ _ ob4 mb4
      replace j := jj
      clear cc jj
      refine ⟨(show 1 ≤ sizeLine by decide), fun b5 nb5 => ?_⟩
      have e := same_upd (o := .lst [V.str z]) nb5
      have ob5 := upd_same (H := H5) (a := b5) (o := .lst [V.str z])
      have mb5 : b5 ≠ p := ne_jar j nb5
      replace c := c.trans (Chg.of e); replace j := j.same e; replace ha := e _ _ ha
      replace ob0 := e _ _ ob0
      replace ob1 := e _ _ ob1
      replace ob2 := e _ _ ob2
      replace ob3 := e _ _ ob3
      replace ob4 := e _ _ ob4
      clear e nb5
      generalize upd H5 b5 (.lst [V.str z]) = H5_6 at *
      refine ⟨b3, b5, _, _, rfl, rfl, ob3, ob5, ?_, fun b6 nb6 => ?_⟩
      · simp only [List.length_append, List.length_map, List.length_take, List.length_drop, List.length_cons, List.length_nil]; exact Nat.le_trans (show _ ≤ 100 by omega) (by decide)
      have e := same_upd (o := .lst (((ls.take k).map V.str) ++ [V.str z])) nb6
      have ob6 := upd_same (H := H5_6) (a := b6) (o := .lst (((ls.take k).map V.str) ++ [V.str z]))
      have mb6 : b6 ≠ p := ne_jar j nb6
      replace c := c.trans (Chg.of e); replace j := j.same e; replace ha := e _ _ ha
      replace ob0 := e _ _ ob0
      replace ob1 := e _ _ ob1
      replace ob2 := e _ _ ob2
      replace ob3 := e _ _ ob3
      replace ob4 := e _ _ ob4
      replace ob5 := e _ _ ob5
      clear e nb6
      generalize upd H5_6 b6 (.lst (((ls.take k).map V.str) ++ [V.str z])) = H5_7 at *
      refine ⟨_, rfl, _, rfl, k, rfl, a, _, rfl, SqL.of ha, fun b7 nb7 => ?_⟩
      have e := same_upd (o := .lst (cutV (ls.map V.str) (some (k : Int)) none)) nb7
      have ob7 := upd_same (H := H5_7) (a := b7) (o := .lst (cutV (ls.map V.str) (some (k : Int)) none))
      have mb7 : b7 ≠ p := ne_jar j nb7
      replace c := c.trans (Chg.of e); replace j := j.same e; replace ha := e _ _ ha
      replace ob0 := e _ _ ob0
      replace ob1 := e _ _ ob1
      replace ob2 := e _ _ ob2
      replace ob3 := e _ _ ob3
      replace ob4 := e _ _ ob4
      replace ob5 := e _ _ ob5
      replace ob6 := e _ _ ob6
      clear e nb7
      generalize upd H5_7 b7 (.lst (cutV (ls.map V.str) (some (k : Int)) none)) = H5_8 at *
      rw [cut_from] at ob7
      refine ⟨b6, b7, _, _, rfl, rfl, ob6, ob7, ?_, fun b8 nb8 => ?_⟩
      · simp only [List.length_append, List.length_map, List.length_take, List.length_drop, List.length_cons, List.length_nil]; exact Nat.le_trans (show _ ≤ 100 by omega) (by decide)
      have e := same_upd (o := .lst ((((ls.take k).map V.str) ++ [V.str z]) ++ ((ls.drop k).map V.str))) nb8
      have ob8 := upd_same (H := H5_8) (a := b8) (o := .lst ((((ls.take k).map V.str) ++ [V.str z]) ++ ((ls.drop k).map V.str)))
      have mb8 : b8 ≠ p := ne_jar j nb8
      replace c := c.trans (Chg.of e); replace j := j.same e; replace ha := e _ _ ha
      replace ob0 := e _ _ ob0
      replace ob1 := e _ _ ob1
      replace ob2 := e _ _ ob2
      replace ob3 := e _ _ ob3
      replace ob4 := e _ _ ob4
      replace ob5 := e _ _ ob5
      replace ob6 := e _ _ ob6
      replace ob7 := e _ _ ob7
      clear e nb8
      generalize upd H5_8 b8 (.lst ((((ls.take k).map V.str) ++ [V.str z]) ++ ((ls.drop k).map V.str))) = H5_9 at *
      refine q _ b8 (ls.take k ++ [z] ++ ls.drop k) c (j.mono (by omega)) mb8 (by rw [ob8]; simp only [List.map_append, List.map_cons, List.map_nil]) (by simp only [List.length_append, List.length_take, List.length_drop, List.length_cons, List.length_nil]; omega) ?_
      exact fun l hl => by
        simp only [List.mem_append, List.mem_singleton] at hl
        rcases hl with (h | h) | h
        · exact (lM l (List.mem_of_mem_take h)).mono (by omega)
        · rw [h]; exact lz.mono (by omega)
        · exact (lM l (List.mem_of_mem_drop h)).mono (by omega)
    rw [decide_eq_false w3]
    refine iteF ⟨_, rfl, rfl, _, rfl, ?_⟩
    rw [int_eq]
    by_cases w4 : way = 4
    · rw [decide_eq_true w4]
      refine iteT ?_
      refine ⟨_, rfl, _, rfl, _, rfl, a, _, _, .str ls[k], rfl, rfl, SqL.of ha, hat, _, rfl, Nat.le_trans (show _ ≤ 400 by omega) (by decide), _, _, rfl, rfl, p, _, _, rfl, ⟨by omega, by omega⟩, j, by omega, fun d H5 hd cc jj => ?_⟩
      obtain ⟨n, rfl⟩ := Int.eq_ofNat_of_zero_le hd.1
      have hn : n ≤ ls[k].length := by omega
      clear hd
      replace c := c.trans cc; replace ha := cc _ _ ha nap
      replace ob0 := cc _ _ ob0 mb0
      replace ob1 := cc _ _ ob1 mb1
      replace ob2 := cc _ _ ob2 mb2
      replace j := jj
      clear cc jj
      refine ⟨_, rfl, _, rfl, a, _, _, .str ls[k], rfl, rfl, SqL.of ha, hat, _, rfl, n, rfl, ls[k], rfl, Nat.le_trans (show _ ≤ 400 by omega) (by decide), _, rfl, p, " x0A", _, rfl, ⟨by decide, by decide⟩, j, by omega, fun ch H6 hc cc jj => ?_⟩
      have hch : ch < 1114112 := (by decide +kernel : ∀ c ∈ (" x0A" : Str).cps.toList, c < 1114112) ch hc
      clear hc
      replace c := c.trans cc; replace ha := cc _ _ ha nap
      replace ob0 := cc _ _ ob0 mb0
      replace ob1 := cc _ _ ob1 mb1
      replace ob2 := cc _ _ ob2 mb2
      replace j := jj
      clear cc jj
      have y1 := cutS_length ls[k] none (some (n : Int))
      have y2 := cutS_length ls[k] (some (n : Int)) none
      have hL := cut_line hz hn hch
      have y3 : (cutS ls[k] none (some (n : Int)) ++ (⟨#[ch]⟩ : Str)).length ≤ 200 := by
        rw [← SL.len_toList, app_L, List.length_append, SL.len_toList]
        show _ + 1 ≤ 200
        omega
      refine ⟨_, _, rfl, rfl, Nat.le_trans (show _ + 1 ≤ 400 by omega) (by decide), _, rfl, _, rfl, a, _, _, .str ls[k], rfl, rfl, SqL.of ha, hat, _, rfl, n, rfl, ls[k], rfl, Nat.le_trans (show _ ≤ 400 by omega) (by decide), _, _, rfl, rfl, Nat.le_trans (show _ ≤ 400 by omega) (by decide), ?_⟩
      generalize cutS ls[k] none (some (n : Int)) ++ (⟨#[ch]⟩ : Str) ++ cutS ls[k] (some (n : Int)) none = line at *
      refine ⟨_, rfl, _, rfl, k, rfl, a, _, rfl, SqL.of ha, fun b3 nb3 => ?_⟩
      have e := same_upd (o := .lst (cutV (ls.map V.str) none (some (k : Int)))) nb3
      have ob3 := upd_same (H := H6) (a := b3) (o := .lst (cutV (ls.map V.str) none (some (k : Int))))
      have mb3 : b3 ≠ p := ne_jar j nb3
      replace c := c.trans (Chg.of e); replace j := j.same e; replace ha := e _ _ ha
      replace ob0 := e _ _ ob0
      replace ob1 := e _ _ ob1
      replace ob2 := e _ _ ob2
      clear e nb3
      generalize upd H6 b3 (.lst (cutV (ls.map V.str) none (some (k : Int)))) = H6_4 at *
      rw [cut_to] at ob3
      refine ⟨_, rfl, (show 1 ≤ sizeLine by decide), fun b4 nb4 => ?_⟩
      have e := same_upd (o := .lst [V.str line]) nb4
      have ob4 := upd_same (H := H6_4) (a := b4) (o := .lst [V.str line])
      have mb4 : b4 ≠ p := ne_jar j nb4
      replace c := c.trans (Chg.of e); replace j := j.same e; replace ha := e _ _ ha
      replace ob0 := e _ _ ob0
      replace ob1 := e _ _ ob1
      replace ob2 := e _ _ ob2
      replace ob3 := e _ _ ob3
      clear e nb4
      generalize upd H6_4 b4 (.lst [V.str line]) = H6_5 at *
      refine ⟨b3, b4, _, _, rfl, rfl, ob3, ob4, ?_, fun b5 nb5 => ?_⟩
      · simp only [List.length_append, List.length_map, List.length_take, List.length_drop, List.length_cons, List.length_nil]; exact Nat.le_trans (show _ ≤ 100 by omega) (by decide)
      have e := same_upd (o := .lst (((ls.take k).map V.str) ++ [V.str line])) nb5
      have ob5 := upd_same (H := H6_5) (a := b5) (o := .lst (((ls.take k).map V.str) ++ [V.str line]))
      have mb5 : b5 ≠ p := ne_jar j nb5
      replace c := c.trans (Chg.of e); replace j := j.same e; replace ha := e _ _ ha
      replace ob0 := e _ _ ob0
      replace ob1 := e _ _ ob1
      replace ob2 := e _ _ ob2
      replace ob3 := e _ _ ob3
      replace ob4 := e _ _ ob4
      clear e nb5
      generalize upd H6_5 b5 (.lst (((ls.take k).map V.str) ++ [V.str line])) = H6_6 at *
      refine ⟨_, rfl, _, rfl, _, _, rfl, rfl, _, rfl, a, _, rfl, SqL.of ha, fun b6 nb6 => ?_⟩
      have e := same_upd (o := .lst (cutV (ls.map V.str) (some ((k : Int) + 1)) none)) nb6
      have ob6 := upd_same (H := H6_6) (a := b6) (o := .lst (cutV (ls.map V.str) (some ((k : Int) + 1)) none))
      have mb6 : b6 ≠ p := ne_jar j nb6
      replace c := c.trans (Chg.of e); replace j := j.same e; replace ha := e _ _ ha
      replace ob0 := e _ _ ob0
      replace ob1 := e _ _ ob1
      replace ob2 := e _ _ ob2
      replace ob3 := e _ _ ob3
      replace ob4 := e _ _ ob4
      replace ob5 := e _ _ ob5
      clear e nb6
      generalize upd H6_6 b6 (.lst (cutV (ls.map V.str) (some ((k : Int) + 1)) none)) = H6_7 at *
      rw [show ((k : Int) + 1) = ((k + 1 : Nat) : Int) by omega, cut_from] at ob6
      refine ⟨b5, b6, _, _, rfl, rfl, ob5, ob6, ?_, fun b7 nb7 => ?_⟩
      · simp only [List.length_append, List.length_map, List.length_take, List.length_drop, List.length_cons, List.length_nil]; exact Nat.le_trans (show _ ≤ 100 by omega) (by decide)
      have e := same_upd (o := .lst ((((ls.take k).map V.str) ++ [V.str line]) ++ ((ls.drop (k + 1)).map V.str))) nb7
      have ob7 := upd_same (H := H6_7) (a := b7) (o := .lst ((((ls.take k).map V.str) ++ [V.str line]) ++ ((ls.drop (k + 1)).map V.str)))
      have mb7 : b7 ≠ p := ne_jar j nb7
      replace c := c.trans (Chg.of e); replace j := j.same e; replace ha := e _ _ ha
      replace ob0 := e _ _ ob0
      replace ob1 := e _ _ ob1
      replace ob2 := e _ _ ob2
      replace ob3 := e _ _ ob3
      replace ob4 := e _ _ ob4
      replace ob5 := e _ _ ob5
      replace ob6 := e _ _ ob6
      clear e nb7
      generalize upd H6_7 b7 (.lst ((((ls.take k).map V.str) ++ [V.str line]) ++ ((ls.drop (k + 1)).map V.str))) = H6_8 at *
      refine q _ b7 (ls.take k ++ [line] ++ ls.drop (k + 1)) c (j.mono (by omega)) mb7 (by rw [ob7]; simp only [List.map_append, List.map_cons, List.map_nil]) (by simp only [List.length_append, List.length_take, List.length_drop, List.length_cons, List.length_nil]; omega) ?_
      exact fun l hl => by
        simp only [List.mem_append, List.mem_singleton] at hl
        rcases hl with (h | h) | h
        · exact (lM l (List.mem_of_mem_take h)).mono (by omega)
        · rw [h]; exact hL.mono (by omega)
        · exact (lM l (List.mem_of_mem_drop h)).mono (by omega)
    rw [decide_eq_false w4]
    refine iteF ?_
    refine ⟨_, rfl, (show 8 ≤ sizeLine by decide), fun b3 nb3 => ?_⟩
    have e := same_upd (o := .lst [V.str "nothing", V.str "days", V.str "flats", V.str "places", V.str "house", V.str "back", V.str "", V.str "heads"]) nb3
    have ob3 := upd_same (H := H2_3) (a := b3) (o := .lst [V.str "nothing", V.str "days", V.str "flats", V.str "places", V.str "house", V.str "back", V.str "", V.str "heads"])
    have mb3 : b3 ≠ p := ne_jar j nb3
    replace c := c.trans (Chg.of e); replace j := j.same e; replace ha := e _ _ ha
    replace ob0 := e _ _ ob0
    replace ob1 := e _ _ ob1
    replace ob2 := e _ _ ob2
    clear e nb3
    generalize upd H2_3 b3 (.lst [V.str "nothing", V.str "days", V.str "flats", V.str "places", V.str "house", V.str "back", V.str "", V.str "heads"]) = H2_4 at *
    refine ⟨b2, b3, _, _, rfl, rfl, ob2, ob3, ?_, fun b4 nb4 => ?_⟩
    · show 23 ≤ sizeLine; decide
    have e := same_upd (o := .lst ([V.str "every", V.str "behind", V.str "late", V.str "block", V.str "rest", V.str "0", V.str "14", V.str "15", V.str "01", V.str "-1", V.str "9", V.str "10", V.str "now", V.str "last", V.str "before"] ++ [V.str "nothing", V.str "days", V.str "flats", V.str "places", V.str "house", V.str "back", V.str "", V.str "heads"])) nb4
    have ob4 := upd_same (H := H2_4) (a := b4) (o := .lst ([V.str "every", V.str "behind", V.str "late", V.str "block", V.str "rest", V.str "0", V.str "14", V.str "15", V.str "01", V.str "-1", V.str "9", V.str "10", V.str "now", V.str "last", V.str "before"] ++ [V.str "nothing", V.str "days", V.str "flats", V.str "places", V.str "house", V.str "back", V.str "", V.str "heads"]))
    have mb4 : b4 ≠ p := ne_jar j nb4
    replace c := c.trans (Chg.of e); replace j := j.same e; replace ha := e _ _ ha
    replace ob0 := e _ _ ob0
    replace ob1 := e _ _ ob1
    replace ob2 := e _ _ ob2
    replace ob3 := e _ _ ob3
    clear e nb4
    generalize upd H2_4 b4 (.lst ([V.str "every", V.str "behind", V.str "late", V.str "block", V.str "rest", V.str "0", V.str "14", V.str "15", V.str "01", V.str "-1", V.str "9", V.str "10", V.str "now", V.str "last", V.str "before"] ++ [V.str "nothing", V.str "days", V.str "flats", V.str "places", V.str "house", V.str "back", V.str "", V.str "heads"])) = H2_5 at *
    refine ⟨_, rfl, _, rfl, p, b4, _, _, rfl, ob4, mb4, ⟨by simp, by simp⟩, j, by omega, fun v H5 hv cc jj => ?_⟩
    obtain ⟨w, rfl, lw⟩ := of_lits (zs := ["every", "behind", "late", "block", "rest", "0", "14", "15", "01", "-1", "9", "10", "now", "last", "before", "nothing", "days", "flats", "places", "house", "back", "", "heads"]) (by decide +kernel) hv
    clear hv
    replace c := c.trans cc; replace ha := cc _ _ ha nap
    replace ob0 := cc _ _ ob0 mb0
    replace ob1 := cc _ _ ob1 mb1
    replace ob2 := cc _ _ ob2 mb2
    replace ob3 := cc _ _ ob3 mb3
    replace ob4 := cc _ _ ob4 mb4
    replace j := jj
    clear cc jj
    have sp := split_pos ls[k]
    have lws : ((Txt.split ls[k] " ").map V.str).length = (Txt.split ls[k] " ").length := List.length_map _
    refine ⟨_, rfl, _, rfl, _, rfl, b1, _, rfl, .inl (SqL.of ob1), p, _, _, rfl, ⟨by omega, by omega⟩, j, by omega, fun d H6 hd cc jj => ?_⟩
    obtain ⟨n, rfl⟩ := Int.eq_ofNat_of_zero_le hd.1
    have hn : n < (Txt.split ls[k] " ").length := by omega
    clear hd
    replace c := c.trans cc; replace ha := cc _ _ ha nap
    replace ob0 := cc _ _ ob0 mb0
    replace ob1 := cc _ _ ob1 mb1
    replace ob2 := cc _ _ ob2 mb2
    replace ob3 := cc _ _ ob3 mb3
    replace ob4 := cc _ _ ob4 mb4
    replace j := jj
    clear cc jj
    refine ⟨b1, _, n, n, rfl, rfl, ob1, ?_, ?_⟩
    · rw [lws]; unfold ixN; rw [if_pos (Int.natCast_nonneg n), if_pos (by omega)]; rfl
    have jb := join_bound (j := n) hz lw
    rw [show ((Txt.split ls[k] " ").map V.str).set n (V.str w) = ((Txt.split ls[k] " ").set n w).map V.str from List.map_set.symm]
    generalize (Txt.split ls[k] " ").set n w = ys at *
    have c7 : Chg p H (upd H6 b1 (.lst (ys.map V.str))) := fun b u hb hp => by rw [upd_ne (ne_of_none hb hb1)]; exact c _ _ hb hp
    have j7 : JarAt (upd H6 b1 (.lst (ys.map V.str))) p (N + 1 + 1 + 1 + 1) := by
      obtain ⟨x1, x2, x3, hp, r⟩ := j
      exact ⟨x1, x2, x3, by rw [upd_ne (Ne.symm mb1)]; exact hp, r⟩
    have a7 : (upd H6 b1 (.lst (ys.map V.str))) a = some (.lst (ls.map V.str)) := by rw [upd_ne ab1]; exact ha
    have o7 := upd_same (H := H6) (a := b1) (o := .lst (ys.map V.str))
    clear c j ha ob1 ob2 ob3 ob4 ob0 mb2 mb3 mb4 mb0
    generalize upd H6 b1 (.lst (ys.map V.str)) = H7 at *
    have c := c7; have j := j7; have ha := a7; have ob1 := o7; clear c7 j7 a7 o7
    refine ⟨_, rfl, _, rfl, k, rfl, a, _, rfl, SqL.of ha, fun b5 nb5 => ?_⟩
    have e := same_upd (o := .lst (cutV (ls.map V.str) none (some (k : Int)))) nb5
    have ob5 := upd_same (H := H7) (a := b5) (o := .lst (cutV (ls.map V.str) none (some (k : Int))))
    have mb5 : b5 ≠ p := ne_jar j nb5
    replace c := c.trans (Chg.of e); replace j := j.same e; replace ha := e _ _ ha
    replace ob1 := e _ _ ob1
    clear e nb5
    generalize upd H7 b5 (.lst (cutV (ls.map V.str) none (some (k : Int)))) = H7_6 at *
    rw [cut_to] at ob5
    refine ⟨⟨_, rfl⟩, _, rfl, " ", b1, ys, rfl, rfl, .inl (SqL.of ob1), Nat.le_trans jb.2 (by omega), (show 1 ≤ sizeLine by decide), fun b6 nb6 => ?_⟩
    have hL := jb.1
    generalize Txt.join " " ys = line at *
    have e := same_upd (o := .lst [V.str line]) nb6
    have ob6 := upd_same (H := H7_6) (a := b6) (o := .lst [V.str line])
    have mb6 : b6 ≠ p := ne_jar j nb6
    replace c := c.trans (Chg.of e); replace j := j.same e; replace ha := e _ _ ha
    replace ob1 := e _ _ ob1
    replace ob5 := e _ _ ob5
    clear e nb6
    generalize upd H7_6 b6 (.lst [V.str line]) = H7_7 at *
    refine ⟨b5, b6, _, _, rfl, rfl, ob5, ob6, ?_, fun b7 nb7 => ?_⟩
    · simp only [List.length_append, List.length_map, List.length_take, List.length_drop, List.length_cons, List.length_nil]; exact Nat.le_trans (show _ ≤ 100 by omega) (by decide)
    have e := same_upd (o := .lst (((ls.take k).map V.str) ++ [V.str line])) nb7
    have ob7 := upd_same (H := H7_7) (a := b7) (o := .lst (((ls.take k).map V.str) ++ [V.str line]))
    have mb7 : b7 ≠ p := ne_jar j nb7
    replace c := c.trans (Chg.of e); replace j := j.same e; replace ha := e _ _ ha
    replace ob1 := e _ _ ob1
    replace ob5 := e _ _ ob5
    replace ob6 := e _ _ ob6
    clear e nb7
    generalize upd H7_7 b7 (.lst (((ls.take k).map V.str) ++ [V.str line])) = H7_8 at *
    refine ⟨_, rfl, _, rfl, _, _, rfl, rfl, _, rfl, a, _, rfl, SqL.of ha, fun b8 nb8 => ?_⟩
    have e := same_upd (o := .lst (cutV (ls.map V.str) (some ((k : Int) + 1)) none)) nb8
    have ob8 := upd_same (H := H7_8) (a := b8) (o := .lst (cutV (ls.map V.str) (some ((k : Int) + 1)) none))
    have mb8 : b8 ≠ p := ne_jar j nb8
    replace c := c.trans (Chg.of e); replace j := j.same e; replace ha := e _ _ ha
    replace ob1 := e _ _ ob1
    replace ob5 := e _ _ ob5
    replace ob6 := e _ _ ob6
    replace ob7 := e _ _ ob7
    clear e nb8
    generalize upd H7_8 b8 (.lst (cutV (ls.map V.str) (some ((k : Int) + 1)) none)) = H7_9 at *
    rw [show ((k : Int) + 1) = ((k + 1 : Nat) : Int) by omega, cut_from] at ob8
    refine ⟨b7, b8, _, _, rfl, rfl, ob7, ob8, ?_, fun b9 nb9 => ?_⟩
    · simp only [List.length_append, List.length_map, List.length_take, List.length_drop, List.length_cons, List.length_nil]; exact Nat.le_trans (show _ ≤ 100 by omega) (by decide)
    have e := same_upd (o := .lst ((((ls.take k).map V.str) ++ [V.str line]) ++ ((ls.drop (k + 1)).map V.str))) nb9
    have ob9 := upd_same (H := H7_9) (a := b9) (o := .lst ((((ls.take k).map V.str) ++ [V.str line]) ++ ((ls.drop (k + 1)).map V.str)))
    have mb9 : b9 ≠ p := ne_jar j nb9
    replace c := c.trans (Chg.of e); replace j := j.same e; replace ha := e _ _ ha
    replace ob1 := e _ _ ob1
    replace ob5 := e _ _ ob5
    replace ob6 := e _ _ ob6
    replace ob7 := e _ _ ob7
    replace ob8 := e _ _ ob8
    clear e nb9
    generalize upd H7_9 b9 (.lst ((((ls.take k).map V.str) ++ [V.str line]) ++ ((ls.drop (k + 1)).map V.str))) = H7_10 at *
    refine q _ b9 (ls.take k ++ [line] ++ ls.drop (k + 1)) c (j.mono (by omega)) mb9 (by rw [ob9]; simp only [List.map_append, List.map_cons, List.map_nil]) (by simp only [List.length_append, List.length_take, List.length_drop, List.length_cons, List.length_nil]; omega) ?_
    exact fun l hl => by
      simp only [List.mem_append, List.mem_singleton] at hl
      rcases hl with (h | h) | h
      · exact (lM l (List.mem_of_mem_take h)).mono (by omega)
      · rw [h]; exact hL
      · exact (lM l (List.mem_of_mem_drop h)).mono (by omega)

end
end Ru
/-! the end of a law's row, from a promise of a def that may ask repr, where lambdas are made (tables of code objects) -/
namespace Gu
open PySem PySem.Spec PyProof.Rows L2
section
variable {P : Program} {w : World} {K : PySem.W.Frag} {mg mb : Str → Option Value} {k : Nat} {fa a : Addr} {fd : FuncData} {x : Str} {sp : Sp} {s : Shared} {vs : List Value} {ns : List Int} {cs : List (Addr × Addr)}
/-- known at the call: the script, as it stands, and the empty tables of cs -/
def BareT (a : Addr) (vs : List Value) (ns : List Int) (cs : List (Addr × Addr)) (H : Hp) : Prop := ∀ b u, H b = some u → (b = a ∧ u = .frz (scr vs) (.lst (ns.map V.int))) ∨ ∃ p ∈ cs, b = p.2 ∧ u = .tbl #[]
theorem from_callerT (inK : K.In s.heap) (glob : s.heap.Ns mainGlobals mg) (bi : s.heap.Ns builtinsNs mb) (hbi : ∀ x : Str, x ≠ "__name__" → mb x = bootBuiltins x) (lim : s.heap.NoLimit) (gens : s.gens = #[])
    (tabs : ∀ p ∈ cs, s.heap.get? p.2 = some (PySem.W.tabObj #[])) (offT : ∀ p ∈ cs, K.lookup p.2 = none) (heads : ∀ p ∈ cs, PySem.W.CodeHd s.heap p.1 p.2)
    (bmain : ∃ (bm : Addr) (ob : Obj), mg "__builtins__" = some (.ref bm) ∧ bm ≠ builtinsNs ∧ s.heap.get? bm = some ob ∧ ob.cls = .type "module" ∧ ob.dict = some builtinsNs ∧ ob.data = .plain)
    (script : s.heap.get? a = some (scr vs)) (room : Room k callerA) (F : ∀ base : Heap, K.In base → base.Ns mainGlobals mg → (∀ p ∈ cs, LamX.TabB base mg p.1 p.2) → FnG P w K mg base CX0 k fa fd [x] sp)
    (bind : ∀ (s : Shared) (u : Value), BindsTo s fd ⟨[u], []⟩ [(x, u)]) {H : Hp} (bare : BareT a vs ns cs H) (known : ∀ p ∈ cs, H p.2 = some (.tbl #[])) (ok : HOk P w H s.heap) (off : H a ≠ none → K.lookup a = none)
    (want : sp [.ref a] H (fun v _ => v = .bl true) fun _ _ _ => False) :
    codeAny (model P w) callerA (.call (.ref fa) ⟨[.ref a], []⟩) (fun r s' => r = .ok (.ret (.bool true)) ∧ OldK s.heap s'.heap ∧ s'.os = s.os ∧ AllBare s'.gens) s := by
  -- neither a list nor an empty table: not known
  have apart : ∀ {b : Addr} {o : Obj}, s.heap.get? b = some o → (∀ z n, o.data ≠ .seq z n) → o.data ≠ .fields #[] → H b = none := by
    intro b o e noSeq noTab
    cases z : H b with
    | none => rfl
    | some u =>
      rcases bare b u z with ⟨rfl, _⟩ | ⟨p, hp, rfl, _⟩
      · rw [script] at e
        cases e
        exact (noSeq _ _ rfl).elim
      · rw [tabs p hp] at e
        cases e
        exact (noTab rfl).elim
  have hid : ∀ {b : Addr} {o : Obj}, s.heap.get? b = some o → (∀ z n, o.data ≠ .seq z n) → o.data ≠ .fields #[] → (hidT s.heap H).get? b = some o := fun e n1 n2 => hidT_get e (apart e n1 n2)
  have space : ∀ {b : Addr} {m : Str → Option Value}, s.heap.Ns b m → (hidT s.heap H).Ns b m := by
    rintro b m ⟨o, es, n, e, d, more⟩
    exact ⟨o, es, n, hid e (fun _ _ q => by rw [d] at q; cases q) (fun q => by rw [d] at q; cases q), d, more⟩
  have inB : K.In (hidT s.heap H) := by
    intro b o e
    refine hidT_get (inK b o e) ?_
    cases z : H b with
    | none => rfl
    | some u =>
      rcases bare b u z with ⟨rfl, _⟩ | ⟨p, hp, rfl, _⟩
      · rw [off (by rw [z]; exact fun q => by cases q)] at e
        cases e
      · rw [offT p hp] at e
        cases e
  have tables : ∀ p ∈ cs, LamX.TabB (hidT s.heap H) mg p.1 p.2 := by
    intro p hp
    have tp := tabs p hp
    constructor
    case code =>
      obtain ⟨o, us, file, tf, fl, tg, fn, tx, tt, e, c1, c2, c3, more⟩ := heads p hp
      refine ⟨o, us, file, tf, fl, tg, fn, tx, tt, hid e (fun _ _ q => ?_) (fun q => ?_), c1, c2, c3, more⟩
      · rw [c2] at q; cases q
      · rw [c2] at q
        cases q
        simp at c3
    case bm =>
      obtain ⟨bm, ob, m1, m2, m3, m4, m5, m6⟩ := bmain
      have notDict : bm ≠ mainGlobals := by
        rintro rfl
        obtain ⟨o, es, n, e, d, _⟩ := glob
        rw [m3] at e
        cases e
        rw [m6] at d
        cases d
      have notTab : bm ≠ p.2 := by
        rintro rfl
        rw [tp] at m3
        cases m3
        cases m6
      exact ⟨bm, ob, m1, m2, notDict, notTab, hid m3 (fun _ _ q => by rw [m6] at q; cases q) (fun q => by rw [m6] at q; cases q), m4, m5, m6⟩
    case gP =>
      intro q
      obtain ⟨o, es, n, e, d, _⟩ := glob
      rw [q, tp] at e
      cases e
      cases d
  obtain ⟨mc, l1, l2⟩ := lim
  have e0 : Env0 P w K mg (hidT s.heap H) callerA [] s H := {
    frames := rfl
    mod := ⟨inB, space glob, ⟨mb, space bi, hbi⟩, ⟨mc, space l1, l2⟩⟩
    bs := fun b o e => of_hidT e
    bsz := Nat.le_of_eq (hidT_size _ _)
    funs := trivial
    frf := by intro b hb; cases hb
    hok := ok
    bare := .of_eq gens }
  refine codeAny_mono ((F _ inB (space glob) tables).go callerA [] s H ⟨[.ref a], []⟩ [.ref a] [.ref a] _ _ room rfl e0 (bind s (.ref a)) (.cons rfl .nil) want) ?_
  intro r s' z
  match r, z with
  | .error e, z => exact z.elim
  | .ok (.ret u), ⟨v, H', os, bare', un, ok', rv, q⟩ =>
    have q' : v = .bl true := q
    subst q'
    cases (show u = Value.bool true from rv)
    have still : ∀ b o, s.heap.get? b = some o → s'.heap.get? b = some o ∨ ∃ p ∈ cs, b = p.2 ∧ ∃ more : Array Value, s'.heap.get? p.2 = some (PySem.W.tabObj more) := by
      intro b o e
      cases z : H b with
      | none => exact .inl (un.keep b o e z (by intro h; cases h) (by intro h; cases h))
      | some u =>
        rcases bare b u z with ⟨rfl, rfl⟩ | ⟨p, hp, rfl, rfl⟩
        · obtain ⟨e1, _⟩ := ok b _ z
          obtain ⟨e2, _⟩ := ok' b _ (un.frzs b _ _ z)
          rw [e] at e1
          cases e1
          exact .inl e2
        · obtain ⟨more, grown⟩ := un.tbls p.2 _ z
          exact .inr ⟨p, hp, rfl, _, ok' p.2 _ grown⟩
    refine ⟨rfl, ⟨fun b o e => ?_, fun b o e => ?_⟩, os, bare'⟩
    · rcases still b o e with k | ⟨p, hp, rfl, more, g⟩
      · exact .inl k
      · rw [tabs p hp] at e
        cases e
        refine .inr (.inl ⟨((heads p hp).tab (tabs p hp)).isCodeTable, rfl, #[], more, rfl, ?_⟩)
        rw [Array.empty_append]
        exact g
    · rcases still b o e with k | ⟨p, hp, rfl, more, g⟩
      · exact ⟨_, k⟩
      · exact ⟨_, g⟩
end
/-- the end of a law's row, with tables -/
theorem walkGT {l : PySem.W.OpenLaw} {n k : Nat} {q : Program} {loose : List Str} {XP : (Str → Option Value) → Heap → Prop} {YP : World → Heap → Prop} {d : DefRec} {K : Params → PySem.W.Frag} {x : Str}
    (most : l.most = some n) (small : n ≤ sizeLine) (nodef : d.params.defaults = []) (room : Room k callerA) (inK : ∀ (w : World) (h : Heap), YP w h → (K w.params).In h)
    (F : ∀ (w : World) (mg : Str → Option Value) (fa : Addr) (h : Heap), YP w h → (∀ (y : Str) (b : Addr), ((recsOf q).any fun e => e.name == y) = true → mg y = some (.ref b) → LamX.OwnTab (K w.params) b h) → (K w.params).In h → h.Ns mainGlobals mg → mg d.name = some (.ref fa) →
      ∃ (fd : FuncData) (cs : List (Addr × Addr)) (sp : Sp), (∀ p ∈ cs, h.get? p.2 = some (PySem.W.tabObj #[])) ∧ (∀ p ∈ cs, (K w.params).lookup p.2 = none) ∧ (∀ p ∈ cs, PySem.W.CodeHd h p.1 p.2) ∧ (∀ (s : Shared) (u : Value), BindsTo s fd ⟨[u], []⟩ [(x, u)]) ∧
        (∀ (H : Hp) (a : Addr) (ns : List Int), ns.length ≤ n → (∀ p ∈ cs, H p.2 = some (.tbl #[])) → SqL (K w.params) H a (ns.map V.int) → sp [.ref a] H (fun v _ => v = .bl true) fun _ _ _ => False) ∧
        ∀ base : Heap, (K w.params).In base → base.Ns mainGlobals mg → (∀ p ∈ cs, LamX.TabB base mg p.1 p.2) → FnG l.prog w (K w.params) mg base CX0 k fa fd [x] sp) :
    PySem.W.WalkO q loose XP YP l.row.toRowW d [] (fun f vs => PySem.call f vs) := by
  refine Att.attach_call most nodef fun w s₀ s mg mb fa o pm cd doc a vs ns G Y ho hd hcd hmg script hints len gens => ?_
  have kin := inK w _ Y
  have own : ∀ (y : Str) (b : Addr), ((recsOf q).any fun e => e.name == y) = true → mg y = some (.ref b) → LamX.OwnTab (K w.params) b s.heap := by
    intro y b hy hb c P o1 fd1 e dd vs1 sl k1 k2 k3 k4 k5
    obtain ⟨dL, hm, hn1⟩ := List.any_eq_true.mp hy
    have hn2 : dL.name = y := beq_iff_eq.mp hn1
    obtain ⟨a', o', fd', c', P', h1, h2, h3, h4, h5, h6⟩ := G.T.tab dL hm
    rw [hn2, hb] at h1
    cases h1
    have g1 := kin _ _ k1
    rw [g1] at h2
    cases h2
    rw [k2] at h3
    cases h3
    rw [k3] at h4
    cases h4
    obtain ⟨⟨oc, vc, e1, _, e3, e4⟩, hP⟩ := h6
    have g2 := kin _ _ k4
    rw [g2] at e1
    cases e1
    cases e3
    rw [k5] at e4
    cases e4
    exact hP
  obtain ⟨fd, cs, sp, tabs, offT, heads, bind, want, hF⟩ := F w mg fa _ Y own kin G.T.g hmg
  have rel : Vals (ns.map V.int) vs := vals_ints hints
  have small' : (ns.map V.int).length ≤ sizeLine := by rw [List.length_map]; exact Nat.le_trans len small
  have small2 : vs.toArray.size ≤ sizeLine := by rw [List.size_toArray, ← rel.length]; exact small'
  have aT : ∀ p ∈ cs, p.2 ≠ a := by
    rintro p hp rfl
    have e := tabs p hp
    rw [script] at e
    cases e
  let T : Hp := fun b => if b ∈ cs.map (·.2) then some (.tbl #[]) else none
  have inT : ∀ p ∈ cs, T p.2 = some (.tbl #[]) := fun p hp => if_pos (List.mem_map_of_mem hp)
  have ofT : ∀ b u, T b = some u → ∃ p ∈ cs, b = p.2 ∧ u = .tbl #[] := by
    intro b u e
    by_cases c : b ∈ cs.map (·.2)
    · obtain ⟨p, hp, rfl⟩ := List.mem_map.mp c
      rw [inT p hp] at e
      cases e
      exact ⟨p, hp, rfl, rfl⟩
    · rw [show T b = none from if_neg c] at e
      cases e
  have Ta : T a = none := by
    refine if_neg fun c => ?_
    obtain ⟨p, hp, e⟩ := List.mem_map.mp c
    exact aT p hp e
  cases known : K w.params |>.lookup a with
  | some o' =>
    have e := kin a o' known
    rw [script] at e
    cases e
    refine from_callerT (ns := ns) (H := T) kin G.T.g G.T.b G.T.builtins G.T.nolimit gens tabs offT heads G.T.bmain script room hF bind (fun b u z => .inr (ofT b u z)) inT ?_ (fun z => (z Ta).elim) ?_
    · intro b u z
      obtain ⟨p, hp, rfl, rfl⟩ := ofT b u z
      exact tabs p hp
    · exact want _ a ns len inT (.inr ⟨_, vs.toArray, _, known, rfl, rfl, rfl, small2, by simpa using rel⟩)
  | none =>
    refine from_callerT (ns := ns) (H := upd T a (.frz (scr vs) (.lst (ns.map V.int)))) kin G.T.g G.T.b G.T.builtins G.T.nolimit gens tabs offT heads G.T.bmain script room hF bind ?_ ?_ ?_ (fun _ => known) ?_
    · intro b u z
      by_cases c : b = a
      · subst c
        rw [upd_same] at z
        exact .inl ⟨rfl, (Option.some.inj z).symm⟩
      · rw [upd_ne c] at z
        exact .inr (ofT b u z)
    · exact fun p hp => (upd_ne (aT p hp)).trans (inT p hp)
    · intro b u z
      by_cases c : b = a
      · subst c
        rw [upd_same] at z
        cases z
        exact ⟨script, small', vs, _, rel, script⟩
      · rw [upd_ne c] at z
        obtain ⟨p, hp, rfl, rfl⟩ := ofT b u z
        exact tabs p hp
    · exact want _ a ns len (fun p hp => (upd_ne (aT p hp)).trans (inT p hp)) (.inl (.inr ⟨_, upd_same⟩))
end Gu
namespace Gu
open PySem PySem.Spec PyProof.Rows L2
section
variable {P : Program} {w : World} {K : PySem.W.Frag} {mg : Str → Option Value} {base : Heap} {k : Nat} {f : Addr} {N ps : List Str} {sp : Sp}
/-- a def as the text writes it, its code object known -/
structure Def (K : PySem.W.Frag) (x qual : Str) (st : Stmt) (f : Addr) (fd : FuncData) (cd : Value) : Prop where
  ex : ∃ (oc : Value) (od : Option Addr) (kV doc pm : Value) (an : Option Addr) (ct : Value) (osl : Array (Option Value)), fd = PySem.W.fnOf x qual (defArgs st) (defBody st) (defScope st) .none kV doc pm an cd ct ∧ K.lookup f = some ⟨oc, od, .func fd, osl⟩ ∧ PySem.W.codeIn K cd qual = true
/-- a def by its body, where nothing is guarded and nothing let out; the body may speak of its code object -/
theorem okGl {x qual : Str} {st : Stmt} {fd : FuncData} {cd : Value} (F : Def K x qual st f fd cd) (S : FnScope N ps (defScope st)) (len : ∀ vs H Q E, sp vs H Q E → vs.length = ps.length)
    (body : ∀ (A : Around) (out : List Env) (s : Shared) (H : Hp) (vs : List V) (Q : VK) (E : XK), A.guards = some [] → Room k (A.deeper (envOfC qual (defScope st) s.heap.objs.size f cd)) → sp vs H Q E →
      ∃ t, PSs (cxOf CX0 P w K mg base N qual (defScope st) f cd A out s H E).nox (defBody st) t ∧ t { nx := fun _ H' => Q .non H', rt := Q } (start N vs) H) : FnG P w K mg base CX0 (k + 1) f fd ps sp := by
  obtain ⟨oc, od, kV, doc, pm, an, ct, osl, rfl, at_, code⟩ := F.ex
  refine ⟨len, fun A out s H args us vs Q E room free e0 bind rel want => ?_⟩
  obtain ⟨t, run, go⟩ := body A out s H vs Q E free (room.deeper _) want
  exact LamX.run_ofS at_ code S room e0 bind rel (len _ _ _ _ want) fun _ => ⟨t, run.nox, go⟩
end
end Gu
namespace Am
open PySem PySem.Spec PyProof.Rows L2
abbrev sCaught : Stmt := sL_caught
/-- a wish about exceptions may count on the number of slots -/
theorem takes_len {X : Cx} {W : WX} (tk : Takes X W) : Takes X (fun cls d σ H => σ.length = X.N.length → W cls d σ H) := by
  rintro u z ⟨a, B, g, pins, τ, G, cls, d, rfl, I, ground, up, sky, na, os, ag, told⟩
  exact tk _ _ ⟨a, B, g, pins, τ, G, cls, d, rfl, I, ground, up, sky, na, os, ag, told I.len⟩
/-- what the def makes of a call that may raise an error of the class M: the error, or None -/
def TTc (K : PySem.W.Frag) (M : Addr) : (XK → Hp → VK → Prop) → Hp → VK → Prop := fun tl H Q => ∀ R : VK, (∀ v H', Q .non H' → R v H') →
  tl (fun cls d H' => ∃ b, PySem.W.exmOne K cls (.ref M) = some b ∧ (b = true → ∀ e, H' e = none → Q (.ref e) (upd H' e (Kt.EO e cls d))) ∧ (b = false → False)) H R
theorem scCaught : FnScope ["_law_look", "_law_caught_here", "error"] ["_law_look"] (defScope sCaught) := ⟨rfl, rfl, rfl, by decide +kernel, rfl, by decide +kernel, by decide +kernel⟩
theorem caught_gives {X : Cx} {g M : Addr} {cdg : Value} {q : Str} (hme : X.mg "MeterError" = some (.ref M)) :
    LamX.GivesTo X ["_law_look", "_law_caught_here", "error"] "_law_caught" (defScope sCaught) g cdg (defBody sCaught) "_law_look" q (TTc X.K M) := by
  intro f c' s H Q tl act hc h
  refine ⟨_, pss_cons (ps_set (i := 1) scCaught.nd rfl (.inl rfl) pe_non)
    (pss_cons (Kt.ps_try_keep (X := (cxOf C8.CX0 X.prog X.w X.K X.mg X.base ["_law_look", "_law_caught_here", "error"] "_law_caught" (defScope sCaught) g cdg X.A X.stack s H C8.E0).nox) (i := 2) (c := .ref M) (Wout := fun _ _ _ _ => False)
      (tb := fun W D σ H => ∃ Ech : XK, (∀ cls d (σ' : L2.St) H', Ech cls d H' → σ'.length = 3 → W cls d σ' H') ∧ σ[0]? = some (some (.ref f)) ∧ H c' = some (LamX.CodeO c' q) ∧ tl Ech H fun _ H1 => D.nx σ H1)
      (ts := tAsg (tVar 2) (gName 1))
      rfl rfl rfl scCaught.nd rfl rfl ⟨by rfl, by decide, .inl hme⟩ LamX.takes0 (fun W pn xe tk _ => ?_) (fun a pn => pss_one (ps_set (i := 1) scCaught.nd rfl (.inl rfl) (pv 2))))
    (pss_one (ps_ret (pv 1)))), ?_⟩
  · refine pss_one ⟨fun pins z σ G D I want => ?_⟩
    obtain ⟨Ech, each, h0, h1, told⟩ := want
    exact (ps_expr (act _ pn xe Ech _ _ (takes_len tk) each)).run pins z σ G D I ⟨h0, h1, told⟩
  · refine ⟨_, ?_, rfl, hc, h _ fun _ H' hq => ⟨_, rfl, hq⟩⟩
    rintro cls d σ' H' ⟨b, e1, yes, no⟩ len
    refine ⟨b, e1, fun hb e ne => ?_, no⟩
    match σ', len with
    | [x, y, z], _ => exact ⟨_, rfl, _, rfl, yes hb e ne⟩
/-- isinstance of a kept exception with an own dict -/
def rIsiE (K : PySem.W.Frag) (D : Addr) : List V → Hp → VK → Prop := fun xs H Q => ∃ (e dd : Addr) (fs : List (Str × V)) (c : V) (cv : Value) (b : Bool), xs = [.ref e, c] ∧ H e = some (Kt.EO e (.ref D) (some dd)) ∧ H dd = some (.xd fs) ∧ ClsV c cv ∧ PySem.W.kitOne K (.ref D) cv = some b ∧ Q (.bl b) H
structure ErrC (K : PySem.W.Frag) (D : Addr) : Prop where
  ic : PySem.W.isClsIn K D = true
  ca : PySem.W.findIn K (.ref D) "__class__" = some (some (.builtin "object.__class__"))
  cn : PySem.W.specialIn K (.builtin "object.__class__") "__get__" = some (some (.builtin "getset_descriptor.__get__"))
  ct : PySem.W.takesIn K (.builtin "object.__class__") = some true
  ob : PySem.W.mroIn K D (.type "object") = some true
theorem call_isiE {X : Cx} {D : Addr} (T : XfC X.K D) (E : ErrC X.K D) : CallR X (.builtin "isinstance") (rIsiE X.K D) := by
  intro pins z τ G xs us Q I rel want
  obtain ⟨e, dd, fs, c, cv, b, rfl, he, hd, cls, kit, q⟩ := want
  obtain ⟨u1, u2, rfl, r1, r2⟩ := vals2 rel
  cases (show u1 = Value.ref e from r1)
  obtain rfl := cls.eq r2
  obtain ⟨oe, vs, at_, zc, rec⟩ := Kt.eo_at I.hok he
  obtain ⟨m, space, _⟩ := (show ObjOk X.prog X.w G z.heap dd (.xd fs) from I.hok dd _ hd)
  obtain ⟨od, od_at, _⟩ := lookIn_ns space
  have inst : PySem.W.InstAt z.heap e oe D (some od) := by
    refine ⟨at_, zc.1, ?_, ?_⟩
    · unfold PySem.W.notCls
      rw [rec] <;> rfl
    · rw [zc.2]
      exact od_at
  exact PySem.W.kia_one (PySem.W.kitx_exc (od := some od) E.ic T.ga T.gg T.exC E.ca E.cn E.ct E.ob) I.kIn inst kit (fun y => nomatch y) fun tk => ⟨.bl b, G, I.tok tk, rfl, q⟩
/-- all but the jar at p and the tables stands -/
def ChT (p : Addr) (H H' : Hp) : Prop := ∀ b u, H b = some u → b ≠ p → (∀ ps, u ≠ .tbl ps) → H' b = some u
theorem ChT.refl (p : Addr) (H : Hp) : ChT p H H := fun _ _ e _ _ => e
theorem ChT.trans {p : Addr} {H H1 H2 : Hp} (a : ChT p H H1) (b : ChT p H1 H2) : ChT p H H2 := fun c u e n t => b c u (a c u e n t) n t
theorem ChT.chg {p : Addr} {H H' : Hp} (e : Chg p H H') : ChT p H H' := fun b u h n _ => e b u h n
theorem ChT.ext {p : Addr} {H H' : Hp} (e : LamX.ExtN H H') : ChT p H H' := fun b u h _ t => e b u h t
theorem ChT.of {p : Addr} {H H' : Hp} (e : Same H H') : ChT p H H' := fun b u h _ _ => e b u h
theorem tabs_chg {T : List (Addr × Str)} {p : Addr} {N : Int} {H H' : Hp} (j : JarAt H p N) (c : Chg p H H') (t : LamX.Tabs T H) : LamX.Tabs T H' := by
  intro q hq
  obtain ⟨ps, h1, h2, h3⟩ := t q hq
  obtain ⟨_, _, _, hp, _⟩ := j
  refine ⟨ps, c _ _ h1 (ne_of h1 hp (by intro z; cases z)), h2, fun pos cv hc => ?_⟩
  obtain ⟨cc, e1, e2⟩ := h3 pos cv hc
  exact ⟨cc, e1, c _ _ e2 (ne_of e2 hp (by intro z; unfold LamX.CodeO at z; cases z))⟩
theorem jar_ext {p : Addr} {N : Int} {H H' : Hp} (e : LamX.ExtN H H') (j : JarAt H p N) : JarAt H' p N := by
  obtain ⟨o, m, c, h, r⟩ := j
  exact ⟨o, m, c, e _ _ h (fun _ z => by cases z), r⟩
/-- the def that calls what it is handed -/
structure GotC (K : PySem.W.Frag) (mg : Str → Option Value) (M : Addr) (g : Addr) (oc : Value) (od : Option Addr) (kV doc pm : Value) (an : Option Addr) (cd ct : Value) (osl : Array (Option Value)) : Prop where
  mg_ : mg "_law_caught" = some (.ref g)
  kp : PySem.W.keepIn K (.ref g) = true
  lk : K.lookup g = some ⟨oc, od, .func (PySem.W.fnOf "_law_caught" "_law_caught" (defArgs sCaught) (defBody sCaught) (defScope sCaught) .none kV doc pm an cd ct), osl⟩
  co : PySem.W.codeIn K cd "_law_caught" = true
  bd : Binds K (PySem.W.fnOf "_law_caught" "_law_caught" (defArgs sCaught) (defBody sCaught) (defScope sCaught) .none kV doc pm an cd ct) ["_law_look"] []
  me : mg "MeterError" = some (.ref M)
end Am
/-! the law: a cell -/
namespace Ru
open PySem PySem.Spec PyProof.Rows L2 Am Hs
def GotRX (P : Program) (w : World) (K : PySem.W.Frag) (mg : Str → Option Value) (base : Heap) (C A D : Addr) : Prop :=
  ∃ (f : Addr) (fd : FuncData), FnOk P w K mg base (L2.CX P w) 4 f fd ["self", "text"] (spRInitX C A D) ∧ Binds K fd ["self", "text"] [] ∧ Mk K C f
def spRight (T : List (Addr × Str)) : Sp := fun vs H Q _ => ∃ (p : Addr) (N : Int), vs = [.ref p] ∧ JarAt H p N ∧ N ≤ 9000 ∧ LamX.Tabs T H ∧ ∀ H', ChT p H H' → LamX.Tabs T H' → JarAt H' p (N + 144) → Q (.bl true) H'
theorem join_len60 {ys : List Str} (h : ys.length ≤ 7) (L : ∀ l ∈ ys, Li 60 l) : (ys.map (·.length)).sum + ys.length * ("\n" : Str).length ≤ 16777216 ∧ (Txt.join "\n" ys).length ≤ 600 := by
  have s1 : ∀ zs : List Str, (∀ l ∈ zs, Li 60 l) → (zs.map (·.length)).sum ≤ zs.length * 60 := fun zs => by
    induction zs with
    | nil => intro _; simp
    | cons x xs ih =>
      intro H
      have := ih fun l hl => H l (by simp [hl])
      have h0 := (H x (by simp)).len
      simp only [List.map_cons, List.sum_cons, List.length_cons]
      omega
  have n1 : ("\n" : Str).length = 1 := rfl
  have a := s1 ys L
  refine ⟨by rw [n1]; omega, ?_⟩
  cases ys with
  | nil => exact Nat.zero_le _
  | cons x xs =>
    rw [SL.join_len]
    have e : (xs.map fun p => ("\n" : Str).length + p.length).sum = (xs.map (·.length)).sum + xs.length := by
      clear a h L
      induction xs with
      | nil => rfl
      | cons y ys ih => simp only [List.map_cons, List.sum_cons, List.length_cons, n1] at ih ⊢; omega
    rw [e]
    simp only [List.map_cons, List.sum_cons, List.length_cons] at a h
    omega
theorem cond_err {n : Int} {e : Addr} (h : n ≠ 0) : (!decide (V.bl (decide (V.ref e = V.non)) = V.bl (decide (V.int n = V.int 0)))) = false := by simp [h]
theorem Odd.ext {D : Addr} {H H' : Hp} {v : V} (h : Odd D H v) (e : LamX.ExtN H H') : Odd D H' v := by
  rcases h with ⟨T, b⟩ | ⟨b, dy, gs, rfl, z⟩
  · cases b with
    | non => exact .inl ⟨_, .non⟩
    | bl b => exact .inl ⟨_, .bl b⟩
    | int i => exact .inl ⟨_, .int i⟩
    | str z => exact .inl ⟨_, .str z⟩
    | lst h => exact .inl ⟨_, .lst (e _ _ h (fun _ z => by cases z))⟩
    | tup h => exact .inl ⟨_, .tup (e _ _ h (fun _ z => by cases z))⟩
    | dK h => exact .inl ⟨_, .dK (e _ _ h (fun _ z => by cases z))⟩
  · exact .inr ⟨b, dy, gs, rfl, e _ _ z (fun _ y => by cases y)⟩
theorem readW_pos : ∀ (ls : List Str) (i : Nat) (acc : List Way) (n : Nat), 1 ≤ i → readW i ls acc = .inl n → 1 ≤ n ∧ n ≤ i + 2 * ls.length + acc.length + 1
  | [], i, acc, n, hi, h => by
    rw [readW] at h
    by_cases c : acc.length < 5
    · rw [if_pos c] at h; cases h; simp only [List.length_nil]; omega
    · rw [if_neg c] at h; cases h
  | l :: ls, i, acc, n, hi, h => by
    rw [readW] at h
    cases hw : wayAt i l with
    | none => rw [hw] at h; cases h; exact ⟨hi, by omega⟩
    | some y =>
      rw [hw] at h
      have := readW_pos ls (i + 1) (acc ++ [y]) n (by omega) h
      rw [List.length_append] at this
      simp only [List.length_cons, List.length_nil] at this ⊢
      omega
section
variable {P : Program} {w : World} {K : PySem.W.Frag} {mg : Str → Option Value} {base : Heap} {C A0 D M : Addr}
theorem scRight : FnScope ["_law_jar_here", "_law_lap", "_law_lines", "_law_value", "_law_caught_here", "_law_due"] ["_law_jar_here"] (defScope sL_right) := ⟨rfl, rfl, rfl, by decide +kernel, rfl, by decide +kernel, by decide +kernel⟩
abbrev qRight : Str := (("_law_right" : Str) ++ (".<locals>." : Str)) ++ ("<lambda>" : Str)
theorem ok_right {T : List (Addr × Str)} {f c2 P2 g : Addr} {fd : FuncData} {oc : Value} {od : Option Addr} {kV doc pm : Value} {an : Option Addr} {cd ct : Value} {osl : Array (Option Value)} (F : Gu.Def K "_law_right" "_law_right" sL_right f fd (.ref c2)) (Tn : Nm mg)
    (GX : GotRX P w K mg base C A0 D) (GC : GotC K mg M g oc od kV doc pm an cd ct osl) (TB : LamX.TabB base mg c2 P2) (hm : (P2, qRight) ∈ T) (hu : ∀ p ∈ T, p.1 = P2 → p.2 = qRight)
    (te : PySem.W.exmOne K (.ref D) (.ref M) = some true) (xf : XfC K D) (ec : ErrC K D) (nv : PySem.W.findIn K (.ref D) "value" = some none) (kD : PySem.W.kitOne K (.ref D) (.ref D) = some true) (mD : mg "BadRule" = some (.ref D)) (mRule : mg "Rule" = some (.ref C))
    (GR : GotF P w K mg base "_law_rule" 3 ["_law_jar_here"] spRule) (GX' : GotF P w K mg base "_law_rule_text" 1 ["_law_rule_here"] spRuleText) (GB : GotF P w K mg base "_law_bent_lines" 3 ["_law_jar_here", "_law_lines"] spBent) (GT : GotF P w K mg base "_law_take" 1 ["_law_jar_here", "_law_many"] spTake)
    (GD : GotF P w K mg base "_law_odd" 4 ["_law_jar_here"] (spOdd A0)) (GO : GotF P w K mg base "_law_of" 2 ["_law_jar_here", "_law_some"] spOf) (GW : GotF P w K mg base "_law_wrong_rule" 2 ["_law_value"] (spWrong A0)) : Gu.FnG P w K mg base CX0 8 f fd ["_law_jar_here"] (spRight T) := by
  obtain ⟨fx, dx, GX, bX, MkX⟩ := GX
  obtain ⟨fR, dR, GR, bR, mR, kR⟩ := GR
  obtain ⟨fX', dX', GX', bX', mX', kX'⟩ := GX'
  obtain ⟨fB, dB, GB, bB, mB, kB⟩ := GB
  obtain ⟨fT, dT, GT, bT, mT, kT⟩ := GT
  obtain ⟨fD, dD, GD, bD, mDd, kDd⟩ := GD
  obtain ⟨fO, dO, GO, bO, mO, kO⟩ := GO
  obtain ⟨fW, dW, GW, bW, mW, kW⟩ := GW
  refine Gu.okGl F scRight (fun vs H Q E h => ?_) (fun A outer s H vs Q E free hr h => ?_)
  · obtain ⟨p, N, rfl, _⟩ := h
    rfl
  · obtain ⟨p, N, rfl, hj, hN, tabs, q⟩ := h
    have hr1 : Room 1 _ := hr.mono (by decide)
    have hr2 : Room 2 _ := hr.mono (by decide)
    have hr3 : Room 3 _ := hr.mono (by decide)
    have hr4 : Room 4 _ := hr.mono (by decide)
    refine ⟨_, (pss_cons (ps_for PassesOwn.never rfl (pi_range1 (by rfl) Tn.range (pa_cons pe_int pa_nil)) (pg_name (i := 1) scRight.nd rfl (.inl rfl)) (pss_cons (ps_set (i := 2) scRight.nd rfl (.inl rfl) (pe_call GB hr3 (by rfl) mB kB bB .nil pass0 (pa_cons (pv 0) (pa_cons (pe_split (pe_call GX' hr1 (by rfl) mX' kX' bX' .nil pass0 (pa_cons (pe_call GR hr3 (by rfl) mR kR bR .nil pass0 (pa_cons (pv 0) pa_nil)) pa_nil)) pe_str) pa_nil))))
      (C8.pss_cut (ps_if (pt_cmpR op_eq (pe_call GT hr1 (by rfl) mT kT bT .nil pass0 (pa_cons (pv 0) (pa_cons pe_int pa_nil))) pe_int (nomark _)) (pss_one (ps_set (i := 2) scRight.nd rfl (.inl rfl) (pe_call GB hr3 (by rfl) mB kB bB .nil pass0 (pa_cons (pv 0) (pa_cons (pv 2) pa_nil))))) pss_nil)
      (pss_cons (ps_set (i := 3) scRight.nd rfl (.inr rfl) (pe_call GO hr2 (by rfl) mO kO bO .nil pass0 (pa_cons (pv 0) (pa_cons (pe_op op_cat (pe_op op_rep (pe_lst (pa_cons (pe_join pe_str (pv 2)) pa_nil)) pe_int) (pe_lst (pa_cons (pe_call GD hr4 (by rfl) mDd kDd bD .nil pass0 (pa_cons (pv 0) pa_nil)) pa_nil))) pa_nil))))
      (pss_cons (ps_par (by rfl) scRight.nd (i := 4) (j := 5) rfl rfl (by decide) rfl rfl (pa_cons (LamX.pe_lamcall (X := (cxOf CX0 P w K mg base ["_law_jar_here", "_law_lap", "_law_lines", "_law_value", "_law_caught_here", "_law_due"] "_law_right" (defScope sL_right) f (.ref c2) A outer s H E).nox) (T := T) (TT := TTc K M) (k := 5) (c := c2) (P := P2) (Ng := ["_law_look", "_law_caught_here", "error"])
          (t := fun E => tMake C (spRInitX C A0 D) [] E (tCons (tVar 3) tNil))
          (by rfl) GC.mg_ GC.kp GC.lk GC.co GC.bd scCaught rfl (.inl rfl) (caught_gives GC.me) TB rfl (by exact hm) (by exact hu) hr (LamX.lamS_by (by rfl)) rfl (fun _ _ _ _ _ => rfl)
          (fun A outer s H E f c' hr2 => pe_make MkX GX hr2 (by rfl) mRule bX .nil (passes_call (takes_of rfl rfl rfl rfl) (fun _ _ _ _ h => h)) (pa_cons (pe_var (i := 3) rfl (.inr (.inr rfl))) pa_nil))) (pa_cons (pe_call GW hr2 (by rfl) mW kW bW .nil pass0 (pa_cons (pv 3) pa_nil)) pa_nil)) (by rfl))
      (pss_cons (ps_if (pt_cmpR op_ne (pe_cmp (pc_isN (pv 4)) rfl) (pe_cmpR op_eq (pv 5) pe_int (nomark _)) (nomark _)) (pss_one (ps_ret pe_bl)) pss_nil)
      (pss_one (ps_if (PW.pt (pw_and (pt_cmp (pc_notN (pv 4))) (pw_and1 (PW.pt (pw_or (pt_not (pt_val (pe_callB (call_isiE xf ec) (by rfl) Tn.isi b_isi (pa_cons (pv 4) (pa_cons (pe_glob (v := .ref D) (by rfl) mD rfl) pa_nil))))) (pw_or1 (pt_cmpR op_ne (pe_callB (SkE.call_repr_int) (by rfl) Tn.repr b_repr (pa_cons (Kt.pe_ef xf nv (pv 4)) pa_nil)) (pe_callB (SkE.call_repr_int) (by rfl) Tn.repr b_repr (pa_cons (pv 5) pa_nil)) (nomark _)))))))) (pss_one (ps_ret pe_bl)) pss_nil))))))))
      (pss_one (ps_ret pe_bl))), ?_⟩
    refine ⟨8, rfl, by decide, by decide, for_range (n := 8) (fun i σ H' => ∃ v1 v2 v3 v4 v5 : Option V, σ = [some (.ref p), v1, v2, v3, v4, v5] ∧ ChT p H H' ∧ LamX.Tabs T H' ∧ JarAt H' p (N + 18 * i)) ⟨_, _, _, _, _, rfl, ChT.refl _ _, tabs, hj.mono (by omega)⟩ ?_ ?_⟩
    · rintro i σ H1 hi ⟨v1, v2, v3, v4, v5, rfl, k1, t1, j1⟩
      refine ⟨_, rfl, _, rfl, p, _, rfl, j1, by omega, fun H2 t du c2 nt j2 hdu ok => ?_⟩
      have t2 := tabs_chg j1 c2 t1
      refine ⟨t, du, rfl, hdu, ok, fun H3 e3 => ?_⟩
      have t3 := t2.ext e3
      have k3 := (k1.trans (.chg c2)).trans (.of e3)
      have j3 := j2.same e3
      clear k1 t1 j1 c2 nt j2 hdu t2 e3
      refine ⟨⟨_, rfl⟩, _, _, rfl, rfl, by decide +kernel, Nat.le_trans (show _ ≤ 4002 by have := ok.len; omega) (by decide), fun b0 nb0 => ?_⟩
      rw [ok.split]
      have e4 := same_upd (o := .lst (du.lines.map V.str)) nb0
      have ob0 := upd_same (H := H3) (a := b0) (o := .lst (du.lines.map V.str))
      have m0 := ne_jar j3 nb0
      replace t3 := t3.ext e4
      replace k3 := k3.trans (.of e4)
      replace j3 := j3.same e4
      clear nb0 e4
      generalize upd H3 b0 (.lst (du.lines.map V.str)) = H4 at *
      refine ⟨p, b0, du.lines, _, 20, rfl, j3, by omega, m0, ob0, (show 5 ≤ 6 by decide), by decide, fun l hl => ⟨(ok.ln l hl).2.1, fun c hc => Nat.lt_trans (of_decide_eq_true (List.all_eq_true.mp (ok.ln l hl).2.2 c hc)) (by decide)⟩, fun H5 b1 zs c5 j5 m5 h5 l5 L5 => ?_⟩
      have t5 := tabs_chg j3 c5 t3
      have k5 := k3.trans (.chg c5)
      clear t3 k3 j3 c5 ob0 m0
      have l5' : zs.length ≤ 6 := l5
      clear l5
      refine ⟨fun σ' H' => ∃ (b : Addr) (zs : List Str), σ' = [some (.ref p), some (.int (0 + (i : Int))), some (.ref b), v3, v4, v5] ∧ ChT p H H' ∧ LamX.Tabs T H' ∧ JarAt H' p (N + 18 * i + 16) ∧ b ≠ p ∧ H' b = some (.lst (zs.map V.str)) ∧ zs.length ≤ 7 ∧ ∀ l ∈ zs, Li 60 l, ?_, ?_⟩
      · refine ⟨_, rfl, p, 2, _, rfl, ⟨by decide, by decide⟩, j5, by omega, fun d6 H6 hd c6 j6 => ?_⟩
        have t6 := tabs_chg j5 c6 t5
        have k6 := k5.trans (.chg c6)
        have h6 := c6 _ _ h5 m5
        refine ⟨rfl, _, rfl, ?_⟩
        rw [int_eq]
        by_cases w0 : d6 = 0
        · rw [decide_eq_true w0]
          refine iteT ⟨_, rfl, _, rfl, p, b1, zs, _, 40, rfl, j6, by omega, m5, h6, l5', by decide, L5, fun H7 b2 ys c7 j7 m7 h7 l7 L7 => ?_⟩
          exact ⟨b2, ys, rfl, k6.trans (.chg c7), tabs_chg j6 c7 t6, j7.mono (by omega), m7, h7, by omega, L7⟩
        · rw [decide_eq_false w0]
          exact iteF ⟨b1, zs, rfl, k6, t6, j6.mono (by omega), m5, h6, by omega, fun l hl => (L5 l hl).mono (by omega)⟩
      clear L5 l5' h5 m5 k5 t5 j5
      rintro σ' H7 ⟨b, ys, rfl, k7, t7, j7, mb, hb, ly, Ly⟩
      have jl := join_len60 ly Ly
      refine ⟨_, rfl, ⟨_, rfl⟩, _, rfl, "\n", b, ys, rfl, rfl, .inl (SqL.of hb), jl.1, (show 1 ≤ sizeLine by decide), fun a1 n1 => ?_⟩
      have jx := jl.2
      generalize Txt.join "\n" ys = text at *
      refine ⟨a1, 7, _, rfl, rfl, upd_same, by decide, by decide, (show 1 * 7 ≤ sizeLine by decide), fun a2 n2 => ?_⟩
      have e2 : Same H7 (upd (upd H7 a1 (.lst [V.str text])) a2 (.lst (List.replicate (Int.toNat 7) [V.str text]).flatten)) := (same_upd n1).trans (same_upd n2)
      have oa2 := upd_same (H := upd H7 a1 (.lst [V.str text])) (a := a2) (o := .lst (List.replicate (Int.toNat 7) [V.str text]).flatten)
      have ma2 := ne_jar (j7.same (same_upd n1)) n2
      clear n1 n2
      generalize upd (upd H7 a1 (.lst [V.str text])) a2 (.lst (List.replicate (Int.toNat 7) [V.str text]).flatten) = H8 at *
      replace k7 := k7.trans (.of e2)
      replace t7 := t7.ext e2
      replace j7 := j7.same e2
      clear e2 hb mb
      refine ⟨_, rfl, p, _, rfl, j7, by omega, fun H9 ov c9 j9 od nov sov => ⟨(show 1 ≤ sizeLine by decide), fun a3 n3 => ?_⟩⟩
      have t9 := tabs_chg j7 c9 t7
      have k9 := k7.trans (.chg c9)
      replace oa2 := c9 _ _ oa2 ma2
      clear k7 t7 j7 c9
      have e3 := same_upd (o := .lst [ov]) n3
      have oa3 := upd_same (H := H9) (a := a3) (o := .lst [ov])
      replace k9 := k9.trans (.of e3)
      replace t9 := t9.ext e3
      replace j9 := j9.same e3
      replace od := od.same e3
      replace oa2 := e3 _ _ oa2
      clear n3 e3
      generalize upd H9 a3 (.lst [ov]) = H10 at *
      refine ⟨a2, a3, _, _, rfl, rfl, oa2, oa3, (show 8 ≤ sizeLine by decide), fun a4 n4 => ?_⟩
      have e4 := same_upd (o := .lst ((List.replicate (Int.toNat 7) [V.str text]).flatten ++ [ov])) n4
      have oa4 := upd_same (H := H10) (a := a4) (o := .lst ((List.replicate (Int.toNat 7) [V.str text]).flatten ++ [ov]))
      have ma4 := ne_jar j9 n4
      replace k9 := k9.trans (.of e4)
      replace t9 := t9.ext e4
      replace j9 := j9.same e4
      replace od := od.same e4
      clear n4 e4 oa2 oa3 ma2
      generalize upd H10 a4 (.lst ((List.replicate (Int.toNat 7) [V.str text]).flatten ++ [ov])) = H11 at *
      refine ⟨p, a4, _, _, rfl, oa4, ma4, ⟨show 0 < 8 by decide, show 8 ≤ 1000 by decide⟩, j9, by omega, fun v H12 hv c12 j12 => ?_⟩
      have hv' : Odd A0 H12 v ∧ ∀ x, v = .str x → x.length ≤ 600 := by
        simp only [List.mem_append, List.mem_flatten, List.mem_replicate, List.mem_singleton] at hv
        rcases hv with ⟨l, ⟨_, rfl⟩, hv⟩ | rfl
        · rw [List.mem_singleton] at hv
          subst hv
          exact ⟨.inl ⟨_, .str _⟩, fun x e => by cases e; exact jx⟩
        · exact ⟨od.chg j9 nov c12, sov⟩
      obtain ⟨ho, hs⟩ := hv'
      have t12 := tabs_chg j9 c12 t9
      have k12 := k9.trans (.chg c12)
      clear hv k9 t9 j9 c12 oa4 ma4 od nov sov jl jx Ly ly
      refine ⟨t12, fun H13 e13 t13 R kR => ?_⟩
      have ho13 := ho.ext e13
      refine ⟨_, rfl, fun x dx nx ndx ne => ?_⟩
      have s2 : Same H13 (upd (upd H13 dx (.own x)) x (.ins C dx [])) := (same_upd ndx).trans (same_upd (by rw [upd_ne (Ne.symm ne)]; exact nx))
      by_cases hS : isS v = true
      · obtain ⟨z, rfl⟩ : ∃ z, v = .str z := by
          cases v <;> first | exact ⟨_, rfl⟩ | cases hS
        refine ⟨x, dx, .str z, rfl, upd_same, .inl ⟨z, rfl, hs z rfl, fun ys hy H14 f14 h14 => ⟨rfl, ?_⟩, fun n hn d H14 s3 hd => ⟨true, te, fun _ e ne' => ?_, fun y => nomatch y⟩⟩⟩
        · have hw : wrongN (.str z) = 0 := by show (match readW 1 (Txt.split z "\n") [] with | .inl n => (n : Int) | .inr _ => 0) = 0; rw [hy]
          have S : Same H13 H14 := mk_same nx ndx ne f14
          refine kR _ _ ⟨_, rfl, .str z, rfl, ho13.same S, hs, fun H16 e16 => ⟨_, _, rfl, ?_⟩⟩
          rw [hw]
          refine ⟨_, rfl, _, rfl, rfl, rfl, _, rfl, ?_⟩
          refine iteF ⟨_, rfl, _, rfl, iteF (iteF ⟨_, _, _, _, _, rfl, ?_, ?_, ?_⟩)⟩
          · exact (k12.trans (.ext e13)).trans (.of (S.trans e16))
          · exact t13.ext (S.trans e16)
          · exact ((jar_ext e13 j12).same (S.trans e16)).mono (by omega)
        · have hw : wrongN (.str z) = n := by show (match readW 1 (Txt.split z "\n") [] with | .inl n => (n : Int) | .inr _ => 0) = (n : Int); rw [hn]
          have nz := readW_pos _ _ _ _ (Nat.le_refl 1) hn
          have s4 := same_upd (o := Kt.EO e (.ref D) (some d)) ne'
          have S : Same H13 (upd H14 e (Kt.EO e (.ref D) (some d))) := (s2.trans s3).trans s4
          have hd4 := s4 _ _ hd
          have he4 : (upd H14 e (Kt.EO e (.ref D) (some d))) e = some (Kt.EO e (.ref D) (some d)) := upd_same
          generalize (upd H14 e (Kt.EO e (.ref D) (some d))) = H15 at S hd4 he4 ⊢
          refine ⟨_, rfl, .str z, rfl, ho13.same S, hs, fun H16 e16 => ⟨_, _, rfl, ?_⟩⟩
          rw [hw]
          have hd5 := e16 _ _ hd4
          have he5 := e16 _ _ he4
          refine ⟨_, rfl, _, rfl, rfl, rfl, _, rfl, ?_⟩
          rw [cond_err (n := (n : Int)) (by omega)]
          refine iteF ⟨_, rfl, _, rfl, iteT ?_⟩
          have lg : ((n : Int)).natAbs.log2 < 1920 := by
            have l1 := (SL.split_nl (x := z)).1
            have l2 := hs z rfl
            have l3 := nz.2
            simp only [List.length_nil] at l3
            exact Nat.lt_of_le_of_lt (Nat.log2_le_self _) (show ((n : Int)).natAbs < 1920 by omega)
          refine ⟨_, rfl, e, d, _, .ref D, .ref D, true, rfl, he5, hd5, .own _, kD, _, rfl, iteF ?_⟩
          refine ⟨_, rfl, e, d, _, .int n, rfl, he5, hd5, rfl, n, rfl, lg, _, rfl, n, rfl, lg, rfl, _, rfl, ?_⟩
          rw [show (!decide (V.str (Str.ofString (toString (n : Int))) = V.str (Str.ofString (toString (n : Int))))) = false by simp]
          refine iteF ⟨_, _, _, _, _, rfl, ?_, ?_, ?_⟩
          · exact (k12.trans (.ext e13)).trans (.of (S.trans e16))
          · exact t13.ext (S.trans e16)
          · exact ((jar_ext e13 j12).same (S.trans e16)).mono (by omega)
      · have hS : isS v = false := by simpa using hS
        have hw : wrongN v = -1 := by
          unfold wrongN
          cases v <;> first | rfl | cases hS
        refine ⟨x, dx, v, rfl, upd_same, .inr ⟨hS, ho13.same s2, fun d H14 s3 hd => ⟨true, te, fun _ e ne' => ?_, fun y => nomatch y⟩⟩⟩
        have s4 := same_upd (o := Kt.EO e (.ref D) (some d)) ne'
        have S : Same H13 (upd H14 e (Kt.EO e (.ref D) (some d))) := (s2.trans s3).trans s4
        have hd4 := s4 _ _ hd
        have he4 : (upd H14 e (Kt.EO e (.ref D) (some d))) e = some (Kt.EO e (.ref D) (some d)) := upd_same
        generalize (upd H14 e (Kt.EO e (.ref D) (some d))) = H15 at S hd4 he4 ⊢
        refine ⟨_, rfl, v, rfl, ho13.same S, hs, fun H16 e16 => ⟨_, _, rfl, ?_⟩⟩
        rw [hw]
        have hd5 := e16 _ _ hd4
        have he5 := e16 _ _ he4
        refine ⟨_, rfl, _, rfl, rfl, rfl, _, rfl, ?_⟩
        rw [cond_err (n := (-1)) (by decide)]
        refine iteF ⟨_, rfl, _, rfl, iteT ?_⟩
        refine ⟨_, rfl, e, d, _, .ref D, .ref D, true, rfl, he5, hd5, .own _, kD, _, rfl, iteF ?_⟩
        refine ⟨_, rfl, e, d, _, .int (-1), rfl, he5, hd5, rfl, (-1), rfl, (by decide +kernel), _, rfl, (-1), rfl, (by decide +kernel), rfl, _, rfl, ?_⟩
        rw [show (!decide (V.str (Str.ofString (toString ((-1) : Int))) = V.str (Str.ofString (toString ((-1) : Int))))) = false by simp]
        refine iteF ⟨_, _, _, _, _, rfl, ?_, ?_, ?_⟩
        · exact (k12.trans (.ext e13)).trans (.of (S.trans e16))
        · exact t13.ext (S.trans e16)
        · exact ((jar_ext e13 j12).same (S.trans e16)).mono (by omega)
    · rintro σ H1 ⟨v1, v2, v3, v4, v5, rfl, k1, t1, j1⟩
      exact q _ k1 t1 (j1.mono (by omega))
end
end Ru
namespace Ru
open PySem PySem.Spec PyProof.Rows L2 Am Hs
/-- jars, each fresh and of its own -/
def Jars (H : Hp) (ps : List Addr) (N : Int) : Prop := ps.Nodup ∧ ∀ p ∈ ps, JarAt H p N
theorem Jars.same {H H' : Hp} {ps : List Addr} {N : Int} (h : Jars H ps N) (e : Same H H') : Jars H' ps N := ⟨h.1, fun p hp => (h.2 p hp).same e⟩
theorem Jars.snoc {H H' : Hp} {ps : List Addr} {p : Addr} {N : Int} (h : Jars H ps N) (e : Same H H') (np : H p = none) (j : JarAt H' p N) : Jars H' (ps ++ [p]) N := by
  refine ⟨?_, fun q hq => ?_⟩
  · rw [List.nodup_append]
    refine ⟨h.1, by simp, fun a ha b hb z => ?_⟩
    rw [List.mem_singleton.mp hb] at z
    obtain ⟨_, _, _, hp, _⟩ := h.2 a ha
    rw [z, np] at hp
    cases hp
  · rcases List.mem_append.mp hq with hq | hq
    · exact (h.2 q hq).same e
    · rw [List.mem_singleton.mp hq]
      exact j
def spLaw (K : PySem.W.Frag) (T : List (Addr × Str)) : Sp := fun vs H Q _ => ∃ (a : Addr) (ns : List Int), vs = [.ref a] ∧ SqL K H a (ns.map V.int) ∧ ns.length ≤ 63 ∧ LamX.Tabs T H ∧ ∀ H', Q (.bl true) H'
section
variable {P : Program} {w : World} {K : PySem.W.Frag} {mg : Str → Option Value} {base : Heap} {C : Addr}
theorem scLaw : FnScope ["_law_script", "_law_k", "_law_jar_here", "_law_jars"] ["_law_script"] (defScope sLaw) := ⟨rfl, rfl, rfl, by decide +kernel, rfl, by decide +kernel, by decide +kernel⟩
theorem ok_law {f : Addr} {fd : FuncData} (F : Fun K "law" "law" sLaw f fd) (T : Nm mg) (GJ : GotF P w K mg base "_law_jar" 1 ["_law_script", "_law_k"] (spJar K)) {T0 : List (Addr × Str)} (GR : ∃ f fd, Gu.FnG P w K mg base CX0 8 f fd ["_law_jar_here"] (spRight T0) ∧ Binds K fd ["_law_jar_here"] [] ∧ mg "_law_right" = some (.ref f) ∧ PySem.W.keepIn K (.ref f) = true) : Gu.FnG P w K mg base CX0 9 f fd ["_law_script"] (spLaw K T0) := by
  obtain ⟨fJ, dJ, GJ, bJ, mJ, kJ⟩ := GJ
  obtain ⟨fR, dR, GR, bR, mR, kR⟩ := GR
  refine Gu.okG0 F scLaw (fun vs H Q E h => ?_) (fun cdv A outer s H vs Q E free hr h => ?_)
  · obtain ⟨a, ns, rfl, _⟩ := h
    rfl
  · obtain ⟨a, ns, rfl, hS, hl, tabs, q⟩ := h
    have hr1 : Room 1 _ := hr.mono (by decide)
    refine ⟨_, (pss_cons (ps_setLc (i := 3) (own := [("_law_k", 1)]) (g := gName 1) (tt := tYes) rfl scLaw.nd rfl rfl rfl (pi_range1 (by rfl) T.range (pa_cons (pe_callB (call_max2 rfl) (by rfl) T.max b_max (pa_cons pe_int (pa_cons (pe_callB (call_min2 rfl) (by rfl) T.min b_min (pa_cons pe_int (pa_cons (pe_callB call_len_seq (by rfl) T.len PySem.boot_len (pa_cons (pv 0) pa_nil)) pa_nil))) pa_nil))) pa_nil))
          (blkOk_by (N := ["_law_script", "_law_k", "_law_jar_here", "_law_jars"]) (sc := defScope sLaw) (by decide +kernel)) (fun _ _ _ _ _ => (pg_name (i := 1) scLaw.nd rfl (.inl rfl))) (fun _ _ _ _ _ => pts_nil) (fun _ _ _ _ _ => (pe_call GJ hr1 (by rfl) mJ kJ bJ .nil pass0 (pa_cons (pv 0) (pa_cons (pv 1) pa_nil)))))
      (pss_one (ps_ret (pe_callB (cr_all rfl) (by rfl) T.all b_all (pa_cons (pe_lc (own := [("_law_jar_here", 2)]) (g := gName 2) (tt := tYes) rfl scLaw.nd (pi_list (pe_op op_rep (pv 3) pe_int))
          (blkOk_by (N := ["_law_script", "_law_k", "_law_jar_here", "_law_jars"]) (sc := defScope sLaw) (by decide +kernel)) (fun _ _ _ _ _ => (pg_name (i := 2) scLaw.nd rfl (.inl rfl))) (fun _ _ _ _ _ => pts_nil) (fun _ _ _ _ _ => (Gu.pe_callG GR free hr (by rfl) mR kR bR pass0 (pa_cons (pv 2) pa_nil)))) pa_nil))))), ?_⟩
    have bnd : ∀ m : Nat, m ≤ 63 → (if (if ((m : Int) < 4) then (m : Int) else 4) > 1 then (if ((m : Int) < 4) then (m : Int) else 4) else 1 : Int) ≤ 4 ∧ 1 ≤ (if (if ((m : Int) < 4) then (m : Int) else 4) > 1 then (if ((m : Int) < 4) then (m : Int) else 4) else 1 : Int) := by
      intro m hm
      split <;> split <;> omega
    have bb := bnd (ns.map V.int).length (by rw [List.length_map]; exact hl)
    refine ⟨_, rfl, a, _, rfl, .inl hS, _, _, rfl, _, _, rfl, _, rfl, by omega, by omega, ?_⟩
    generalize (if (if (((ns.map V.int).length : Int) < 4) then ((ns.map V.int).length : Int) else 4) > 1 then (if (((ns.map V.int).length : Int) < 4) then ((ns.map V.int).length : Int) else 4) else 1 : Int) = m at bb ⊢
    intro D nD
    refine lc_range (lo := 0) (n := m.toNat) (fun i H' => Same H H' ∧ ∃ ps : List Addr, H' D = some (.lst (ps.map V.ref)) ∧ Jars H' ps 0 ∧ ps.length = i) ⟨same_upd nD, [], upd_same, ⟨by simp, fun _ h => absurd h List.not_mem_nil⟩, rfl⟩ ?_ ?_
    · rintro i H1 hi ⟨s1, ps, h1, js, lps⟩
      refine ⟨rfl, ?_⟩
      unfold tYes
      refine iteT ⟨_, rfl, _, rfl, a, ns, _, rfl, s1.seq hS, by omega, by omega, fun p H2 s2 np jj => ?_⟩
      have h2 := s2 _ _ h1
      refine ⟨_, h2, ?_, fun b u e => ?_, ps ++ [p], ?_, ?_, ?_⟩
      · rw [List.length_map, lps]
        exact Nat.lt_of_lt_of_le hi (Nat.le_trans (show m.toNat ≤ 4 by omega) (by decide))
      · rw [upd_ne (ne_of_none e nD)]
        exact s2 _ _ (s1 _ _ e)
      · rw [upd_same, List.map_append]
        rfl
      · obtain ⟨nd, ja⟩ := js.snoc s2 np jj
        refine ⟨nd, fun q hq => ?_⟩
        obtain ⟨o, mm, c, hp, r⟩ := ja q hq
        refine ⟨o, mm, c, ?_, r⟩
        rw [upd_ne ?_]
        · exact hp
        · rintro rfl
          rw [h2] at hp
          have := HO.lst.inj (Option.some.inj hp)
          cases ps with
          | nil => cases this
          | cons _ _ => cases this
      · rw [List.length_append, lps]
        rfl
    · rintro H1 ⟨s1, ps, h1, js, lps⟩
      have Dp : D ∉ ps := fun z => by
        obtain ⟨o, mm, c, hp, r⟩ := js.2 D z
        rw [h1] at hp
        have := HO.lst.inj (Option.some.inj hp)
        cases ps with
        | nil => cases this
        | cons _ _ => cases this
      refine ⟨_, rfl, D, 2, _, rfl, rfl, h1, by decide, by decide, ?_, fun E2 nE2 => ?_⟩
      · rw [List.length_map]
        exact Nat.le_trans (show ps.length * 2 ≤ 8 by omega) (by decide)
      have e2l : (List.replicate (2 : Int).toNat (ps.map V.ref)).flatten = (ps ++ ps).map V.ref := by
        rw [List.map_append]
        show (ps.map V.ref) ++ ((ps.map V.ref) ++ []) = _
        rw [List.append_nil]
      rw [e2l]
      have eE := same_upd (o := .lst ((ps ++ ps).map V.ref)) nE2
      have hE := upd_same (H := H1) (a := E2) (o := .lst ((ps ++ ps).map V.ref))
      have js2 := js.same eE
      have h12 := eE _ _ h1
      generalize upd H1 E2 (.lst ((ps ++ ps).map V.ref)) = H2 at *
      have Ep : E2 ∉ ps := fun z => by
        obtain ⟨o, mm, c, hp, r⟩ := js2.2 E2 z
        rw [hE] at hp
        have := HO.lst.inj (Option.some.inj hp)
        cases ps with
        | nil => cases this
        | cons _ _ => cases this
      refine ⟨E2, rfl, ⟨_, SqL.of hE⟩, fun D2 nD2 => ?_⟩
      have nl : ps.length ≤ 4 := by omega
      refine lc_it (walk_list (xs := (ps ++ ps).map V.ref)) (Pv := fun i H' => H' E2 = some (.lst ((ps ++ ps).map V.ref)) ∧ H' D2 = some (.lst ((List.replicate i true).map V.bl)) ∧ LamX.Tabs T0 H' ∧ ∀ j p, ps[j]? = some p → JarAt H' p (if i ≤ j then 0 else if i ≤ j + ps.length then 144 else 288))
        ⟨same_upd nD2 _ _ hE, upd_same, (tabs.ext (s1.trans eE)).ext (same_upd nD2), fun j p hj => ?_⟩ (fun i H' _ hh => SqL.of hh.1) ?_ ?_
      · rw [if_pos (Nat.zero_le _)]
        exact (js2.2 p (List.mem_of_getElem? hj)).same (same_upd nD2)
      · rintro i v G1 G2 hi ⟨d1, d2, tb, jr⟩ ⟨rfl, hv⟩
        have hi' : i < (ps ++ ps).length := by simpa using hi
        have hi2 : i < ps.length + ps.length := by simpa using hi'
        obtain ⟨k, hk, hik, hv2⟩ : ∃ k, ∃ hk : k < ps.length, (i = k ∨ i = k + ps.length) ∧ (ps ++ ps)[i] = ps[k] := by
          by_cases z : i < ps.length
          · exact ⟨i, z, .inl rfl, by rw [List.getElem_append_left z]⟩
          · exact ⟨i - ps.length, by omega, .inr (by omega), by rw [List.getElem_append_right (by omega)]⟩
        obtain rfl : v = .ref ps[k] := by
          replace hv : ((ps ++ ps).map V.ref)[i]? = some v := hv
          rw [List.getElem?_map, List.getElem?_eq_getElem hi'] at hv
          rw [← hv2]
          exact (Option.some.inj hv).symm
        have jk := jr k _ (List.getElem?_eq_getElem hk)
        have ne : ∀ {b : Addr} {bs : List Bool}, G2 b = some (.lst (bs.map V.bl)) → b ≠ ps[k] := fun {b bs} hb z => by
          obtain ⟨o, mm, c, hp, r⟩ := jk
          rw [z, hp] at hb
          have := HO.lst.inj (Option.some.inj hb)
          cases bs with
          | nil => cases this
          | cons _ _ => cases this
        refine ⟨rfl, ?_⟩
        unfold tYes
        refine iteT ⟨_, rfl, ps[k], _, rfl, jk, ?_, tb, fun H3 c3 t3 j3 => ?_⟩
        · split
          · decide
          · split <;> decide
        have dE : E2 ≠ ps[k] := fun z => Ep (z ▸ List.getElem_mem hk)
        have h3 := c3 _ _ d2 (ne d2) (fun _ z => by cases z)
        have nED : E2 ≠ D2 := ne_of_none hE nD2
        have fresh : ∀ {p : Addr} {M : Int}, JarAt H3 p M → p ≠ D2 := fun {p M} j => by
          obtain ⟨o, mm, c, hp, r⟩ := j
          rintro rfl
          rw [h3] at hp
          have := HO.lst.inj (Option.some.inj hp)
          cases i with
          | zero => cases this
          | succ n => cases this
        refine ⟨_, h3, ?_, ?_, ?_, ?_, fun j p hj => ?_⟩
        · rw [List.length_map, List.length_replicate]
          exact Nat.lt_of_lt_of_le hi2 (Nat.le_trans (show ps.length + ps.length ≤ 8 by omega) (by decide))
        · rw [upd_ne nED]
          exact c3 _ _ d1 dE (fun _ z => by cases z)
        · rw [upd_same, List.replicate_succ', List.map_append]
          rfl
        · intro q hq
          obtain ⟨pz, h1, h2, h4⟩ := t3 q hq
          refine ⟨pz, by rw [upd_ne (ne_of h1 h3 (by intro z; cases z))]; exact h1, h2, fun pos cv hc => ?_⟩
          obtain ⟨c, e1, e2⟩ := h4 pos cv hc
          exact ⟨c, e1, by rw [upd_ne (ne_of e2 h3 (by intro z; unfold LamX.CodeO at z; cases z))]; exact e2⟩
        · have hj' : j < ps.length := (List.getElem?_eq_some_iff.mp hj).1
          rw [List.getElem?_eq_getElem hj'] at hj
          obtain rfl := Option.some.inj hj
          have key : JarAt H3 ps[j] (if i + 1 ≤ j then 0 else if i + 1 ≤ j + ps.length then 144 else 288) := by
            by_cases z : j = k
            · subst z
              refine j3.mono ?_
              rcases hik with h | h <;> subst h
              · rw [if_pos (Nat.le_refl _), if_neg (by omega), if_pos (by omega)]
                decide
              · rw [if_neg (by omega), if_pos (Nat.le_refl _), if_neg (by omega), if_neg (by omega)]
                decide
            · have nj : ps[j] ≠ ps[k] := fun e => by
                rcases Nat.lt_or_gt_of_ne z with h | h
                · exact List.pairwise_iff_getElem.mp js.1 j k hj' hk h e
                · exact List.pairwise_iff_getElem.mp js.1 k j hk hj' h e.symm
              obtain ⟨o, mm, c, hp, r1, r2, r3, r4⟩ := jr j _ (List.getElem?_eq_getElem hj')
              refine ⟨o, mm, c, c3 _ _ hp nj (fun _ z => by cases z), r1, r2, r3, Int.le_trans r4 ?_⟩
              split <;> (try split) <;> (try split) <;> (try split) <;> omega
          obtain ⟨o, mm, c, hp, r⟩ := id key
          exact ⟨o, mm, c, by rw [upd_ne (fresh key)]; exact hp, r⟩
      · rintro G1 ⟨d1, d2, tb, jr⟩
        refine ⟨D2, List.replicate (ps ++ ps).length true, rfl, SqL.of (by rw [d2, List.length_map]), ?_⟩
        rw [show (List.replicate (ps ++ ps).length true).all id = true by simp]
        exact q G1
end
end Ru
namespace Ru
open PySem PySem.Spec PyProof.Rows L2 Am Hs
/-- a def of the module as the head writes it -/
def FactF (K : PySem.W.Frag) (x : Str) (st : Stmt) : Prop := ∃ (f : Addr) (oc : Value) (od : Option Addr) (kV dc pm : Value) (an : Option Addr) (cd ct : Value) (sl : Array (Option Value)),
  PySem.W.nsIn K mainGlobals x = some (some (.ref f)) ∧ K.lookup f = some ⟨oc, od, .func (PySem.W.fnOf x x (defArgs st) (defBody st) (defScope st) .none kV dc pm an cd ct), sl⟩ ∧ PySem.W.codeIn K cd x = true ∧ PySem.W.keepIn K (.ref f) = true
theorem mkF {K : PySem.W.Frag} {x : Str} {st : Stmt} {f : Addr} {oc : Value} {od : Option Addr} {kV dc pm : Value} {an : Option Addr} {cd ct : Value} {sl : Array (Option Value)}
    (a : PySem.W.nsIn K mainGlobals x = some (some (.ref f))) (l : K.lookup f = some ⟨oc, od, .func (PySem.W.fnOf x x (defArgs st) (defBody st) (defScope st) .none kV dc pm an cd ct), sl⟩) (c : PySem.W.codeIn K cd x = true) (k : PySem.W.keepIn K (.ref f) = true) : FactF K x st :=
  ⟨f, oc, od, kV, dc, pm, an, cd, ct, sl, a, l, c, k⟩
theorem FactF.fun {K : PySem.W.Frag} {h : Heap} {mg : Str → Option Value} {x : Str} {st : Stmt} (X : K.In h) (G : h.Ns mainGlobals mg) (F : FactF K x st) : ∃ f fd, Fun K x x st f fd ∧ mg x = some (.ref f) ∧ PySem.W.keepIn K (.ref f) = true := by
  obtain ⟨f, oc, od, kV, dc, pm, an, cd, ct, sl, a, l, c, k⟩ := F
  exact ⟨f, _, fun_mk l c k, PySem.W.mg_of X G a, k⟩
/-- a method of the class -/
def FactM (K : PySem.W.Frag) (C : Addr) (x q : Str) (st : Stmt) : Prop := ∃ (f : Addr) (oc : Value) (od : Option Addr) (kV dc pm : Value) (an : Option Addr) (cd ct : Value) (sl : Array (Option Value)),
  PySem.W.findIn K (.ref C) x = some (some (.ref f)) ∧ PySem.W.isFn K (.ref f) = true ∧ K.lookup f = some ⟨oc, od, .func (PySem.W.fnOf x q (defArgs st) (defBody st) (defScope st) .none kV dc pm an cd ct), sl⟩ ∧ PySem.W.codeIn K cd q = true ∧ PySem.W.keepIn K (.ref f) = true
theorem mkM {K : PySem.W.Frag} {C : Addr} {x q : Str} {st : Stmt} {f : Addr} {oc : Value} {od : Option Addr} {kV dc pm : Value} {an : Option Addr} {cd ct : Value} {sl : Array (Option Value)}
    (a : PySem.W.findIn K (.ref C) x = some (some (.ref f))) (i : PySem.W.isFn K (.ref f) = true) (l : K.lookup f = some ⟨oc, od, .func (PySem.W.fnOf x q (defArgs st) (defBody st) (defScope st) .none kV dc pm an cd ct), sl⟩) (c : PySem.W.codeIn K cd q = true)
    (k : PySem.W.keepIn K (.ref f) = true) : FactM K C x q st := ⟨f, oc, od, kV, dc, pm, an, cd, ct, sl, a, i, l, c, k⟩
theorem FactM.meth {K : PySem.W.Frag} {C : Addr} {x q : Str} {st : Stmt} (F : FactM K C x q st) : ∃ f fd, Fun K x q st f fd ∧ PySem.W.findIn K (.ref C) x = some (some (.ref f)) ∧ PySem.W.isFn K (.ref f) = true ∧ Meth K C x f := by
  obtain ⟨f, oc, od, kV, dc, pm, an, cd, ct, sl, a, i, l, c, k⟩ := F
  exact ⟨f, _, fun_mk l c k, a, i, ⟨a, i, k⟩⟩
/-- a function that a record of the class holds -/
def FactG (K : PySem.W.Frag) (x q : Str) (st : Stmt) (g : Addr) : Prop := ∃ (oc : Value) (od : Option Addr) (kV dc pm : Value) (an : Option Addr) (cd ct : Value) (sl : Array (Option Value)),
  K.lookup g = some ⟨oc, od, .func (PySem.W.fnOf x q (defArgs st) (defBody st) (defScope st) .none kV dc pm an cd ct), sl⟩ ∧ PySem.W.codeIn K cd q = true ∧ PySem.W.keepIn K (.ref g) = true
theorem FactG.fun {K : PySem.W.Frag} {x q : Str} {st : Stmt} {g : Addr} (F : FactG K x q st g) : ∃ fd, Fun K x q st g fd := by
  obtain ⟨oc, od, kV, dc, pm, an, cd, ct, sl, l, c, k⟩ := F
  exact ⟨_, fun_mk l c k⟩
/-- a property -/
structure FactPr (K : PySem.W.Frag) (C : Addr) (x q : Str) (st : Stmt) (p g : Addr) : Prop where
  po : PropOf K C x p g
  fn : FactG K x q st g
theorem mkPr {K : PySem.W.Frag} {C p g : Addr} {x q : Str} {st : Stmt} {rest : List Value} {oc : Value} {od : Option Addr} {kV dc pm : Value} {an : Option Addr} {cd ct : Value} {sl : Array (Option Value)} (a : PySem.W.findIn K (.ref C) x = some (some (.ref p))) (b : PySem.W.specialIn K (.ref p) "__get__" = some (some (.builtin "property.__get__")))
    (c : PySem.W.takesIn K (.ref p) = some true) (d : PySem.W.recIn K p "property" = some (.ref g :: rest)) (l : K.lookup g = some ⟨oc, od, .func (PySem.W.fnOf x q (defArgs st) (defBody st) (defScope st) .none kV dc pm an cd ct), sl⟩) (e : PySem.W.codeIn K cd q = true) (k : PySem.W.keepIn K (.ref g) = true) : FactPr K C x q st p g :=
  ⟨⟨a, b, c, ⟨rest, d⟩⟩, ⟨oc, od, kV, dc, pm, an, cd, ct, sl, l, e, k⟩⟩
/-- a class that is made -/
structure FactK (K : PySem.W.Frag) (C : Addr) : Prop where
  pg : PySem.W.plainGet K C Str.empty = true
  hd : PySem.W.hasDictIn K C = true
  po : PySem.W.plainOver K C = true
  sa : PySem.W.findIn K (.ref C) "__setattr__" = some (some (.builtin "object.__setattr__"))
  mkk : PySem.W.makesIn K C = true
  kc : PySem.W.keepIn K (.ref C) = true
/-- a class with operators -/
structure FactH (K : PySem.W.Frag) (C : Addr) : Prop where
  sf : PySem.W.selfFirst K C = true
  ne : PySem.W.findIn K (.ref C) "__ne__" = some (some (.builtin "object.__ne__"))
  ob : PySem.W.mroIn K C (.type "object") = some true
  ca : PySem.W.findIn K (.ref C) "__class__" = some (some (.builtin "object.__class__"))
  cn : PySem.W.specialIn K (.builtin "object.__class__") "__get__" = some (some (.builtin "getset_descriptor.__get__"))
  ct : PySem.W.takesIn K (.builtin "object.__class__") = some true
/-- two classes, apart -/
structure FactA (K : PySem.W.Frag) (C D : Addr) : Prop where
  kD : PySem.W.kitOne K (.ref D) (.ref C) = some false
  nF : PySem.W.notFirst K C (.ref D) = true
structure FactT (K : PySem.W.Frag) (C : Addr) : Prop where
  s1 : PySem.W.subIn K (.ref C) (.type "int") = some false
  r1 : PySem.W.subIn K (.type "int") (.ref C) = some false
  k1 : PySem.W.kitOne K (.type "int") (.ref C) = some false
  s2 : PySem.W.subIn K (.ref C) (.type "bool") = some false
  r2 : PySem.W.subIn K (.type "bool") (.ref C) = some false
  k2 : PySem.W.kitOne K (.type "bool") (.ref C) = some false
  s3 : PySem.W.subIn K (.ref C) (.type "NoneType") = some false
  r3 : PySem.W.subIn K (.type "NoneType") (.ref C) = some false
  k3 : PySem.W.kitOne K (.type "NoneType") (.ref C) = some false
  s4 : PySem.W.subIn K (.ref C) (.type "str") = some false
  r4 : PySem.W.subIn K (.type "str") (.ref C) = some false
  k4 : PySem.W.kitOne K (.type "str") (.ref C) = some false
  s5 : PySem.W.subIn K (.ref C) (.type "list") = some false
  r5 : PySem.W.subIn K (.type "list") (.ref C) = some false
  k5 : PySem.W.kitOne K (.type "list") (.ref C) = some false
  s6 : PySem.W.subIn K (.ref C) (.type "tuple") = some false
  r6 : PySem.W.subIn K (.type "tuple") (.ref C) = some false
  k6 : PySem.W.kitOne K (.type "tuple") (.ref C) = some false
  s7 : PySem.W.subIn K (.ref C) (.type "dict") = some false
  r7 : PySem.W.subIn K (.type "dict") (.ref C) = some false
  k7 : PySem.W.kitOne K (.type "dict") (.ref C) = some false
  kC : PySem.W.kitOne K (.ref C) (.ref C) = some true
  kI : PySem.W.kitOne K (.ref C) (.type "int") = some false
/-- a tuple of texts that a name of the module has -/
def FactSeq (K : PySem.W.Frag) (x : Str) (ws : List Str) : Prop := ∃ (T : Addr) (o : Obj) (its : Array Value) (n : Nat), PySem.W.nsIn K mainGlobals x = some (some (.ref T)) ∧ K.lookup T = some o ∧ o.cls = .type "tuple" ∧ o.data = .seq its n ∧ its.size ≤ sizeLine ∧ Vals (ws.map V.str) its.toList
theorem mkSeq {K : PySem.W.Frag} {x : Str} {ws : List Str} {T : Addr} {o : Obj} {its : Array Value} {n : Nat} (a : PySem.W.nsIn K mainGlobals x = some (some (.ref T))) (l : K.lookup T = some o) (c : o.cls = .type "tuple") (d : o.data = .seq its n) (z : its.size ≤ sizeLine) (v : Vals (ws.map V.str) its.toList) : FactSeq K x ws := ⟨T, o, its, n, a, l, c, d, z, v⟩
theorem FactSeq.get {K : PySem.W.Frag} {h : Heap} {mg : Str → Option Value} {x : Str} {ws : List Str} (X : K.In h) (G : h.Ns mainGlobals mg) (F : FactSeq K x ws) : ∃ T, mg x = some (.ref T) ∧ ∀ H, SqT K H T (ws.map V.str) := by
  obtain ⟨T, o, its, n, a, l, c, d, z, v⟩ := F
  exact ⟨T, PySem.W.mg_of X G a, fun H => .inr ⟨o, its, n, l, c, d, z, v⟩⟩
def FactInt (K : PySem.W.Frag) (x : Str) (v : Int) : Prop := ∃ (i : Int) (t : Nat), PySem.W.nsIn K mainGlobals x = some (some (.int i t)) ∧ i = v
theorem mkInt {K : PySem.W.Frag} {x : Str} {v i : Int} {t : Nat} (a : PySem.W.nsIn K mainGlobals x = some (some (.int i t))) (e : i = v) : FactInt K x v := ⟨i, t, a, e⟩
theorem FactInt.get {K : PySem.W.Frag} {h : Heap} {mg : Str → Option Value} {x : Str} {v : Int} (X : K.In h) (G : h.Ns mainGlobals mg) (F : FactInt K x v) : ∃ i t, mg x = some (.int i t) ∧ i = v := by
  obtain ⟨i, t, a, e⟩ := F
  exact ⟨i, t, PySem.W.mg_of X G a, e⟩
def FactStr (K : PySem.W.Frag) (x v : Str) : Prop := ∃ (t : Nat), PySem.W.nsIn K mainGlobals x = some (some (.str v t))
theorem mkStr {K : PySem.W.Frag} {x v : Str} {t : Nat} (a : PySem.W.nsIn K mainGlobals x = some (some (.str v t))) : FactStr K x v := ⟨t, a⟩
theorem FactStr.get {K : PySem.W.Frag} {h : Heap} {mg : Str → Option Value} {x v : Str} (X : K.In h) (G : h.Ns mainGlobals mg) (F : FactStr K x v) : ∃ t, mg x = some (.str v t) := by
  obtain ⟨t, a⟩ := F
  exact ⟨t, PySem.W.mg_of X G a⟩
theorem pair_app {α β : Type} {r : α → β → Prop} : ∀ {a : List α} {b : List β} {c : List α} {d : List β}, Paired r a b → Paired r c d → Paired r (a ++ c) (b ++ d)
  | _, _, _, _, .nil, h => h
  | _, _, _, _, .cons x xs, h => .cons x (pair_app xs h)
/-- the class Amount's __init__, with its default -/
def FactI (K : PySem.W.Frag) (C : Addr) : Prop := ∃ (f T : Addr) (oc : Value) (od : Option Addr) (kV dc pm : Value) (an : Option Addr) (cd ct : Value) (sl : Array (Option Value)) (o : Obj) (n : Nat) (t : Nat),
  PySem.W.findIn K (.ref C) "__init__" = some (some (.ref f)) ∧ PySem.W.isFn K (.ref f) = true ∧ K.lookup f = some ⟨oc, od, .func (PySem.W.fnOf "__init__" "Amount.__init__" (defArgs sInit) (defBody sInit) (defScope sInit) (.ref T) kV dc pm an cd ct), sl⟩ ∧ PySem.W.codeIn K cd "Amount.__init__" = true ∧
  PySem.W.keepIn K (.ref f) = true ∧ K.lookup T = some o ∧ o.data = .seq [Value.int 1 t].toArray n
theorem mkI {K : PySem.W.Frag} {C f T : Addr} {oc : Value} {od : Option Addr} {kV dc pm : Value} {an : Option Addr} {cd ct : Value} {sl : Array (Option Value)} {o : Obj} {n t : Nat}
    (a : PySem.W.findIn K (.ref C) "__init__" = some (some (.ref f))) (i : PySem.W.isFn K (.ref f) = true) (l : K.lookup f = some ⟨oc, od, .func (PySem.W.fnOf "__init__" "Amount.__init__" (defArgs sInit) (defBody sInit) (defScope sInit) (.ref T) kV dc pm an cd ct), sl⟩)
    (c : PySem.W.codeIn K cd "Amount.__init__" = true) (k : PySem.W.keepIn K (.ref f) = true) (d : K.lookup T = some o) (e : o.data = .seq [Value.int 1 t].toArray n) : FactI K C := ⟨f, T, oc, od, kV, dc, pm, an, cd, ct, sl, o, n, t, a, i, l, c, k, d, e⟩
theorem gotI {P : Program} {w : World} {K : PySem.W.Frag} {mg : Str → Option Value} {base : Heap} {C : Addr} (F : FactI K C) (T : Txt K mg C) (mk : PySem.W.makesIn K C = true) (kc : PySem.W.keepIn K (.ref C) = true) (GW : GotF P w K mg base "is_whole" 1 ["value"] (spWhole C)) : GotI P w K mg base C := by
  obtain ⟨f, Td, oc, od, kV, dc, pm, an, cd, ct, sl, o, n, t, a, i, l, c, k, d, e⟩ := F
  obtain ⟨fW, dW, GW, bW, mW, kW⟩ := GW
  have FD : FInit K f (PySem.W.fnOf "__init__" "Amount.__init__" (defArgs sInit) (defBody sInit) (defScope sInit) (.ref Td) kV dc pm an cd ct) :=
    ⟨⟨oc, od, .ref Td, kV, dc, pm, an, cd, ct, sl, rfl, l, c, .inr ⟨by simp, Td, o, [Value.int 1 t], n, rfl, d, e, .cons ⟨t, rfl⟩ .nil⟩, .inl rfl⟩, k⟩
  obtain ⟨d3, v3, b3⟩ := FD.binds1 (ps := ["self", "number", "under"]) 3 1 (by simp) rfl (fun T kV doc pm an cdv ct us its h1 h2 => by
    match us, its, h1, h2 with
    | [_, _, _], [_], _, _ => exact ⟨_, rfl, rfl⟩)
  obtain ⟨d2, v2, b2⟩ := FD.binds1 (ps := ["self", "number", "under"]) 2 0 (by simp) rfl (fun T kV doc pm an cdv ct us its h1 h2 => by
    match us, its, h1, h2 with
    | [_, _], [_], _, _ => exact ⟨_, rfl, rfl⟩)
  cases v3
  exact ⟨f, _, ok_init FD T GW bW mW kW, b3, ⟨d2, v2, b2⟩, ⟨mk, a, i, kc⟩⟩
/-- an error class of the text, its __init__ taken over -/
def FactX (K : PySem.W.Frag) (x : Str) (D : Addr) : Prop := ∃ (nm q : Str) (N : Addr) (bs bm : List Value) (sn : List Str) (sub : List Value) (ab : Bool) (col : Option Bool) (dd : Option Addr) (k0 k1 k2 k3 k5 : Option Value),
  PySem.W.nsIn K mainGlobals x = some (some (.ref D)) ∧ K.lookup D = some (excClassObj nm q D N bs bm true sn sub ab col dd k0 k1 k2 k3 k5 "ValueError.__new__") ∧ PySem.HandSPX.refsVE bm = true
theorem mkX {K : PySem.W.Frag} {x : Str} {D : Addr} {nm q : Str} {N : Addr} {bs bm : List Value} {sn : List Str} {sub : List Value} {ab : Bool} {col : Option Bool} {dd : Option Addr} {k0 k1 k2 k3 k5 : Option Value}
    (a : PySem.W.nsIn K mainGlobals x = some (some (.ref D))) (l : K.lookup D = some (excClassObj nm q D N bs bm true sn sub ab col dd k0 k1 k2 k3 k5 "ValueError.__new__")) (r : PySem.HandSPX.refsVE bm = true) : FactX K x D := ⟨nm, q, N, bs, bm, sn, sub, ab, col, dd, k0, k1, k2, k3, k5, a, l, r⟩
structure FactY (K : PySem.W.Frag) (D : Addr) : Prop where
  sa : PySem.W.findIn K (.ref D) "__setattr__" = some (some (.builtin "object.__setattr__"))
  exC : PySem.W.subIn K (.ref D) (.type "BaseException") = some true
  tyC : PySem.W.typeIn K (.ref D) = some (.type "type")
  kC : PySem.W.keepIn K (.ref D) = true
  nv : PySem.W.findIn K (.ref D) "value" = some none
  ga : PySem.W.findIn K (.ref D) "__getattribute__" = some (some (.builtin "BaseException.__getattribute__"))
  gg : PySem.W.findIn K (.ref D) "__getattr__" = some none
  hdC : PySem.W.hasDictIn K D = true
  iC : PySem.W.isClsIn K D = true
  sC : PySem.W.subIn K (.ref D) (.ref D) = some true
/-- the class's __init__, taken over from the base -/
def FactE (K : PySem.W.Frag) (D : Addr) : Prop := ∃ (f : Addr) (oc : Value) (od : Option Addr) (kV dc pm : Value) (an : Option Addr) (cd ct : Value) (sl : Array (Option Value)),
  PySem.W.findIn K (.ref D) "__init__" = some (some (.ref f)) ∧ PySem.W.typeIn K (.ref f) = some (.type "function") ∧ K.lookup f = some ⟨oc, od, .func (PySem.W.fnOf "__init__" "MeterError.__init__" (defArgs sInitE) (defBody sInitE) (defScope sInitE) .none kV dc pm an cd ct), sl⟩ ∧ PySem.W.codeIn K cd "MeterError.__init__" = true ∧ PySem.W.keepIn K (.ref f) = true
theorem mkE {K : PySem.W.Frag} {D f : Addr} {oc : Value} {od : Option Addr} {kV dc pm : Value} {an : Option Addr} {cd ct : Value} {sl : Array (Option Value)}
    (a : PySem.W.findIn K (.ref D) "__init__" = some (some (.ref f))) (i : PySem.W.typeIn K (.ref f) = some (.type "function")) (l : K.lookup f = some ⟨oc, od, .func (PySem.W.fnOf "__init__" "MeterError.__init__" (defArgs sInitE) (defBody sInitE) (defScope sInitE) .none kV dc pm an cd ct), sl⟩)
    (c : PySem.W.codeIn K cd "MeterError.__init__" = true) (k : PySem.W.keepIn K (.ref f) = true) : FactE K D := ⟨f, oc, od, kV, dc, pm, an, cd, ct, sl, a, i, l, c, k⟩
theorem exm_self {K : PySem.W.Frag} {S : Addr} (h1 : PySem.W.subIn K (.ref S) (.type "BaseException") = some true) (h2 : PySem.W.isClsIn K S = true) (h3 : PySem.W.typeIn K (.ref S) = some (.type "type")) (h4 : PySem.W.subIn K (.ref S) (.ref S) = some true) :
    PySem.W.exmOne K (.ref S) (.ref S) = some true := by
  have e1 : (PySem.W.subIn K (.ref S) (.type "BaseException") == some true) = true := by rw [h1] <;> rfl
  have e2 : ((PySem.W.clsIn K S).isSome && PySem.W.typeIn K (.ref S) == some (.type "type")) = true := by
    have h2' : (PySem.W.clsIn K S).isSome = true := h2
    rw [h2', h3] <;> rfl
  show (if (PySem.W.subIn K (.ref S) (.type "BaseException") == some true) = true then (if ((PySem.W.clsIn K S).isSome && PySem.W.typeIn K (.ref S) == some (.type "type")) = true then PySem.W.subIn K (.ref S) (.ref S) else none) else none) = some true
  rw [if_pos e1, if_pos e2]
  exact h4
theorem gotErr {K : PySem.W.Frag} {h : Heap} {mg : Str → Option Value} {x : Str} {D : Addr} (X : K.In h) (G : h.Ns mainGlobals mg) (F : FactX K x D) (Y : FactY K D) (E : FactE K D) :
    ∃ f fd, Err K mg x D f ∧ Fun K "__init__" "MeterError.__init__" sInitE f fd := by
  obtain ⟨nm, q, N, bs, bm, sn, sub, ab, col, dd, k0, k1, k2, k3, k5, a, l, r⟩ := F
  obtain ⟨f, oc, od, kV, dc, pm, an, cd, ct, sl, e1, e2, e3, e4, e5⟩ := E
  exact ⟨f, _, ⟨⟨⟨nm, q, N, bs, bm, sn, sub, ab, col, dd, k0, k1, k2, k3, k5, l, r⟩, Y.sa, Y.exC, Y.tyC, Y.kC⟩, e1, e2, PySem.W.mg_of X G a, Y.nv, ⟨Y.ga, Y.gg, Y.exC, Y.hdC⟩, exm_self Y.exC Y.iC Y.tyC Y.sC⟩, fun_mk e3 e4 e5⟩
theorem exm_of {K : PySem.W.Frag} {D M : Addr} (h1 : PySem.W.subIn K (.ref M) (.type "BaseException") = some true) (h2 : PySem.W.isClsIn K M = true) (h3 : PySem.W.typeIn K (.ref M) = some (.type "type")) (h4 : PySem.W.subIn K (.ref D) (.ref M) = some true) :
    PySem.W.exmOne K (.ref D) (.ref M) = some true := by
  have e1 : (PySem.W.subIn K (.ref M) (.type "BaseException") == some true) = true := by rw [h1] <;> rfl
  have e2 : ((PySem.W.clsIn K M).isSome && PySem.W.typeIn K (.ref M) == some (.type "type")) = true := by
    have h2' : (PySem.W.clsIn K M).isSome = true := h2
    rw [h2', h3] <;> rfl
  show (if (PySem.W.subIn K (.ref M) (.type "BaseException") == some true) = true then (if ((PySem.W.clsIn K M).isSome && PySem.W.typeIn K (.ref M) == some (.type "type")) = true then PySem.W.subIn K (.ref D) (.ref M) else none) else none) = some true
  rw [if_pos e1, if_pos e2]
  exact h4
/-- the base of the error classes, and the error class by it -/
structure FactZ (K : PySem.W.Frag) (D M : Addr) : Prop where
  exM : PySem.W.subIn K (.ref M) (.type "BaseException") = some true
  iM : PySem.W.isClsIn K M = true
  tM : PySem.W.typeIn K (.ref M) = some (.type "type")
  sDM : PySem.W.subIn K (.ref D) (.ref M) = some true
  ca : PySem.W.findIn K (.ref D) "__class__" = some (some (.builtin "object.__class__"))
  cn : PySem.W.specialIn K (.builtin "object.__class__") "__get__" = some (some (.builtin "getset_descriptor.__get__"))
  ct : PySem.W.takesIn K (.builtin "object.__class__") = some true
  ob : PySem.W.mroIn K D (.type "object") = some true
  kD : PySem.W.kitOne K (.ref D) (.ref D) = some true
/-- a def that makes a lambda: its code object and the table of that -/
structure FactL (K : PySem.W.Frag) (x : Str) (st : Stmt) (f c P : Addr) : Prop where
  a : PySem.W.nsIn K mainGlobals x = some (some (.ref f))
  l : ∃ (oc : Value) (od : Option Addr) (kV dc pm : Value) (an : Option Addr) (ct : Value) (sl : Array (Option Value)), K.lookup f = some ⟨oc, od, .func (PySem.W.fnOf x x (defArgs st) (defBody st) (defScope st) .none kV dc pm an (.ref c) ct), sl⟩
  co : PySem.W.codeIn K (.ref c) x = true
  k : PySem.W.keepIn K (.ref f) = true
  o : ∃ (e : Value) (dd : Option Addr) (vs : Array Value) (sl : Array (Option Value)), K.lookup c = some ⟨e, dd, .fields vs, sl⟩ ∧ vs[11]? = some (.ref P)
  h : PySem.W.codeHdIn K c P = true
  n : K.lookup P = none
theorem mkL {K : PySem.W.Frag} {x : Str} {st : Stmt} {f c P : Addr} {oc : Value} {od : Option Addr} {kV dc pm : Value} {an : Option Addr} {ct : Value} {sl : Array (Option Value)} {e : Value} {dd : Option Addr} {vs : Array Value} {sl2 : Array (Option Value)}
    (a : PySem.W.nsIn K mainGlobals x = some (some (.ref f))) (l : K.lookup f = some ⟨oc, od, .func (PySem.W.fnOf x x (defArgs st) (defBody st) (defScope st) .none kV dc pm an (.ref c) ct), sl⟩) (cc : PySem.W.codeIn K (.ref c) x = true) (k : PySem.W.keepIn K (.ref f) = true)
    (oo : K.lookup c = some ⟨e, dd, .fields vs, sl2⟩) (v : vs[11]? = some (.ref P)) (h : PySem.W.codeHdIn K c P = true) (n : K.lookup P = none) : FactL K x st f c P := ⟨a, ⟨oc, od, kV, dc, pm, an, ct, sl, l⟩, cc, k, ⟨e, dd, vs, sl2, oo, v⟩, h, n⟩
theorem FactL.tab {K : PySem.W.Frag} {h : Heap} {x : Str} {st : Stmt} {f c P : Addr} (F : FactL K x st f c P) (own : LamX.OwnTab K f h) : h.get? P = some (PySem.W.tabObj #[]) := by
  obtain ⟨oc, od, kV, dc, pm, an, ct, sl, l⟩ := F.l
  obtain ⟨e, dd, vs, sl2, o1, o2⟩ := F.o
  exact own c P _ _ e dd vs sl2 l rfl rfl o1 o2
theorem FactL.dfn {K : PySem.W.Frag} {x : Str} {st : Stmt} {f c P : Addr} (F : FactL K x st f c P) : ∃ fd, Gu.Def K x x st f fd (.ref c) ∧ Fun K x x st f fd := by
  obtain ⟨oc, od, kV, dc, pm, an, ct, sl, l⟩ := F.l
  exact ⟨_, ⟨⟨oc, od, kV, dc, pm, an, ct, sl, rfl, l, F.co⟩⟩, fun_mk l F.co F.k⟩
/-- the ways of a rule's words -/
def FactWy (K : PySem.W.Frag) (P : Params) : Prop := ∃ (W T1 T2 T3 : Addr) (es : Array DictEntry) (n n1 n2 n3 : Nat) (o1 o2 o3 : Obj) (i1 i2 i3 : Array Value), PySem.W.nsIn K mainGlobals "WAYS" = some (some (.ref W)) ∧ List.lookup W K = some { cls := .type "dict", data := .dict es n } ∧ PySem.W.KeysLit P es.toList ∧
  PySem.W.nsIn K W "late" = some (some (.ref T1)) ∧ PySem.W.nsIn K W "block" = some (some (.ref T2)) ∧ PySem.W.nsIn K W "rest" = some (some (.ref T3)) ∧
  (List.lookup T1 K = some o1 ∧ o1.cls = .type "tuple" ∧ o1.data = .seq i1 n1 ∧ i1.size ≤ sizeLine ∧ Vals [V.str "now", V.str "back"] i1.toList) ∧
  (List.lookup T2 K = some o2 ∧ o2.cls = .type "tuple" ∧ o2.data = .seq i2 n2 ∧ i2.size ≤ sizeLine ∧ Vals [V.str "days", V.str "last"] i2.toList) ∧
  (List.lookup T3 K = some o3 ∧ o3.cls = .type "tuple" ∧ o3.data = .seq i3 n3 ∧ i3.size ≤ sizeLine ∧ Vals [V.str "heads", V.str "places", V.str "house"] i3.toList)
theorem mkWy {K : PySem.W.Frag} {P : Params} {W T1 T2 T3 : Addr} {es : Array DictEntry} {n n1 n2 n3 : Nat} {o1 o2 o3 : Obj} {i1 i2 i3 : Array Value} (a : PySem.W.nsIn K mainGlobals "WAYS" = some (some (.ref W))) (l : List.lookup W K = some { cls := .type "dict", data := .dict es n }) (k : PySem.W.KeysLit P es.toList)
    (x1 : PySem.W.nsIn K W "late" = some (some (.ref T1))) (x2 : PySem.W.nsIn K W "block" = some (some (.ref T2))) (x3 : PySem.W.nsIn K W "rest" = some (some (.ref T3)))
    (l1 : List.lookup T1 K = some o1) (c1 : o1.cls = .type "tuple") (d1 : o1.data = .seq i1 n1) (z1 : i1.size ≤ sizeLine) (v1 : Vals [V.str "now", V.str "back"] i1.toList)
    (l2 : List.lookup T2 K = some o2) (c2 : o2.cls = .type "tuple") (d2 : o2.data = .seq i2 n2) (z2 : i2.size ≤ sizeLine) (v2 : Vals [V.str "days", V.str "last"] i2.toList)
    (l3 : List.lookup T3 K = some o3) (c3 : o3.cls = .type "tuple") (d3 : o3.data = .seq i3 n3) (z3 : i3.size ≤ sizeLine) (v3 : Vals [V.str "heads", V.str "places", V.str "house"] i3.toList) : FactWy K P :=
  ⟨W, T1, T2, T3, es, n, n1, n2, n3, o1, o2, o3, i1, i2, i3, a, l, k, x1, x2, x3, ⟨l1, c1, d1, z1, v1⟩, ⟨l2, c2, d2, z2, v2⟩, l3, c3, d3, z3, v3⟩
theorem FactWy.get {K : PySem.W.Frag} {w : World} {h : Heap} {mg : Str → Option Value} (X : K.In h) (G : h.Ns mainGlobals mg) (F : FactWy K w.params) : ∃ W, mg "WAYS" = some (.ref W) ∧ ∀ z : Str, z ∈ ([("late" : Str), "block", "rest"] : List Str) → ∃ T, KDct K w W z (.ref T) ∧ ∀ H, SqT K H T ((waysFor z).map V.str) := by
  obtain ⟨W, T1, T2, T3, es, n, n1, n2, n3, o1, o2, o3, i1, i2, i3, a, l, k, x1, x2, x3, ⟨l1, c1, d1, z1, v1⟩, ⟨l2, c2, d2, z2, v2⟩, l3, c3, d3, z3, v3⟩ := F
  refine ⟨W, PySem.W.mg_of X G a, fun z hz => ?_⟩
  simp only [List.mem_cons, List.not_mem_nil, or_false] at hz
  rcases hz with rfl | rfl | rfl
  · exact ⟨T1, ⟨es, n, _, l, k, x1, rfl⟩, fun H => .inr ⟨o1, i1, n1, l1, c1, d1, z1, v1⟩⟩
  · exact ⟨T2, ⟨es, n, _, l, k, x2, rfl⟩, fun H => .inr ⟨o2, i2, n2, l2, c2, d2, z2, v2⟩⟩
  · exact ⟨T3, ⟨es, n, _, l, k, x3, rfl⟩, fun H => .inr ⟨o3, i3, n3, l3, c3, d3, z3, v3⟩⟩
theorem law_ok {P : Program} {w : World} {K : PySem.W.Frag} {h : Heap} {mg : Str → Option Value} {fa A C M D fL0 cL0 PL0 : Addr} (X : K.In h) (G : h.Ns mainGlobals mg) (hfa : mg "law" = some (.ref fa)) (own : ∀ (x : Str) (a : Addr), x = "_law_right" → mg x = some (.ref a) → LamX.OwnTab K a h)
    (aA : PySem.W.nsIn K mainGlobals "Amount" = some (some (.ref A)))
    (aC : PySem.W.nsIn K mainGlobals "Rule" = some (some (.ref C)))
    (aM : PySem.W.nsIn K mainGlobals "MeterError" = some (some (.ref M)))
    (aG : PySem.W.nsIn K mainGlobals "gcd" = some (some (.builtin "math.gcd")))
    (N : PySem.W.nsIn K mainGlobals "isinstance" = some none ∧ PySem.W.nsIn K mainGlobals "int" = some none ∧ PySem.W.nsIn K mainGlobals "bool" = some none ∧ PySem.W.nsIn K mainGlobals "len" = some none ∧ PySem.W.nsIn K mainGlobals "abs" = some none ∧ PySem.W.nsIn K mainGlobals "max" = some none ∧ PySem.W.nsIn K mainGlobals "min" = some none ∧ PySem.W.nsIn K mainGlobals "range" = some none ∧ PySem.W.nsIn K mainGlobals "all" = some none ∧ PySem.W.nsIn K mainGlobals "repr" = some none ∧ PySem.W.nsIn K mainGlobals "str" = some none ∧ PySem.W.nsIn K mainGlobals "enumerate" = some none ∧ PySem.W.nsIn K mainGlobals "list" = some none)
    (KA : FactK K A)
    (HA : FactH K A)
    (TA : FactT K A)
    (AA : PySem.W.findIn K (.ref A) "number" = some none ∧ PySem.W.findIn K (.ref A) "under" = some none)
    (FI : FactI K A)
    (KC : FactK K C)
    (AC : PySem.W.findIn K (.ref C) "_text" = some none ∧ PySem.W.findIn K (.ref C) "every" = some none ∧ PySem.W.findIn K (.ref C) "behind" = some none ∧ PySem.W.findIn K (.ref C) "late" = some none ∧ PySem.W.findIn K (.ref C) "block" = some none ∧ PySem.W.findIn K (.ref C) "rest" = some none)
    (SBEHIND : FactSeq K "BEHIND" ["before", "nothing"])
    (SLINES : FactSeq K "LINES" ["every", "behind", "late", "block", "rest"])
    (WY : FactWy K w.params)
    (XD : FactX K "BadRule" D)
    (YD : FactY K D)
    (ED : FactE K D)
    (ZD : FactZ K D M)
    (caught : FactF K "_law_caught" sL_caught)
    (f0 : FactF K "is_whole" sWhole)
    (f1 : FactF K "decimal" sDec)
    (f2 : FactF K "ways_of" sF_ways_of)
    (f3 : FactF K "way_of" sF_way_of)
    (f4 : FactF K "_law_jar" sJar)
    (f5 : FactF K "_law_take" sTake)
    (f6 : FactF K "_law_of" sOf)
    (f7 : FactF K "_law_rule" sL_rule)
    (f8 : FactF K "_law_rule_text" sL_rule_text)
    (f9 : FactF K "_law_odd" sL_odd)
    (f10 : FactF K "_law_rule_line" sL_rule_line)
    (f11 : FactF K "_law_wrong_rule" sL_wrong_rule)
    (f12 : FactF K "_law_bent_lines" sL_bent_lines)
    (f13 : FactF K "law" sLaw)
    (L0 : FactL K "_law_right" sL_right fL0 cL0 PL0)
    (m0 : FactM K C "__init__" "Rule.__init__" sRule_init) :
    ∃ (fd : FuncData) (cs : List (Addr × Addr)) (sp : Sp), (∀ p ∈ cs, h.get? p.2 = some (PySem.W.tabObj #[])) ∧ (∀ p ∈ cs, K.lookup p.2 = none) ∧ (∀ p ∈ cs, PySem.W.CodeHd h p.1 p.2) ∧ (∀ (s : Shared) (u : Value), BindsTo s fd ⟨[u], []⟩ [("_law_script", u)]) ∧
      (∀ (H : Hp) (a : Addr) (ns : List Int), ns.length ≤ 63 → (∀ p ∈ cs, H p.2 = some (.tbl #[])) → SqL K H a (ns.map V.int) → sp [.ref a] H (fun v _ => v = .bl true) fun _ _ _ => False) ∧
      ∀ base : Heap, K.In base → base.Ns mainGlobals mg → (∀ p ∈ cs, LamX.TabB base mg p.1 p.2) → Gu.FnG P w K mg base CX0 9 fa fd ["_law_script"] sp := by
  obtain ⟨n_isinstance, n_int, n_bool, n_len, n_abs, n_max, n_min, n_range, n_all, n_repr, n_str, n_enumerate, n_list⟩ := N
  have none_of : ∀ {x : Str}, PySem.W.nsIn K mainGlobals x = some none → mg x = none := fun e => PySem.W.mg_none_of X G e
  have T : Nm mg := ⟨none_of n_len, none_of n_abs, none_of n_int, none_of n_max, none_of n_min, none_of n_range, none_of n_all, none_of n_repr, none_of n_isinstance⟩
  obtain ⟨nN, nU⟩ := AA
  have cl : Cls K A := ⟨KA.pg, KA.hd, KA.po, KA.sa⟩
  have op : OpC K A := ⟨HA.sf, HA.ne, HA.ob, TA.s1, TA.s2, TA.s3, TA.s4, TA.s5, TA.s6, TA.s7, TA.r1, TA.r2, TA.r3, TA.r4, TA.r5, TA.r6, TA.r7⟩
  have TxA : Txt K mg A := ⟨cl, op, HA.ca, HA.cn, HA.ct, TA.kC, TA.kI, TA.k1, TA.k2, TA.k3, TA.k4, TA.k5, TA.k6, TA.k7, nN, nU, PySem.W.mg_of X G aA, none_of n_isinstance, none_of n_int, none_of n_bool, PySem.W.mg_of X G aG⟩
  obtain ⟨r1, r2, r3, r4, r5, r6⟩ := AC
  have rc : RuC K C := ⟨⟨KC.pg, KC.hd, KC.po, KC.sa⟩, r1, r2, r3, r4, r5, r6⟩
  have RC : Ru.Rc K w mg := ⟨SBEHIND.get X G, WY.get X G⟩
  obtain ⟨fED, dED, TED, HED⟩ := gotErr X G XD YD ED
  have bED := HED.binds (ps := ["self", "value"]) fun _ _ _ _ _ _ us hl => match us, hl with | [_, _], _ => rfl
  have teD := exm_of ZD.exM ZD.iM ZD.tM ZD.sDM
  have ecD : ErrC K D := ⟨YD.iC, ZD.ca, ZD.cn, ZD.ct, ZD.ob⟩
  obtain ⟨fc, oc, od, kV, dc_, pm, an, cd, ct, sl, ca, cl2, cc, ck⟩ := caught
  have GC : GotC K mg M fc oc od kV dc_ pm an cd ct sl := ⟨PySem.W.mg_of X G ca, ck, cl2, cc, (fun_mk cl2 cc ck).binds (ps := ["_law_look"]) (fun _ _ _ _ _ _ us hl => match us, hl with | [_], _ => rfl), PySem.W.mg_of X G aM⟩
  obtain ⟨a0, d0, F0, g0, k0_⟩ := f0.fun X G
  have b0 := F0.binds (ps := ["value"]) fun _ _ _ _ _ _ us hl => match us, hl with | [_], _ => rfl
  obtain ⟨a1, d1, F1, g1, k1_⟩ := f1.fun X G
  have b1 := F1.binds (ps := ["word"]) fun _ _ _ _ _ _ us hl => match us, hl with | [_], _ => rfl
  obtain ⟨a2, d2, F2, g2, k2_⟩ := f2.fun X G
  have b2 := F2.binds (ps := ["text"]) fun _ _ _ _ _ _ us hl => match us, hl with | [_], _ => rfl
  obtain ⟨a3, d3, F3, g3, k3_⟩ := f3.fun X G
  have b3 := F3.binds (ps := ["line", "word"]) fun _ _ _ _ _ _ us hl => match us, hl with | [_, _], _ => rfl
  obtain ⟨a4, d4, F4, g4, k4_⟩ := f4.fun X G
  have b4 := F4.binds (ps := ["_law_script", "_law_k"]) fun _ _ _ _ _ _ us hl => match us, hl with | [_, _], _ => rfl
  obtain ⟨a5, d5, F5, g5, k5_⟩ := f5.fun X G
  have b5 := F5.binds (ps := ["_law_jar_here", "_law_many"]) fun _ _ _ _ _ _ us hl => match us, hl with | [_, _], _ => rfl
  obtain ⟨a6, d6, F6, g6, k6_⟩ := f6.fun X G
  have b6 := F6.binds (ps := ["_law_jar_here", "_law_some"]) fun _ _ _ _ _ _ us hl => match us, hl with | [_, _], _ => rfl
  obtain ⟨a7, d7, F7, g7, k7_⟩ := f7.fun X G
  have b7 := F7.binds (ps := ["_law_jar_here"]) fun _ _ _ _ _ _ us hl => match us, hl with | [_], _ => rfl
  obtain ⟨a8, d8, F8, g8, k8_⟩ := f8.fun X G
  have b8 := F8.binds (ps := ["_law_rule_here"]) fun _ _ _ _ _ _ us hl => match us, hl with | [_], _ => rfl
  obtain ⟨a9, d9, F9, g9, k9_⟩ := f9.fun X G
  have b9 := F9.binds (ps := ["_law_jar_here"]) fun _ _ _ _ _ _ us hl => match us, hl with | [_], _ => rfl
  obtain ⟨a10, d10, F10, g10, k10_⟩ := f10.fun X G
  have b10 := F10.binds (ps := ["_law_line", "_law_at"]) fun _ _ _ _ _ _ us hl => match us, hl with | [_, _], _ => rfl
  obtain ⟨a11, d11, F11, g11, k11_⟩ := f11.fun X G
  have b11 := F11.binds (ps := ["_law_value"]) fun _ _ _ _ _ _ us hl => match us, hl with | [_], _ => rfl
  obtain ⟨a12, d12, F12, g12, k12_⟩ := f12.fun X G
  have b12 := F12.binds (ps := ["_law_jar_here", "_law_lines"]) fun _ _ _ _ _ _ us hl => match us, hl with | [_, _], _ => rfl
  obtain ⟨a13, d13, F13, g13, k13_⟩ := f13.fun X G
  have b13 := F13.binds (ps := ["_law_script"]) fun _ _ _ _ _ _ us hl => match us, hl with | [_], _ => rfl
  have gL0 := PySem.W.mg_of X G L0.a
  obtain ⟨dL0, DL0, HL0⟩ := L0.dfn
  have bL0 := HL0.binds (ps := ["_law_jar_here"]) fun _ _ _ _ _ _ us hl => match us, hl with | [_], _ => rfl
  obtain ⟨p0, q0, M0, h0, i0, e0⟩ := m0.meth
  have c0 := M0.binds (ps := ["self", "text"]) fun _ _ _ _ _ _ us hl => match us, hl with | [_, _], _ => rfl
  have e := hfa.symm.trans g13
  cases e
  refine ⟨d13, [(cL0, PL0)], (spLaw K [(PL0, qRight)]), ?_, ?_, ?_, fun s u => ?_, ?_, fun base _ hbase TB => ?_⟩
  · skip
    intro p hp
    simp only [List.mem_cons, List.not_mem_nil, or_false] at hp
    rcases hp with rfl
    · exact L0.tab (own _ _ (rfl) gL0)
  · skip
    intro p hp
    simp only [List.mem_cons, List.not_mem_nil, or_false] at hp
    rcases hp with rfl
    · exact L0.n
  · skip
    intro p hp
    simp only [List.mem_cons, List.not_mem_nil, or_false] at hp
    rcases hp with rfl
    · exact PySem.W.codeHd_of_K X L0.h
  · obtain ⟨oc, od, kV, doc, pm, an, cdv, ct, osl, rfl, lk, hcd⟩ := F13.ex
    exact .of_eq rfl
  · intro H a ns hl tabs hS
    refine ⟨a, ns, rfl, hS, hl, ?_, fun _ => rfl⟩
    intro p hp
    simp only [List.mem_cons, List.not_mem_nil, or_false] at hp
    rcases hp with rfl
    · exact LamX.TabS.nil (tabs (cL0, PL0) (by simp))
  have TB0 : LamX.TabB base mg cL0 PL0 := TB (cL0, PL0) (by simp)
  have hm0 : (PL0, qRight) ∈ [(PL0, qRight)] := by simp
  have hu0 : ∀ p ∈ [(PL0, qRight)], p.1 = PL0 → p.2 = qRight := by
    intro p hp e
    simp only [List.mem_cons, List.not_mem_nil, or_false] at hp
    rcases hp with rfl
    · rfl
  have GWh : GotF P w K mg base "is_whole" 1 ["value"] (spWhole A) := ⟨a0, d0, ok_whole F0 TxA, b0, g0, k0_⟩
  have GI : GotI P w K mg base A := gotI FI TxA KA.mkk KA.kc GWh
  have GE : FnOk P w K mg base CX0 1 fED dED ["self", "value"] (spInitE K) := ok_initE HED
  have GDe : GotF P w K mg base "decimal" 1 ["word"] spDec := ⟨a1, d1, ok_dec F1 (none_of n_int), b1, g1, k1_⟩
  have GWo : GotF P w K mg base "way_of" 2 ["line", "word"] spWayOf := ⟨a3, d3, ok_wayOf F3 RC T GDe, b3, g3, k3_⟩
  have GWs : GotX P w K mg base "ways_of" 3 ["text"] (spWaysX A D) := ⟨a2, d2, ok_waysX F2 T TxA (none_of n_str) (none_of n_enumerate) TED GE bED (SLINES.get X G) GWo, b2, g2, k2_⟩
  have GRX : GotRX P w K mg base C A D := ⟨p0, q0, ok_rInitX M0 rc GWs, c0, ⟨KC.mkk, h0, i0, KC.kc⟩⟩
  have GJ : GotF P w K mg base "_law_jar" 1 ["_law_script", "_law_k"] (spJar K) := ⟨a4, d4, ok_jar F4 T, b4, g4, k4_⟩
  have GT : GotF P w K mg base "_law_take" 1 ["_law_jar_here", "_law_many"] spTake := ⟨a5, d5, ok_take F5 T, b5, g5, k5_⟩
  have GO : GotF P w K mg base "_law_of" 2 ["_law_jar_here", "_law_some"] spOf := ⟨a6, d6, ok_of F6 T GT, b6, g6, k6_⟩
  have GS : GotF P w K mg base "_law_of" 2 ["_law_jar_here", "_law_some"] spOfS := ⟨a6, d6, ok_ofS F6 T GT, b6, g6, k6_⟩
  have GU : GotF P w K mg base "_law_rule" 3 ["_law_jar_here"] spRule := ⟨a7, d7, ok_rule F7 (none_of n_str) GT GO, b7, g7, k7_⟩
  have GX : GotF P w K mg base "_law_rule_text" 1 ["_law_rule_here"] spRuleText := ⟨a8, d8, ok_ruleText F8 (none_of n_str), b8, g8, k8_⟩
  have GOd : GotF P w K mg base "_law_odd" 4 ["_law_jar_here"] (spOdd A) := ⟨a9, d9, ok_odd F9 (PySem.W.mg_of X G aA) GI GO, b9, g9, k9_⟩
  have GRl : GotF P w K mg base "_law_rule_line" 1 ["_law_line", "_law_at"] spRuleLine := ⟨a10, d10, ok_ruleLine F10 T (none_of n_str) (none_of n_list), b10, g10, k10_⟩
  have GWr : GotF P w K mg base "_law_wrong_rule" 2 ["_law_value"] (spWrong A) := ⟨a11, d11, ok_wrong F11 T TxA (none_of n_str) GRl, b11, g11, k11_⟩
  have GBe : GotF P w K mg base "_law_bent_lines" 3 ["_law_jar_here", "_law_lines"] spBent := ⟨a12, d12, ok_bent F12 T GT GO GS, b12, g12, k12_⟩
  exact ok_law F13 T GJ ⟨fL0, dL0, ok_right DL0 T GRX GC TB0 hm0 hu0 teD TED.xf ecD TED.nv ZD.kD TED.gD (PySem.W.mg_of X G aC) GU GX GBe GT GOd GO GWr, bL0, gL0, L0.k⟩
end Ru
open PySem PySem.W PyProof.Rows in
set_option maxRecDepth 100000 in
set_option maxHeartbeats 0 in
theorem PySem.Challenge.cw_whoseuse_k36_rules_refused_holds : PySem.Challenge.rw_whoseuse_k36_rules_refused.Holds := by
  w_on; o_law; k_head; (case hw => w_witness2)
  k_fill
  refine Gu.walkGT (n := 63) (k := 9) (x := "_law_script") rfl (by decide) rfl ⟨rfl, by decide, by decide⟩ (fun w h Y => PySem.W.km_in_of Y) ?F
  case F =>
    intro w mg fa h Y own KX G hmg
    have own2 : ∀ (x : Str) (a : Addr), x = "_law_right" → mg x = some (.ref a) → LamX.OwnTab _ a h := fun x a e => own x a (by rcases e with rfl <;> decide +kernel)
    refine' Ru.law_ok (w := w) KX G hmg own2 ?zzaA ?zzaC ?zzaM ?zzaG ?zzN ?zzKA ?zzHA ?zzTA ?zzAA ?zzFI ?zzKC ?zzAC ?zzSBEHIND ?zzSLINES ?zzWY ?zzXD ?zzYD ?zzED ?zzZD ?zzcaught ?zzf0 ?zzf1 ?zzf2 ?zzf3 ?zzf4 ?zzf5 ?zzf6 ?zzf7 ?zzf8 ?zzf9 ?zzf10 ?zzf11 ?zzf12 ?zzf13 ?zzL0 ?zzm0
    (case zzaA => k_is)
    (case zzaC => k_is)
    (case zzaM => k_is)
    (case zzaG => k_is)
    (case zzN => refine' ⟨?zzn0_1, ?zzn1_1, ?zzn2_1, ?zzn3_1, ?zzn4_1, ?zzn5_1, ?zzn6_1, ?zzn7_1, ?zzn8_1, ?zzn9_1, ?zzn10_1, ?zzn11_1, ?zzn12_1⟩; (case zzn0_1 => k_is); (case zzn1_1 => k_is); (case zzn2_1 => k_is); (case zzn3_1 => k_is); (case zzn4_1 => k_is); (case zzn5_1 => k_is); (case zzn6_1 => k_is); (case zzn7_1 => k_is); (case zzn8_1 => k_is); (case zzn9_1 => k_is); (case zzn10_1 => k_is); (case zzn11_1 => k_is); (case zzn12_1 => k_is))
    (case zzKA => refine' ⟨?zzpg_2, ?zzhd_2, ?zzpo_2, ?zzsa_2, ?zzmkk_2, ?zzkc_2⟩; (case zzpg_2 => first | rfl | k_is); (case zzhd_2 => first | rfl | k_is); (case zzpo_2 => first | rfl | k_is); (case zzsa_2 => first | rfl | k_is); (case zzmkk_2 => first | rfl | k_is); (case zzkc_2 => first | rfl | k_is))
    (case zzHA => refine' ⟨?zzsf_3, ?zzne_3, ?zzob_3, ?zzca_3, ?zzcn_3, ?zzct_3⟩; (case zzsf_3 => first | rfl | k_is | decide +kernel); (case zzne_3 => first | rfl | k_is | decide +kernel); (case zzob_3 => first | rfl | k_is | decide +kernel); (case zzca_3 => first | rfl | k_is | decide +kernel); (case zzcn_3 => first | rfl | k_is | decide +kernel); (case zzct_3 => first | rfl | k_is | decide +kernel))
    (case zzTA => refine' ⟨?zzs1_4, ?zzr1_4, ?zzk1_4, ?zzs2_4, ?zzr2_4, ?zzk2_4, ?zzs3_4, ?zzr3_4, ?zzk3_4, ?zzs4_4, ?zzr4_4, ?zzk4_4, ?zzs5_4, ?zzr5_4, ?zzk5_4, ?zzs6_4, ?zzr6_4, ?zzk6_4, ?zzs7_4, ?zzr7_4, ?zzk7_4, ?zzkC_4, ?zzkI_4⟩; (case zzs1_4 => first | rfl | k_is); (case zzr1_4 => first | rfl | k_is); (case zzk1_4 => first | rfl | k_is); (case zzs2_4 => first | rfl | k_is); (case zzr2_4 => first | rfl | k_is); (case zzk2_4 => first | rfl | k_is); (case zzs3_4 => first | rfl | k_is); (case zzr3_4 => first | rfl | k_is); (case zzk3_4 => first | rfl | k_is); (case zzs4_4 => first | rfl | k_is); (case zzr4_4 => first | rfl | k_is); (case zzk4_4 => first | rfl | k_is); (case zzs5_4 => first | rfl | k_is); (case zzr5_4 => first | rfl | k_is); (case zzk5_4 => first | rfl | k_is); (case zzs6_4 => first | rfl | k_is); (case zzr6_4 => first | rfl | k_is); (case zzk6_4 => first | rfl | k_is); (case zzs7_4 => first | rfl | k_is); (case zzr7_4 => first | rfl | k_is); (case zzk7_4 => first | rfl | k_is); (case zzkC_4 => first | rfl | k_is); (case zzkI_4 => first | rfl | k_is))
    (case zzAA => refine' ⟨?zzn0_5, ?zzn1_5⟩; (case zzn0_5 => first | rfl | k_is); (case zzn1_5 => first | rfl | k_is))
    (case zzFI => refine' Ru.mkI ?zza_6 ?zzi_6 ?zzl_6 ?zzc_6 ?zzk_6 ?zzd_6 ?zze_6; (case zza_6 => k_is); (case zzi_6 => k_is); (case zzl_6 => k_is); (case zzc_6 => k_is); (case zzk_6 => k_is); (case zzd_6 => k_is); (case zze_6 => rfl))
    (case zzKC => refine' ⟨?zzpg_7, ?zzhd_7, ?zzpo_7, ?zzsa_7, ?zzmkk_7, ?zzkc_7⟩; (case zzpg_7 => first | rfl | k_is); (case zzhd_7 => first | rfl | k_is); (case zzpo_7 => first | rfl | k_is); (case zzsa_7 => first | rfl | k_is); (case zzmkk_7 => first | rfl | k_is); (case zzkc_7 => first | rfl | k_is))
    (case zzAC => refine' ⟨?zzn0_8, ?zzn1_8, ?zzn2_8, ?zzn3_8, ?zzn4_8, ?zzn5_8⟩; (case zzn0_8 => first | rfl | k_is); (case zzn1_8 => first | rfl | k_is); (case zzn2_8 => first | rfl | k_is); (case zzn3_8 => first | rfl | k_is); (case zzn4_8 => first | rfl | k_is); (case zzn5_8 => first | rfl | k_is))
    (case zzSBEHIND => refine' Ru.mkSeq ?zza_9 ?zzl_9 ?zzc_9 ?zzd_9 ?zzz_9 ?zzv_9; (case zza_9 => k_is); (case zzl_9 => k_is); (case zzc_9 => rfl); (case zzd_9 => rfl); (case zzz_9 => decide); (case zzv_9 => exact .cons ⟨_, rfl⟩ (.cons ⟨_, rfl⟩ (.nil))))
    (case zzSLINES => refine' Ru.mkSeq ?zza_10 ?zzl_10 ?zzc_10 ?zzd_10 ?zzz_10 ?zzv_10; (case zza_10 => k_is); (case zzl_10 => k_is); (case zzc_10 => rfl); (case zzd_10 => rfl); (case zzz_10 => decide); (case zzv_10 => exact .cons ⟨_, rfl⟩ (.cons ⟨_, rfl⟩ (.cons ⟨_, rfl⟩ (.cons ⟨_, rfl⟩ (.cons ⟨_, rfl⟩ (.nil)))))))
    (case zzWY => refine' Ru.mkWy ?zza_11 ?zzl_11 ?zzk_11 ?zzx1_11 ?zzx2_11 ?zzx3_11 ?zzl1_11 ?zzc1_11 ?zzd1_11 ?zzz1_11 ?zzv1_11 ?zzl2_11 ?zzc2_11 ?zzd2_11 ?zzz2_11 ?zzv2_11 ?zzl3_11 ?zzc3_11 ?zzd3_11 ?zzz3_11 ?zzv3_11; (case zza_11 => k_is); (case zzl_11 => k_is); (case zzk_11 => exact ⟨⟨_, _, rfl, rfl⟩, ⟨_, _, rfl, rfl⟩, ⟨_, _, rfl, rfl⟩, trivial⟩); (case zzx1_11 => k_is); (case zzx2_11 => k_is); (case zzx3_11 => k_is); (case zzl1_11 => k_is); (case zzc1_11 => rfl); (case zzd1_11 => rfl); (case zzz1_11 => decide); (case zzv1_11 => exact .cons ⟨_, rfl⟩ (.cons ⟨_, rfl⟩ (.nil))); (case zzl2_11 => k_is); (case zzc2_11 => rfl); (case zzd2_11 => rfl); (case zzz2_11 => decide); (case zzv2_11 => exact .cons ⟨_, rfl⟩ (.cons ⟨_, rfl⟩ (.nil))); (case zzl3_11 => k_is); (case zzc3_11 => rfl); (case zzd3_11 => rfl); (case zzz3_11 => decide); (case zzv3_11 => exact .cons ⟨_, rfl⟩ (.cons ⟨_, rfl⟩ (.cons ⟨_, rfl⟩ (.nil)))))
    (case zzXD => refine' Ru.mkX ?zza_12 ?zzl_12 ?zzr_12; (case zza_12 => k_is); (case zzl_12 => k_is); (case zzr_12 => first | rfl | decide +kernel))
    (case zzYD => refine' ⟨?zzsa_13, ?zzexC_13, ?zztyC_13, ?zzkC_13, ?zznv_13, ?zzga_13, ?zzgg_13, ?zzhdC_13, ?zziC_13, ?zzsC_13⟩; (case zzsa_13 => first | rfl | k_is); (case zzexC_13 => first | rfl | k_is); (case zztyC_13 => first | rfl | k_is); (case zzkC_13 => first | rfl | k_is); (case zznv_13 => first | rfl | k_is); (case zzga_13 => first | rfl | k_is); (case zzgg_13 => first | rfl | k_is); (case zzhdC_13 => first | rfl | k_is); (case zziC_13 => first | rfl | k_is); (case zzsC_13 => first | rfl | k_is))
    (case zzED => refine' Ru.mkE ?zza_14 ?zzi_14 ?zzl_14 ?zzc_14 ?zzk_14; (case zza_14 => k_is); (case zzi_14 => k_is); (case zzl_14 => k_is); (case zzc_14 => k_is); (case zzk_14 => k_is))
    (case zzZD => refine' ⟨?zzexM_15, ?zziM_15, ?zztM_15, ?zzsDM_15, ?zzca_15, ?zzcn_15, ?zzct_15, ?zzob_15, ?zzkD_15⟩; (case zzexM_15 => first | rfl | k_is); (case zziM_15 => first | rfl | k_is); (case zztM_15 => first | rfl | k_is); (case zzsDM_15 => first | rfl | k_is); (case zzca_15 => first | rfl | k_is); (case zzcn_15 => first | rfl | k_is); (case zzct_15 => first | rfl | k_is); (case zzob_15 => first | rfl | k_is); (case zzkD_15 => first | rfl | k_is))
    (case zzcaught => refine' Ru.mkF ?zza_16 ?zzl_16 ?zzc_16 ?zzk_16; (case zza_16 => k_is); (case zzl_16 => k_is); (case zzc_16 => k_is); (case zzk_16 => k_is))
    (case zzf0 => refine' Ru.mkF ?zza_17 ?zzl_17 ?zzc_17 ?zzk_17; (case zza_17 => k_is); (case zzl_17 => k_is); (case zzc_17 => k_is); (case zzk_17 => k_is))
    (case zzf1 => refine' Ru.mkF ?zza_18 ?zzl_18 ?zzc_18 ?zzk_18; (case zza_18 => k_is); (case zzl_18 => k_is); (case zzc_18 => k_is); (case zzk_18 => k_is))
    (case zzf2 => refine' Ru.mkF ?zza_19 ?zzl_19 ?zzc_19 ?zzk_19; (case zza_19 => k_is); (case zzl_19 => k_is); (case zzc_19 => k_is); (case zzk_19 => k_is))
    (case zzf3 => refine' Ru.mkF ?zza_20 ?zzl_20 ?zzc_20 ?zzk_20; (case zza_20 => k_is); (case zzl_20 => k_is); (case zzc_20 => k_is); (case zzk_20 => k_is))
    (case zzf4 => refine' Ru.mkF ?zza_21 ?zzl_21 ?zzc_21 ?zzk_21; (case zza_21 => k_is); (case zzl_21 => k_is); (case zzc_21 => k_is); (case zzk_21 => k_is))
    (case zzf5 => refine' Ru.mkF ?zza_22 ?zzl_22 ?zzc_22 ?zzk_22; (case zza_22 => k_is); (case zzl_22 => k_is); (case zzc_22 => k_is); (case zzk_22 => k_is))
    (case zzf6 => refine' Ru.mkF ?zza_23 ?zzl_23 ?zzc_23 ?zzk_23; (case zza_23 => k_is); (case zzl_23 => k_is); (case zzc_23 => k_is); (case zzk_23 => k_is))
    (case zzf7 => refine' Ru.mkF ?zza_24 ?zzl_24 ?zzc_24 ?zzk_24; (case zza_24 => k_is); (case zzl_24 => k_is); (case zzc_24 => k_is); (case zzk_24 => k_is))
    (case zzf8 => refine' Ru.mkF ?zza_25 ?zzl_25 ?zzc_25 ?zzk_25; (case zza_25 => k_is); (case zzl_25 => k_is); (case zzc_25 => k_is); (case zzk_25 => k_is))
    (case zzf9 => refine' Ru.mkF ?zza_26 ?zzl_26 ?zzc_26 ?zzk_26; (case zza_26 => k_is); (case zzl_26 => k_is); (case zzc_26 => k_is); (case zzk_26 => k_is))
    (case zzf10 => refine' Ru.mkF ?zza_27 ?zzl_27 ?zzc_27 ?zzk_27; (case zza_27 => k_is); (case zzl_27 => k_is); (case zzc_27 => k_is); (case zzk_27 => k_is))
    (case zzf11 => refine' Ru.mkF ?zza_28 ?zzl_28 ?zzc_28 ?zzk_28; (case zza_28 => k_is); (case zzl_28 => k_is); (case zzc_28 => k_is); (case zzk_28 => k_is))
    (case zzf12 => refine' Ru.mkF ?zza_29 ?zzl_29 ?zzc_29 ?zzk_29; (case zza_29 => k_is); (case zzl_29 => k_is); (case zzc_29 => k_is); (case zzk_29 => k_is))
    (case zzf13 => refine' Ru.mkF ?zza_30 ?zzl_30 ?zzc_30 ?zzk_30; (case zza_30 => k_is); (case zzl_30 => k_is); (case zzc_30 => k_is); (case zzk_30 => k_is))
    (case zzL0 => refine' Ru.mkL ?zza_31 ?zzl_31 ?zzc_31 ?zzk_31 ?zzo_31 ?zzv_31 ?zzh_31 ?zzn_31; (case zza_31 => k_is); (case zzl_31 => k_is); (case zzc_31 => k_is); (case zzk_31 => k_is); (case zzo_31 => k_is); (case zzv_31 => rfl); (case zzh_31 => first | rfl | k_is | kernel_rfl); (case zzn_31 => first | kernel_rfl | decide +kernel))
    (case zzm0 => refine' Ru.mkM ?zza_32 ?zzi_32 ?zzl_32 ?zzc_32 ?zzk_32; (case zza_32 => k_is); (case zzi_32 => k_is); (case zzl_32 => k_is); (case zzc_32 => k_is); (case zzk_32 => k_is))
