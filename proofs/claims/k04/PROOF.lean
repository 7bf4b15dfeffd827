import PyProof.Rows.All
import Wide.All
import OpenK.AllK
import Wide.FinOn
import PyProof.EqAt
import PyProof.EqKinds
import PyProof.NeKinds
import KE.KOpsOwn
import HandS.ForMost
import HandS.Wide
import HandS.Gcd
import HandS.IsInst
import HandS.Defaults
import HandS.OwnEq
import HandS.SlotsOwn
import HandS.ExcOwn
import PyProof.StrLawsIn
import PyProof.StrBlockL
import PyProof.Rows.StrNews2
import KE.IntTextLaws
import KE.KIntText
import PyProof.StrLawsRepr
import PyProof.Rows.StrDigitsNeg
import PyProof.Rows.ReprOcc
import HandS.Codes
import PySem.Challenge.RW_whoseuse_k04_texts_of_amounts
import HandS.ClsMeth
import HandS.Exc
import HandS.ExcInit
import HandS.ExcValue
import HandS.ExcField
import HandS.FStr
import PyProof.ReprNest
import PyProof.StrHeap
import PyProof.FitsInt
import HandS.RaiseMore
import PyProof.Rows.StrOr
import HandS.Text
import HandS.WordsExc
import KE.KExcIs
import PyProof.StrLaws
import HandS.StrMore
import HandS.Property
import HandS.Walk
import HandS.WideBits
import HandS.StrSplit
import HandS.Style
import HandS.BoundList
set_option Elab.async false
set_option linter.all false
set_option maxRecDepth 100000
set_option maxHeartbeats 8000000
/-! operators of an own class: library level -/
namespace AmL
open PySem PySem.SeqAt PySem.Calls PyProof.Rows
open AutoSeq1 (wpAny_loadPart')
open MeetsSeq

section
variable {prog : Program} {w : World} {A : Around} {E : Value → Shared → Prop} {s : Shared} {K : PySem.W.Frag} {C : Addr}

theorem refl_inst {x : Addr} {v : Value} {T id : String} {f : Addr} {op : CmpOp} {ox : Obj} {od : Option Obj} {Q : Value → Shared → Prop} (hu : A.units < cLine)
    (X : K.In s.heap) (I : PySem.W.InstAt s.heap x ox C od) (hT : s.TypeIs v T) (slot : Slot T (cmpInfo op).2.1 id)
    (dec : ∀ Q' : Value → Shared → Prop, Q' .notImplemented s → wpAny (model prog w) A (call (.builtin id) [v, .ref x]) Q' E s)
    (hsub : PySem.W.subIn K (.ref C) (.type T) = some false)
    (hs : PySem.W.findIn K (.ref C) (cmpInfo op).2.2 = some (some (.ref f))) (hf : PySem.W.isFn K (.ref f) = true)
    (h : wpAny (model prog w) A (call (.ref f) [.ref x, v]) (PySem.W.CmpBack Q) E s) : wpAny (model prog w) A (richCompare op v (.ref x)) Q E s := by
  have one : wpAny (model prog w) A (tryCompare (.ref x) (cmpInfo op).2.2 v) (fun r s' => ∃ v, r = some v ∧ Q v s') E s := by
    unfold tryCompare
    refine wpAny_bind (PySem.W.ifBound_K X I hs hf (wpAny_mono h (fun v s' hv => ?_) fun _ _ e => e))
    cases v <;> first | exact hv.elim | exact wpAny_pure ⟨_, rfl, hv⟩
  have hne : (Value.type T != Value.ref C) = true := by
    rw [bne, beq_eq_false_iff_ne.mpr (fun q => by cases q)]; rfl
  rcases hi : cmpInfo op with ⟨sym, f', r'⟩
  rw [hi] at slot one
  simp only [richCompare, hi, hT.oneThing_none]
  refine wpAny_holding ?_
  refine wpAny_bind (wpAny_cRoomFor hu ?_)
  refine wpAny_bind (wpAny_typeOf hT (wpAny_bind (I.type.here ?_)))
  simp only [hne, if_true]
  refine wpAny_bind ((PySem.W.looks_subIn X hsub).here ?_)
  simp only [Bool.false_eq_true, if_false]
  refine wpAny_bind (m := tryCompare v _ (.ref x)) (wpAny_tryCompare_declines hT slot (dec _ ⟨rfl, ?_⟩))
  simp only [Bool.not_false, if_true]
  refine wpAny_bind (wpAny_mono one (fun r s' z => ?_) fun _ _ e => e)
  obtain ⟨u, rfl, hq⟩ := z
  exact wpAny_pure hq


/-- the != that object gives: not (x == b) -/
theorem try_ne {x : Addr} {b : Value} {f : Addr} {ox : Obj} {od : Option Obj} {Q : Option Value → Shared → Prop} (hu : A.units + 1 < cLine)
    (X : K.In s.heap) (I : PySem.W.InstAt s.heap x ox C od)
    (hs : PySem.W.findIn K (.ref C) "__ne__" = some (some (.builtin "object.__ne__"))) (hobj : PySem.W.mroIn K C (.type "object") = some true)
    (he : PySem.W.findIn K (.ref C) "__eq__" = some (some (.ref f))) (hf : PySem.W.isFn K (.ref f) = true)
    (h : wpAny (model prog w) A.in1 (call (.ref f) [.ref x, b]) (fun v s' => ∃ k, v = .bool k ∧ Q (some (.bool (!k))) s') E s) : wpAny (model prog w) A (tryCompare (.ref x) "__ne__" b) Q E s := by
  have sub : PySem.W.Looks (model prog w) s.heap (isInstance (.ref x) (.type "object")) true := I.type.andThen (PySem.W.looks_mroIn X hobj)
  have main : wpAny (model prog w) A (call (.builtin "object.__ne__") [.ref x, b]) (fun v s' => ∃ k, v = .bool k ∧ Q (some (.bool k)) s') E s := by
    refine wpAny_call (codeAny_call_builtin F.slot_object_ne.plain F.entry_object_ne (@PySem.W.check_slot (model prog w) _ _ s "object.__ne__" "object" "__ne__" (.ref x) [b] [] _ F.cmpKind_ne F.cmpSplit_ne sub (F.cmpArgs_ne _ _) ?_))
    unfold Builtin.«object.__ne__»
    refine wpAny_bind (m := slotArgs _ _ _) (wpAny_pure ?_)
    refine wpAny_bind (wpAny_cRoomFor hu ?_)
    refine wpAny_bind (m := callSpecialIfBound? (.ref x) _ _) (PySem.W.ifBound_K X I he hf (wpAny_mono h (fun v s' hv => ?_) fun _ _ e => e))
    obtain ⟨k, rfl, q⟩ := hv
    refine wpAny_bind (wpAny_truthy_bool ?_)
    exact wpAny_pure ⟨_, rfl, q⟩
  unfold tryCompare
  refine wpAny_bind (m := callSpecialIfBound? (.ref x) _ _) ?_
  simp only [callSpecialIfBound?, bindSpecialIfBound?]
  refine wpAny_holding (wpAny_bind (wpAny_bind (wpAny_bind (I.type.here ((PySem.W.looks_findIn X hs).here ?_)))))
  refine wpAny_bind (wpAny_askSetting (wpAny_ite ?_))
  have bd : PySem.W.Looks (model prog w) s.heap (bindSpecial (.builtin "object.__ne__") (.ref x)) (.builtin "object.__ne__", [.ref x]) := PySem.W.Looks.of_pure (F.slot_object_ne.bind _)
  have fin : wpAny (model prog w) A (call (.builtin "object.__ne__") ([.ref x] ++ [b]) >>= fun v => pure (some v)) (fun r s' => wpAny (model prog w) A (match r with | some .notImplemented | none => pure none | some v => pure (some v)) Q E s') E s := by
    refine wpAny_bind (wpAny_mono main (fun v s' h' => ?_) fun _ _ h' => h')
    obtain ⟨k, rfl, q⟩ := h'
    exact wpAny_pure (wpAny_pure q)
  split
  · exact wpAny_bind (bd.here (wpAny_pure (by exact fin)))
  · exact wpAny_tryCatch (wpAny_bind (bd.here (wpAny_pure (by exact fin))))

/-- x != b, x an instance with an own == and no own != -/
theorem ne_inst {x : Addr} {b tb : Value} {f : Addr} {ox : Obj} {od : Option Obj} {Q : Value → Shared → Prop} (hu : A.units + 1 < cLine)
    (X : K.In s.heap) (I : PySem.W.InstAt s.heap x ox C od) (hb : PySem.W.Looks (model prog w) s.heap (typeOf b) tb) (hn : PySem.W.notFirst K C tb = true)
    (hs : PySem.W.findIn K (.ref C) "__ne__" = some (some (.builtin "object.__ne__"))) (hobj : PySem.W.mroIn K C (.type "object") = some true)
    (he : PySem.W.findIn K (.ref C) "__eq__" = some (some (.ref f))) (hf : PySem.W.isFn K (.ref f) = true)
    (h : wpAny (model prog w) A.in1 (call (.ref f) [.ref x, b]) (fun v s' => ∃ k, v = .bool k ∧ Q (.bool (!k)) s') E s) : wpAny (model prog w) A (richCompare .NotEq (.ref x) b) Q E s := by
  have one : wpAny (model prog w) A (tryCompare (.ref x) "__ne__" b) (fun r s' => ∃ v, r = some v ∧ Q v s') E s :=
    try_ne hu X I hs hobj he hf (wpAny_mono h (fun v s' ⟨k, e, q⟩ => ⟨k, e, _, rfl, q⟩) fun _ _ e => e)
  unfold richCompare
  simp only [oneThing_ref]
  refine wpAny_holding (wpAny_bind (wpAny_cRoomFor (by omega) ?_))
  refine wpAny_bind (I.type.here (wpAny_bind (hb.here ?_)))
  split
  · rename_i q
    have e : PySem.W.subIn K tb (.ref C) = some false := by
      rcases Bool.or_eq_true_iff.mp hn with e | e
      · rw [beq_iff_eq.mp e] at q; simp at q
      · exact beq_iff_eq.mp e
    refine wpAny_bind ((PySem.W.looks_subIn X e).here ?_)
    simp only [Bool.false_eq_true, if_false]
    refine wpAny_bind (wpAny_mono one (fun r s' z => ?_) fun _ _ e => e)
    obtain ⟨v, rfl, hq⟩ := z
    exact wpAny_pure hq
  · refine wpAny_bind (wpAny_pure ?_)
    simp only [Bool.false_eq_true, if_false]
    refine wpAny_bind (wpAny_mono one (fun r s' z => ?_) fun _ _ e => e)
    obtain ⟨v, rfl, hq⟩ := z
    exact wpAny_pure hq

/-- v != x, v of a built-in type that declines, x an instance -/
theorem ne_refl {x : Addr} {v : Value} {T id : String} {f : Addr} {ox : Obj} {od : Option Obj} {Q : Value → Shared → Prop} (hu : A.units + 1 < cLine)
    (X : K.In s.heap) (I : PySem.W.InstAt s.heap x ox C od) (hT : s.TypeIs v T) (slot : Slot T (cmpInfo .NotEq).2.1 id)
    (dec : ∀ Q' : Value → Shared → Prop, Q' .notImplemented s → wpAny (model prog w) A (call (.builtin id) [v, .ref x]) Q' E s)
    (hsub : PySem.W.subIn K (.ref C) (.type T) = some false)
    (hs : PySem.W.findIn K (.ref C) "__ne__" = some (some (.builtin "object.__ne__"))) (hobj : PySem.W.mroIn K C (.type "object") = some true)
    (he : PySem.W.findIn K (.ref C) "__eq__" = some (some (.ref f))) (hf : PySem.W.isFn K (.ref f) = true)
    (h : wpAny (model prog w) A.in1 (call (.ref f) [.ref x, v]) (fun v s' => ∃ k, v = .bool k ∧ Q (.bool (!k)) s') E s) : wpAny (model prog w) A (richCompare .NotEq v (.ref x)) Q E s := by
  have one : wpAny (model prog w) A (tryCompare (.ref x) (cmpInfo .NotEq).2.2 v) (fun r s' => ∃ v, r = some v ∧ Q v s') E s :=
    try_ne hu X I hs hobj he hf (wpAny_mono h (fun v s' ⟨k, e, q⟩ => ⟨k, e, _, rfl, q⟩) fun _ _ e => e)
  have hne : (Value.type T != Value.ref C) = true := by
    rw [bne, beq_eq_false_iff_ne.mpr (fun q => by cases q)]; rfl
  rcases hi : cmpInfo CmpOp.NotEq with ⟨sym, f', r'⟩
  rw [hi] at slot one
  simp only [richCompare, hi, hT.oneThing_none]
  refine wpAny_holding ?_
  refine wpAny_bind (wpAny_cRoomFor (by omega) ?_)
  refine wpAny_bind (wpAny_typeOf hT (wpAny_bind (I.type.here ?_)))
  simp only [hne, if_true]
  refine wpAny_bind ((PySem.W.looks_subIn X hsub).here ?_)
  simp only [Bool.false_eq_true, if_false]
  refine wpAny_bind (m := tryCompare v _ (.ref x)) (wpAny_tryCompare_declines hT slot (dec _ ⟨rfl, ?_⟩))
  simp only [Bool.not_false, if_true]
  refine wpAny_bind (wpAny_mono one (fun r s' z => ?_) fun _ _ e => e)
  obtain ⟨u, rfl, hq⟩ := z
  exact wpAny_pure hq

/-! ### what declines beside an instance -/
section
variable {a : Addr}
abbrev PlainAt (s : Shared) (a C : Addr) : Prop := ∃ dd sl, s.heap.get? a = some { cls := .ref C, dict := dd, data := .plain, slots := sl }
theorem dec_int_eq (b : Int) (u : Tok) (C : Addr) : Meets (Builtin.«int.__eq__» ⟨[.int b u, .ref a], []⟩) (fun _ R s => PlainAt s a C ∧ R (.ok (.ret .notImplemented)) s) :=
  .of_wp fun prog w A R s h => by obtain ⟨hp, g, d, tk, os⟩ := s; obtain ⟨⟨dd, sl, hl⟩, h⟩ := h; wp_walk using wpAny_loadPart' hl, wpAny_load hl; exact ⟨_, rfl, h⟩
theorem dec_int_ne (b : Int) (u : Tok) (C : Addr) : Meets (Builtin.«int.__ne__» ⟨[.int b u, .ref a], []⟩) (fun _ R s => PlainAt s a C ∧ R (.ok (.ret .notImplemented)) s) :=
  .of_wp fun prog w A R s h => by obtain ⟨hp, g, d, tk, os⟩ := s; obtain ⟨⟨dd, sl, hl⟩, h⟩ := h; wp_walk using wpAny_loadPart' hl, wpAny_load hl; exact ⟨_, rfl, h⟩
theorem dec_int_lt (b : Int) (u : Tok) (C : Addr) : Meets (Builtin.«int.__lt__» ⟨[.int b u, .ref a], []⟩) (fun _ R s => PlainAt s a C ∧ R (.ok (.ret .notImplemented)) s) :=
  .of_wp fun prog w A R s h => by obtain ⟨hp, g, d, tk, os⟩ := s; obtain ⟨⟨dd, sl, hl⟩, h⟩ := h; wp_walk using wpAny_loadPart' hl, wpAny_load hl; exact ⟨_, rfl, h⟩
theorem dec_int_le (b : Int) (u : Tok) (C : Addr) : Meets (Builtin.«int.__le__» ⟨[.int b u, .ref a], []⟩) (fun _ R s => PlainAt s a C ∧ R (.ok (.ret .notImplemented)) s) :=
  .of_wp fun prog w A R s h => by obtain ⟨hp, g, d, tk, os⟩ := s; obtain ⟨⟨dd, sl, hl⟩, h⟩ := h; wp_walk using wpAny_loadPart' hl, wpAny_load hl; exact ⟨_, rfl, h⟩
theorem dec_int_gt (b : Int) (u : Tok) (C : Addr) : Meets (Builtin.«int.__gt__» ⟨[.int b u, .ref a], []⟩) (fun _ R s => PlainAt s a C ∧ R (.ok (.ret .notImplemented)) s) :=
  .of_wp fun prog w A R s h => by obtain ⟨hp, g, d, tk, os⟩ := s; obtain ⟨⟨dd, sl, hl⟩, h⟩ := h; wp_walk using wpAny_loadPart' hl, wpAny_load hl; exact ⟨_, rfl, h⟩
theorem dec_int_ge (b : Int) (u : Tok) (C : Addr) : Meets (Builtin.«int.__ge__» ⟨[.int b u, .ref a], []⟩) (fun _ R s => PlainAt s a C ∧ R (.ok (.ret .notImplemented)) s) :=
  .of_wp fun prog w A R s h => by obtain ⟨hp, g, d, tk, os⟩ := s; obtain ⟨⟨dd, sl, hl⟩, h⟩ := h; wp_walk using wpAny_loadPart' hl, wpAny_load hl; exact ⟨_, rfl, h⟩
theorem dec_bool_eq (b : Bool) (C : Addr) : Meets (Builtin.«int.__eq__» ⟨[.bool b, .ref a], []⟩) (fun _ R s => PlainAt s a C ∧ R (.ok (.ret .notImplemented)) s) :=
  .of_wp fun prog w A R s h => by obtain ⟨hp, g, d, tk, os⟩ := s; obtain ⟨⟨dd, sl, hl⟩, h⟩ := h; wp_walk using wpAny_loadPart' hl, wpAny_load hl; exact ⟨_, rfl, h⟩
theorem dec_none_eq : Gives (Builtin.«NoneType.__eq__» ⟨[.none, .ref a], []⟩) (.val (Value.notImplemented)) :=
  .of_wp fun M A E s Q h => by obtain ⟨hp, g, d, tk, os⟩ := s; wp_walk; exact ⟨_, rfl, h⟩
theorem dec_str_eq (b : Str) (u : Tok) (C : Addr) : Meets (Builtin.«str.__eq__» ⟨[.str b u, .ref a], []⟩) (fun _ R s => PlainAt s a C ∧ R (.ok (.ret .notImplemented)) s) :=
  .of_wp fun prog w A R s h => by obtain ⟨hp, g, d, tk, os⟩ := s; obtain ⟨⟨dd, sl, hl⟩, h⟩ := h; wp_walk using wpAny_loadPart' hl, wpAny_load hl; exact ⟨_, rfl, h⟩
theorem dec_list_eq {l : Addr} {R : Result → Shared → Prop} (sub : PySem.W.Looks (model prog w) s.heap (isInstance (.ref a) (.type "list")) false) (h : R (.ok (.ret .notImplemented)) s) :
    wpAny (model prog w) A.in1 (Builtin.«list.__eq__» ⟨[.ref l, .ref a], []⟩) (fun fin s' => match fin with | .done f => R (.ok f) s' | .again c' => c'.quiet = true ∧ codeAny (model prog w) A c' R s') (fun e s' => R (.error e) s') s := by
  refine wpAny_bind (m := slotArgs _ _ _) (wpAny_pure ?_)
  refine wpAny_bind (m := isInstance _ _) (sub.here ?_)
  wp_walk
  exact h
theorem dec_tuple_eq {l : Addr} {R : Result → Shared → Prop} (sub : PySem.W.Looks (model prog w) s.heap (isInstance (.ref a) (.type "tuple")) false) (h : R (.ok (.ret .notImplemented)) s) :
    wpAny (model prog w) A.in1 (Builtin.«tuple.__eq__» ⟨[.ref l, .ref a], []⟩) (fun fin s' => match fin with | .done f => R (.ok f) s' | .again c' => c'.quiet = true ∧ codeAny (model prog w) A c' R s') (fun e s' => R (.error e) s') s := by
  refine wpAny_bind (m := slotArgs _ _ _) (wpAny_pure ?_)
  refine wpAny_bind (m := isInstance _ _) (sub.here ?_)
  wp_walk
  exact h
theorem dec_dict_eq {l : Addr} {R : Result → Shared → Prop} (sub : PySem.W.Looks (model prog w) s.heap (isInstance (.ref a) (.type "dict")) false) (h : R (.ok (.ret .notImplemented)) s) :
    wpAny (model prog w) A.in1 (Builtin.«dict.__eq__» ⟨[.ref l, .ref a], []⟩) (fun fin s' => match fin with | .done f => R (.ok f) s' | .again c' => c'.quiet = true ∧ codeAny (model prog w) A c' R s') (fun e s' => R (.error e) s') s := by
  have e : Builtin.Dict.dictSlotArgs "__eq__" ⟨[.ref l, .ref a], []⟩ = pure (.ref l, .ref a) := by kernel_rfl
  refine wpAny_bind (m := Builtin.Dict.dictSlotArgs _ _) ?_
  rw [e]
  refine wpAny_pure ?_
  refine wpAny_bind (m := isInstance _ _) (sub.here ?_)
  wp_walk
  exact h
theorem dec_bool_ne (b : Bool) (C : Addr) : Meets (Builtin.«int.__ne__» ⟨[.bool b, .ref a], []⟩) (fun _ R s => PlainAt s a C ∧ R (.ok (.ret .notImplemented)) s) :=
  .of_wp fun prog w A R s h => by obtain ⟨hp, g, d, tk, os⟩ := s; obtain ⟨⟨dd, sl, hl⟩, h⟩ := h; wp_walk using wpAny_loadPart' hl, wpAny_load hl; exact ⟨_, rfl, h⟩
theorem dec_none_ne : Gives (Builtin.«NoneType.__ne__» ⟨[.none, .ref a], []⟩) (.val (Value.notImplemented)) :=
  .of_wp fun M A E s Q h => by obtain ⟨hp, g, d, tk, os⟩ := s; wp_walk; exact ⟨_, rfl, h⟩
theorem dec_str_ne (b : Str) (u : Tok) (C : Addr) : Meets (Builtin.«str.__ne__» ⟨[.str b u, .ref a], []⟩) (fun _ R s => PlainAt s a C ∧ R (.ok (.ret .notImplemented)) s) :=
  .of_wp fun prog w A R s h => by obtain ⟨hp, g, d, tk, os⟩ := s; obtain ⟨⟨dd, sl, hl⟩, h⟩ := h; wp_walk using wpAny_loadPart' hl, wpAny_load hl; exact ⟨_, rfl, h⟩
theorem dec_list_ne {l : Addr} {R : Result → Shared → Prop} (sub : PySem.W.Looks (model prog w) s.heap (isInstance (.ref a) (.type "list")) false) (h : R (.ok (.ret .notImplemented)) s) :
    wpAny (model prog w) A.in1 (Builtin.«list.__ne__» ⟨[.ref l, .ref a], []⟩) (fun fin s' => match fin with | .done f => R (.ok f) s' | .again c' => c'.quiet = true ∧ codeAny (model prog w) A c' R s') (fun e s' => R (.error e) s') s := by
  refine wpAny_bind (m := slotArgs _ _ _) (wpAny_pure ?_)
  refine wpAny_bind (m := isInstance _ _) (sub.here ?_)
  wp_walk
  exact h
theorem dec_tuple_ne {l : Addr} {R : Result → Shared → Prop} (sub : PySem.W.Looks (model prog w) s.heap (isInstance (.ref a) (.type "tuple")) false) (h : R (.ok (.ret .notImplemented)) s) :
    wpAny (model prog w) A.in1 (Builtin.«tuple.__ne__» ⟨[.ref l, .ref a], []⟩) (fun fin s' => match fin with | .done f => R (.ok f) s' | .again c' => c'.quiet = true ∧ codeAny (model prog w) A c' R s') (fun e s' => R (.error e) s') s := by
  refine wpAny_bind (m := slotArgs _ _ _) (wpAny_pure ?_)
  refine wpAny_bind (m := isInstance _ _) (sub.here ?_)
  wp_walk
  exact h
theorem dec_dict_ne {l : Addr} {R : Result → Shared → Prop} (sub : PySem.W.Looks (model prog w) s.heap (isInstance (.ref a) (.type "dict")) false) (h : R (.ok (.ret .notImplemented)) s) :
    wpAny (model prog w) A.in1 (Builtin.«dict.__ne__» ⟨[.ref l, .ref a], []⟩) (fun fin s' => match fin with | .done f => R (.ok f) s' | .again c' => c'.quiet = true ∧ codeAny (model prog w) A c' R s') (fun e s' => R (.error e) s') s := by
  have e : Builtin.Dict.dictSlotArgs "__ne__" ⟨[.ref l, .ref a], []⟩ = pure (.ref l, .ref a) := by kernel_rfl
  refine wpAny_bind (m := Builtin.Dict.dictSlotArgs _ _) ?_
  rw [e]
  refine wpAny_pure ?_
  refine wpAny_bind (m := isInstance _ _) (sub.here ?_)
  wp_walk
  exact h
end
end
end AmL
/-! rules over the hand layer: operators of an own class, beside built-in values too -/
namespace Am
open PySem PySem.Spec PyProof.Rows L2

/-- values of built-in types -/
inductive Bk (H : Hp) : V → String → Prop where
  | non : Bk H .non "NoneType"
  | bl (b : Bool) : Bk H (.bl b) "bool"
  | int (i : Int) : Bk H (.int i) "int"
  | str (z : Str) : Bk H (.str z) "str"
  | lst {a : Addr} {xs : List V} (h : H a = some (.lst xs)) : Bk H (.ref a) "list"
  | tup {a : Addr} {xs : List V} (h : H a = some (.tup xs)) : Bk H (.ref a) "tuple"
  | dK {a : Addr} {kvs : List (Key × V)} (h : H a = some (.dK kvs)) : Bk H (.ref a) "dict"
def isI : V → Bool
  | .int _ => true
  | _ => false
theorem Bk.same {H H' : Hp} (e : Same H H') {x : V} {T : String} (b : Bk H x T) : Bk H' x T := by
  cases b with
  | non => exact .non
  | bl b => exact .bl b
  | int i => exact .int i
  | str z => exact .str z
  | lst h => exact .lst (e _ _ h)
  | tup h => exact .tup (e _ _ h)
  | dK h => exact .dK (e _ _ h)
theorem Bk.tyOf {K : PySem.W.Frag} {H : Hp} {x : V} {T : String} (b : Bk H x T) : TyOf K H x (.type T) := by
  cases b with
  | non => exact .non
  | bl b => exact .bl b
  | int i => exact .int i
  | str z => exact .str z
  | lst h => exact .lst h
  | tup h => exact .tup h
  | dK h => exact .dK h
section
variable {X : Cx} {pins : List (Addr × Obj)} {σ : L2.St} {H : Hp} {s : Shared}
theorem Bk.typeIs {x : V} {T : String} {u : Value} (b : Bk H x T) (I : Inv X pins σ H s) (r : RelV x u) : s.TypeIs u T := by
  cases b with
  | non => cases (show u = Value.none from r); rfl
  | bl b => cases (show u = Value.bool b from r); rfl
  | int i => obtain ⟨t, q⟩ := (show ∃ t, u = Value.int i t from r); cases q; rfl
  | str z => obtain ⟨t, q⟩ := (show ∃ t, u = Value.str z t from r); cases q; rfl
  | @lst a xs ea =>
    cases (show u = Value.ref a from r)
    obtain ⟨_, _, n, _, h1⟩ := (show ObjOk X.prog X.w H s.heap a (.lst xs) from I.hok a _ ea)
    exact ⟨_, h1, rfl⟩
  | @tup a xs ea =>
    cases (show u = Value.ref a from r)
    obtain ⟨_, _, _, o, h1, h2, _⟩ := (show ObjOk X.prog X.w H s.heap a (.tup xs) from I.hok a _ ea)
    exact ⟨o, h1, h2⟩
  | @dK a kvs ea =>
    cases (show u = Value.ref a from r)
    obtain ⟨_, _, vs, _, o, es, ep, h1, h2, _⟩ := (show ObjOk X.prog X.w H s.heap a (.dK kvs) from I.hok a _ ea)
    exact ⟨o, h1, h2.1⟩
theorem looks_typeIs {M : Model} {u : Value} {T : String} (h : s.TypeIs u T) : PySem.W.Looks M s.heap (typeOf u) (.type T) := by
  intro A Q E s' k q
  have h' : s'.TypeIs u T := by
    cases u with
    | ref a => obtain ⟨o, ho, hc⟩ := h; exact ⟨o, k _ _ ho, hc⟩
    | _ => exact h
  exact wpAny_typeOf h' q
end

/-- what the operators ask of the class -/
structure OpC (K : PySem.W.Frag) (C : Addr) : Prop where
  sf : PySem.W.selfFirst K C = true
  ne : PySem.W.findIn K (.ref C) "__ne__" = some (some (.builtin "object.__ne__"))
  ob : PySem.W.mroIn K C (.type "object") = some true
  s1 : PySem.W.subIn K (.ref C) (.type "int") = some false
  s2 : PySem.W.subIn K (.ref C) (.type "bool") = some false
  s3 : PySem.W.subIn K (.ref C) (.type "NoneType") = some false
  s4 : PySem.W.subIn K (.ref C) (.type "str") = some false
  s5 : PySem.W.subIn K (.ref C) (.type "list") = some false
  s6 : PySem.W.subIn K (.ref C) (.type "tuple") = some false
  s7 : PySem.W.subIn K (.ref C) (.type "dict") = some false
  r1 : PySem.W.subIn K (.type "int") (.ref C) = some false
  r2 : PySem.W.subIn K (.type "bool") (.ref C) = some false
  r3 : PySem.W.subIn K (.type "NoneType") (.ref C) = some false
  r4 : PySem.W.subIn K (.type "str") (.ref C) = some false
  r5 : PySem.W.subIn K (.type "list") (.ref C) = some false
  r6 : PySem.W.subIn K (.type "tuple") (.ref C) = some false
  r7 : PySem.W.subIn K (.type "dict") (.ref C) = some false
theorem OpC.sub {K : PySem.W.Frag} {C : Addr} {H : Hp} {x : V} {T : String} (c : OpC K C) (b : Bk H x T) : PySem.W.subIn K (.ref C) (.type T) = some false := by
  cases b <;> first | exact c.s1 | exact c.s2 | exact c.s3 | exact c.s4 | exact c.s5 | exact c.s6 | exact c.s7
theorem OpC.rev {K : PySem.W.Frag} {C : Addr} {H : Hp} {x : V} {T : String} (c : OpC K C) (b : Bk H x T) : PySem.W.subIn K (.type T) (.ref C) = some false := by
  cases b <;> first | exact c.r1 | exact c.r2 | exact c.r3 | exact c.r4 | exact c.r5 | exact c.r6 | exact c.r7
theorem OpC.nf {K : PySem.W.Frag} {C : Addr} {H : Hp} {x : V} {T : String} (c : OpC K C) (b : Bk H x T) : PySem.W.notFirst K C (.type T) = true := by
  unfold PySem.W.notFirst
  rw [c.rev b]
  simp
theorem nf_self {K : PySem.W.Frag} {C : Addr} : PySem.W.notFirst K C (.ref C) = true := by
  unfold PySem.W.notFirst
  simp

/-- a method that an operator calls -/
structure Om (X : Cx) (C : Addr) (name : Str) (g : Addr) : Prop where
  hs : PySem.W.findIn X.K (.ref C) name = some (some (.ref g))
  hf : PySem.W.isFn X.K (.ref g) = true
/-- an instance of C, or a value of a built-in type -/
def OrB (C : Addr) (H : Hp) (y : V) : Prop := (∃ b dy gs, y = .ref b ∧ H b = some (.ins C dy gs)) ∨ ∃ T, Bk H y T
section
variable {X : Cx} {C g : Addr} {k : Nat} {fd : FuncData} {ps : List Str} {sp : Sp} {CX : CXT} {E : XK} {pins : List (Addr × Obj)} {σ : L2.St} {H : Hp} {s : Shared}
theorem inst_of {a dx : Addr} {fs : List (Str × V)} (I : Inv X pins σ H s) (ha : H a = some (.ins C dx fs)) : ∃ od, PySem.W.InstAt s.heap a (PySem.W.instObj C dx) C (some od) := by
  obtain ⟨mA, J, _⟩ := ins_get I.hok ha
  obtain ⟨od, J, _⟩ := J.look
  exact ⟨od, J⟩
theorem plain_of {a dx : Addr} {fs : List (Str × V)} (I : Inv X pins σ H s) (ha : H a = some (.ins C dx fs)) : AmL.PlainAt s a C := by
  obtain ⟨_, _, _, h, _⟩ := (show ObjOk X.prog X.w H s.heap a (.ins C dx fs) from I.hok a _ ha)
  exact ⟨_, _, h⟩
theorem orB_type {y : V} {u : Value} (c : OpC X.K C) (I : Inv X pins σ H s) (ry : RelV y u) (h : OrB C H y) : ∃ tb, PySem.W.Looks (model X.prog X.w) s.heap (typeOf u) tb ∧ PySem.W.notFirst X.K C tb = true := by
  rcases h with ⟨b, dy, gs, rfl, hb⟩ | ⟨T, b⟩
  · cases (show u = Value.ref b from ry)
    obtain ⟨od, J⟩ := inst_of I hb
    exact ⟨.ref C, J.type, nf_self⟩
  · exact ⟨.type T, looks_typeIs (b.typeIs I ry), c.nf b⟩

/-- x op y: x an instance -/
def rCmp (C : Addr) (sp : Sp) (E : XK) : R2 := fun x y H Q => (∃ a dx fs, x = .ref a ∧ H a = some (.ins C dx fs)) ∧ OrB C H y ∧ sp [x, y] H Q E
theorem op_cmpC {op : CmpOp} (hop : ∀ a b, compareOp op a b = richCompare op a b) (c : OpC X.K C) (m : Om X C (cmpInfo op).2.1 g) (F : FnOk X.prog X.w X.K X.mg X.base CX k g fd ps sp) (hr : Room k X.A) (hb : Binds X.K fd ps [])
    (hx : Passes CX X E) : OpR X (compareOp op) (rCmp C sp E) := by
  intro pins s σ H x y v u Q I rx ry h
  obtain ⟨⟨a, dx, fs, rfl, ha⟩, hy, q⟩ := h
  cases (show v = Value.ref a from rx)
  obtain ⟨od, J⟩ := inst_of I ha
  obtain ⟨tb, ht, hn⟩ := orB_type c I ry hy
  obtain ⟨mm, hF⟩ := I.fr
  rw [hop]
  refine PySem.W.cmp_K (op := op) hr.units0 hF I.ok.mod.kin J ht hn m.hs m.hf ?_
  refine wpAny_mono (run_fn (us := [.ref a, u]) (vs := [.ref a, y]) (dvs := []) F hr hb .nil hx I (.cons rfl (.cons ry .nil)) q) (fun w s' z => ?_) fun _ _ x => x
  obtain ⟨z', H', I', rz, qz⟩ := z
  exact SlX.cmpback rz ⟨z', H', I', rz, qz⟩

theorem room_in1 {A : Around} (hr : Room (k + 1) A) : Room k A.in1 := hr.in1
/-- the callee runs one builtin below -/
theorem run_in1 {Q : VK} {us : List Value} {vs : List V} (F : FnOk X.prog X.w X.K X.mg X.base CX k g fd ps sp) (hr : Room (k + 1) X.A) (hb : Binds X.K fd ps []) (hx : Passes CX X E)
    (I : Inv X pins σ H s) (r : Vals vs us) (h : sp vs H Q E) : wpAny (model X.prog X.w) X.A.in1 (call (.ref g) us) (EP X pins σ Q) X.xe s := by
  have hl : us.length = ps.length := by rw [← r.length]; exact F.len _ _ _ _ h
  refine wpAny_call (codeAny_mono (F.run X.A.in1 X.stack s H ⟨us, []⟩ us vs Q E hr.in1 I.env0.in1 (by
    have := hb s us I.kIn (by simpa using hl)
    simpa using this) r h) fun r s' hq => ?_)
  cases r with
  | error e => exact hx pins σ H s e s' I hq
  | ok fl =>
    cases fl with
    | ret u => exact I.after hq
    | next => exact False.elim hq
    | brk => exact False.elim hq
    | cont => exact False.elim hq

/-- x != y: x an instance whose class has an own ==, that hands back a truth value -/
def rNeC (C : Addr) (sp : Sp) (E : XK) : R2 := fun x y H Q => (∃ a dx fs, x = .ref a ∧ H a = some (.ins C dx fs)) ∧ OrB C H y ∧ sp [x, y] H (fun v H' => ∃ b, v = .bl b ∧ Q (.bl (!b)) H') E
theorem op_neC (c : OpC X.K C) (m : Om X C "__eq__" g) (F : FnOk X.prog X.w X.K X.mg X.base CX k g fd ps sp) (hr : Room (k + 1) X.A) (hb : Binds X.K fd ps [])
    (hx : Passes CX X E) : OpR X (compareOp .NotEq) (rNeC C sp E) := by
  intro pins s σ H x y v u Q I rx ry h
  obtain ⟨⟨a, dx, fs, rfl, ha⟩, hy, q⟩ := h
  cases (show v = Value.ref a from rx)
  obtain ⟨od, J⟩ := inst_of I ha
  obtain ⟨tb, ht, hn⟩ := orB_type c I ry hy
  show wpAny (model X.prog X.w) X.A (richCompare .NotEq _ _) (EP X pins σ Q) X.xe s
  refine AmL.ne_inst (by have := hr.units; omega) I.kIn J ht hn c.ne c.ob m.hs m.hf ?_
  refine wpAny_mono (run_in1 (us := [.ref a, u]) (vs := [.ref a, y]) F hr hb hx I (.cons rfl (.cons ry .nil)) q) (fun w s' z => ?_) fun _ _ x => x
  obtain ⟨z', H', I', rz, b, rfl, qz⟩ := z
  cases (show w = Value.bool b from rz)
  exact ⟨b, rfl, .bl (!b), H', I', rfl, qz⟩

theorem insub {a dx : Addr} {fs : List (Str × V)} {T : String} (I : Inv X pins σ H s) (ha : H a = some (.ins C dx fs)) (h : PySem.W.subIn X.K (.ref C) (.type T) = some false) :
    PySem.W.Looks (model X.prog X.w) s.heap (isInstance (.ref a) (.type T)) false := by
  obtain ⟨od, J⟩ := inst_of I ha
  exact J.type.andThen (PySem.W.looks_subIn I.kIn h)

/-- what declines -/
structure Dec (X : Cx) (op : CmpOp) (P : Hp → V → Prop) : Prop where
  run : ∀ (pins : List (Addr × Obj)) (σ : L2.St) (H : Hp) (s : Shared) (C a dx : Addr) (fs : List (Str × V)) (x : V) (v : Value), OpC X.K C → Inv X pins σ H s → RelV x v → P H x → H a = some (.ins C dx fs) →
    ∃ T id, Bk H x T ∧ Slot T (cmpInfo op).2.1 id ∧ ∀ (E : Value → Shared → Prop) (Q' : Value → Shared → Prop), Q' .notImplemented s → wpAny (model X.prog X.w) X.A (call (.builtin id) [v, .ref a]) Q' E s

/-- x op y: x a value that declines, y an instance -/
def rRef (C : Addr) (P : Hp → V → Prop) (sp : Sp) (E : XK) : R2 := fun x y H Q => P H x ∧ (∃ a dx fs, y = .ref a ∧ H a = some (.ins C dx fs)) ∧ sp [y, x] H Q E
theorem op_refC {op : CmpOp} {P : Hp → V → Prop} (hop : ∀ a b, compareOp op a b = richCompare op a b) (d : Dec X op P) (c : OpC X.K C) (m : Om X C (cmpInfo op).2.2 g) (F : FnOk X.prog X.w X.K X.mg X.base CX k g fd ps sp) (hr : Room k X.A)
    (hb : Binds X.K fd ps []) (hx : Passes CX X E) : OpR X (compareOp op) (rRef C P sp E) := by
  intro pins s σ H x y v u Q I rx ry h
  obtain ⟨hp, ⟨a, dx, fs, rfl, ha⟩, q⟩ := h
  cases (show u = Value.ref a from ry)
  obtain ⟨od, J⟩ := inst_of I ha
  obtain ⟨T, id, bk, slot, dec⟩ := d.run pins σ H s C a dx fs x v c I rx hp ha
  rw [hop]
  refine AmL.refl_inst (op := op) hr.units0 I.kIn J (bk.typeIs I rx) slot (fun Q' q' => dec _ Q' q') (c.sub bk) m.hs m.hf ?_
  refine wpAny_mono (run_fn (us := [.ref a, v]) (vs := [.ref a, x]) (dvs := []) F hr hb .nil hx I (.cons rfl (.cons rx .nil)) q) (fun w s' z => ?_) fun _ _ x => x
  obtain ⟨z', H', I', rz, qz⟩ := z
  exact SlX.cmpback rz ⟨z', H', I', rz, qz⟩
def rRefN (C : Addr) (P : Hp → V → Prop) (sp : Sp) (E : XK) : R2 := fun x y H Q => P H x ∧ (∃ a dx fs, y = .ref a ∧ H a = some (.ins C dx fs)) ∧ sp [y, x] H (fun v H' => ∃ b, v = .bl b ∧ Q (.bl (!b)) H') E
theorem op_refN {P : Hp → V → Prop} (d : Dec X .NotEq P) (c : OpC X.K C) (m : Om X C "__eq__" g) (F : FnOk X.prog X.w X.K X.mg X.base CX k g fd ps sp) (hr : Room (k + 1) X.A)
    (hb : Binds X.K fd ps []) (hx : Passes CX X E) : OpR X (compareOp .NotEq) (rRefN C P sp E) := by
  intro pins s σ H x y v u Q I rx ry h
  obtain ⟨hp, ⟨a, dx, fs, rfl, ha⟩, q⟩ := h
  cases (show u = Value.ref a from ry)
  obtain ⟨od, J⟩ := inst_of I ha
  obtain ⟨T, id, bk, slot, dec⟩ := d.run pins σ H s C a dx fs x v c I rx hp ha
  show wpAny (model X.prog X.w) X.A (richCompare .NotEq _ _) (EP X pins σ Q) X.xe s
  refine AmL.ne_refl (by have := hr.units; omega) I.kIn J (bk.typeIs I rx) slot (fun Q' q' => dec _ Q' q') (c.sub bk) c.ne c.ob m.hs m.hf ?_
  refine wpAny_mono (run_in1 (us := [.ref a, v]) (vs := [.ref a, x]) F hr hb hx I (.cons rfl (.cons rx .nil)) q) (fun w s' z => ?_) fun _ _ x => x
  obtain ⟨z', H', I', rz, b, rfl, qz⟩ := z
  cases (show w = Value.bool b from rz)
  exact ⟨b, rfl, .bl (!b), H', I', rfl, qz⟩
end
section
variable {X : Cx}
theorem meets_call {T : String} {name : Str} {id : String} {B : Builtin} {v : Value} {rest : List Value} {A : Around} {E : Value → Shared → Prop} {s : Shared} {prog : Program} {w : World} (slot : Slot T name id) (hT : s.TypeIs v T) (entry : entryFor table id = some B) (args : argsOk id ⟨v :: rest, []⟩)
    {P : Shared → Prop} (g : PySem.Meets (B ⟨v :: rest, []⟩) (fun _ R s => P s ∧ R (.ok (.ret .notImplemented)) s)) (hp : P s) (Q' : Value → Shared → Prop) (q : Q' .notImplemented s) : wpAny (model prog w) A (call (.builtin id) (v :: rest)) Q' E s :=
  wpAny_call (codeAny_call_builtin slot.plain entry (slot.check _ _ _ _ _ _ _ _ hT args (g prog w A (wants Q' E) s ⟨hp, q⟩)))
def PInt : Hp → V → Prop := fun _ x => ∃ i, x = .int i
theorem dec_intEq : Dec X .Eq PInt := ⟨fun pins σ H s C a dx fs x v c I r hp ha => by
  obtain ⟨i, rfl⟩ := hp
  obtain ⟨t, rfl⟩ := (show ∃ t, v = Value.int i t from r)
  exact ⟨"int", _, .int i, PySem.F.slot_int_eq, fun E Q' q => meets_call PySem.F.slot_int_eq (typeIs_int s i t) PySem.F.entry_int_eq (PySem.F.args_int_eq_2 _ _) (AmL.dec_int_eq i t C) (plain_of I ha) Q' q⟩⟩
theorem dec_intNotEq : Dec X .NotEq PInt := ⟨fun pins σ H s C a dx fs x v c I r hp ha => by
  obtain ⟨i, rfl⟩ := hp
  obtain ⟨t, rfl⟩ := (show ∃ t, v = Value.int i t from r)
  exact ⟨"int", _, .int i, PySem.F.slot_int_ne, fun E Q' q => meets_call PySem.F.slot_int_ne (typeIs_int s i t) PySem.F.entry_int_ne (PySem.F.args_int_ne_2 _ _) (AmL.dec_int_ne i t C) (plain_of I ha) Q' q⟩⟩
theorem dec_intLt : Dec X .Lt PInt := ⟨fun pins σ H s C a dx fs x v c I r hp ha => by
  obtain ⟨i, rfl⟩ := hp
  obtain ⟨t, rfl⟩ := (show ∃ t, v = Value.int i t from r)
  exact ⟨"int", _, .int i, PySem.F.slot_int_lt, fun E Q' q => meets_call PySem.F.slot_int_lt (typeIs_int s i t) PySem.F.entry_int_lt (PySem.F.args_int_lt_2 _ _) (AmL.dec_int_lt i t C) (plain_of I ha) Q' q⟩⟩
theorem dec_intLtE : Dec X .LtE PInt := ⟨fun pins σ H s C a dx fs x v c I r hp ha => by
  obtain ⟨i, rfl⟩ := hp
  obtain ⟨t, rfl⟩ := (show ∃ t, v = Value.int i t from r)
  exact ⟨"int", _, .int i, PySem.F.slot_int_le, fun E Q' q => meets_call PySem.F.slot_int_le (typeIs_int s i t) PySem.F.entry_int_le (PySem.F.args_int_le_2 _ _) (AmL.dec_int_le i t C) (plain_of I ha) Q' q⟩⟩
theorem dec_intGt : Dec X .Gt PInt := ⟨fun pins σ H s C a dx fs x v c I r hp ha => by
  obtain ⟨i, rfl⟩ := hp
  obtain ⟨t, rfl⟩ := (show ∃ t, v = Value.int i t from r)
  exact ⟨"int", _, .int i, PySem.F.slot_int_gt, fun E Q' q => meets_call PySem.F.slot_int_gt (typeIs_int s i t) PySem.F.entry_int_gt (PySem.F.args_int_gt_2 _ _) (AmL.dec_int_gt i t C) (plain_of I ha) Q' q⟩⟩
theorem dec_intGtE : Dec X .GtE PInt := ⟨fun pins σ H s C a dx fs x v c I r hp ha => by
  obtain ⟨i, rfl⟩ := hp
  obtain ⟨t, rfl⟩ := (show ∃ t, v = Value.int i t from r)
  exact ⟨"int", _, .int i, PySem.F.slot_int_ge, fun E Q' q => meets_call PySem.F.slot_int_ge (typeIs_int s i t) PySem.F.entry_int_ge (PySem.F.args_int_ge_2 _ _) (AmL.dec_int_ge i t C) (plain_of I ha) Q' q⟩⟩
def PBk : Hp → V → Prop := fun H x => ∃ T, Bk H x T
theorem dec_bkEq : Dec X .Eq PBk := ⟨fun pins σ H s C a dx fs x v c I r hp ha => by
  obtain ⟨T, b⟩ := hp
  refine ⟨T, ?_⟩
  have hT := b.typeIs I r
  cases b with
  | non =>
    cases (show v = Value.none from r)
    exact ⟨_, .non, PySem.F.slot_NoneType_eq, fun E Q' q => call_gives PySem.F.slot_NoneType_eq hT PySem.F.entry_NoneType_eq (PySem.F.args_NoneType_eq_2 _ _) AmL.dec_none_eq q⟩
  | bl k =>
    cases (show v = Value.bool k from r)
    exact ⟨_, .bl k, PySem.F.slot_bool_eq, fun E Q' q => meets_call PySem.F.slot_bool_eq hT PySem.F.entry_int_eq (PySem.F.args_int_eq_2 _ _) (AmL.dec_bool_eq k C) (plain_of I ha) Q' q⟩
  | int i =>
    obtain ⟨t, rfl⟩ := (show ∃ t, v = Value.int i t from r)
    exact ⟨_, .int i, PySem.F.slot_int_eq, fun E Q' q => meets_call PySem.F.slot_int_eq hT PySem.F.entry_int_eq (PySem.F.args_int_eq_2 _ _) (AmL.dec_int_eq i t C) (plain_of I ha) Q' q⟩
  | str z =>
    obtain ⟨t, rfl⟩ := (show ∃ t, v = Value.str z t from r)
    exact ⟨_, .str z, PySem.F.slot_str_eq, fun E Q' q => meets_call PySem.F.slot_str_eq hT PySem.F.entry_str_eq (PySem.F.args_str_eq_2 _ _) (AmL.dec_str_eq z t C) (plain_of I ha) Q' q⟩
  | @lst l xs ea =>
    cases (show v = Value.ref l from r)
    exact ⟨_, .lst ea, PySem.F.slot_list_eq, fun E Q' q => GQ.call_here PySem.F.slot_list_eq hT PySem.F.entry_list_eq (PySem.F.args_list_eq_2 _ _) (AmL.dec_list_eq (R := wants Q' E) (insub I ha c.s5) q)⟩
  | @tup l xs ea =>
    cases (show v = Value.ref l from r)
    exact ⟨_, .tup ea, PySem.F.slot_tuple_eq, fun E Q' q => GQ.call_here PySem.F.slot_tuple_eq hT PySem.F.entry_tuple_eq (PySem.F.args_tuple_eq_2 _ _) (AmL.dec_tuple_eq (R := wants Q' E) (insub I ha c.s6) q)⟩
  | @dK l kvs ea =>
    cases (show v = Value.ref l from r)
    exact ⟨_, .dK ea, PySem.F.slot_dict_eq, fun E Q' q => GQ.call_here PySem.F.slot_dict_eq hT PySem.F.entry_dict_eq (PySem.F.args_dict_eq_2 _ _) (AmL.dec_dict_eq (R := wants Q' E) (insub I ha c.s7) q)⟩⟩
theorem dec_bkNotEq : Dec X .NotEq PBk := ⟨fun pins σ H s C a dx fs x v c I r hp ha => by
  obtain ⟨T, b⟩ := hp
  refine ⟨T, ?_⟩
  have hT := b.typeIs I r
  cases b with
  | non =>
    cases (show v = Value.none from r)
    exact ⟨_, .non, PySem.F.slot_NoneType_ne, fun E Q' q => call_gives PySem.F.slot_NoneType_ne hT PySem.F.entry_NoneType_ne (PySem.F.args_NoneType_ne_2 _ _) AmL.dec_none_ne q⟩
  | bl k =>
    cases (show v = Value.bool k from r)
    exact ⟨_, .bl k, PySem.F.slot_bool_ne, fun E Q' q => meets_call PySem.F.slot_bool_ne hT PySem.F.entry_int_ne (PySem.F.args_int_ne_2 _ _) (AmL.dec_bool_ne k C) (plain_of I ha) Q' q⟩
  | int i =>
    obtain ⟨t, rfl⟩ := (show ∃ t, v = Value.int i t from r)
    exact ⟨_, .int i, PySem.F.slot_int_ne, fun E Q' q => meets_call PySem.F.slot_int_ne hT PySem.F.entry_int_ne (PySem.F.args_int_ne_2 _ _) (AmL.dec_int_ne i t C) (plain_of I ha) Q' q⟩
  | str z =>
    obtain ⟨t, rfl⟩ := (show ∃ t, v = Value.str z t from r)
    exact ⟨_, .str z, PySem.F.slot_str_ne, fun E Q' q => meets_call PySem.F.slot_str_ne hT PySem.F.entry_str_ne (PySem.F.args_str_ne_2 _ _) (AmL.dec_str_ne z t C) (plain_of I ha) Q' q⟩
  | @lst l xs ea =>
    cases (show v = Value.ref l from r)
    exact ⟨_, .lst ea, PySem.F.slot_list_ne, fun E Q' q => GQ.call_here PySem.F.slot_list_ne hT PySem.F.entry_list_ne (PySem.F.args_list_ne_2 _ _) (AmL.dec_list_ne (R := wants Q' E) (insub I ha c.s5) q)⟩
  | @tup l xs ea =>
    cases (show v = Value.ref l from r)
    exact ⟨_, .tup ea, PySem.F.slot_tuple_ne, fun E Q' q => GQ.call_here PySem.F.slot_tuple_ne hT PySem.F.entry_tuple_ne (PySem.F.args_tuple_ne_2 _ _) (AmL.dec_tuple_ne (R := wants Q' E) (insub I ha c.s6) q)⟩
  | @dK l kvs ea =>
    cases (show v = Value.ref l from r)
    exact ⟨_, .dK ea, PySem.F.slot_dict_ne, fun E Q' q => GQ.call_here PySem.F.slot_dict_ne hT PySem.F.entry_dict_ne (PySem.F.args_dict_ne_2 _ _) (AmL.dec_dict_ne (R := wants Q' E) (insub I ha c.s7) q)⟩⟩
end
section
variable {X : Cx} {C g : Addr} {k : Nat} {fd : FuncData} {ps : List Str} {sp : Sp} {CX : CXT} {E : XK}
/-- what an arithmetic operator asks of the type int -/
structure OpI (X : Cx) (C : Addr) (nm : String) : Prop where
  h1 : ∃ fo, PySem.W.findIn X.K (.type "int") (PySem.dunder nm) = some fo
  h2 : ∃ ro, PySem.W.findIn X.K (.type "int") (PySem.dunderR nm) = some ro
  hr : ∃ g : Addr, PySem.W.findIn X.K (.ref C) (PySem.dunderR nm) = some (some (.ref g))
/-- x op y: x an instance, y an instance or an int -/
def OrI (C : Addr) (H : Hp) (y : V) : Prop := (∃ b dy gs, y = .ref b ∧ H b = some (.ins C dy gs)) ∨ ∃ i, y = .int i
def rBin (C : Addr) (sp : Sp) (E : XK) : R2 := fun x y H Q => (∃ a dx fs, x = .ref a ∧ H a = some (.ins C dx fs)) ∧ OrI C H y ∧ sp [x, y] H Q E
theorem op_binC {op : Operator} (c : OpC X.K C) (ci : OpI X C op.info.2) (m : Om X C (PySem.dunder op.info.2) g) (F : FnOk X.prog X.w X.K X.mg X.base CX k g fd ps sp) (hr : Room k X.A) (hb : Binds X.K fd ps [])
    (hx : Passes CX X E) : OpR X (binaryOp op) (rBin C sp E) := by
  intro pins s σ H x y v u Q I rx ry h
  obtain ⟨⟨a, dx, fs, rfl, ha⟩, hy, q⟩ := h
  cases (show v = Value.ref a from rx)
  obtain ⟨od, J⟩ := inst_of I ha
  obtain ⟨mm, hF⟩ := I.fr
  have fin : wpAny (model X.prog X.w) X.A (call (.ref g) [.ref a, u]) (PySem.W.CmpBack (EP X pins σ Q)) X.xe s := by
    refine wpAny_mono (run_fn (us := [.ref a, u]) (vs := [.ref a, y]) (dvs := []) F hr hb .nil hx I (.cons rfl (.cons ry .nil)) q) (fun w s' z => ?_) fun _ _ x => x
    obtain ⟨z', H', I', rz, qz⟩ := z
    exact SlX.cmpback rz ⟨z', H', I', rz, qz⟩
  rcases hy with ⟨b, dy, gs, rfl, hb'⟩ | ⟨i, rfl⟩
  · cases (show u = Value.ref b from ry)
    obtain ⟨od', J'⟩ := inst_of I hb'
    exact PySem.W.binop_K hF I.ok.mod.kin J J'.type c.sf m.hs m.hf fin
  · obtain ⟨t, rfl⟩ := (show ∃ t, u = Value.int i t from ry)
    obtain ⟨fo, h1⟩ := ci.h1
    obtain ⟨ro, h2⟩ := ci.h2
    obtain ⟨g', h3⟩ := ci.hr
    exact PySem.W.ksp_binT hF I.ok.mod.kin J rfl c.sf m.hs m.hf h3 (.inr ⟨g', rfl⟩) h1 h2 c.r1 fin
/-- -x -/
def rNegC (C : Addr) (sp : Sp) (E : XK) : V → Hp → VK → Prop := fun x H Q => (∃ a dx fs, x = .ref a ∧ H a = some (.ins C dx fs)) ∧ sp [x] H Q E
theorem un_negC (m : Om X C "__neg__" g) (F : FnOk X.prog X.w X.K X.mg X.base CX k g fd ps sp) (hr : Room k X.A) (hb : Binds X.K fd ps [])
    (hx : Passes CX X E) : UnR X (unaryOp .USub) (rNegC C sp E) := by
  intro pins s σ H x v Q I rx h
  obtain ⟨⟨a, dx, fs, rfl, ha⟩, q⟩ := h
  cases (show v = Value.ref a from rx)
  obtain ⟨od, J⟩ := inst_of I ha
  obtain ⟨mm, hF⟩ := I.fr
  exact PySem.W.ksp_neg hF I.ok.mod.kin J m.hs m.hf (run_fn (us := [.ref a]) (vs := [.ref a]) (dvs := []) F hr hb .nil hx I (.cons rfl .nil) q)
theorem UnR.or {f : Value → Sem Value} {r r' : V → Hp → VK → Prop} (h : UnR X f r) (h' : UnR X f r') : UnR X f (fun x H Q => r x H Q ∨ r' x H Q) := by
  intro pins s σ H x v Q I rx q
  rcases q with q | q
  · exact h pins s σ H x v Q I rx q
  · exact h' pins s σ H x v Q I rx q
end
end Am
/-! int op x, x an instance with the turned operator -/
namespace AmL
open PySem PySem.SeqAt PySem.Calls PyProof.Rows
open AutoSeq1 (wpAny_loadPart')
open MeetsSeq
section
variable {prog : Program} {w : World} {A : Around} {E : Value → Shared → Prop} {s : Shared} {K : PySem.W.Frag} {C : Addr}
theorem dec_int_add {a : Addr} (b : Int) (u : Tok) (C : Addr) : Meets (Builtin.«int.__add__» ⟨[.int b u, .ref a], []⟩) (fun _ R s => PlainAt s a C ∧ R (.ok (.ret .notImplemented)) s) :=
  .of_wp fun prog w A R s h => by obtain ⟨hp, g, d, tk, os⟩ := s; obtain ⟨⟨dd, sl, hl⟩, h⟩ := h; wp_walk using wpAny_loadPart' hl, wpAny_load hl; exact ⟨_, rfl, h⟩
theorem dec_int_sub {a : Addr} (b : Int) (u : Tok) (C : Addr) : Meets (Builtin.«int.__sub__» ⟨[.int b u, .ref a], []⟩) (fun _ R s => PlainAt s a C ∧ R (.ok (.ret .notImplemented)) s) :=
  .of_wp fun prog w A R s h => by obtain ⟨hp, g, d, tk, os⟩ := s; obtain ⟨⟨dd, sl, hl⟩, h⟩ := h; wp_walk using wpAny_loadPart' hl, wpAny_load hl; exact ⟨_, rfl, h⟩
theorem dec_int_mul {a : Addr} (b : Int) (u : Tok) (C : Addr) : Meets (Builtin.«int.__mul__» ⟨[.int b u, .ref a], []⟩) (fun _ R s => PlainAt s a C ∧ R (.ok (.ret .notImplemented)) s) :=
  .of_wp fun prog w A R s h => by obtain ⟨hp, g, d, tk, os⟩ := s; obtain ⟨⟨dd, sl, hl⟩, h⟩ := h; wp_walk using wpAny_loadPart' hl, wpAny_load hl; exact ⟨_, rfl, h⟩
theorem dec_int_fdiv {a : Addr} (b : Int) (u : Tok) (C : Addr) : Meets (Builtin.«int.__floordiv__» ⟨[.int b u, .ref a], []⟩) (fun _ R s => PlainAt s a C ∧ R (.ok (.ret .notImplemented)) s) :=
  .of_wp fun prog w A R s h => by obtain ⟨hp, g, d, tk, os⟩ := s; obtain ⟨⟨dd, sl, hl⟩, h⟩ := h; wp_walk using wpAny_loadPart' hl, wpAny_load hl; exact ⟨_, rfl, h⟩

/-- a method of a built-in type that declines -/
theorem tryM_declines {v o : Value} {T : String} {name : Str} {id : String} {Q : Option Value → Shared → Prop} (hT : s.TypeIs v T)
    (slot : Slot T name id) (told : wpAny (model prog w) A (call (.builtin id) [v, o]) (fun r z => r = .notImplemented ∧ Q none z) E s) : wpAny (model prog w) A (tryMethod v name o) Q E s := by
  have asked : wpAny (model prog w) A (callSpecial? v name [o]) (fun r z => r = some .notImplemented ∧ Q none z) E s :=
    wpAny_callSpecial?_slot hT slot (wpAny_mono told (fun _ _ y => ⟨congrArg some y.1, y.2⟩) fun _ _ y => y)
  unfold tryMethod
  refine wpAny_bind (wpAny_mono asked (fun r z y => ?_) fun _ _ y => y)
  obtain ⟨rfl, q⟩ := y
  exact wpAny_pure q
open PySem.W in
/-- v op x: v of a built-in type that declines, x an instance with an own turned operator -/
theorem refl_bin {x f g : Addr} {v : Value} {T id : String} {op : Operator} {ox : Obj} {od : Option Obj} {fo ro : Option Value} {Q : Value → Shared → Prop}
    (X : K.In s.heap) (I : InstAt s.heap x ox C od) (hb : typeOf v = pure (.type T)) (hT : s.TypeIs v T) (hc : selfFirst K C = true)
    (hs : findIn K (.ref C) (PySem.dunder op.info.2) = some (some (.ref f))) (hr : findIn K (.ref C) (dunderR op.info.2) = some (some (.ref g))) (hg : isFn K (.ref g) = true)
    (h1 : findIn K (.type T) (PySem.dunder op.info.2) = some fo) (h2 : findIn K (.type T) (dunderR op.info.2) = some ro) (hsub : subIn K (.ref C) (.type T) = some false)
    (slot : Slot T (PySem.dunder op.info.2) id) (dec : ∀ Q' : Value → Shared → Prop, Q' .notImplemented s → wpAny (model prog w) A (call (.builtin id) [v, .ref x]) Q' E s)
    (h : wpAny (model prog w) A (call (.ref g) [.ref x, v]) (PySem.W.CmpBack Q) E s) : wpAny (model prog w) A (binaryOp op v (.ref x)) Q E s := by
  rcases ksp_first hc with ⟨cd, more, isC, first⟩
  rcases sg : op.info with ⟨sign, word⟩
  simp only [sg] at hs hr h1 h2 slot
  have turned := ksp_try X I hr hg h
  have declined : ∀ {R : Option Value → Shared → Prop}, R none s → wpAny (model prog w) A (tryMethod v (PySem.dunder word) (.ref x)) R E s := fun q => tryM_declines hT slot (dec _ ⟨rfl, q⟩)
  rcases s with ⟨hh, gg, dr, tk, oo⟩
  have typeX := I.type (M := model prog w)
  have typeV : Looks (model prog w) hh (typeOf v) (.type T) := .of_pure hb
  have fillsX := fills_K (M := model prog w) X isC first hs
  have fillsV := ksp_fillsT (M := model prog w) X h1 h2
  have apart := looks_subIn (M := model prog w) X hsub
  have notPy : Looks (model prog w) hh (numberSlotInPython (.type T) word) false := .of_pure rfl
  have differ : (Value.type T == Value.ref C) = false := beq_eq_false_iff_ne.mpr fun q => by cases q
  generalize (fo.isSome && !isSeqSlot fo || ro.isSome && !isSeqSlot ro) = some? at fillsV
  unfold binaryOp binaryOp1
  simp only [sg]
  refine wpAny_holding (wpAny_bind (wpAny_bind (typeV.at (wpAny_bind (typeX.at (wpAny_bind (fillsV.at ?_)))))))
  simp only [differ, Bool.false_eq_true, if_false]
  have fin : ∀ {R : Option Value → Shared → Prop}, (∀ u z, Q u z → R (some u) z) → wpAny (model prog w) A (tryMethod (.ref x) (dunderR word) v) R E ⟨hh, gg, dr, tk, oo⟩ := fun k => wpAny_mono turned (fun r z y => by
    obtain ⟨u, rfl, q⟩ := y
    exact k u z q) fun _ _ y => y
  cases some? with
  | false =>
    ksp_lk
    refine fin fun u z q => ?_
    ksp_lk
    exact q
  | true =>
    ksp_lk
    refine declined ?_
    ksp_lk
    refine fin fun u z q => ?_
    ksp_lk
    exact q
end
end AmL
/-! operators of an own class, turned ones too, that may raise -/
namespace Am
open PySem PySem.Spec PyProof.Rows L2
/-- a two-place operation whose wish may speak of the slots -/
def OpS (X : Cx) (f : Value → Value → Sem Value) (r : L2.St → R2) : Prop :=
  ∀ (pins : List (Addr × Obj)) (s : Shared) (σ : L2.St) (H : Hp) (x y : V) (v u : Value) (Q : VK), Inv X pins σ H s → RelV x v → RelV y u → r σ x y H Q →
    wpAny (model X.prog X.w) X.A (f v u) (EP X pins σ Q) X.xe s
def tOpS (r : L2.St → R2) (ta tb : TE) : TE := fun σ H Q => ta σ H fun x H1 => tb σ H1 fun y H2 => r σ x y H2 Q
section
variable {X : Cx} {a b : Expr} {ta tb : TE} {pos : Pos}
theorem pe_opS {op : Operator} {r : L2.St → R2} (ho : OpS X (binaryOp op) r) (ha : PE X a ta) (hb : PE X b tb) : PE X (.BinOp a op b pos) (tOpS r ta tb) := by
  refine ⟨fun pins s σ H Q I h => ?_⟩
  exact wpAny_BinOp (binT ha hb I h fun v u z x y G J rx ry q => ho pins z σ G x y v u Q J rx ry q)
end
structure DecB (X : Cx) (op : Operator) : Prop where
  run : ∀ (pins : List (Addr × Obj)) (σ : L2.St) (H : Hp) (s : Shared) (C a dx : Addr) (fs : List (Str × V)) (i : Int) (t : Tok), Inv X pins σ H s → H a = some (.ins C dx fs) →
    ∃ id, Slot "int" (PySem.dunder op.info.2) id ∧ ∀ (E : Value → Shared → Prop) (Q' : Value → Shared → Prop), Q' .notImplemented s → wpAny (model X.prog X.w) X.A (call (.builtin id) [.int i t, .ref a]) Q' E s
theorem decB_add {X : Cx} : DecB X .Add := ⟨fun pins σ H s C a dx fs i t I ha => ⟨_, PySem.F.slot_int_add, fun E Q' q => meets_call PySem.F.slot_int_add (typeIs_int s i t) PySem.F.entry_int_add (PySem.F.args_int_add_2 _ _) (AmL.dec_int_add i t C) (plain_of I ha) Q' q⟩⟩
theorem decB_sub {X : Cx} : DecB X .Sub := ⟨fun pins σ H s C a dx fs i t I ha => ⟨_, PySem.F.slot_int_sub, fun E Q' q => meets_call PySem.F.slot_int_sub (typeIs_int s i t) PySem.F.entry_int_sub (PySem.F.args_int_sub_2 _ _) (AmL.dec_int_sub i t C) (plain_of I ha) Q' q⟩⟩
theorem decB_mul {X : Cx} : DecB X .Mult := ⟨fun pins σ H s C a dx fs i t I ha => ⟨_, PySem.F.slot_int_mul, fun E Q' q => meets_call PySem.F.slot_int_mul (typeIs_int s i t) PySem.F.entry_int_mul (PySem.F.args_int_mul_2 _ _) (AmL.dec_int_mul i t C) (plain_of I ha) Q' q⟩⟩
theorem decB_fdiv {X : Cx} : DecB X .FloorDiv := ⟨fun pins σ H s C a dx fs i t I ha => ⟨_, PySem.F.slot_int_floordiv, fun E Q' q => meets_call PySem.F.slot_int_floordiv (typeIs_int s i t) PySem.F.entry_int_floordiv (PySem.F.args_int_floordiv_2 _ _) (AmL.dec_int_fdiv i t C) (plain_of I ha) Q' q⟩⟩
/-- what x op y asks: x an instance (sp), or a whole number and y an instance (spr) -/
def rBinS (C : Addr) (sp spr : Sp) (E : L2.St → XK) : L2.St → R2 := fun σ x y H Q =>
  ((∃ a dx fs, x = .ref a ∧ H a = some (.ins C dx fs)) ∧ OrI C H y ∧ sp [x, y] H Q (E σ)) ∨ ((∃ i, x = .int i) ∧ (∃ a dx fs, y = .ref a ∧ H a = some (.ins C dx fs)) ∧ spr [y, x] H Q (E σ))
/-- the methods behind an operator -/
structure BinM (X : Cx) (C : Addr) (nm : String) (CX : CXT) (k : Nat) (sp spr : Sp) : Prop where
  fo : ∃ (f : Addr) (fd : FuncData) (ps : List Str), Om X C (PySem.dunder nm) f ∧ FnOk X.prog X.w X.K X.mg X.base CX k f fd ps sp ∧ Binds X.K fd ps []
  ba : ∃ (f : Addr) (fd : FuncData) (ps : List Str), Om X C (PySem.dunderR nm) f ∧ FnOk X.prog X.w X.K X.mg X.base CX k f fd ps spr ∧ Binds X.K fd ps []
  h1 : ∃ fo, PySem.W.findIn X.K (.type "int") (PySem.dunder nm) = some fo
  h2 : ∃ ro, PySem.W.findIn X.K (.type "int") (PySem.dunderR nm) = some ro
section
variable {X : Cx} {C : Addr} {k : Nat} {sp spr : Sp} {CX : CXT} {E : L2.St → XK}
theorem opS_bin {op : Operator} (c : OpC X.K C) (d : DecB X op) (m : BinM X C op.info.2 CX k sp spr) (hr : Room k X.A) (hx : ∀ σ, PassesAt CX X σ (E σ)) : OpS X (binaryOp op) (rBinS C sp spr E) := by
  intro pins s σ H x y v u Q I rx ry h
  obtain ⟨f, fd, ps, mf, F, hb⟩ := m.fo
  obtain ⟨g, gd, qs, mg, G, hg⟩ := m.ba
  obtain ⟨fo, h1⟩ := m.h1
  obtain ⟨ro, h2⟩ := m.h2
  obtain ⟨mm, hF⟩ := I.fr
  rcases h with ⟨⟨a, dx, fs, rfl, ha⟩, hy, q⟩ | ⟨⟨i, rfl⟩, ⟨a, dx, fs, rfl, ha⟩, q⟩
  · cases (show v = Value.ref a from rx)
    obtain ⟨od, J⟩ := inst_of I ha
    have fin : wpAny (model X.prog X.w) X.A (call (.ref f) [.ref a, u]) (PySem.W.CmpBack (EP X pins σ Q)) X.xe s := by
      refine wpAny_mono (run_fnS (us := [.ref a, u]) (vs := [.ref a, y]) F hr hb (hx σ) I (.cons rfl (.cons ry .nil)) q) (fun w s' z => ?_) fun _ _ x => x
      obtain ⟨z', H', I', rz, qz⟩ := z
      exact SlX.cmpback rz ⟨z', H', I', rz, qz⟩
    rcases hy with ⟨b, dy, gs, rfl, hb'⟩ | ⟨i, rfl⟩
    · cases (show u = Value.ref b from ry)
      obtain ⟨od', J'⟩ := inst_of I hb'
      exact PySem.W.binop_K hF I.ok.mod.kin J J'.type c.sf mf.hs mf.hf fin
    · obtain ⟨t, rfl⟩ := (show ∃ t, u = Value.int i t from ry)
      exact PySem.W.ksp_binT hF I.ok.mod.kin J rfl c.sf mf.hs mf.hf mg.hs (.inr ⟨g, rfl⟩) h1 h2 c.r1 fin
  · cases (show u = Value.ref a from ry)
    obtain ⟨t, rfl⟩ := (show ∃ t, v = Value.int i t from rx)
    obtain ⟨od, J⟩ := inst_of I ha
    obtain ⟨id, slot, dec⟩ := d.run pins σ H s C a dx fs i t I ha
    refine AmL.refl_bin (op := op) I.kIn J rfl (typeIs_int s i t) c.sf mf.hs mg.hs mg.hf h1 h2 c.s1 slot (fun Q' q' => dec _ Q' q') ?_
    refine wpAny_mono (run_fnS (us := [.ref a, .int i t]) (vs := [.ref a, .int i]) G hr hg (hx σ) I (.cons rfl (.cons rx .nil)) q) (fun w s' z => ?_) fun _ _ x => x
    obtain ⟨z', H', I', rz, qz⟩ := z
    exact SlX.cmpback rz ⟨z', H', I', rz, qz⟩
theorem passS0 : ∀ σ, PassesAt CX0 X σ (E σ) := fun _ _ _ _ _ _ _ h => h.elim
end
end Am
namespace Am
open PySem PySem.Spec PyProof.Rows L2
section
variable {X : Cx} {C g : Addr} {k : Nat} {fd : FuncData} {ps : List Str} {sp : Sp}
/-- abs(x), x an instance with an own __abs__ -/
theorem call_absC (m : Om X C "__abs__" g) (F : FnOk X.prog X.w X.K X.mg X.base CX0 k g fd ps sp) (hr : Room (k + 1) X.A) (hb : Binds X.K fd ps []) :
    CallR X (.builtin "abs") (fun xs H Q => ∃ x, xs = [x] ∧ (∃ a dx fs, x = .ref a ∧ H a = some (.ins C dx fs)) ∧ sp [x] H Q E0) := by
  intro pins s σ H xs us Q I r h
  obtain ⟨x, rfl, ⟨a, dx, fs, rfl, ha⟩, q⟩ := h
  obtain ⟨u, rfl, ru⟩ := vals1 r
  cases (show u = Value.ref a from ru)
  obtain ⟨od, J⟩ := inst_of I ha
  refine Calls.call_function_entry kind_abs plain_abs entry_abs (args_abs _) ?_
  unfold Builtin.«abs»
  refine wpAny_bind (m := oneArg "abs" _) (wpAny_pure ?_)
  refine wpAny_bind (m := callSpecial? (.ref a) (Str.ofString "__abs__")) (PySem.W.special_fn I.kIn J m.hs (beq_iff_eq.mp m.hf) (wpAny_mono (run_in1 (us := [.ref a]) (vs := [.ref a]) F hr hb pass0 I (.cons rfl .nil) q) (fun v s' z => ?_) fun _ _ y => y))
  exact wpAny_pure ⟨_, rfl, z⟩
theorem CallR.either {f : Value} {r r' : List V → Hp → VK → Prop} (h : CallR X f r) (h' : CallR X f r') : CallR X f (fun xs H Q => r xs H Q ∨ r' xs H Q) := by
  intro pins s σ H xs us Q I rr q
  rcases q with q | q
  · exact h pins s σ H xs us Q I rr q
  · exact h' pins s σ H xs us Q I rr q
end
end Am
namespace Am
/-! fractions in least terms -/
def gc (n u : Int) : Int := ((Nat.gcd n.natAbs u.natAbs : Nat) : Int)
def sg (n u : Int) : Int := if u < 0 then -gc n u else gc n u
def fr (n u : Int) : Int × Int := (n.fdiv (sg n u), u.fdiv (sg n u))
def Low (n u : Int) : Prop := 0 < u ∧ Nat.gcd n.natAbs u.natAbs = 1

theorem gc_pos {n u : Int} (hu : u ≠ 0) : 0 < gc n u := by
  unfold gc
  have : 0 < Nat.gcd n.natAbs u.natAbs := Nat.gcd_pos_of_pos_right _ (by omega)
  omega
theorem gc_dvd_l (n u : Int) : gc n u ∣ n := by
  unfold gc
  exact Int.ofNat_dvd_left.mpr (Nat.gcd_dvd_left _ _)
theorem gc_dvd_r (n u : Int) : gc n u ∣ u := by
  unfold gc
  exact Int.ofNat_dvd_left.mpr (Nat.gcd_dvd_right _ _)
theorem sg_ne {n u : Int} (hu : u ≠ 0) : sg n u ≠ 0 := by
  have := gc_pos (n := n) hu
  unfold sg
  split <;> omega
theorem sg_dvd_l (n u : Int) : sg n u ∣ n := by
  unfold sg
  split
  · exact Int.neg_dvd.mpr (gc_dvd_l n u)
  · exact gc_dvd_l n u
theorem sg_dvd_r (n u : Int) : sg n u ∣ u := by
  unfold sg
  split
  · exact Int.neg_dvd.mpr (gc_dvd_r n u)
  · exact gc_dvd_r n u
theorem fdiv_mul {a b : Int} (h : b ∣ a) : a.fdiv b * b = a := by
  obtain ⟨c, rfl⟩ := h
  by_cases hb : b = 0
  · subst hb; simp
  · rw [Int.mul_fdiv_cancel_left _ hb, Int.mul_comm]
theorem fr_l {n u : Int} : (fr n u).1 * sg n u = n := fdiv_mul (sg_dvd_l n u)
theorem fr_r {n u : Int} : (fr n u).2 * sg n u = u := fdiv_mul (sg_dvd_r n u)
theorem natAbs_sg (n u : Int) : (sg n u).natAbs = Nat.gcd n.natAbs u.natAbs := by
  unfold sg gc
  split <;> omega
theorem fr_low {n u : Int} (hu : u ≠ 0) : Low (fr n u).1 (fr n u).2 := by
  have hg := gc_pos (n := n) hu
  have h1 := fr_l (n := n) (u := u)
  have h2 := fr_r (n := n) (u := u)
  have a1 : (fr n u).1.natAbs * Nat.gcd n.natAbs u.natAbs = n.natAbs := by
    rw [← natAbs_sg, ← Int.natAbs_mul, h1]
  have a2 : (fr n u).2.natAbs * Nat.gcd n.natAbs u.natAbs = u.natAbs := by
    rw [← natAbs_sg, ← Int.natAbs_mul, h2]
  have gp : 0 < Nat.gcd n.natAbs u.natAbs := Nat.gcd_pos_of_pos_right _ (by omega)
  refine ⟨?_, ?_⟩
  · by_cases c : u < 0
    · have e : sg n u = -gc n u := if_pos c
      rw [e] at h2
      refine Int.lt_of_not_ge fun q => ?_
      have : 0 ≤ (fr n u).2 * -gc n u := by
        have := Int.mul_nonneg (a := -(fr n u).2) (b := gc n u) (by omega) (by omega)
        rw [Int.neg_mul] at this
        rw [Int.mul_neg]
        exact this
      omega
    · have e : sg n u = gc n u := if_neg c
      rw [e] at h2
      refine Int.lt_of_not_ge fun q => ?_
      have : 0 ≤ -((fr n u).2 * gc n u) := by
        have := Int.mul_nonneg (a := -(fr n u).2) (b := gc n u) (by omega) (by omega)
        rw [Int.neg_mul] at this
        exact this
      omega
  · have k : Nat.gcd ((fr n u).1.natAbs * Nat.gcd n.natAbs u.natAbs) ((fr n u).2.natAbs * Nat.gcd n.natAbs u.natAbs) = Nat.gcd n.natAbs u.natAbs := by
      rw [a1, a2]
    rw [Nat.gcd_mul_right] at k
    have k' : Nat.gcd (fr n u).1.natAbs (fr n u).2.natAbs * Nat.gcd n.natAbs u.natAbs = 1 * Nat.gcd n.natAbs u.natAbs := by rw [k, Nat.one_mul]
    exact Nat.eq_of_mul_eq_mul_right gp k'
theorem Low.ne {n u : Int} (h : Low n u) : u ≠ 0 := by have := h.1; omega
theorem low_one (n : Int) : Low n 1 := ⟨by decide, by simp⟩
theorem Low.neg {n u : Int} (h : Low n u) : Low (-n) u := ⟨h.1, by rw [Int.natAbs_neg]; exact h.2⟩
theorem fr_of_low {n u : Int} (h : Low n u) : fr n u = (n, u) := by
  have e : sg n u = 1 := by
    unfold sg gc
    rw [h.2, if_neg (by have := h.1; omega)]
    rfl
  unfold fr
  rw [e, Int.fdiv_one, Int.fdiv_one]
theorem fr_pos_lt {n u : Int} (hu : 0 < u) : decide ((fr n u).1 < 0) = decide (n < 0) := by
  have e : sg n u = gc n u := if_neg (by omega)
  have hg := gc_pos (n := n) (u := u) (by omega)
  have h := fr_l (n := n) (u := u)
  rw [e] at h
  refine decide_eq_decide.mpr ⟨fun q => ?_, fun q => ?_⟩
  · have := Int.mul_neg_of_neg_of_pos q hg
    omega
  · refine Int.lt_of_not_ge fun z => ?_
    have := Int.mul_nonneg z (Int.le_of_lt hg)
    omega
theorem fr_pos_le {n u : Int} (hu : 0 < u) : decide ((fr n u).1 ≤ 0) = decide (n ≤ 0) := by
  have e : sg n u = gc n u := if_neg (by omega)
  have hg := gc_pos (n := n) (u := u) (by omega)
  have h := fr_l (n := n) (u := u)
  rw [e] at h
  refine decide_eq_decide.mpr ⟨fun q => ?_, fun q => ?_⟩
  · have := Int.mul_nonneg (a := -(fr n u).1) (b := gc n u) (by omega) (by omega)
    rw [Int.neg_mul] at this
    omega
  · refine Int.le_of_not_gt fun z => ?_
    have := Int.mul_pos z hg
    omega
theorem le_of_mul {a b c : Nat} (h : a * b = c) (hb : 0 < b) : a ≤ c := by
  rw [← h]
  exact Nat.le_mul_of_pos_right a hb
theorem fr_le1 {n u : Int} (hu : u ≠ 0) : (fr n u).1.natAbs ≤ n.natAbs := by
  have gp : 0 < Nat.gcd n.natAbs u.natAbs := Nat.gcd_pos_of_pos_right _ (by omega)
  exact le_of_mul (b := Nat.gcd n.natAbs u.natAbs) (by rw [← natAbs_sg, ← Int.natAbs_mul, fr_l]) gp
theorem fr_le2 {n u : Int} (hu : u ≠ 0) : (fr n u).2.natAbs ≤ u.natAbs := by
  have gp : 0 < Nat.gcd n.natAbs u.natAbs := Nat.gcd_pos_of_pos_right _ (by omega)
  exact le_of_mul (b := Nat.gcd n.natAbs u.natAbs) (by rw [← natAbs_sg, ← Int.natAbs_mul, fr_r]) gp
theorem sg_le {n u : Int} (hu : u ≠ 0) : (sg n u).natAbs ≤ u.natAbs := by
  rw [natAbs_sg]
  exact Nat.le_of_dvd (by omega) (Nat.gcd_dvd_right _ _)
/-- the law's own fraction: the sign ahead, then // by the greatest divisor -/
theorem law_fr {n u : Int} (hu : u ≠ 0) : fr n u = (((if u > 0 then 1 else -1) * n).fdiv (gc n u), ((if u > 0 then 1 else -1) * u).fdiv (gc n u)) := by
  unfold fr sg
  by_cases c : u < 0
  · rw [if_pos c, if_neg (by omega)]
    have e : ∀ x : Int, x.fdiv (-gc n u) = (-1 * x).fdiv (gc n u) := fun x => by
      have := Int.neg_fdiv_neg (-x) (gc n u)
      rw [Int.neg_neg] at this
      rw [this]
      congr 1
      omega
    rw [e, e]
  · rw [if_neg c, if_pos (by omega), Int.one_mul, Int.one_mul]
end Am
/-! texts as lists of signs: one sign found, cut at, parted at -/
namespace SL
open PySem PySem.StrLaws PySem.Builtin PySem.Builtin.Str
abbrev ofL (l : List Nat) : Str := ⟨l.toArray⟩
theorem ofL_toList (x : Str) : ofL x.cps.toList = x := by cases x; simp [ofL]
theorem toList_ofL (l : List Nat) : (ofL l).cps.toList = l := by simp [ofL]
theorem len_toList (x : Str) : x.cps.toList.length = x.length := Array.length_toList
theorem ext {x y : Str} (h : x.cps.toList = y.cps.toList) : x = y := by rw [← ofL_toList x, ← ofL_toList y, h]
/-- where the sign stands -/
def idxs (c : Nat) : List Nat → Nat → List Nat
  | [], _ => []
  | y :: ys, k => if y = c then k :: idxs c ys (k + 1) else idxs c ys (k + 1)
theorem occ_run (x : Str) (c limit : Nat) : ∀ (m : List Nat) (i : Nat) (acc : Array Nat) (free : Nat), x.cps.toList.drop i = m → i + m.length = x.length → acc.size ≤ limit → free ≤ i →
    (forIn (List.range' i (m.length + 1)) (acc, free) (occBody x ⟨#[c]⟩ x.length limit)).run.fst.toList = acc.toList ++ (idxs c m i).take (limit - acc.size)
  | [], i, acc, free, hd, hl, hs, hf => by
    have hl' : i = x.length := by simpa using hl
    subst hl'
    rw [show List.range' x.length (([] : List Nat).length + 1) = [x.length] from rfl, List.forIn_cons]
    unfold occBody
    rw [if_neg (by rintro ⟨⟨_, h⟩, _⟩; have : (⟨#[c]⟩ : Str).length = 1 := rfl; omega)]
    simp [idxs]
  | y :: m, i, acc, free, hd, hl, hs, hf => by
    have hi : x.cps.toList[i]? = some y := by
      have e := congrArg (·[0]?) hd
      simpa using e
    have hd' : x.cps.toList.drop (i + 1) = m := by
      have e := congrArg List.tail hd
      simpa using e
    have hl' : (i + 1) + m.length = x.length := by simp only [List.length_cons] at hl; omega
    rw [List.length_cons, List.range'_succ, List.forIn_cons]
    unfold occBody
    by_cases hc : y = c
    · subst hc
      have hat := (subAt_one x y i).mpr hi
      by_cases hlt : acc.size < limit
      · rw [if_pos ⟨⟨⟨hlt, hf⟩, hat.1⟩, hat.2⟩]
        have ih := occ_run x y limit m (i + 1) (acc.push i) (i + (⟨#[y]⟩ : Str).length) hd' hl' (by rw [Array.size_push]; omega) (Nat.le_refl _)
        refine Eq.trans ih ?_
        have e : limit - acc.size = (limit - (acc.push i).size) + 1 := by rw [Array.size_push]; omega
        rw [e]
        simp [idxs]
      · rw [if_neg (by rintro ⟨⟨⟨h, _⟩, _⟩, _⟩; exact hlt h)]
        have ih := occ_run x y limit m (i + 1) acc free hd' hl' hs (by omega)
        refine Eq.trans ih ?_
        have e : limit - acc.size = 0 := by omega
        rw [e]
        simp
    · rw [if_neg (by rintro ⟨⟨_, h1⟩, h2⟩; have h3 := (subAt_one x c i).mp ⟨h1, h2⟩; rw [hi] at h3; exact hc (Option.some.inj h3))]
      have ih := occ_run x c limit m (i + 1) acc free hd' hl' hs (by omega)
      refine Eq.trans ih ?_
      simp [idxs, hc]
theorem occ_sign (x : Str) (c limit : Nat) : occurrences x ⟨#[c]⟩ 0 x.length limit = (idxs c x.cps.toList 0).take limit := by
  rw [occ_eq]
  have h := occ_run x c limit x.cps.toList 0 #[] 0 (by simp) (by rw [len_toList]; omega) (Nat.zero_le _) (Nat.le_refl _)
  have e : x.length + 1 - 0 = x.cps.toList.length + 1 := by rw [len_toList]; omega
  rw [e, h]
  simp
theorem idxs_len (c : Nat) : ∀ (m : List Nat) (k : Nat), (idxs c m k).length ≤ m.length
  | [], _ => Nat.le_refl _
  | y :: m, k => by
    have := idxs_len c m (k + 1)
    unfold idxs
    split <;> simp <;> omega
theorem idxs_none {c : Nat} : ∀ {m : List Nat} {k : Nat}, c ∉ m → idxs c m k = []
  | [], _, _ => rfl
  | y :: m, k, h => by
    unfold idxs
    rw [if_neg (fun e => h (by rw [e]; exact List.mem_cons_self ..))]
    exact idxs_none (fun z => h (List.mem_cons_of_mem _ z))
theorem idxs_app {c : Nat} {r : List Nat} : ∀ {p : List Nat} {k : Nat}, c ∉ p → idxs c (p ++ c :: r) k = (k + p.length) :: idxs c r (k + p.length + 1)
  | [], k, _ => by simp [idxs]
  | y :: p, k, h => by
    have ih := idxs_app (r := r) (k := k + 1) (fun z => h (List.mem_cons_of_mem _ z) : c ∉ p)
    rw [List.cons_append, idxs, if_neg (fun e => h (by rw [e]; exact List.mem_cons_self ..)), ih, List.length_cons]
    rw [show k + 1 + p.length = k + (p.length + 1) by omega]
/-- the list cut at each c -/
def cutAt (c : Nat) : List Nat → List (List Nat)
  | [] => [[]]
  | y :: ys => if y = c then [] :: cutAt c ys else match cutAt c ys with
    | [] => [[y]]
    | w :: ws => (y :: w) :: ws
theorem cut_ne (c : Nat) (l : List Nat) : cutAt c l ≠ [] := by
  cases l with
  | nil => simp [cutAt]
  | cons y ys =>
    unfold cutAt
    split
    · simp
    · split <;> simp
theorem cut_none {c : Nat} : ∀ {l : List Nat}, c ∉ l → cutAt c l = [l]
  | [], _ => rfl
  | y :: ys, h => by
    unfold cutAt
    rw [if_neg (fun e => h (by rw [e]; exact List.mem_cons_self ..)), cut_none (fun z => h (List.mem_cons_of_mem _ z))]
theorem cut_app {c : Nat} {r : List Nat} : ∀ {p : List Nat}, c ∉ p → cutAt c (p ++ c :: r) = p :: cutAt c r
  | [], _ => by simp [cutAt]
  | y :: p, h => by
    have ih := cut_app (r := r) (fun z => h (List.mem_cons_of_mem _ z) : c ∉ p)
    rw [List.cons_append, cutAt, if_neg (fun e => h (by rw [e]; exact List.mem_cons_self ..)), ih]
theorem first_c {c : Nat} : ∀ {l : List Nat}, c ∈ l → ∃ p r, l = p ++ c :: r ∧ c ∉ p
  | [], h => by cases h
  | y :: ys, h => by
    by_cases e : y = c
    · exact ⟨[], ys, by rw [e]; rfl, by simp⟩
    · rcases List.mem_cons.mp h with z | z
      · exact (e z.symm).elim
      · obtain ⟨p, r, h1, h2⟩ := first_c z
        refine ⟨y :: p, r, by rw [h1]; rfl, ?_⟩
        intro z
        rcases List.mem_cons.mp z with z | z
        · exact e z.symm
        · exact h2 z
theorem sub_ofL (x : Str) (a b : Nat) : strSub x a b = ofL ((x.cps.toList.drop a).take (b - a)) := ext (by rw [strSub_toList, toList_ofL])
theorem parts_eq (x : Str) (c : Nat) : ∀ (n : Nat) (m : List Nat) (a : Nat), m.length ≤ n → x.cps.toList.drop a = m → a + m.length = x.length →
    ((a :: (idxs c m a).map (· + 1)).zip (idxs c m a ++ [x.length])).map (fun p => strSub x p.1 p.2) = (cutAt c m).map ofL := by
  intro n
  induction n with
  | zero =>
    intro m a hn hd hl
    have e : m = [] := List.eq_nil_of_length_eq_zero (by omega)
    subst e
    simp [idxs, cutAt, sub_ofL, hd]
  | succ n ih =>
    intro m a hn hd hl
    by_cases hc : c ∈ m
    · obtain ⟨p, r, e, hp⟩ := first_c hc
      subst e
      have hl2 : a + (p.length + (r.length + 1)) = x.length := by simpa using hl
      have hd2 : x.cps.toList.drop (a + p.length + 1) = r := by
        have e : x.cps.toList.drop (a + p.length + 1) = (x.cps.toList.drop a).drop (p.length + 1) := by rw [List.drop_drop]; congr 1
        rw [e, hd]
        simp
      rw [idxs_app hp, cut_app hp]
      have h := ih r (a + p.length + 1) (by simp only [List.length_append, List.length_cons] at hn; omega) hd2 (by omega)
      show strSub x a (a + p.length) :: List.map (fun p => strSub x p.1 p.2) (((a + p.length + 1) :: (idxs c r (a + p.length + 1)).map (· + 1)).zip (idxs c r (a + p.length + 1) ++ [x.length])) = ofL p :: (cutAt c r).map ofL
      rw [h, sub_ofL, hd]
      have e : a + p.length - a = p.length := by omega
      rw [e]
      simp
    · rw [idxs_none hc, cut_none hc]
      show [strSub x a x.length] = [ofL m]
      rw [sub_ofL, hd]
      have e : x.length - a = m.length := by omega
      rw [e]
      simp
theorem split_sign (x : Str) (c : Nat) (h0 : x.length ≠ 0 → strKind x ≥ strKind ⟨#[c]⟩) : Txt.split x ⟨#[c]⟩ = (cutAt c x.cps.toList).map ofL := by
  unfold Txt.split
  have l1 : (⟨#[c]⟩ : Str).length = 1 := rfl
  rw [occ_sign, l1]
  by_cases hx : x.length = 0
  · have e : x.cps.toList = [] := List.eq_nil_of_length_eq_zero (by rw [len_toList]; exact hx)
    have hlt : (decide (x.length < 1) || decide (strKind x < strKind ⟨#[c]⟩)) = true := by rw [hx]; simp
    rw [if_pos hlt, e]
    show [x] = [ofL []]
    rw [← e, ofL_toList]
  · have hlt : ¬ (decide (x.length < 1) || decide (strKind x < strKind ⟨#[c]⟩)) = true := by
      have := h0 hx
      simp only [Bool.or_eq_true, decide_eq_true_eq]
      omega
    rw [if_neg hlt]
    have hlen : (idxs c x.cps.toList 0).take (x.length + 1) = idxs c x.cps.toList 0 := by
      refine List.take_of_length_le ?_
      have := idxs_len c x.cps.toList 0
      rw [len_toList] at this
      omega
    rw [hlen]
    have key := parts_eq x c x.cps.toList.length x.cps.toList 0 (Nat.le_refl _) (by simp) (by rw [len_toList]; omega)
    by_cases hem : (idxs c x.cps.toList 0).isEmpty = true
    · rw [if_pos hem]
      have e : idxs c x.cps.toList 0 = [] := List.isEmpty_iff.mp hem
      rw [e] at key
      rw [← key]
      show [x] = [strSub x 0 x.length]
      rw [sub_ofL]
      have e2 : (x.cps.toList.drop 0).take (x.length - 0) = x.cps.toList := by
        rw [List.drop_zero]
        exact List.take_of_length_le (by rw [len_toList]; omega)
      rw [e2, ofL_toList]
    · rw [if_neg hem, ← key]
      rfl
theorem part_sign (x : Str) (c : Nat) (p r : List Nat) (h : x.cps.toList = p ++ c :: r) (hp : c ∉ p) : Txt.partition x ⟨#[c]⟩ = (ofL p, ⟨#[c]⟩, ofL r) := by
  unfold Txt.partition
  rw [occ_sign, h, idxs_app hp]
  show (strSub x 0 (0 + p.length), (⟨#[c]⟩ : Str), strSub x (0 + p.length + 1) x.length) = _
  rw [sub_ofL, sub_ofL, h]
  have l : x.length = p.length + (r.length + 1) := by rw [← len_toList, h]; simp
  congr 1
  · simp
  · congr 1
    rw [l]
    have e : (p ++ c :: r).drop (0 + p.length + 1) = r := by
      have e : (0 + p.length + 1) = p.length + 1 := by omega
      rw [e]
      simp
    rw [e]
    congr 2
    refine List.take_of_length_le ?_
    omega
theorem part_none (x : Str) (c : Nat) (h : c ∉ x.cps.toList) : Txt.partition x ⟨#[c]⟩ = (x, Str.empty, Str.empty) := by
  unfold Txt.partition
  rw [occ_sign, idxs_none h]
  rfl
end SL
/-! texts of amounts: what is read, and what is written -/
namespace Mt
open PySem PySem.NumText SL
/-- the figures of a number -/
def dg (m : Nat) : List Nat := (Nat.toDigits 10 m).map Char.toNat
theorem dg_str (m : Nat) : (Str.ofString (toString ((m : Nat) : Int))).cps.toList = dg m := PySem.W.KIN.signs_num m
theorem dg_val (m : Nat) : digitsVal (dg m) = m := PySem.W.KIN.val_back m
theorem dg_all (m : Nat) : AllDigits (dg m) := by
  intro c hc
  obtain ⟨ch, hch, e⟩ := List.mem_map.mp hc
  have r := PyProof.Rows.digit_range (Nat.isDigit_of_mem_toDigits (by decide) (by decide) hch)
  rw [← e]
  exact r
theorem dg_lt {d : Nat} (h : d < 10) : dg d = [48 + d] := by
  have e := Nat.toDigits_of_lt_base (b := 10) h
  unfold dg
  rw [e]
  match d, h with
  | 0, _ | 1, _ | 2, _ | 3, _ | 4, _ | 5, _ | 6, _ | 7, _ | 8, _ | 9, _ => rfl
theorem dg_step {m d : Nat} (hm : 0 < m) (hd : d < 10) : dg (10 * m + d) = dg m ++ [48 + d] := by
  rw [← dg_lt hd]
  unfold dg
  rw [← List.map_append, Nat.toDigits_append_toDigits (by decide) hm hd]
theorem dg_ne (m : Nat) : dg m ≠ [] := by
  by_cases h : m < 10
  · rw [dg_lt h]; simp
  · have e : m = 10 * (m / 10) + m % 10 := by omega
    rw [e, dg_step (by omega) (by omega)]
    simp
/-- zeros ahead, to k signs -/
def zpad (k : Nat) (l : List Nat) : List Nat := List.replicate (k - l.length) 48 ++ l
theorem dg_len : ∀ (k m : Nat), m < 10 ^ (k + 1) → (dg m).length ≤ k + 1
  | 0, m, h => by rw [dg_lt (by simpa using h)]; simp
  | k + 1, m, h => by
    by_cases c : m < 10
    · rw [dg_lt c]; simp
    · have e : m = 10 * (m / 10) + m % 10 := by omega
      have h2 : m / 10 < 10 ^ (k + 1) := by rw [Nat.pow_succ] at h; omega
      have := dg_len k (m / 10) h2
      rw [e, dg_step (by omega) (by omega)]
      simp only [List.length_append, List.length_cons, List.length_nil]
      omega
theorem dg_block {q : Nat} (hq : 0 < q) : ∀ (k b : Nat), b < 10 ^ (k + 1) → dg (q * 10 ^ (k + 1) + b) = dg q ++ zpad (k + 1) (dg b)
  | 0, b, h => by
    have hb : b < 10 := by simpa using h
    have e : q * 10 ^ (0 + 1) + b = 10 * q + b := by rw [show 10 ^ (0 + 1) = 10 from rfl]; omega
    rw [e, dg_step hq hb, dg_lt hb]
    rfl
  | k + 1, b, h => by
    have hd : b % 10 < 10 := by omega
    have hb : b / 10 < 10 ^ (k + 1) := by rw [Nat.pow_succ] at h; omega
    have e : q * 10 ^ (k + 1 + 1) + b = 10 * (q * 10 ^ (k + 1) + b / 10) + b % 10 := by rw [Nat.pow_succ 10 (k + 1), ← Nat.mul_assoc]; omega
    have pos : 0 < q * 10 ^ (k + 1) + b / 10 := Nat.lt_of_lt_of_le (Nat.mul_pos hq (Nat.pow_pos (by decide))) (Nat.le_add_right _ _)
    rw [e, dg_step pos hd, dg_block hq k (b / 10) hb, List.append_assoc]
    congr 1
    by_cases z : b < 10
    · have e0 : b / 10 = 0 := by omega
      have e1 : b % 10 = b := by omega
      rw [e0, e1, dg_lt z, dg_lt (by decide : 0 < 10)]
      unfold zpad
      show List.replicate (k + 1 - 1) 48 ++ [48] ++ [48 + b] = List.replicate (k + 1 + 1 - 1) 48 ++ [48 + b]
      rw [show k + 1 - 1 = k from rfl, show k + 1 + 1 - 1 = k + 1 from rfl, List.replicate_succ']
    · have e2 : b = 10 * (b / 10) + b % 10 := by omega
      have e3 : dg b = dg (b / 10) ++ [48 + b % 10] := by rw [e2, dg_step (by omega) (by omega)]; congr 2 <;> omega
      have l3 := dg_len k (b / 10) hb
      rw [e3]
      unfold zpad
      rw [List.length_append, List.length_cons, List.length_nil, List.append_assoc]
      congr 2
      omega
theorem fold_lt : ∀ (cs : List Nat) (a : Nat), AllDigits cs → cs.foldl (fun acc c => acc * 10 + (c - 48)) a < (a + 1) * 10 ^ cs.length
  | [], a, _ => by simp
  | c :: cs, a, h => by
    have ih := fold_lt cs (a * 10 + (c - 48)) h.tail
    have hc := h.head
    rw [List.length_cons, Nat.pow_succ, Nat.mul_comm (10 ^ cs.length) 10, ← Nat.mul_assoc]
    exact Nat.lt_of_lt_of_le ih (Nat.mul_le_mul_right _ (by omega))
theorem val_lt {cs : List Nat} (h : AllDigits cs) : digitsVal cs < 10 ^ cs.length := by
  have := fold_lt cs 0 h
  simpa [digitsVal] using this
def digB (c : Nat) : Bool := decide (48 ≤ c ∧ c ≤ 57)
/-- the number that a word writes; -1 if it writes none -/
def num (l : List Nat) : Int := if (!l.isEmpty && l.all digB) = true then (if (l.head? = some 48 ∧ l ≠ [48]) then -1 else (digitsVal l : Int)) else -1
theorem all_dig {l : List Nat} (h : l.all digB = true) : AllDigits l := fun c hc => by
  have := List.all_eq_true.mp h c hc
  exact of_decide_eq_true this
theorem num_lt {l : List Nat} {k : Nat} (h : l.length ≤ k) : (num l).natAbs < 10 ^ k ∨ num l = -1 := by
  unfold num
  split
  · rename_i c
    rw [Bool.and_eq_true] at c
    split
    · exact .inr rfl
    · exact .inl (Nat.lt_of_lt_of_le (val_lt (all_dig c.2)) (Nat.pow_le_pow_right (by decide) h))
  · exact .inr rfl
theorem num_ge (l : List Nat) : -1 ≤ num l := by
  unfold num
  split
  · split
    · omega
    · omega
  · omega
theorem num_not {l : List Nat} {c : Nat} (h : c ∈ l) (hc : digB c = false) : num l = -1 := by
  unfold num
  rw [if_neg]
  intro z
  rw [Bool.and_eq_true] at z
  have := List.all_eq_true.mp z.2 c h
  rw [hc] at this
  cases this
theorem num_dg (m : Nat) : num (dg m) = m := by
  have h : (!(dg m).isEmpty && (dg m).all digB) = true := by
    rw [Bool.and_eq_true]
    refine ⟨?_, List.all_eq_true.mpr fun c hc => decide_eq_true (dg_all m c hc)⟩
    have := dg_ne m
    cases e : dg m with
    | nil => exact absurd e this
    | cons a r => rfl
  unfold num
  rw [if_pos h, if_neg, dg_val]
  rintro ⟨h1, h2⟩
  by_cases z : m < 10
  · rw [dg_lt z] at h1 h2
    have e : 48 + m = 48 := by simpa using h1
    exact h2 (by rw [e])
  · -- the first figure is no nought
    have key : ∀ n, 0 < n → (dg n).head? ≠ some 48 := by
      intro n
      induction n using Nat.strongRecOn with
      | _ n ih =>
        intro hn
        by_cases z : n < 10
        · rw [dg_lt z]
          simp
          omega
        · have e : n = 10 * (n / 10) + n % 10 := by omega
          rw [e, dg_step (by omega) (by omega), List.head?_append]
          have := ih (n / 10) (by omega) (by omega)
          cases q : (dg (n / 10)).head? with
          | none => exact absurd (List.head?_eq_none_iff.mp q) (dg_ne _)
          | some v => rw [q] at this; simpa using this
    exact key m (by omega) h1
/-- the sign ahead left out -/
def bare (l : List Nat) : List Nat := if l.head? = some 45 then l.tail else l
def sgn (l : List Nat) : Bool := decide (l.head? = some 45)
/-- the text of a whole number -/
def intL (n : Int) : List Nat := (Str.ofString (toString n)).cps.toList
def textT (n u : Int) : Str := Str.ofString (toString n) ++ (if u = 1 then ("" : Str) else ("/" : Str) ++ Str.ofString (toString u))
def fin (neg : Bool) (number under : Int) (x : Str) : Option (Int × Int) := if textT (Am.fr (if neg then -number else number) under).1 (Am.fr (if neg then -number else number) under).2 = x then some (Am.fr (if neg then -number else number) under) else none
def readB (x : Str) (l : List Nat) (top : List Nat) (under : Int) : Option (Int × Int) := if num (bare top) < 0 ∨ under < 1 then none else fin (sgn l) (num (bare top)) under x
/-- what the text is read as -/
def readT (x : Str) : Option (Int × Int) :=
  if 47 ∈ x.cps.toList then readB x x.cps.toList (x.cps.toList.takeWhile (fun c => decide (c ≠ 47))) (num (x.cps.toList.dropWhile (fun c => decide (c ≠ 47))).tail)
  else readB x x.cps.toList x.cps.toList 1
theorem intL_pos {n : Int} (h : 0 ≤ n) : intL n = dg n.natAbs := by
  obtain ⟨m, rfl⟩ := Int.eq_ofNat_of_zero_le h
  exact dg_str m
theorem intL_neg {n : Int} (h : n < 0) : intL n = 45 :: dg n.natAbs := by
  unfold intL
  rw [PyProof.Rows.toString_neg h, Int.zero_sub]
  have e : ∀ a b : String, (Str.ofString (a ++ b)).cps.toList = (Str.ofString a).cps.toList ++ (Str.ofString b).cps.toList := fun a b => by
    rw [Str.ofString_eq_toList, Str.ofString_eq_toList, Str.ofString_eq_toList]
    simp
  rw [e]
  have e2 : (Str.ofString (toString (-n))).cps.toList = dg n.natAbs := by
    have z := intL_pos (n := -n) (by omega)
    unfold intL at z
    rw [z, Int.natAbs_neg]
  rw [e2]
  rfl
theorem not_dig {c : Nat} (h : digB c = false) (m : Nat) : c ∉ dg m := fun z => by
  have := dg_all m c z
  unfold digB at h
  rw [decide_eq_true this] at h
  cases h
theorem dg_head {m : Nat} : (dg m).head? ≠ some 45 := by
  intro z
  have : 45 ∈ dg m := List.mem_of_head? z
  exact not_dig (by decide) m this
theorem bare_int (n : Int) : bare (intL n) = dg n.natAbs ∧ sgn (intL n) = decide (n < 0) := by
  by_cases c : n < 0
  · rw [intL_neg c]
    refine ⟨rfl, ?_⟩
    rw [decide_eq_true c]
    rfl
  · rw [intL_pos (by omega)]
    unfold bare sgn
    rw [if_neg dg_head, decide_eq_false c, decide_eq_false dg_head]
    exact ⟨rfl, rfl⟩
theorem no_slash (n : Int) : 47 ∉ intL n := by
  by_cases c : n < 0
  · rw [intL_neg c]
    intro z
    rcases List.mem_cons.mp z with z | z
    · cases z
    · exact not_dig (by decide) _ z
  · rw [intL_pos (by omega)]
    exact not_dig (by decide) _
theorem textT_L (n u : Int) : (textT n u).cps.toList = intL n ++ (if u = 1 then [] else 47 :: intL u) := by
  unfold textT
  rw [Str.cps_append]
  by_cases c : u = 1
  · rw [if_pos c, if_pos c]
    show ((Str.ofString (toString n)).cps ++ #[]).toList = _
    simp [intL]
  · rw [if_neg c, if_neg c, Str.cps_append]
    show ((Str.ofString (toString n)).cps ++ (#[47] ++ (Str.ofString (toString u)).cps)).toList = _
    simp [intL]
theorem take_ne {p r : List Nat} (hp : 47 ∉ p) : (p ++ 47 :: r).takeWhile (fun c => decide (c ≠ 47)) = p ∧ ((p ++ 47 :: r).dropWhile (fun c => decide (c ≠ 47))).tail = r := by
  induction p with
  | nil => simp
  | cons y p ih =>
    have hy : y ≠ 47 := fun e => hp (by rw [e]; exact List.mem_cons_self ..)
    obtain ⟨h1, h2⟩ := ih (fun z => hp (List.mem_cons_of_mem _ z))
    constructor
    · rw [List.cons_append, List.takeWhile_cons, if_pos (decide_eq_true hy), h1]
    · rw [List.cons_append, List.dropWhile_cons, if_pos (decide_eq_true hy), h2]
theorem readT_no {x : Str} (h : 47 ∉ x.cps.toList) : readT x = readB x x.cps.toList x.cps.toList 1 := if_neg h
theorem readT_yes {x : Str} {p r : List Nat} (h : x.cps.toList = p ++ 47 :: r) (hp : 47 ∉ p) : readT x = readB x x.cps.toList p (num r) := by
  unfold readT
  rw [if_pos (by rw [h]; simp), h, (take_ne hp).1, (take_ne hp).2]
theorem sgn_app {p r : List Nat} : sgn (p ++ 47 :: r) = sgn p := by
  cases p with
  | nil => rfl
  | cons y p => rfl
theorem bare_app {p r : List Nat} : bare (p ++ 47 :: r) = bare p ++ 47 :: r := by
  cases p with
  | nil => rfl
  | cons y p =>
    unfold bare
    by_cases c : y = 45
    · rw [if_pos (by rw [c]; rfl), if_pos (by rw [c]; rfl)]
      rfl
    · rw [if_neg (by show ¬ some y = some 45; simpa using c), if_neg (by show ¬ some y = some 45; simpa using c)]
theorem bare_mem {p : List Nat} {c : Nat} (h : c ∈ bare p) : c ∈ p := by
  unfold bare at h
  split at h
  · exact List.mem_of_mem_tail h
  · exact h
theorem bare_len (p : List Nat) : (bare p).length ≤ p.length := by
  unfold bare
  split
  · simp
  · exact Nat.le_refl _
/-- a text that was written is read -/
theorem read_written {n u : Int} (h : Am.Low n u) : readT (textT n u) = some (n, u) := by
  have hL := textT_L n u
  obtain ⟨b1, b2⟩ := bare_int n
  have abs : (if decide (n < 0) = true then -(n.natAbs : Int) else (n.natAbs : Int)) = n := by
    by_cases c : n < 0
    · rw [if_pos (decide_eq_true c)]; omega
    · rw [if_neg (by simpa using c)]; omega
  by_cases c : u = 1
  · subst c
    rw [if_pos rfl, List.append_nil] at hL
    rw [readT_no (by rw [hL]; exact no_slash n)]
    unfold readB
    rw [hL, b1, b2, num_dg, if_neg (by omega)]
    unfold fin
    rw [abs, Am.fr_of_low h, if_pos rfl]
  · rw [if_neg c] at hL
    have hu := h.1
    rw [readT_yes hL (no_slash n)]
    have e : num (intL u) = u := by rw [intL_pos (by omega), num_dg]; omega
    unfold readB
    rw [hL, sgn_app, b1, b2, num_dg, e, if_neg (by omega)]
    unfold fin
    rw [abs, Am.fr_of_low h, if_pos rfl]
/-- the law's own words for the same -/
theorem due_eq (x : Str) : (if (cutAt 47 (bare x.cps.toList)).length > 2 ∨ num ((cutAt 47 (bare x.cps.toList)).headD []) < 0 ∨ (if (cutAt 47 (bare x.cps.toList)).length = 2 then num ((cutAt 47 (bare x.cps.toList)).getLastD []) else 1) < 1 then none
    else fin (sgn x.cps.toList) (num ((cutAt 47 (bare x.cps.toList)).headD [])) (if (cutAt 47 (bare x.cps.toList)).length = 2 then num ((cutAt 47 (bare x.cps.toList)).getLastD []) else 1) x) = readT x := by
  by_cases h : 47 ∈ x.cps.toList
  · obtain ⟨p, r, e, hp⟩ := first_c h
    rw [readT_yes e hp]
    have hb : 47 ∉ bare p := fun z => hp (bare_mem z)
    rw [e, bare_app, sgn_app, cut_app hb]
    by_cases h2 : 47 ∈ r
    · obtain ⟨p2, r2, e2, hp2⟩ := first_c h2
      have l : (bare p :: cutAt 47 r).length > 2 := by
        rw [e2, cut_app hp2]
        have := cut_ne 47 r2
        have : 0 < (cutAt 47 r2).length := List.length_pos_iff.mpr this
        simp only [List.length_cons]
        omega
      rw [if_pos (.inl l)]
      unfold readB
      rw [num_not h2 (by decide), if_pos (.inr (by decide))]
    · rw [cut_none h2]
      have l : ([bare p, r] : List (List Nat)).length = 2 := rfl
      have hd : ([bare p, r] : List (List Nat)).headD [] = bare p := rfl
      have hl : ([bare p, r] : List (List Nat)).getLastD [] = r := rfl
      rw [if_pos l, hd, hl]
      unfold readB
      rw [sgn_app]
      by_cases z : num (bare p) < 0 ∨ num r < 1
      · rw [if_pos z, if_pos (.inr z)]
      · rw [if_neg z, if_neg (by
          rintro (y | y)
          · rw [l] at y; omega
          · exact z y)]
  · rw [readT_no h]
    have hb : 47 ∉ bare x.cps.toList := fun z => h (bare_mem z)
    rw [cut_none hb]
    have l1 : ¬ ([bare x.cps.toList] : List (List Nat)).length = 2 := by simp
    have hd : ([bare x.cps.toList] : List (List Nat)).headD [] = bare x.cps.toList := rfl
    rw [if_neg l1, hd]
    unfold readB
    by_cases z : num (bare x.cps.toList) < 0
    · rw [if_pos (.inr (.inl z)), if_pos (.inl z)]
    · have l3 : ([bare x.cps.toList] : List (List Nat)).length = 1 := rfl
      rw [if_neg (by rw [l3]; omega), if_neg (by omega)]
end Mt
namespace Am
open PySem PySem.Spec PyProof.Rows L2
def top (i : Nat) : Stmt := PySem.Challenge.pw_whoseuse_k04_texts_of_amounts.main.body.getD i (.Pass ⟨0, 0, 0, 0⟩)
abbrev sWhole : Stmt := top 7
abbrev sInit : Stmt := inClass (top 12) 0
abbrev sEq : Stmt := inClass (top 12) 4
abbrev sLt : Stmt := inClass (top 12) 5
abbrev sLe : Stmt := inClass (top 12) 6
abbrev sGt : Stmt := inClass (top 12) 7
abbrev sGe : Stmt := inClass (top 12) 8
abbrev sNeg : Stmt := inClass (top 12) 9
abbrev sAdd : Stmt := inClass (top 12) 11
abbrev sSub : Stmt := inClass (top 12) 13
abbrev sIsAm : Stmt := top 13
abbrev sParts : Stmt := top 14

/-! ### data -/
def pf (n u : Int) : List (Str × V) := putF "under" (.int u) (putF "number" (.int n) [])
theorem nu_ : ¬ (("number" : Str) = "under") := by decide +kernel
theorem un_ : ¬ (("under" : Str) = "number") := by decide +kernel
theorem pf_number (n u : Int) : (pf n u).lookup ("number" : Str) = some (.int n) := by
  unfold pf
  rw [lookup_putF, if_neg nu_, lookup_putF, if_pos rfl]
theorem pf_under (n u : Int) : (pf n u).lookup ("under" : Str) = some (.int u) := by
  unfold pf
  rw [lookup_putF, if_pos rfl]
/-- an Amount in least terms -/
def AmAt (C : Addr) (H : Hp) (v : V) (n u : Int) : Prop := Low n u ∧ ∃ a dx, v = .ref a ∧ H a = some (.ins C dx (pf n u))
/-- an Amount or an integer -/
def AmV (C : Addr) (H : Hp) (v : V) (n u : Int) : Prop := AmAt C H v n u ∨ (v = .int n ∧ u = 1)
theorem AmAt.same {C : Addr} {H H' : Hp} {v : V} {n u : Int} (e : Same H H') (h : AmAt C H v n u) : AmAt C H' v n u := by
  obtain ⟨l, a, dx, rfl, h⟩ := h
  exact ⟨l, a, dx, rfl, e _ _ h⟩
theorem AmV.same {C : Addr} {H H' : Hp} {v : V} {n u : Int} (e : Same H H') (h : AmV C H v n u) : AmV C H' v n u := h.elim (fun h => .inl (h.same e)) .inr
theorem AmAt.low {C : Addr} {H : Hp} {v : V} {n u : Int} (h : AmAt C H v n u) : Low n u := h.1
theorem AmV.low {C : Addr} {H : Hp} {v : V} {n u : Int} (h : AmV C H v n u) : Low n u := h.elim (fun h => h.1) fun ⟨_, e⟩ => by rw [e]; exact low_one n
theorem AmAt.inst {C : Addr} {H : Hp} {v : V} {n u : Int} (h : AmAt C H v n u) : ∃ a dx fs, v = .ref a ∧ H a = some (.ins C dx fs) := by
  obtain ⟨l, a, dx, rfl, h⟩ := h
  exact ⟨a, dx, _, rfl, h⟩
theorem AmV.orB {C : Addr} {H : Hp} {v : V} {n u : Int} (h : AmV C H v n u) : OrB C H v := by
  rcases h with h | ⟨rfl, _⟩
  · obtain ⟨a, dx, fs, rfl, ha⟩ := h.inst
    exact .inl ⟨a, dx, fs, rfl, ha⟩
  · exact .inr ⟨_, .int n⟩
theorem AmV.orI {C : Addr} {H : Hp} {v : V} {n u : Int} (h : AmV C H v n u) : OrI C H v := by
  rcases h with h | ⟨rfl, _⟩
  · obtain ⟨a, dx, fs, rfl, ha⟩ := h.inst
    exact .inl ⟨a, dx, fs, rfl, ha⟩
  · exact .inr ⟨n, rfl⟩
def Bd (k : Nat) (n : Int) : Prop := n.natAbs < 2 ^ k
theorem same_upd {H : Hp} {p : Addr} {o : HO} (h : H p = none) : Same H (upd H p o) := fun b u e => by rw [upd_ne (ne_of_none e h)]; exact e

/-! ### facts of the text -/
structure Txt (K : PySem.W.Frag) (mg : Str → Option Value) (C : Addr) : Prop where
  cl : Cls K C
  op : OpC K C
  ca : PySem.W.findIn K (.ref C) "__class__" = some (some (.builtin "object.__class__"))
  cn : PySem.W.specialIn K (.builtin "object.__class__") "__get__" = some (some (.builtin "getset_descriptor.__get__"))
  ct : PySem.W.takesIn K (.builtin "object.__class__") = some true
  kC : PySem.W.kitOne K (.ref C) (.ref C) = some true
  kI : PySem.W.kitOne K (.ref C) (.type "int") = some false
  k1 : PySem.W.kitOne K (.type "int") (.ref C) = some false
  k2 : PySem.W.kitOne K (.type "bool") (.ref C) = some false
  k3 : PySem.W.kitOne K (.type "NoneType") (.ref C) = some false
  k4 : PySem.W.kitOne K (.type "str") (.ref C) = some false
  k5 : PySem.W.kitOne K (.type "list") (.ref C) = some false
  k6 : PySem.W.kitOne K (.type "tuple") (.ref C) = some false
  k7 : PySem.W.kitOne K (.type "dict") (.ref C) = some false
  nN : NoAttr K C "number"
  nU : NoAttr K C "under"
  mgC : mg "Amount" = some (.ref C)
  isi : mg "isinstance" = none
  int : mg "int" = none
  bool : mg "bool" = none
  gcd : mg "gcd" = some (.builtin "math.gcd")
theorem Txt.kOf {K : PySem.W.Frag} {mg : Str → Option Value} {C : Addr} {H : Hp} {x : V} {T : String} (t : Txt K mg C) (b : Bk H x T) : PySem.W.kitOne K (.type T) (.ref C) = some false := by
  cases b <;> first | exact t.k1 | exact t.k2 | exact t.k3 | exact t.k4 | exact t.k5 | exact t.k6 | exact t.k7
def isIB : V → Bool
  | .int _ => true
  | .bl _ => true
  | _ => false
def isB : V → Bool
  | .bl _ => true
  | _ => false
theorem kB_int {K : PySem.W.Frag} {H : Hp} {x : V} {T : String} (b : Bk H x T) : PySem.W.kitOne K (.type T) (.type "int") = some (isIB x) := by
  cases b with
  | non => exact kit_ty (show kitB "NoneType" "int" = some false by decide +kernel)
  | bl => exact kit_ty (show kitB "bool" "int" = some true by decide +kernel)
  | int => exact kit_ty (show kitB "int" "int" = some true by decide +kernel)
  | str => exact kit_ty (show kitB "str" "int" = some false by decide +kernel)
  | lst => exact kit_ty (show kitB "list" "int" = some false by decide +kernel)
  | tup => exact kit_ty (show kitB "tuple" "int" = some false by decide +kernel)
  | dK => exact kit_ty (show kitB "dict" "int" = some false by decide +kernel)
theorem kB_bool {K : PySem.W.Frag} {H : Hp} {x : V} {T : String} (b : Bk H x T) : PySem.W.kitOne K (.type T) (.type "bool") = some (isB x) := by
  cases b with
  | non => exact kit_ty (show kitB "NoneType" "bool" = some false by decide +kernel)
  | bl => exact kit_ty (show kitB "bool" "bool" = some true by decide +kernel)
  | int => exact kit_ty (show kitB "int" "bool" = some false by decide +kernel)
  | str => exact kit_ty (show kitB "str" "bool" = some false by decide +kernel)
  | lst => exact kit_ty (show kitB "list" "bool" = some false by decide +kernel)
  | tup => exact kit_ty (show kitB "tuple" "bool" = some false by decide +kernel)
  | dK => exact kit_ty (show kitB "dict" "bool" = some false by decide +kernel)
theorem Txt.tyC {K : PySem.W.Frag} {mg : Str → Option Value} {C a dx : Addr} {H : Hp} {fs : List (Str × V)} (t : Txt K mg C) (h : H a = some (.ins C dx fs)) : TyX K H (.ref a) (.ref C) :=
  .base (.ins h t.cl t.ca t.cn t.ct t.op.ob)

/-! ### promises -/
def spWhole (C : Addr) : Sp := fun vs H Q _ => ∃ v, vs = [v] ∧ ((∃ T, Bk H v T) ∨ ∃ a dx fs, v = .ref a ∧ H a = some (.ins C dx fs)) ∧ Q (.bl (isI v)) H
def IsAm (C : Addr) (H : Hp) (v : V) (b : Bool) : Prop := ((∃ T, Bk H v T) ∧ b = isI v) ∨ ((∃ a dx fs, v = .ref a ∧ H a = some (.ins C dx fs)) ∧ b = true)
def spIsAm (C : Addr) : Sp := fun vs H Q _ => ∃ v b, vs = [v] ∧ IsAm C H v b ∧ Q (.bl b) H
theorem AmV.isAm {C : Addr} {H : Hp} {y : V} {n u : Int} (h : AmV C H y n u) : IsAm C H y true := by
  rcases h with h | ⟨rfl, _⟩
  · exact .inr ⟨h.inst, rfl⟩
  · exact .inl ⟨⟨_, .int n⟩, rfl⟩
def spParts (C : Addr) : Sp := fun vs H Q _ => ∃ v n u, vs = [v] ∧ AmV C H v n u ∧ ∀ p, H p = none → Q (.ref p) (upd H p (.tup [.int n, .int u]))
def spInit (C : Addr) : Sp := fun vs H Q _ => ∃ x dx n u, vs = [.ref x, .int n, .int u] ∧ H x = some (.ins C dx []) ∧ u ≠ 0 ∧ Bd 8900 n ∧ Bd 8900 u ∧
  ∀ H' : Hp, H' x = some (.ins C dx (pf (fr n u).1 (fr n u).2)) → (∀ b o, H b = some o → b ≠ x → H' b = some o) → Q .non H'
/-- // by any divisor below 2 ^ 9000 -/
theorem op_fdivX {X : Cx} : OpR X (binaryOp .FloorDiv) (rI (fun _ j => j ≠ 0 ∧ j.natAbs.log2 < 9000) fun i j => .int (i.fdiv j)) := opI fun i j _ _ _ _ _ hc q =>
  floordiv_int hc.1 q (.inl (PyProof.noPylong_of_log2 hc.2))

section
variable {P : Program} {w : World} {K : PySem.W.Frag} {mg : Str → Option Value} {base : Heap}
theorem b_isi : bootBuiltins "isinstance" = some (.builtin "isinstance") := by decide +kernel
theorem b_int : bootBuiltins "int" = some (.type "int") := by decide +kernel
theorem b_bool : bootBuiltins "bool" = some (.type "bool") := by decide +kernel

theorem scWhole : FnScope ["value"] ["value"] (defScope sWhole) := ⟨rfl, rfl, rfl, by decide +kernel, rfl, by decide +kernel, by decide +kernel⟩
theorem ok_whole {f C : Addr} {fd : FuncData} (F : Fun K "is_whole" "is_whole" sWhole f fd) (T : Txt K mg C) : FnOk P w K mg base CX0 1 f fd ["value"] (spWhole C) := by
  refine F.ok scWhole (fun vs H Q E h => ?_) (fun cdv A outer s H vs Q E hr h => ?_)
  · obtain ⟨v, rfl, _⟩ := h
    rfl
  · obtain ⟨v, rfl, hv, q⟩ := h
    refine ⟨_, pss_one (ps_ret (pe_and (pe_callB call_isi (by rfl) T.isi b_isi (pa_cons (pv 0) (pa_cons (pe_bltn (v := .ty "int") (by rfl) T.int b_int rfl) pa_nil)))
      (pe_one (pe_not (pe_callB call_isi (by rfl) T.isi b_isi (pa_cons (pv 0) (pa_cons (pe_bltn (v := .ty "bool") (by rfl) T.bool b_bool rfl) pa_nil))))))), ?_⟩
    rcases hv with ⟨Ty, b⟩ | ⟨a, dx, fs, rfl, ha⟩
    · refine ⟨_, rfl, v, .ty "int", .type Ty, .type "int", _, rfl, .ty _, .base b.tyOf, kB_int b, _, rfl, ?_⟩
      have kb := kB_bool (K := K) b
      cases v with
      | int i => exact iteT ⟨_, rfl, _, .ty "bool", .type Ty, .type "bool", _, rfl, .ty _, .base b.tyOf, kb, _, rfl, q⟩
      | bl i => exact iteT ⟨_, rfl, _, .ty "bool", .type Ty, .type "bool", _, rfl, .ty _, .base b.tyOf, kb, _, rfl, q⟩
      | _ => exact iteF q
    · exact ⟨_, rfl, .ref a, .ty "int", .ref C, .type "int", _, rfl, .ty _, T.tyC ha, T.kI, _, rfl, iteF q⟩
theorem scIsAm : FnScope ["value"] ["value"] (defScope sIsAm) := ⟨rfl, rfl, rfl, by decide +kernel, rfl, by decide +kernel, by decide +kernel⟩
theorem ok_isAm {f C fW : Addr} {fd fdW : FuncData} (F : Fun K "is_amount" "is_amount" sIsAm f fd) (T : Txt K mg C) (GW : FnOk P w K mg base CX0 1 fW fdW ["value"] (spWhole C)) (bW : Binds K fdW ["value"] []) (mW : mg "is_whole" = some (.ref fW)) (kW : PySem.W.keepIn K (.ref fW) = true) :
    FnOk P w K mg base CX0 2 f fd ["value"] (spIsAm C) := by
  refine F.ok scIsAm (fun vs H Q E h => ?_) (fun cdv A outer s H vs Q E hr h => ?_)
  · obtain ⟨v, b, rfl, _⟩ := h
    rfl
  · obtain ⟨v, k, rfl, hv, q⟩ := h
    refine ⟨_, pss_one (ps_ret (pe_or (pe_callB call_isi (by rfl) T.isi b_isi (pa_cons (pv 0) (pa_cons (pe_glob (v := .ref C) (by rfl) T.mgC rfl) pa_nil)))
      (pe_one (pe_call GW hr (by rfl) mW kW bW .nil pass0 (pa_cons (pv 0) pa_nil))))), ?_⟩
    rcases hv with ⟨⟨Ty, b⟩, rfl⟩ | ⟨⟨a, dx, fs, rfl, ha⟩, rfl⟩
    · exact ⟨_, rfl, v, .ref C, .type Ty, .ref C, _, rfl, .own _, .base b.tyOf, T.kOf b, _, rfl, iteF ⟨_, rfl, _, rfl, .inl ⟨Ty, b⟩, q⟩⟩
    · exact ⟨_, rfl, .ref a, .ref C, .ref C, .ref C, _, rfl, .own _, T.tyC ha, T.kC, _, rfl, iteT q⟩
theorem scParts : FnScope ["amount"] ["amount"] (defScope sParts) := ⟨rfl, rfl, rfl, by decide +kernel, rfl, by decide +kernel, by decide +kernel⟩
theorem ok_parts {f C : Addr} {fd : FuncData} (F : Fun K "parts" "parts" sParts f fd) (T : Txt K mg C) : FnOk P w K mg base CX0 1 f fd ["amount"] (spParts C) := by
  refine F.ok scParts (fun vs H Q E h => ?_) (fun cdv A outer s H vs Q E hr h => ?_)
  · obtain ⟨v, n, u, rfl, _⟩ := h
    rfl
  · obtain ⟨v, n, u, rfl, hv, q⟩ := h
    refine ⟨_, pss_cons (ps_if (pt_val (pe_callB call_isi (by rfl) T.isi b_isi (pa_cons (pv 0) (pa_cons (pe_glob (v := .ref C) (by rfl) T.mgC rfl) pa_nil))))
      (pss_one (ps_ret (pe_tup (pa_cons (pe_fld (pv 0) rfl) (pa_cons (pe_fld (pv 0) rfl) pa_nil))))) pss_nil)
      (pss_one (ps_ret (pe_tup (pa_cons (pv 0) (pa_cons pe_int pa_nil))))), ?_⟩
    rcases hv with ⟨l, a, dx, rfl, ha⟩ | ⟨rfl, rfl⟩
    · refine ⟨_, rfl, .ref a, .ref C, .ref C, .ref C, _, rfl, .own _, T.tyC ha, T.kC, _, rfl, iteT ?_⟩
      exact ⟨_, rfl, a, C, dx, _, _, rfl, ha, T.cl, T.nN, pf_number _ _, _, rfl, a, C, dx, _, _, rfl, ha, T.cl, T.nU, pf_under _ _, (by show 2 ≤ sizeLine; decide), q⟩
    · refine ⟨_, rfl, .int n, .ref C, .type "int", .ref C, _, rfl, .own _, .base (.int n), T.k1, _, rfl, iteF ?_⟩
      exact ⟨_, rfl, (by show 2 ≤ sizeLine; decide), q⟩
end
end Am
namespace Am
open PySem PySem.Spec PyProof.Rows L2
abbrev FInit (K : PySem.W.Frag) (f : Addr) (fd : FuncData) : Prop := FunD K "__init__" "Amount.__init__" (defArgs sInit) (defBody sInit) (defScope sInit) [.int 1] [] f fd
theorem log2_lt {n : Nat} {k : Nat} (hk : 0 < k) (h : n < 2 ^ k) : n.log2 < k := PySem.Flt.log2_lt_of hk h
theorem bd_sg {n u : Int} (hu : u ≠ 0) (h : Bd 8900 u) : (sg n u).natAbs.log2 < 9000 := Nat.lt_trans (log2_lt (by decide) (Nat.lt_of_le_of_lt (sg_le hu) h)) (by decide)
section
variable {P : Program} {w : World} {K : PySem.W.Frag} {mg : Str → Option Value} {base : Heap}
theorem scInit : FnScope ["self", "number", "under", "shared"] ["self", "number", "under"] (defScope sInit) := ⟨rfl, rfl, rfl, by decide +kernel, rfl, by decide +kernel, by decide +kernel⟩
theorem ok_init {f C fW : Addr} {fd fdW : FuncData} (F : FInit K f fd) (T : Txt K mg C) (GW : FnOk P w K mg base CX0 1 fW fdW ["value"] (spWhole C)) (bW : Binds K fdW ["value"] []) (mW : mg "is_whole" = some (.ref fW)) (kW : PySem.W.keepIn K (.ref fW) = true) :
    FnOk P w K mg base CX0 2 f fd ["self", "number", "under"] (spInit C) := by
  refine F.ok scInit (fun vs H Q E h => ?_) (fun cdv A outer s H vs Q E hr h => ?_)
  · obtain ⟨x, dx, n, u, rfl, _⟩ := h
    rfl
  · obtain ⟨x, dx, n, u, rfl, hx, hu, bn, bu, q⟩ := h
    refine ⟨_, pss_cons (ps_if (PW.pt (pw_or (pt_not (pt_val (pe_call GW hr (by rfl) mW kW bW .nil pass0 (pa_cons (pv 1) pa_nil)))) (pw_or (pt_not (pt_val (pe_call GW hr (by rfl) mW kW bW .nil pass0 (pa_cons (pv 2) pa_nil)))) (pw_or1 (pt_cmpR op_eq (pv 2) pe_int (nomark _)))))) (pss_one ps_never) pss_nil)
      (pss_cons (ps_set (i := 3) scInit.nd rfl (.inl rfl) (pe_callBfun cr_gcd (by rfl) T.gcd (pa_cons (pv 1) (pa_cons (pv 2) pa_nil))))
      (pss_cons (ps_if (pt_cmpR op_lt (pv 2) pe_int (nomark _)) (pss_one (ps_set (i := 3) scInit.nd rfl (.inl rfl) (pe_un un_neg (pv 3)))) pss_nil)
      (pss_cons (ps_fld (pv 0) (pe_op op_fdivX (pv 1) (pv 3)) rfl)
      (pss_one (ps_fld (pv 0) (pe_op op_fdivX (pv 2) (pv 3)) rfl))))), ?_⟩
    have d0 : decide (V.int u = V.int 0) = false := decide_eq_false (fun e => hu (V.int.inj e))
    refine ⟨_, rfl, _, rfl, .inl ⟨_, .int n⟩, _, rfl, iteF ⟨_, rfl, _, rfl, .inl ⟨_, .int u⟩, _, rfl, iteF ⟨_, rfl, rfl, _, rfl, ?_⟩⟩⟩
    rw [d0]
    refine iteF ?_
    refine ⟨_, rfl, _, rfl, _, _, rfl, ?_⟩
    have fin : ∀ s, s = sg n u → tSeq (sFld K (tVar 0) (tOp (rI (fun _ j => j ≠ 0 ∧ j.natAbs.log2 < 9000) fun i j => .int (i.fdiv j)) (tVar 1) (tVar 3)) "number") (sFld K (tVar 0) (tOp (rI (fun _ j => j ≠ 0 ∧ j.natAbs.log2 < 9000) fun i j => .int (i.fdiv j)) (tVar 2) (tVar 3)) "under")
        { nx := fun _ H' => Q .non H', rt := Q } [some (.ref x), some (.int n), some (.int u), some (.int s)] H := by
      rintro s rfl
      refine ⟨_, rfl, _, rfl, _, _, rfl, rfl, ⟨sg_ne hu, bd_sg hu bu⟩, _, rfl, x, C, dx, _, rfl, hx, T.cl, T.nN, (by show 0 < 1000; decide), ?_⟩
      refine ⟨_, rfl, _, rfl, _, _, rfl, rfl, ⟨sg_ne hu, bd_sg hu bu⟩, _, rfl, x, C, dx, _, rfl, upd_same, T.cl, T.nU, (by show 1 < 1000; decide), ?_⟩
      exact q _ upd_same fun b o e nb => by rw [upd_ne nb, upd_ne nb]; exact e
    refine ⟨_, rfl, _, _, rfl, rfl, _, rfl, ite2 (fun c => ?_) (fun c => ?_)⟩
    · refine ⟨_, rfl, _, rfl, ?_⟩
      exact fin _ (by unfold sg; rw [if_pos (of_decide_eq_true c)]; rfl)
    · exact fin _ (by unfold sg; rw [if_neg (fun z => c (decide_eq_true z))]; rfl)
end
end Am
namespace Am
open PySem PySem.Spec PyProof.Rows L2
/-- a def of the module that keeps its promise -/
def GotF (P : Program) (w : World) (K : PySem.W.Frag) (mg : Str → Option Value) (base : Heap) (x : Str) (k : Nat) (ps : List Str) (sp : Sp) : Prop :=
  ∃ (f : Addr) (fd : FuncData), FnOk P w K mg base CX0 k f fd ps sp ∧ Binds K fd ps [] ∧ mg x = some (.ref f) ∧ PySem.W.keepIn K (.ref f) = true
/-- a method of the class -/
def GotM (P : Program) (w : World) (K : PySem.W.Frag) (mg : Str → Option Value) (base : Heap) (C : Addr) (x : Str) (k : Nat) (ps : List Str) (sp : Sp) : Prop :=
  ∃ (f : Addr) (fd : FuncData), FnOk P w K mg base CX0 k f fd ps sp ∧ Binds K fd ps [] ∧ PySem.W.findIn K (.ref C) x = some (some (.ref f)) ∧ PySem.W.isFn K (.ref f) = true
/-- the making of an Amount -/
def GotI (P : Program) (w : World) (K : PySem.W.Frag) (mg : Str → Option Value) (base : Heap) (C : Addr) : Prop :=
  ∃ (f : Addr) (fd : FuncData), FnOk P w K mg base CX0 2 f fd ["self", "number", "under"] (spInit C) ∧ Binds K fd ["self", "number", "under"] [] ∧ (∃ ds, Vals [V.int 1] ds ∧ Binds K fd ["self", "number", "under"] ds) ∧ Mk K C f
structure OpIK (K : PySem.W.Frag) (C : Addr) (nm : String) : Prop where
  h1 : ∃ fo, PySem.W.findIn K (.type "int") (PySem.dunder nm) = some fo
  h2 : ∃ ro, PySem.W.findIn K (.type "int") (PySem.dunderR nm) = some ro
  hr : ∃ g : Addr, PySem.W.findIn K (.ref C) (PySem.dunderR nm) = some (some (.ref g))

theorem make_read {C : Addr} {H : Hp} {Q : VK} {E : XK} {n u : Int} (hu : u ≠ 0) (bn : Bd 8900 n) (bu : Bd 8900 u) (q : ∀ v H', Same H H' → AmAt C H' v (fr n u).1 (fr n u).2 → Q v H') :
    ∀ x dx, H x = none → H dx = none → dx ≠ x → spInit C [.ref x, .int n, .int u] (upd (upd H dx (.own x)) x (.ins C dx [])) (fun v H2 => v = .non ∧ Q (.ref x) H2) E :=
  fun x dx nx ndx nex => ⟨x, dx, n, u, rfl, upd_same, hu, bn, bu, fun H' hx k => ⟨rfl, q _ _ (Same.made nx ndx k) ⟨fr_low hu, x, dx, rfl, hx⟩⟩⟩

theorem Bd.mono {k j : Nat} {n : Int} (h : Bd k n) (hj : k ≤ j) : Bd j n := Nat.lt_of_lt_of_le h (Nat.pow_le_pow_right (by decide) hj)
theorem Bd.neg {k : Nat} {n : Int} (h : Bd k n) : Bd k (-n) := by unfold Bd; rw [Int.natAbs_neg]; exact h
theorem Bd.mul {k j : Nat} {n m : Int} (h : Bd k n) (h' : Bd j m) : Bd (k + j) (n * m) := wide_lt h h'
theorem Bd.add {k : Nat} {n m : Int} (h : Bd k n) (h' : Bd k m) : Bd (k + 1) (n + m) := by
  unfold Bd at *
  have e : 2 ^ (k + 1) = 2 ^ k + 2 ^ k := by omega
  have := Int.natAbs_add_le n m
  omega
theorem Bd.cmul {k : Nat} {n m : Int} (h : Bd k n) (h' : Bd k m) (h0 : 0 < k) (hk : k ≤ 5000) : CMulW n m := wide_mul h h' h0 h0 (by omega)

def spEq (C : Addr) : Sp := fun vs H Q _ => ∃ a y n u, vs = [a, y] ∧ AmAt C H a n u ∧ ((∃ n' u', AmV C H y n' u' ∧ ∀ H', Same H H' → Q (.bl (decide (n = n' ∧ u = u'))) H') ∨ ((∃ T, Bk H y T) ∧ isI y = false ∧ Q (.bl false) H))
def spNeg (C : Addr) : Sp := fun vs H Q _ => ∃ a n u, vs = [a] ∧ AmAt C H a n u ∧ Bd 8900 n ∧ Bd 8900 u ∧ ∀ v H', Same H H' → AmAt C H' v (-n) u → Q v H'
def spAdd (C : Addr) : Sp := fun vs H Q _ => ∃ a y n u n' u', vs = [a, y] ∧ AmAt C H a n u ∧ AmV C H y n' u' ∧ (Bd 4000 n ∧ Bd 4000 u ∧ Bd 4000 n' ∧ Bd 4000 u') ∧
  ∀ v H', Same H H' → AmAt C H' v (fr (n * u' + n' * u) (u * u')).1 (fr (n * u' + n' * u) (u * u')).2 → Q v H'
def spSub (C : Addr) : Sp := fun vs H Q _ => ∃ a y n u n' u', vs = [a, y] ∧ AmAt C H a n u ∧ AmV C H y n' u' ∧ (Bd 4000 n ∧ Bd 4000 u ∧ Bd 4000 n' ∧ Bd 4000 u') ∧
  ∀ v H', Same H H' → AmAt C H' v (fr (n * u' + -n' * u) (u * u')).1 (fr (n * u' + -n' * u) (u * u')).2 → Q v H'
def spCmp (C : Addr) (r : Int → Bool) : Sp := fun vs H Q _ => ∃ a y n u n' u', vs = [a, y] ∧ AmAt C H a n u ∧ AmV C H y n' u' ∧ (Bd 4000 n ∧ Bd 4000 u ∧ Bd 4000 n' ∧ Bd 4000 u') ∧
  ∀ H', Same H H' → Q (.bl (r (fr (n * u' + -n' * u) (u * u')).1)) H'
theorem eqv_two (n u n' u' : Int) : PyData.eqv (.tuple [.int n, .int u]) (.tuple [.int n', .int u']) = decide (n = n' ∧ u = u') := by
  simp [PyData.eqv, PyData.eqvAll, Bool.beq_eq_decide_eq]
section
variable {P : Program} {w : World} {K : PySem.W.Frag} {mg : Str → Option Value} {base : Heap} {C : Addr}
theorem scNeg : FnScope ["self"] ["self"] (defScope sNeg) := ⟨rfl, rfl, rfl, by decide +kernel, rfl, by decide +kernel, by decide +kernel⟩
theorem ok_neg {f : Addr} {fd : FuncData} (F : Fun K "__neg__" "Amount.__neg__" sNeg f fd) (T : Txt K mg C) (GI : GotI P w K mg base C) : FnOk P w K mg base CX0 4 f fd ["self"] (spNeg C) := by
  obtain ⟨fI, fdI, GI, bI, _, M⟩ := GI
  refine F.ok scNeg (fun vs H Q E h => ?_) (fun cdv A outer s H vs Q E hr h => ?_)
  · obtain ⟨a, n, u, rfl, _⟩ := h
    rfl
  · obtain ⟨a, n, u, rfl, ⟨l, x, dx, rfl, hx⟩, bn, bu, q⟩ := h
    refine ⟨_, pss_one (ps_ret (pe_make M GI hr (by rfl) T.mgC bI .nil pass0 (pa_cons (pe_un un_neg (pe_fld (pv 0) rfl)) (pa_cons (pe_fld (pv 0) rfl) pa_nil)))), ?_⟩
    refine ⟨_, rfl, x, C, dx, _, _, rfl, hx, T.cl, T.nN, pf_number _ _, _, rfl, _, rfl, x, C, dx, _, _, rfl, hx, T.cl, T.nU, pf_under _ _, ?_⟩
    refine make_read l.ne bn.neg bu fun v H' e h => q v H' e ?_
    rw [fr_of_low l.neg] at h
    exact h
theorem scAdd : FnScope ["self", "other", "number", "under"] ["self", "other"] (defScope sAdd) := ⟨rfl, rfl, rfl, by decide +kernel, rfl, by decide +kernel, by decide +kernel⟩
theorem ok_add {f : Addr} {fd : FuncData} (F : Fun K "__add__" "Amount.__add__" sAdd f fd) (T : Txt K mg C) (GI : GotI P w K mg base C) (GA : GotF P w K mg base "is_amount" 2 ["value"] (spIsAm C)) (GP : GotF P w K mg base "parts" 1 ["amount"] (spParts C)) :
    FnOk P w K mg base CX0 4 f fd ["self", "other"] (spAdd C) := by
  obtain ⟨fI, fdI, GI, bI, _, M⟩ := GI
  obtain ⟨fA, fdA, GA, bA, mA, kA⟩ := GA
  obtain ⟨fP, fdP, GP, bP, mP, kP⟩ := GP
  refine F.ok scAdd (fun vs H Q E h => ?_) (fun cdv A outer s H vs Q E hr h => ?_)
  · obtain ⟨a, y, n, u, n', u', rfl, _⟩ := h
    rfl
  · obtain ⟨a, y, n, u, n', u', rfl, ⟨l, x, dx, rfl, hx⟩, hy, ⟨b1, b2, b3, b4⟩, q⟩ := h
    have hr1 : Room 1 _ := hr.mono (by decide)
    have hr2 : Room 2 _ := hr.mono (by decide)
    refine ⟨_, pss_cons (ps_if (pt_not (pt_val (pe_call GA hr2 (by rfl) mA kA bA .nil pass0 (pa_cons (pv 1) pa_nil)))) (pss_one ps_never) pss_nil)
      (pss_cons (ps_asg (pe_call GP hr1 (by rfl) mP kP bP .nil pass0 (pa_cons (pv 1) pa_nil)) (pg_tup rfl (pgs_cons (pg_name (i := 2) scAdd.nd rfl (.inl rfl)) (pgs_cons (pg_name (i := 3) scAdd.nd rfl (.inl rfl)) pgs_nil))))
      (pss_one (ps_ret (pe_make M GI hr (by rfl) T.mgC bI .nil pass0 (pa_cons (pe_op op_add (pe_op op_mulW (pe_fld (pv 0) rfl) (pv 3)) (pe_op op_mulW (pv 2) (pe_fld (pv 0) rfl))) (pa_cons (pe_op op_mulW (pe_fld (pv 0) rfl) (pv 3)) pa_nil)))))), ?_⟩
    refine ⟨_, rfl, _, true, rfl, hy.isAm, _, rfl, iteF ?_⟩
    refine ⟨_, rfl, y, n', u', rfl, hy, fun p np => ⟨p, _, rfl, SqT.of upd_same, rfl, _, _, rfl, _, _, rfl, rfl, ?_⟩⟩
    have hx1 : (upd H p (.tup [V.int n', V.int u'])) x = some (.ins C dx (pf n u)) := by rw [upd_ne (ne_of_none hx np)]; exact hx
    refine ⟨_, rfl, x, C, dx, _, _, rfl, hx1, T.cl, T.nN, pf_number _ _, _, rfl, _, _, rfl, rfl, b1.cmul b4 (by decide) (by decide), ?_⟩
    refine ⟨_, rfl, _, rfl, x, C, dx, _, _, rfl, hx1, T.cl, T.nU, pf_under _ _, _, _, rfl, rfl, b3.cmul b2 (by decide) (by decide), _, _, rfl, rfl, ?_⟩
    refine ⟨_, rfl, x, C, dx, _, _, rfl, hx1, T.cl, T.nU, pf_under _ _, _, rfl, _, _, rfl, rfl, b2.cmul b4 (by decide) (by decide), ?_⟩
    have hu : u * u' ≠ 0 := Int.mul_ne_zero l.ne hy.low.ne
    refine make_read hu ((b1.mul b4).add (b3.mul b2) |>.mono (by decide)) ((b2.mul b4).mono (by decide)) fun v H' e h => q v H' ((same_upd np).trans e) h
theorem scSub : FnScope ["self", "other"] ["self", "other"] (defScope sSub) := ⟨rfl, rfl, rfl, by decide +kernel, rfl, by decide +kernel, by decide +kernel⟩
theorem ok_sub {f : Addr} {fd : FuncData} (F : Fun K "__sub__" "Amount.__sub__" sSub f fd) (T : Txt K mg C) (GA : GotF P w K mg base "is_amount" 2 ["value"] (spIsAm C)) (GN : GotM P w K mg base C "__neg__" 4 ["self"] (spNeg C)) (GD : GotM P w K mg base C "__add__" 4 ["self", "other"] (spAdd C)) (cA : OpIK K C "add") :
    FnOk P w K mg base CX0 5 f fd ["self", "other"] (spSub C) := by
  obtain ⟨fN, fdN, GN, bN, hN, iN⟩ := GN
  obtain ⟨fA, fdA, GA, bA, mA, kA⟩ := GA
  obtain ⟨fD, fdD, GD, bD, hD, iD⟩ := GD
  refine F.ok scSub (fun vs H Q E h => ?_) (fun cdv A outer s H vs Q E hr h => ?_)
  · obtain ⟨a, y, n, u, n', u', rfl, _⟩ := h
    rfl
  · obtain ⟨a, y, n, u, n', u', rfl, ha, hy, ⟨b1, b2, b3, b4⟩, q⟩ := h
    have hr2 : Room 2 _ := hr.mono (by decide)
    refine ⟨_, pss_cons (ps_if (pt_not (pt_val (pe_call GA hr2 (by rfl) mA kA bA .nil pass0 (pa_cons (pv 1) pa_nil)))) (pss_one ps_never) pss_nil)
      (pss_one (ps_ret (pe_op (op_binC (op := .Add) T.op ⟨cA.h1, cA.h2, cA.hr⟩ ⟨hD, iD⟩ GD hr bD pass0) (pv 0) (pe_un (UnR.or (un_negC ⟨hN, iN⟩ GN hr bN pass0) un_neg) (pv 1))))), ?_⟩
    refine ⟨_, rfl, _, true, rfl, hy.isAm, _, rfl, iteF ?_⟩
    have fin : ∀ v1 H1, Same H H1 → AmV C H1 v1 (-n') u' → rBin C (spAdd C) E0 a v1 H1 Q := fun v1 H1 e h1 =>
      ⟨(ha.same e).inst, h1.orI, a, v1, n, u, -n', u', rfl, ha.same e, h1, ⟨b1, b2, b3.neg, b4⟩, fun v H' e' h => q v H' (e.trans e') h⟩
    refine ⟨_, rfl, _, rfl, ?_⟩
    rcases hy with hy | ⟨rfl, rfl⟩
    · exact .inl ⟨hy.inst, y, n', u', rfl, hy, b3.mono (by decide), b4.mono (by decide), fun v1 H1 e h1 => fin v1 H1 e (.inl h1)⟩
    · exact .inr ⟨_, rfl, fin _ _ (Same.refl _) (.inr ⟨rfl, rfl⟩)⟩
theorem scEq : FnScope ["self", "other"] ["self", "other"] (defScope sEq) := ⟨rfl, rfl, rfl, by decide +kernel, rfl, by decide +kernel, by decide +kernel⟩
theorem ok_eq {f : Addr} {fd : FuncData} (F : Fun K "__eq__" "Amount.__eq__" sEq f fd) (T : Txt K mg C) (GA : GotF P w K mg base "is_amount" 2 ["value"] (spIsAm C)) (GP : GotF P w K mg base "parts" 1 ["amount"] (spParts C)) :
    FnOk P w K mg base CX0 3 f fd ["self", "other"] (spEq C) := by
  obtain ⟨fA, fdA, GA, bA, mA, kA⟩ := GA
  obtain ⟨fP, fdP, GP, bP, mP, kP⟩ := GP
  refine F.ok scEq (fun vs H Q E h => ?_) (fun cdv A outer s H vs Q E hr h => ?_)
  · obtain ⟨a, y, n, u, rfl, _⟩ := h
    rfl
  · obtain ⟨a, y, n, u, rfl, ⟨l, x, dx, rfl, hx⟩, hy⟩ := h
    have hr1 : Room 1 _ := hr.mono (by decide)
    refine ⟨_, pss_cons (ps_if (pt_not (pt_val (pe_call GA hr (by rfl) mA kA bA .nil pass0 (pa_cons (pv 1) pa_nil)))) (pss_one (ps_ret pe_bl)) pss_nil)
      (pss_one (ps_ret (pe_cmpR (op_eqD hr.units) (pe_tup (pa_cons (pe_fld (pv 0) rfl) (pa_cons (pe_fld (pv 0) rfl) pa_nil))) (pe_call GP hr1 (by rfl) mP kP bP .nil pass0 (pa_cons (pv 1) pa_nil)) (nomark _)))), ?_⟩
    rcases hy with ⟨n', u', hy, q⟩ | ⟨⟨Ty, b⟩, hi, q⟩
    · refine ⟨_, rfl, _, true, rfl, hy.isAm, _, rfl, iteF ?_⟩
      refine ⟨_, rfl, x, C, dx, _, _, rfl, hx, T.cl, T.nN, pf_number _ _, _, rfl, x, C, dx, _, _, rfl, hx, T.cl, T.nU, pf_under _ _, (by show 2 ≤ sizeLine; decide), fun p np => ?_⟩
      have s1 := same_upd (o := .tup [V.int n, V.int u]) np
      refine ⟨_, rfl, y, n', u', rfl, hy.same s1, fun p' np' => ?_⟩
      have npp : p ≠ p' := fun e => by rw [← e, upd_same] at np'; cases np'
      have s2 := same_upd (o := .tup [V.int n', V.int u']) np'
      refine ⟨.tuple [.int n, .int u], .tuple [.int n', .int u'], .tup (SqT.of (Eq.trans (upd_ne npp) upd_same)) (.cons (.int n) (.cons (.int u) .nil)), .tup (SqT.of upd_same) (.cons (.int n') (.cons (.int u') .nil)), rfl, rfl, ?_⟩
      rw [eqv_two]
      exact q _ (s1.trans s2)
    · exact ⟨_, rfl, _, false, rfl, .inl ⟨⟨Ty, b⟩, hi.symm⟩, _, rfl, iteT q⟩
theorem scLt : FnScope ["self", "other"] ["self", "other"] (defScope sLt) := ⟨rfl, rfl, rfl, by decide +kernel, rfl, by decide +kernel, by decide +kernel⟩
theorem ok_lt {f : Addr} {fd : FuncData} (F : Fun K "__lt__" "Amount.__lt__" sLt f fd) (T : Txt K mg C) (GA : GotF P w K mg base "is_amount" 2 ["value"] (spIsAm C)) (GS : GotM P w K mg base C "__sub__" 5 ["self", "other"] (spSub C)) (cS : OpIK K C "sub") :
    FnOk P w K mg base CX0 6 f fd ["self", "other"] (spCmp C (fun i => decide (i < 0))) := by
  obtain ⟨fA, fdA, GA, bA, mA, kA⟩ := GA
  obtain ⟨fS, fdS, GS, bS, hS, iS⟩ := GS
  refine F.ok scLt (fun vs H Q E h => ?_) (fun cdv A outer s H vs Q E hr h => ?_)
  · obtain ⟨a, y, n, u, n', u', rfl, _⟩ := h
    rfl
  · obtain ⟨a, y, n, u, n', u', rfl, ha, hy, bb, q⟩ := h
    have hr2 : Room 2 _ := hr.mono (by decide)
    refine ⟨_, pss_cons (ps_if (pt_not (pt_val (pe_call GA hr2 (by rfl) mA kA bA .nil pass0 (pa_cons (pv 1) pa_nil)))) (pss_one ps_never) pss_nil)
      (pss_one (ps_ret (pe_cmpR op_lt (pe_fld (pe_op (op_binC (op := .Sub) T.op ⟨cS.h1, cS.h2, cS.hr⟩ ⟨hS, iS⟩ GS hr bS pass0) (pv 0) (pv 1)) rfl) pe_int (nomark _)))), ?_⟩
    refine ⟨_, rfl, _, true, rfl, hy.isAm, _, rfl, iteF ?_⟩
    refine ⟨_, rfl, _, rfl, ha.inst, hy.orI, a, y, n, u, n', u', rfl, ha, hy, bb, fun v H' e h => ?_⟩
    obtain ⟨l, z, dz, rfl, hz⟩ := h
    exact ⟨z, C, dz, _, _, rfl, hz, T.cl, T.nN, pf_number _ _, _, _, rfl, rfl, q H' e⟩
theorem scLe : FnScope ["self", "other"] ["self", "other"] (defScope sLe) := ⟨rfl, rfl, rfl, by decide +kernel, rfl, by decide +kernel, by decide +kernel⟩
theorem ok_le {f : Addr} {fd : FuncData} (F : Fun K "__le__" "Amount.__le__" sLe f fd) (T : Txt K mg C) (GA : GotF P w K mg base "is_amount" 2 ["value"] (spIsAm C)) (GS : GotM P w K mg base C "__sub__" 5 ["self", "other"] (spSub C)) (cS : OpIK K C "sub") :
    FnOk P w K mg base CX0 6 f fd ["self", "other"] (spCmp C (fun i => decide (i ≤ 0))) := by
  obtain ⟨fA, fdA, GA, bA, mA, kA⟩ := GA
  obtain ⟨fS, fdS, GS, bS, hS, iS⟩ := GS
  refine F.ok scLe (fun vs H Q E h => ?_) (fun cdv A outer s H vs Q E hr h => ?_)
  · obtain ⟨a, y, n, u, n', u', rfl, _⟩ := h
    rfl
  · obtain ⟨a, y, n, u, n', u', rfl, ha, hy, bb, q⟩ := h
    have hr2 : Room 2 _ := hr.mono (by decide)
    refine ⟨_, pss_cons (ps_if (pt_not (pt_val (pe_call GA hr2 (by rfl) mA kA bA .nil pass0 (pa_cons (pv 1) pa_nil)))) (pss_one ps_never) pss_nil)
      (pss_one (ps_ret (pe_cmpR op_le (pe_fld (pe_op (op_binC (op := .Sub) T.op ⟨cS.h1, cS.h2, cS.hr⟩ ⟨hS, iS⟩ GS hr bS pass0) (pv 0) (pv 1)) rfl) pe_int (nomark _)))), ?_⟩
    refine ⟨_, rfl, _, true, rfl, hy.isAm, _, rfl, iteF ?_⟩
    refine ⟨_, rfl, _, rfl, ha.inst, hy.orI, a, y, n, u, n', u', rfl, ha, hy, bb, fun v H' e h => ?_⟩
    obtain ⟨l, z, dz, rfl, hz⟩ := h
    exact ⟨z, C, dz, _, _, rfl, hz, T.cl, T.nN, pf_number _ _, _, _, rfl, rfl, q H' e⟩
theorem scGt : FnScope ["self", "other"] ["self", "other"] (defScope sGt) := ⟨rfl, rfl, rfl, by decide +kernel, rfl, by decide +kernel, by decide +kernel⟩
theorem ok_gt {f : Addr} {fd : FuncData} (F : Fun K "__gt__" "Amount.__gt__" sGt f fd) (T : Txt K mg C) (GA : GotF P w K mg base "is_amount" 2 ["value"] (spIsAm C)) (GS : GotM P w K mg base C "__sub__" 5 ["self", "other"] (spSub C)) (cS : OpIK K C "sub") :
    FnOk P w K mg base CX0 6 f fd ["self", "other"] (spCmp C (fun i => decide (0 < i))) := by
  obtain ⟨fA, fdA, GA, bA, mA, kA⟩ := GA
  obtain ⟨fS, fdS, GS, bS, hS, iS⟩ := GS
  refine F.ok scGt (fun vs H Q E h => ?_) (fun cdv A outer s H vs Q E hr h => ?_)
  · obtain ⟨a, y, n, u, n', u', rfl, _⟩ := h
    rfl
  · obtain ⟨a, y, n, u, n', u', rfl, ha, hy, bb, q⟩ := h
    have hr2 : Room 2 _ := hr.mono (by decide)
    refine ⟨_, pss_cons (ps_if (pt_not (pt_val (pe_call GA hr2 (by rfl) mA kA bA .nil pass0 (pa_cons (pv 1) pa_nil)))) (pss_one ps_never) pss_nil)
      (pss_one (ps_ret (pe_cmpR op_gt (pe_fld (pe_op (op_binC (op := .Sub) T.op ⟨cS.h1, cS.h2, cS.hr⟩ ⟨hS, iS⟩ GS hr bS pass0) (pv 0) (pv 1)) rfl) pe_int (nomark _)))), ?_⟩
    refine ⟨_, rfl, _, true, rfl, hy.isAm, _, rfl, iteF ?_⟩
    refine ⟨_, rfl, _, rfl, ha.inst, hy.orI, a, y, n, u, n', u', rfl, ha, hy, bb, fun v H' e h => ?_⟩
    obtain ⟨l, z, dz, rfl, hz⟩ := h
    exact ⟨z, C, dz, _, _, rfl, hz, T.cl, T.nN, pf_number _ _, _, _, rfl, rfl, q H' e⟩
theorem scGe : FnScope ["self", "other"] ["self", "other"] (defScope sGe) := ⟨rfl, rfl, rfl, by decide +kernel, rfl, by decide +kernel, by decide +kernel⟩
theorem ok_ge {f : Addr} {fd : FuncData} (F : Fun K "__ge__" "Amount.__ge__" sGe f fd) (T : Txt K mg C) (GA : GotF P w K mg base "is_amount" 2 ["value"] (spIsAm C)) (GS : GotM P w K mg base C "__sub__" 5 ["self", "other"] (spSub C)) (cS : OpIK K C "sub") :
    FnOk P w K mg base CX0 6 f fd ["self", "other"] (spCmp C (fun i => decide (0 ≤ i))) := by
  obtain ⟨fA, fdA, GA, bA, mA, kA⟩ := GA
  obtain ⟨fS, fdS, GS, bS, hS, iS⟩ := GS
  refine F.ok scGe (fun vs H Q E h => ?_) (fun cdv A outer s H vs Q E hr h => ?_)
  · obtain ⟨a, y, n, u, n', u', rfl, _⟩ := h
    rfl
  · obtain ⟨a, y, n, u, n', u', rfl, ha, hy, bb, q⟩ := h
    have hr2 : Room 2 _ := hr.mono (by decide)
    refine ⟨_, pss_cons (ps_if (pt_not (pt_val (pe_call GA hr2 (by rfl) mA kA bA .nil pass0 (pa_cons (pv 1) pa_nil)))) (pss_one ps_never) pss_nil)
      (pss_one (ps_ret (pe_cmpR op_ge (pe_fld (pe_op (op_binC (op := .Sub) T.op ⟨cS.h1, cS.h2, cS.hr⟩ ⟨hS, iS⟩ GS hr bS pass0) (pv 0) (pv 1)) rfl) pe_int (nomark _)))), ?_⟩
    refine ⟨_, rfl, _, true, rfl, hy.isAm, _, rfl, iteF ?_⟩
    refine ⟨_, rfl, _, rfl, ha.inst, hy.orI, a, y, n, u, n', u', rfl, ha, hy, bb, fun v H' e h => ?_⟩
    obtain ⟨l, z, dz, rfl, hz⟩ := h
    exact ⟨z, C, dz, _, _, rfl, hz, T.cl, T.nN, pf_number _ _, _, _, rfl, rfl, q H' e⟩
end
end Am
/-! promises of defs that are run where no repr is under way (A.guards = some []): such a def may ask repr of its own objects -/
namespace Gu
open PySem PySem.Spec PyProof.Rows L2
structure FnG (P : Program) (w : World) (K : PySem.W.Frag) (mg : Str → Option Value) (base : Heap) (CX : CXT) (k : Nat) (f : Addr) (fd : FuncData) (ps : List Str) (sp : Sp) : Prop where
  len : ∀ vs H Q E, sp vs H Q E → vs.length = ps.length
  go : ∀ (A : Around) (out : List Env) (s : Shared) (H : Hp) (args : Args) (us : List Value) (vs : List V) (Q : VK) (E : XK), Room k A → A.guards = some [] → Env0 P w K mg base A out s H →
    BindsTo s fd args (ps.zip us) → Vals vs us → sp vs H Q E → codeAny (model P w) A (.call (.ref f) args) (CR CX out P w H s Q E) s
section
variable {P : Program} {w : World} {K : PySem.W.Frag} {mg : Str → Option Value} {base : Heap} {CX : CXT} {k : Nat} {f : Addr} {fd : FuncData} {N ps : List Str} {sp : Sp}
theorem FnG.of (F : FnOk P w K mg base CX k f fd ps sp) : FnG P w K mg base CX k f fd ps sp :=
  ⟨F.len, fun A out s H args us vs Q E hr _ => F.run A out s H args us vs Q E hr⟩
/-- a def by its body, where nothing is guarded -/
theorem okG {x qual : Str} {st : Stmt} (F : Fun K x qual st f fd) (S : FnScope N ps (defScope st)) (len : ∀ vs H Q E, sp vs H Q E → vs.length = ps.length)
    (body : ∀ (cdv : Value) (A : Around) (out : List Env) (s : Shared) (H : Hp) (vs : List V) (Q : VK) (E : XK), A.guards = some [] → Room k (A.deeper (envOfC qual (defScope st) s.heap.objs.size f cdv)) → sp vs H Q E →
      ∃ t, PSs (cxOf CX P w K mg base N qual (defScope st) f cdv A out s H E) (defBody st) t ∧ t { nx := fun _ H' => Q .non H', rt := Q } (start N vs) H) : FnG P w K mg base CX (k + 1) f fd ps sp := by
  obtain ⟨oc, od, kV, doc, pm, an, cdv, ct, osl, rfl, at_, code⟩ := F.ex
  constructor
  · exact len
  intro A out s H args us vs Q E room free e0 bind rel want
  have n1 := len _ _ _ _ want
  have inK : K.In s.heap := e0.mod.kin.keeps (fun b o z => (e0.bs b o z).1)
  have noLim : s.heap.NoLimit := e0.mod.nolimit.keeps (fun b o z => (e0.bs b o z).1)
  have kinds : ∀ y ∈ ps.zip us, (defScope st).names.lookup y.1 = some .local ∨ ((defScope st).names.lookup y.1 = some .cell ∧ ((cellsFrom (s.heap.objs.size + 1) (defScope st).names []).lookup y.1).isSome = true) := by
    rintro ⟨n, v⟩ hy
    exact (S.par n (List.of_mem_zip hy).1).imp id fun q => ⟨q, PySem.W.cellsFrom_some _ _ _ (.inl q)⟩
  apply codeAny_call_function room.depth (inK _ _ at_) rfl S.co S.gen rfl (PySem.W.codeRec_of inK code) (bind _ _ _ _ _)
  apply wpAny_newFunctionEnv_cells S.kind kinds
  intro env he s1 x
  subst he
  refine ⟨noLim.keeps x.toInCall.keep, codeAny_func ?_⟩
  obtain ⟨t, run, go⟩ := body cdv A out s H vs Q E free (room.deeper _) want
  have I := inv_start (CX := CX) (E := E) S room.hd e0 n1 rel x
  apply wpAny_mono (run.run [] s1 (start N vs) H _ I go)
  · intro fl s' q
    match fl, q with
    | .ret u, ⟨v, σ', H', J, rv, qv⟩ => exact ⟨v, H', J.os, J.bare, J.base, J.hok, rv, qv⟩
    | .next, ⟨σ', H', J, qv⟩ => exact ⟨.non, H', J.os, J.bare, J.base, J.hok, rfl, qv⟩
    | .brk, ⟨_, _, _, z⟩ => exact z.elim
    | .cont, ⟨_, _, _, z⟩ => exact z.elim
  · exact fun _ _ z => z
/-- the same where nothing is let out -/
theorem okG0 {x qual : Str} {st : Stmt} (F : Fun K x qual st f fd) (S : FnScope N ps (defScope st)) (len : ∀ vs H Q E, sp vs H Q E → vs.length = ps.length)
    (body : ∀ (cdv : Value) (A : Around) (out : List Env) (s : Shared) (H : Hp) (vs : List V) (Q : VK) (E : XK), A.guards = some [] → Room k (A.deeper (envOfC qual (defScope st) s.heap.objs.size f cdv)) → sp vs H Q E →
      ∃ t, PSs (cxOf CX0 P w K mg base N qual (defScope st) f cdv A out s H E).nox (defBody st) t ∧ t { nx := fun _ H' => Q .non H', rt := Q } (start N vs) H) : FnG P w K mg base CX0 (k + 1) f fd ps sp :=
  okG F S len fun cdv A out s H vs Q E free room want => let ⟨t, h, q⟩ := body cdv A out s H vs Q E free room want; ⟨t, h.nox, q⟩
end
section
variable {X : Cx} {CX : CXT} {k : Nat} {f : Addr} {fd : FuncData} {ps : List Str} {sp : Sp} {E : XK} {x : Str} {p pos : Pos} {e : Expr} {es : List Expr} {t : TA}
/-- f(e, ..): a def whose promise wants that nothing is guarded -/
theorem pe_callG (F : FnG X.prog X.w X.K X.mg X.base CX k f fd ps sp) (free : X.A.guards = some []) (hr : Room k X.A) (hg : Gl X x) (hm : X.mg x = some (.ref f)) (hk : PySem.W.keepIn X.K (.ref f) = true) (hb : Binds X.K fd ps []) (hx : Passes CX X E)
    (ha : PA X (e :: es) t) (h1 : (x == ("__debug__" : Str)) = false := by decide) (h2 : starEach (e :: es) X.env = (false, eval e X.env) :: starEach es X.env := by rfl) (h3 : (backTo pos (starEach es X.env)).any (·.1) = false := by rfl) :
    PE X (.Call (.Name x p) (e :: es) [] pos) (tCall sp [] E t) := by
  constructor
  intro pins s σ H Q I want
  refine wpAny_Call_Name_kw (ld_glob I hg hm ?_ h1)
  refine PySem.W.callWith_K (h₀ := X.base) I.ok.mod.kin hk (thn (ha.run pos pins s σ H _ I want) ?_) h2 h3
  rintro us s1 ⟨vs, H1, I1, rel, q⟩
  refine ⟨I1.kIn, wpAny_call ?_⟩
  have q' : sp vs H1 Q E := by simpa using q
  have n1 : us.length = ps.length := by rw [← rel.length]; exact F.len _ _ _ _ q'
  refine codeAny_mono (F.go X.A X.stack s1 H1 ⟨us, []⟩ us vs Q E hr free I1.env0 (by have := hb s1 us I1.kIn (by simpa using n1); simpa using this) rel q') ?_
  intro r s' z
  match r, z with
  | .error e, z => exact hx pins σ H1 s1 e s' I1 z
  | .ok (.ret u), z => exact I1.after z
end

/-- the data that a value stands for, of a heap -/
def rRepr (K : PySem.W.Frag) : List V → Hp → VK → Prop := fun xs H Q => ∃ a d, xs = [.ref a] ∧ Dp K H (.ref a) d ∧ d.showable = true ∧ d.hasDict = false ∧ d.depth ≤ 60 ∧ d.shown.length ≤ sizeLine ∧ Q (.str d.shown) H
theorem call_reprD {X : Cx} (free : X.A.guards = some []) (hu : X.A.units + 64 < cLine) : CallR X (.builtin "repr") (rRepr X.K) := by
  intro pins s σ H xs us Q I rel want
  obtain ⟨a, d, rfl, hd, sh, nd, dp, sz, q⟩ := want
  obtain ⟨u, rfl, ru⟩ := vals1 rel
  cases (show u = Value.ref a from ru)
  obtain ⟨as, r⟩ := Dp.reads I d (.ref a) _ hd rfl
  refine repr_of_reads' r sh (fun z => by rw [nd] at z; cases z) free (by omega) (fun _ _ z => z) ?_ sz
  intro h' t tk kp
  exact ⟨.str d.shown, H, I.kept kp, ⟨t, rfl⟩, q⟩
end Gu
namespace Gu
open PySem PySem.Spec PyProof.Rows L2
section
variable {P : Program} {w : World} {K : PySem.W.Frag} {mg mb : Str → Option Value} {k : Nat} {fa a : Addr} {fd : FuncData} {x : Str} {sp : Sp} {s : Shared} {vs : List Value} {ns : List Int}
/-- the script's object -/
abbrev scr (vs : List Value) : Obj := { cls := .type "list", data := .seq vs.toArray }
/-- what may be known at the law's call: nothing but the script, as it stands -/
def Bare (a : Addr) (vs : List Value) (ns : List Int) (H : Hp) : Prop := ∀ b u, H b = some u → b = a ∧ u = .frz (scr vs) (.lst (ns.map V.int))
theorem from_caller (inK : K.In s.heap) (glob : s.heap.Ns mainGlobals mg) (bi : s.heap.Ns builtinsNs mb) (hbi : ∀ x : Str, x ≠ "__name__" → mb x = bootBuiltins x) (lim : s.heap.NoLimit) (gens : s.gens = #[])
    (script : s.heap.get? a = some (scr vs)) (room : Room k callerA) (F : ∀ base : Heap, K.In base → base.Ns mainGlobals mg → FnG P w K mg base CX0 k fa fd [x] sp)
    (bind : ∀ (s : Shared) (u : Value), BindsTo s fd ⟨[u], []⟩ [(x, u)]) {H : Hp} (bare : Bare a vs ns H) (ok : HOk P w H s.heap) (off : H a ≠ none → K.lookup a = none)
    (want : sp [.ref a] H (fun v _ => v = .bl true) fun _ _ _ => False) :
    codeAny (model P w) callerA (.call (.ref fa) ⟨[.ref a], []⟩) (fun r s' => r = .ok (.ret (.bool true)) ∧ OldK s.heap s'.heap ∧ s'.os = s.os ∧ AllBare s'.gens) s := by
  -- an object whose data is a dict is not the script, so it is not known
  have apart : ∀ {b : Addr} {o : Obj} {es : Array DictEntry} {n : Nat}, s.heap.get? b = some o → o.data = .dict es n → H b = none := by
    intro b o es n e d
    cases z : H b with
    | none => rfl
    | some u =>
      obtain ⟨rfl, _⟩ := bare b u z
      rw [script] at e
      cases e
      cases (show Data.seq vs.toArray _ = Data.dict es n from d)
  have ns' : ∀ {b : Addr} {m : Str → Option Value}, s.heap.Ns b m → (hidT s.heap H).Ns b m := by
    rintro b m ⟨o, es, n, e, d, rest⟩
    exact ⟨o, es, n, hidT_get e (apart e d), d, rest⟩
  have inB : K.In (hidT s.heap H) := by
    intro b o e
    refine hidT_get (inK b o e) ?_
    cases z : H b with
    | none => rfl
    | some u =>
      obtain ⟨rfl, _⟩ := bare b u z
      rw [off (by rw [z]; exact fun q => by cases q)] at e
      cases e
  obtain ⟨mc, l1, l2⟩ := lim
  have e0 : Env0 P w K mg (hidT s.heap H) callerA [] s H := {
    frames := rfl
    mod := ⟨inB, ns' glob, ⟨mb, ns' bi, hbi⟩, ⟨mc, ns' l1, l2⟩⟩
    bs := fun b o e => of_hidT e
    bsz := Nat.le_of_eq (hidT_size _ _)
    funs := trivial
    frf := by intro b hb; cases hb
    hok := ok
    bare := .of_eq gens }
  refine codeAny_mono ((F _ inB (ns' glob)).go callerA [] s H ⟨[.ref a], []⟩ [.ref a] [.ref a] _ _ room rfl e0 (bind s (.ref a)) (.cons rfl .nil) want) ?_
  intro r s' z
  match r, z with
  | .error e, z => exact z.elim
  | .ok (.ret u), ⟨v, H', os, bare', un, ok', rv, q⟩ =>
    have q' : v = .bl true := q
    subst q'
    cases (show u = Value.bool true from rv)
    refine ⟨rfl, OldK.of_keep (fun b o e => ?_), os, bare'⟩
    cases z : H b with
    | none => exact un.keep b o e z (by intro h; cases h) (by intro h; cases h)
    | some u =>
      obtain ⟨rfl, rfl⟩ := bare b u z
      obtain ⟨e1, _⟩ := ok b _ z
      obtain ⟨e2, _⟩ := ok' b _ (un.frzs b _ _ z)
      rw [e] at e1
      cases e1
      exact e2
end
/-- the end of a law's row, from a promise of that kind -/
theorem walkG {l : PySem.W.OpenLaw} {n k : Nat} {q : Program} {loose : List Str} {XP : (Str → Option Value) → Heap → Prop} {YP : World → Heap → Prop} {d : DefRec} {K : Params → PySem.W.Frag} {sp : PySem.W.Frag → Sp} {x : Str}
    (most : l.most = some n) (small : n ≤ sizeLine) (nodef : d.params.defaults = []) (room : Room k callerA) (inK : ∀ (w : World) (h : Heap), YP w h → (K w.params).In h)
    (F : ∀ (w : World) (mg : Str → Option Value) (fa : Addr) (h : Heap), (K w.params).In h → h.Ns mainGlobals mg → mg d.name = some (.ref fa) →
      ∃ fd : FuncData, (∀ (s : Shared) (u : Value), BindsTo s fd ⟨[u], []⟩ [(x, u)]) ∧ ∀ base : Heap, (K w.params).In base → base.Ns mainGlobals mg → FnG l.prog w (K w.params) mg base CX0 k fa fd [x] (sp (K w.params)))
    (want : ∀ (K : PySem.W.Frag) (H : Hp) (a : Addr) (ns : List Int), ns.length ≤ n → SqL K H a (ns.map V.int) → sp K [.ref a] H (fun v _ => v = .bl true) fun _ _ _ => False) :
    PySem.W.WalkO q loose XP YP l.row.toRowW d [] (fun f vs => PySem.call f vs) := by
  refine Att.attach_call most nodef fun w s₀ s mg mb fa o pm cd doc a vs ns G Y ho hd hcd hmg script hints len gens => ?_
  have kin := inK w _ Y
  obtain ⟨fd, bind, hF⟩ := F w mg fa _ kin G.T.g hmg
  have rel : Vals (ns.map V.int) vs := vals_ints hints
  have small' : (ns.map V.int).length ≤ sizeLine := by rw [List.length_map]; exact Nat.le_trans len small
  have small2 : vs.toArray.size ≤ sizeLine := by rw [List.size_toArray, ← rel.length]; exact small'
  cases known : K w.params |>.lookup a with
  | some o' =>
    have e := kin a o' known
    rw [script] at e
    cases e
    refine from_caller (ns := ns) (H := fun _ => none) kin G.T.g G.T.b G.T.builtins G.T.nolimit gens script room hF bind (by intro b u z; cases z) (by intro b u z; cases z) (fun z => (z rfl).elim) ?_
    exact want _ _ a ns len (.inr ⟨_, vs.toArray, _, known, rfl, rfl, rfl, small2, by simpa using rel⟩)
  | none =>
    refine from_caller (ns := ns) (H := upd (fun _ => none) a (.frz (scr vs) (.lst (ns.map V.int)))) kin G.T.g G.T.b G.T.builtins G.T.nolimit gens script room hF bind ?_ ?_ (fun _ => known) ?_
    · intro b u z
      by_cases c : b = a
      · subst c
        rw [upd_same] at z
        exact ⟨rfl, (Option.some.inj z).symm⟩
      · rw [upd_ne c] at z
        cases z
    · intro b u z
      by_cases c : b = a
      · subst c
        rw [upd_same] at z
        cases z
        exact ⟨script, small', vs, _, rel, script⟩
      · rw [upd_ne c] at z
        cases z
    · exact want _ _ a ns len (.inl (.inr ⟨_, upd_same⟩))
end Gu
namespace Gu
open PySem PySem.Spec PyProof.Rows L2
section
variable {P : Program} {w : World} {K : PySem.W.Frag} {mg mb : Str → Option Value} {k : Nat} {fa a : Addr} {fd : FuncData} {x : Str} {sp : Sp} {s : Shared} {vs : List Value} {ns : List Int}
theorem from_callerN (inK : K.In s.heap) (glob : s.heap.Ns mainGlobals mg) (bi : s.heap.Ns builtinsNs mb) (hbi : ∀ x : Str, x ≠ "__name__" → mb x = bootBuiltins x) (lim : s.heap.NoLimit) (gens : s.gens = #[])
    (script : s.heap.get? a = some (scr vs)) (room : Room k callerA) (nodig : s.heap.NoDigits) (F : ∀ base : Heap, K.In base → base.Ns mainGlobals mg → base.NoDigits → FnG P w K mg base CX0 k fa fd [x] sp)
    (bind : ∀ (s : Shared) (u : Value), BindsTo s fd ⟨[u], []⟩ [(x, u)]) {H : Hp} (bare : Bare a vs ns H) (ok : HOk P w H s.heap) (off : H a ≠ none → K.lookup a = none)
    (want : sp [.ref a] H (fun v _ => v = .bl true) fun _ _ _ => False) :
    codeAny (model P w) callerA (.call (.ref fa) ⟨[.ref a], []⟩) (fun r s' => r = .ok (.ret (.bool true)) ∧ OldK s.heap s'.heap ∧ s'.os = s.os ∧ AllBare s'.gens) s := by
  -- an object whose data is a dict is not the script, so it is not known
  have apart : ∀ {b : Addr} {o : Obj} {es : Array DictEntry} {n : Nat}, s.heap.get? b = some o → o.data = .dict es n → H b = none := by
    intro b o es n e d
    cases z : H b with
    | none => rfl
    | some u =>
      obtain ⟨rfl, _⟩ := bare b u z
      rw [script] at e
      cases e
      cases (show Data.seq vs.toArray _ = Data.dict es n from d)
  have ns' : ∀ {b : Addr} {m : Str → Option Value}, s.heap.Ns b m → (hidT s.heap H).Ns b m := by
    rintro b m ⟨o, es, n, e, d, rest⟩
    exact ⟨o, es, n, hidT_get e (apart e d), d, rest⟩
  have inB : K.In (hidT s.heap H) := by
    intro b o e
    refine hidT_get (inK b o e) ?_
    cases z : H b with
    | none => rfl
    | some u =>
      obtain ⟨rfl, _⟩ := bare b u z
      rw [off (by rw [z]; exact fun q => by cases q)] at e
      cases e
  obtain ⟨mc, l1, l2⟩ := lim
  have e0 : Env0 P w K mg (hidT s.heap H) callerA [] s H := {
    frames := rfl
    mod := ⟨inB, ns' glob, ⟨mb, ns' bi, hbi⟩, ⟨mc, ns' l1, l2⟩⟩
    bs := fun b o e => of_hidT e
    bsz := Nat.le_of_eq (hidT_size _ _)
    funs := trivial
    frf := by intro b hb; cases hb
    hok := ok
    bare := .of_eq gens }
  refine codeAny_mono ((F _ inB (ns' glob) (let ⟨mc, a, b⟩ := nodig; ⟨mc, ns' a, b⟩)).go callerA [] s H ⟨[.ref a], []⟩ [.ref a] [.ref a] _ _ room rfl e0 (bind s (.ref a)) (.cons rfl .nil) want) ?_
  intro r s' z
  match r, z with
  | .error e, z => exact z.elim
  | .ok (.ret u), ⟨v, H', os, bare', un, ok', rv, q⟩ =>
    have q' : v = .bl true := q
    subst q'
    cases (show u = Value.bool true from rv)
    refine ⟨rfl, OldK.of_keep (fun b o e => ?_), os, bare'⟩
    cases z : H b with
    | none => exact un.keep b o e z (by intro h; cases h) (by intro h; cases h)
    | some u =>
      obtain ⟨rfl, rfl⟩ := bare b u z
      obtain ⟨e1, _⟩ := ok b _ z
      obtain ⟨e2, _⟩ := ok' b _ (un.frzs b _ _ z)
      rw [e] at e1
      cases e1
      exact e2
end
/-- the end of a law's row, from a promise of that kind -/
theorem walkGN {l : PySem.W.OpenLaw} {n k : Nat} {q : Program} {loose : List Str} {XP : (Str → Option Value) → Heap → Prop} {YP : World → Heap → Prop} {d : DefRec} {K : Params → PySem.W.Frag} {sp : PySem.W.Frag → Sp} {x : Str}
    (most : l.most = some n) (small : n ≤ sizeLine) (nodef : d.params.defaults = []) (room : Room k callerA) (inK : ∀ (w : World) (h : Heap), YP w h → (K w.params).In h)
    (F : ∀ (w : World) (mg : Str → Option Value) (fa : Addr) (h : Heap), (K w.params).In h → h.Ns mainGlobals mg → mg d.name = some (.ref fa) →
      ∃ fd : FuncData, (∀ (s : Shared) (u : Value), BindsTo s fd ⟨[u], []⟩ [(x, u)]) ∧ ∀ base : Heap, (K w.params).In base → base.Ns mainGlobals mg → base.NoDigits → FnG l.prog w (K w.params) mg base CX0 k fa fd [x] (sp (K w.params)))
    (want : ∀ (K : PySem.W.Frag) (H : Hp) (a : Addr) (ns : List Int), ns.length ≤ n → SqL K H a (ns.map V.int) → sp K [.ref a] H (fun v _ => v = .bl true) fun _ _ _ => False) :
    PySem.W.WalkO q loose XP YP l.row.toRowW d [] (fun f vs => PySem.call f vs) := by
  refine Att.attach_call most nodef fun w s₀ s mg mb fa o pm cd doc a vs ns G Y ho hd hcd hmg script hints len gens => ?_
  have kin := inK w _ Y
  obtain ⟨fd, bind, hF⟩ := F w mg fa _ kin G.T.g hmg
  have rel : Vals (ns.map V.int) vs := vals_ints hints
  have small' : (ns.map V.int).length ≤ sizeLine := by rw [List.length_map]; exact Nat.le_trans len small
  have small2 : vs.toArray.size ≤ sizeLine := by rw [List.size_toArray, ← rel.length]; exact small'
  cases known : K w.params |>.lookup a with
  | some o' =>
    have e := kin a o' known
    rw [script] at e
    cases e
    refine from_callerN (ns := ns) (H := fun _ => none) kin G.T.g G.T.b G.T.builtins G.T.nolimit gens script room G.T.nodigits hF bind (by intro b u z; cases z) (by intro b u z; cases z) (fun z => (z rfl).elim) ?_
    exact want _ _ a ns len (.inr ⟨_, vs.toArray, _, known, rfl, rfl, rfl, small2, by simpa using rel⟩)
  | none =>
    refine from_callerN (ns := ns) (H := upd (fun _ => none) a (.frz (scr vs) (.lst (ns.map V.int)))) kin G.T.g G.T.b G.T.builtins G.T.nolimit gens script room G.T.nodigits hF bind ?_ ?_ (fun _ => known) ?_
    · intro b u z
      by_cases c : b = a
      · subst c
        rw [upd_same] at z
        exact ⟨rfl, (Option.some.inj z).symm⟩
      · rw [upd_ne c] at z
        cases z
    · intro b u z
      by_cases c : b = a
      · subst c
        rw [upd_same] at z
        cases z
        exact ⟨script, small', vs, _, rel, script⟩
      · rw [upd_ne c] at z
        cases z
    · exact want _ _ a ns len (.inl (.inr ⟨_, upd_same⟩))
end Gu
/-! a static method called through its class; the end of a row where the limit of figures stands as at the start -/
namespace Sm
open PySem PySem.Spec PyProof.Rows L2 ClX
/-- C.m is a static method: its record at p, its def at g -/
structure SMet (K : PySem.W.Frag) (C : Addr) (mc : Value) (m : Str) (p g : Addr) : Prop where
  at_ : PySem.W.findCls K (.ref C) mc m = some (.get (.builtin "staticmethod.__get__") (.ref p) .none (.ref C))
  rc : ∃ rest, PySem.W.recIn K p "staticmethod" = some (.ref g :: rest)
  kp : PySem.W.keepIn K (.ref g) = true
def tSMeth (C : Addr) (sp : Sp) (dvs : List V) (E : XK) (ta : TE) (t : TA) : TE := fun σ H Q => ta σ H fun x H1 => x = .ref C ∧ t σ H1 fun vs H2 => sp (vs ++ dvs) H2 Q E
section
variable {X : Cx} {CX : CXT} {k : Nat} {C p g : Addr} {mc : Value} {sp : Sp} {fd : FuncData} {ps : List Str} {dvs : List V} {ds : List Value} {E : XK} {o e : Expr} {es : List Expr} {m : Str} {pos apos : Pos} {ta : TE} {t : TA} {pl : Sem Bool}
theorem getsm_ok {pins : List (Addr × Obj)} {σ : L2.St} {H : Hp} {s : Shared} {A : Around} {Q : Value × List Value → Shared → Prop} {E : Value → Shared → Prop} (I : Inv X pins σ H s) (r : CRead X.K C mc) (k : SMet X.K C mc m p g) (h : ∀ s', Inv X pins σ H s' → Q (.ref g, []) s') :
    wpAny (model X.prog X.w) A (getMethod (.ref C) m pl) Q E s := by
  obtain ⟨rest, hp⟩ := k.rc
  refine PySem.W.method_cls I.kIn r.ga (PySem.W.cls_bind I.kIn r.rd k.at_ ?_)
  exact wpAny_call (PySem.W.sm_get (s := { s with toks := s.toks + 1 }) I.kIn hp (PySem.W.handed_on rfl (h _ (I.tok _))))
theorem pe_smeth (he : PE X o ta) (r : CRead X.K C mc) (c : SMet X.K C mc m p g) (F : FnOk X.prog X.w X.K X.mg X.base CX k g fd ps sp) (hr : Room k X.A) (hb : Binds X.K fd ps ds) (hd : Vals dvs ds) (hx : Passes CX X E) (ha : PA X (e :: es) t)
    (hst : starEach (e :: es) X.env = (false, eval e X.env) :: starEach es X.env := by rfl) (hpl : (backTo pos (starEach es X.env)).any (·.1) = false := by rfl)
    (ht : eval (.Call (.Attribute o m apos) (e :: es) [] pos) X.env = (do
      let ov ← eval o X.env
      standAt apos.atName
      let (f, first) ← holding [ov] (getMethod ov m pl)
      callWith pos f first (backTo pos (starEach (e :: es) X.env)) (backToKw pos (keywordEach [] X.env))) := by rfl) :
    PE X (.Call (.Attribute o m apos) (e :: es) [] pos) (tSMeth C sp dvs E ta t) := by
  refine ⟨fun pins s σ H Q I h => ?_⟩
  refine PySem.W.methodCall_KW (pl := pl) (thn (he.run pins s σ H _ I h) fun u s1 ⟨x, H1, I1, rx, ex, q⟩ => ?_) ht
  subst ex
  obtain rfl : u = Value.ref C := rx
  refine getsm_ok I1 r c fun s2 I2 => ?_
  refine PySem.W.callWith_K (h₀ := X.base) I2.ok.mod.kin c.kp (thn (ha.run pos pins s2 σ H1 _ I2 q) ?_) hst hpl
  rintro us s3 ⟨vs, H2, I3, rel, q2⟩
  exact ⟨I3.kIn, run_fn F hr hb hd hx I3 rel q2⟩
def tSMethS (C : Addr) (sp : Sp) (E : L2.St → XK) (ta : TE) (t : TA) : TE := fun σ H Q => ta σ H fun x H1 => x = .ref C ∧ t σ H1 fun vs H2 => sp vs H2 Q (E σ)
/-- the same in the body of a try -/
theorem pe_smethS {E : L2.St → XK} (he : PE X o ta) (r : CRead X.K C mc) (c : SMet X.K C mc m p g) (F : FnOk X.prog X.w X.K X.mg X.base CX k g fd ps sp) (hr : Room k X.A) (hb : Binds X.K fd ps []) (hx : ∀ σ, PassesAt CX X σ (E σ)) (ha : PA X (e :: es) t)
    (hst : starEach (e :: es) X.env = (false, eval e X.env) :: starEach es X.env := by rfl) (hpl : (backTo pos (starEach es X.env)).any (·.1) = false := by rfl)
    (ht : eval (.Call (.Attribute o m apos) (e :: es) [] pos) X.env = (do
      let ov ← eval o X.env
      standAt apos.atName
      let (f, first) ← holding [ov] (getMethod ov m pl)
      callWith pos f first (backTo pos (starEach (e :: es) X.env)) (backToKw pos (keywordEach [] X.env))) := by rfl) :
    PE X (.Call (.Attribute o m apos) (e :: es) [] pos) (tSMethS C sp E ta t) := by
  refine ⟨fun pins s σ H Q I h => ?_⟩
  refine PySem.W.methodCall_KW (pl := pl) (thn (he.run pins s σ H _ I h) fun u s1 ⟨x, H1, I1, rx, ex, q⟩ => ?_) ht
  subst ex
  obtain rfl : u = Value.ref C := rx
  refine getsm_ok I1 r c fun s2 I2 => ?_
  refine PySem.W.callWith_K (h₀ := X.base) I2.ok.mod.kin c.kp (thn (ha.run pos pins s2 σ H1 _ I2 q) ?_) hst hpl
  rintro us s3 ⟨vs, H2, I3, rel, q2⟩
  exact ⟨I3.kIn, run_fnS F hr hb (hx σ) I3 rel q2⟩
end
end Sm
/-! try .. except X as n: .. kept = n: the caught object stands on behind the suite -/
namespace Kt
open PySem PySem.Spec PyProof.Rows L2
/-- an exception object that was raised and caught: its class, its dict -/
def EO (a : Addr) (cls : Value) (d : Option Addr) : HO := .ext fun h => ∃ (oe : Obj) (vs : Array Value), h.get? a = some oe ∧ Zc cls d oe ∧ oe.data = .fields vs
theorem eo_ok {P : Program} {w : World} {H : Hp} {h : Heap} {a : Addr} {cls : Value} {d : Option Addr} {oe : Obj} {vs : Array Value} (e : h.get? a = some oe) (z : Zc cls d oe) (f : oe.data = .fields vs) : ObjOk P w H h a (EO a cls d) :=
  ⟨⟨oe, vs, e, z, f⟩, ⟨oe, e⟩, fun _ _ ⟨o, v, q, r⟩ k => ⟨o, v, k o q, r⟩⟩
theorem eo_at {P : Program} {w : World} {H : Hp} {h : Heap} {a : Addr} {cls : Value} {d : Option Addr} (ok : HOk P w H h) (e : H a = some (EO a cls d)) : ∃ oe vs, h.get? a = some oe ∧ Zc cls d oe ∧ oe.data = .fields vs := by
  obtain ⟨p, _, _⟩ := ok a _ e
  exact p
section
variable {X : Cx} {pins : List (Addr × Obj)} {τ : L2.St} {G : Hp} {z : Shared} {a : Addr} {o : HO}
/-- an object that is new since the entry becomes known -/
theorem track (I : Inv X pins τ G z) (na : G a = none) (n0 : X.s_0.heap.get? a = none) (nL : a ≠ X.env.locals) (np : ∀ p ∈ X.pn ++ pins, p.1 ≠ a) (nc : ∀ v, ¬ z.heap.IsCell a v)
    (new : ObjOk X.prog X.w (upd G a o) z.heap a o) : Inv X pins τ (upd G a o) z := by
  have elder : ∀ {b u}, X.s_0.heap.get? b = some u → b ≠ a := fun e y => by subst y; rw [n0] at e; cases e
  have same : ∀ {b u}, G b = some u → upd G a o b = some u := fun e => (upd_ne (ne_of_none e na)).trans e
  constructor
  case ok => exact I.ok
  case os => exact I.os
  case bare => exact I.bare
  case loc => exact I.loc
  case cell => exact I.cell
  case len => exact I.len
  case free => exact (upd_ne (Ne.symm nL)).trans I.free
  case freeC =>
    intro y c hc
    refine (upd_ne fun y' => ?_).trans (I.freeC y c hc)
    obtain ⟨v, hv⟩ := I.cell y c hc
    exact nc v (y' ▸ hv)
  case pin =>
    intro p hp
    have q := I.pin p hp
    exact ⟨q.1, (upd_ne (np p hp)).trans q.2.1, q.2.2⟩
  case base =>
    exact { I.base with
      free := fun b u e n x => (upd_ne (elder e)).trans (I.base.free b u e n x)
      tups := fun b xs e => same (I.base.tups b xs e)
      frzs := fun b w u e => same (I.base.frzs b w u e)
      tbls := fun b ps e => (I.base.tbls b ps e).imp fun _ => same }
  case hok =>
    intro b u e
    by_cases c : b = a
    · subst c
      obtain rfl : o = u := Option.some.inj (upd_same.symm.trans e)
      exact new
    · exact (I.hok b u ((upd_ne c).symm.trans e)).stay (fun _ _ _ y => y) (fun _ => same) fun _ _ => same
/-- into an except suite that pins nothing of its own, and out of it -/
theorem toSuite (I : Inv X pins τ G z) (a : Addr) : Inv (X.suite a (X.pn ++ pins)) [] τ G z :=
  { ok := I.ok.suite _ _, os := I.os, bare := I.bare, base := I.base, loc := I.loc, cell := I.cell, free := I.free, freeC := I.freeC, hok := I.hok, len := I.len, pin := fun p hp => I.pin p ((List.append_nil (X.pn ++ pins)) ▸ hp) }
theorem ofSuite {more : List (Addr × Obj)} (I : Inv (X.suite a (X.pn ++ pins)) more τ G z) (ok : X.Ok) : Inv X pins τ G z :=
  { ok := ok, os := I.os, bare := I.bare, base := I.base, loc := I.loc, cell := I.cell, free := I.free, freeC := I.freeC, hok := I.hok, len := I.len, pin := fun p hp => I.pin p (List.mem_append.mpr (.inl hp)) }
end
/-- the wish -/
def wKeep (K : PySem.W.Frag) (c : Value) (i : Nat) (ts : TS) (Wout : WX) (D : Ends) : WX := fun cls d σ H =>
  ∃ b, PySem.W.exmOne K cls c = some b ∧ (b = true → ∀ a, H a = none → ts { nx := fun σ' H' => D.nx (σ'.set i none) H', rt := D.rt, bk := fun σ' H' => D.bk (σ'.set i none) H', ct := fun σ' H' => D.ct (σ'.set i none) H' } (σ.set i (some (.ref a))) (upd H a (EO a cls d))) ∧
    (b = false → Wout cls d σ H)
section
variable {X : Cx} {x n : Str} {c : Value} {i : Nat} {body suite : List Stmt} {b₀ : Stmt} {np pos pos' : Pos} {tb : WX → TS} {ts : TS} {Wout : WX} {pins : List (Addr × Obj)} {τ : L2.St} {G : Hp} {D : Ends}
/-- what is to be done with an exception of a try's body -/
abbrev Fate (X : Cx) (hds : List ExceptHandler) (pins : List (Addr × Obj)) (D : Ends) (e : Value) (z : Shared) : Prop :=
  wpAny (model X.prog X.w) X.A (noteFrame e X.env) (fun _ z1 => wpAny (model X.prog X.w) X.A (setFlight e none) (fun _ z2 => wpAny (model X.prog X.w) X.A (handleBy e X.env hds) (SP X pins D) X.xe z2) X.xe z1) X.xe z
/-- the clause's test names the class c -/
theorem names_eval (hc : Names X x c) {a : Addr} {oe : Obj} {h3 : Heap} {z : Shared} (S : Inv (X.suite a ((a, oe) :: (X.pn ++ pins))) [] τ G { z with heap := h3 }) {Q E : Value → Shared → Prop} (q : Q c { z with heap := h3 }) :
    wpAny (model X.prog X.w) (X.A.mark (some (.ref a))) (eval (.Name x np) X.env) Q E { z with heap := h3 } := by
  rcases hc with ⟨g, nd, own | ⟨no, boot, nn⟩⟩
  · exact L2.ld_glob (X := X.suite a ((a, oe) :: (X.pn ++ pins))) S g own q nd
  · exact L2.ld_blt (X := X.suite a ((a, oe) :: (X.pn ++ pins))) S g no boot q nn nd
/-- the suite, run with the caught object known -/
theorem keep_suite (hN : X.N.Nodup) (hi : X.N[i]? = some n) (hln : X.env.kindOf n = some .local) (hsu : ∀ (a : Addr) (pn : List (Addr × Obj)), PSs (X.suite a pn) (b₀ :: suite) ts) {a : Addr} {z : Shared}
    (I : Inv X pins τ G z) (want : ts { nx := fun σ' H' => D.nx (σ'.set i none) H', rt := D.rt, bk := fun σ' H' => D.bk (σ'.set i none) H', ct := fun σ' H' => D.ct (σ'.set i none) H' } (τ.set i (some (.ref a))) G) {E1 E2 : Value → Shared → Prop} :
    wpAny (model X.prog X.w) (X.A.mark (some (.ref a))) (storeName X.env n (.ref a)) (fun _ z1 => wpAny (model X.prog X.w) (X.A.mark (some (.ref a))) (execs (b₀ :: suite) X.env) (fun fl z2 => wpAny (model X.prog X.w) X.A (do bindName X.env n .none; unbindBehindTheSuite X.env n pos') (fun _ z3 => SP X pins D fl z3) X.xe z2) E1 z1) E2 z := by
  refine L2.store_ok (X := X.suite a (X.pn ++ pins)) (v := .ref a) (toSuite I a) hN hi (.inl hln) rfl (fun z1 J => ?_) (.inr hln)
  have run := (hsu a (X.pn ++ pins)).run [] z1 _ _ _ J want
  have behind : ∀ {τ2 : L2.St} {G2 : Hp} {z2 : Shared} {Q : Shared → Prop}, Inv (X.suite a (X.pn ++ pins)) [] τ2 G2 z2 → (∀ z3, Inv X pins (τ2.set i none) G2 z3 → Q z3) →
      wpAny (model X.prog X.w) X.A (do bindName X.env n .none; unbindBehindTheSuite X.env n pos') (fun _ z3 => Q z3) X.xe z2 := fun J2 k => L2.gone_ok (ofSuite J2 I.ok) hN hi hln k
  refine wpAny_mono run (fun fl z2 r => ?_) fun _ _ no => no.elim
  match fl, r with
  | .next, ⟨_, _, J2, q⟩ => exact behind J2 fun _ J3 => ⟨_, _, J3, q⟩
  | .brk, ⟨_, _, J2, q⟩ => exact behind J2 fun _ J3 => ⟨_, _, J3, q⟩
  | .cont, ⟨_, _, J2, q⟩ => exact behind J2 fun _ J3 => ⟨_, _, J3, q⟩
  | .ret _, ⟨_, _, _, J2, rel, q⟩ => exact behind J2 fun _ J3 => ⟨_, _, _, J3, rel, q⟩
/-- an exception of the body meets the clause -/
theorem keep_fate (hx : X.ex = []) (hs : X.stack = X.env :: X.outer) (hf : X.env.frame = some X.env.locals) (hN : X.N.Nodup) (hi : X.N[i]? = some n) (hln : X.env.kindOf n = some .local) (hc : Names X x c) (tk : Takes X Wout) (ok : X.Ok)
    (hsu : ∀ (a : Addr) (pn : List (Addr × Obj)), PSs (X.suite a pn) (b₀ :: suite) ts) {u : Value} {z : Shared} {xe : Value → Shared → Prop} (air : XE (X.tr (X.pn ++ pins) xe) (wKeep X.K c i ts Wout D) u z) :
    Fate X [.ExceptHandler (some (.Name x np)) (some n) (b₀ :: suite) pos'] pins D u z := by
  obtain ⟨a, B, g, pins', τ, G, cls, d, rfl, J0, ground, up, sky, na, os, ag, b, meets, yes, no⟩ := air
  have J : Inv X pins τ G g := L2.Inv.ofTry J0 ok
  have sky1 : Sky B (X.env :: X.outer) a (Zc cls d) X.env.locals z.heap := hs ▸ sky
  refine Sky.land Zc.steady (ok.frames.trans (congrArg some hs)) hf sky1 fun k fl upk => ?_
  obtain ⟨oe, vs, at_, zc, rec⟩ := fl.there
  -- the object is no frame's, and new since the entry
  have noframe : a ∉ frs (X.env :: X.outer) := fun m => by
    obtain ⟨_, o', e', nr⟩ := fl.2.2.1.mem m
    obtain rfl : oe = o' := Option.some.inj (at_.symm.trans e')
    exact nr _ rec
  have nL : a ≠ X.env.locals := fun y => noframe (List.mem_filterMap.mpr ⟨_, .head _, hf.trans (congrArg some y.symm)⟩)
  have nF : a ∉ X.fs := fun m => noframe (by
    obtain ⟨e, me, q⟩ := List.mem_filterMap.mp m
    exact List.mem_filterMap.mpr ⟨e, .tail _ me, q⟩)
  have nG : g.heap.get? a = none := Option.eq_none_iff_forall_ne_some.mpr fun o e => by
    have q := ground a o e (hs ▸ noframe)
    rw [fl.2.1] at q
    cases q
  have n0 : X.s_0.heap.get? a = none := Option.eq_none_iff_forall_ne_some.mpr fun o e => by
    obtain ⟨o', q⟩ := J.base.there a o e (hx ▸ List.not_mem_nil)
    exact Option.some_ne_none _ (q.symm.trans nG)
  have npin : ∀ p ∈ X.pn ++ pins, p.1 ≠ a := fun p hp y => Option.some_ne_none _ ((J.pin p hp).1.symm.trans ((congrArg g.heap.get? y).trans nG))
  have K1 : Inv X pins τ G { z with heap := k } := L2.Inv.landed J ground fl.1 (up.trans upk) os ag
  have S1 := L2.Inv.suite K1 at_ rec na nL nF
  have isCls : PySem.W.Looks (model X.prog X.w) k (typeOf (.ref a)) cls := fun _ _ _ _ keep q => wpAny_typeOf_ref (keep _ _ at_) (zc.1.symm ▸ q)
  refine wpAny_handleBy_cons (codeAny_handlers_test (names_eval hc S1 ((PySem.W.exm_one (M := model X.prog X.w) K1.kIn isCls meets).here ?_))) (fun q => nomatch q)
  cases b with
  | true =>
    refine codeAny_handlers_suite_as (HandSPX.lands_againZ fl fun k2 fl2 up2 => ?_)
    obtain ⟨oe2, vs2, at2, zc2, rec2⟩ := fl2.there
    have K2 : Inv X pins τ G { z with heap := k2 } := L2.Inv.landed J ground fl2.1 ((up.trans upk).trans up2) os ag
    have K3 : Inv X pins τ (upd G a (EO a cls d)) { z with heap := k2 } := track K2 na n0 nL npin (fun v ⟨o, e, dv⟩ => by
      obtain rfl : oe2 = o := Option.some.inj (at2.symm.trans e)
      exact Data.noConfusion (rec2.symm.trans dv)) (eo_ok at2 zc2 rec2)
    exact keep_suite hN hi hln hsu K3 (yes rfl a na)
  | false =>
    refine wpAny_handleBy_nil ?_
    obtain ⟨_, _, _, oe', vs', T, _, _, e1, _, e2, e3, _⟩ := id fl
    have on : wpAny (model X.prog X.w) X.A (setFlight (.ref a) X.env.frame) (fun _ z1 => wpAny (model X.prog X.w) X.A (throw (.ref a) : Sem Flow) (SP X pins D) X.xe z1) X.xe { z with heap := k } := by
      rw [hf]
      refine HandSPX.setFlight_upZ fl fun k2 held up2 => wpAny_throw (tk _ _ ?_)
      refine ⟨a, B, g, pins, τ, G, cls, d, rfl, J, ground, (up.trans upk).trans up2, ?_, na, os, ag, no rfl⟩
      exact .inr (.inr (hs.symm ▸ held))
    unfold PySem.passOn
    refine wpAny_bind (wpAny_field e1 e2 e3 ?_)
    rw [if_neg (fun y => by simp at y)]
    first | exact wpAny_bind on | exact wpAny_bind (wpAny_pure (wpAny_bind on))
/-- try: body / except x as n: suite, the caught object known from then on -/
theorem ps_try_keep (hx : X.ex = []) (hs : X.stack = X.env :: X.outer) (hf : X.env.frame = some X.env.locals) (hN : X.N.Nodup) (hi : X.N[i]? = some n) (hln : X.env.kindOf n = some .local) (hc : Names X x c) (tk : Takes X Wout)
    (hb : ∀ (W : WX) (pn : List (Addr × Obj)) (xe : Value → Shared → Prop), Takes (X.tr pn xe) W → PassesOwn (model X.prog X.w) X.A X.env xe → PSs (X.tr pn xe) body (tb W))
    (hsu : ∀ (a : Addr) (pn : List (Addr × Obj)), PSs (X.suite a pn) (b₀ :: suite) ts) :
    PS X (.Try body [.ExceptHandler (some (.Name x np)) (some n) (b₀ :: suite) pos'] [] [] pos) (fun D σ H => tb (wKeep X.K c i ts Wout D) D σ H) := by
  constructor
  intro pins z τ G D I want
  have inner := hb (wKeep X.K c i ts Wout D) (X.pn ++ pins) (Fate X [.ExceptHandler (some (.Name x np)) (some n) (b₀ :: suite) pos'] pins D)
    (fun _ _ air => keep_fate hx hs hf hN hi hln hc tk I.ok hsu air) PassesOwn.looking
  refine wpAny_Try_except (wpAny_mono (inner.run [] z τ G D (L2.Inv.toTry I _) want) (fun fl z1 r => ?_) fun _ _ y => y)
  match fl, r with
  | .next, ⟨_, _, J, q⟩ => exact wpAny_execs_nil ⟨_, _, L2.Inv.ofTry J I.ok, q⟩
  | .brk, ⟨_, _, J, q⟩ => exact ⟨_, _, L2.Inv.ofTry J I.ok, q⟩
  | .cont, ⟨_, _, J, q⟩ => exact ⟨_, _, L2.Inv.ofTry J I.ok, q⟩
  | .ret _, ⟨_, _, _, J, rel, q⟩ => exact ⟨_, _, _, L2.Inv.ofTry J I.ok, rel, q⟩
/-- kept.f, kept a caught exception with an own dict -/
def tEf (C : Addr) (f : Str) (te : TE) : TE := fun σ H Q => te σ H fun x H1 => ∃ (a dd : Addr) (fs : List (Str × V)) (v : V), x = .ref a ∧ H1 a = some (EO a (.ref C) (some dd)) ∧ H1 dd = some (.xd fs) ∧ fs.lookup f = some v ∧ Q v H1
theorem pe_ef {C : Addr} {e : Expr} {te : TE} {pos : Pos} {n : Str} (T : XfC X.K C) (hno : PySem.W.findIn X.K (.ref C) n = some none)
    (he : PE X e te) (hb : attributeBase e n X.env (eval e X.env) = eval e X.env := by rfl) : PE X (.Attribute e n pos) (tEf C n te) := by
  refine ⟨fun pins z τ G Q I want => attr_of hb (thn (he.run pins z τ G _ I want) fun u z1 got => ?_)⟩
  obtain ⟨_, G1, J, rel, a, dd, fs, v, rfl, ea, ed, look, q⟩ := got
  cases (show u = Value.ref a from rel)
  obtain ⟨oe, vs, at_, zc, rec⟩ := eo_at J.hok ea
  obtain ⟨m, space, fits⟩ := (show ObjOk X.prog X.w G1 z1.heap dd (.xd fs) from J.hok dd _ ed)
  obtain ⟨od, od_at, od_look⟩ := lookIn_ns space
  have fit := fits n
  rw [look] at fit
  obtain ⟨w, w_is, w_rel⟩ := RelO.some_of fit
  have inst : PySem.W.InstAt z1.heap a oe C (some od) := by
    refine ⟨at_, zc.1, ?_, ?_⟩
    · unfold PySem.W.notCls
      rw [rec] <;> rfl
    · rw [zc.2]
      exact od_at
  have found := PySem.W.findObj_own (K := X.K) (C := C) (name := n) T.hdC hno rfl ((od_look n).trans (congrArg some w_is))
  exact HandSPX.exc_get J.kIn inst T.ga T.gg T.exC found (handed_of w_rel) ⟨v, G1, J.tok _, w_rel, q⟩
end
end Kt
/-! repr of tuples whose items are whole numbers or instances with an own __repr__ -/
namespace Rt
open PySem PySem.Spec PyProof.Rows L2
section
variable {prog : Program} {w : World} {A : Around} {E : Value → Shared → Prop} {s : Shared} {K : PySem.W.Frag} {x C f : Addr} {ox : Obj} {od : Option Obj}
/-- the text of an instance with an own __repr__, within another repr -/
theorem under_own {b : Nat} {Q : Str → Shared → Prop} (hb : b ≤ sizeLine) (hu : A.units < cLine) (X : K.In s.heap) (I : PySem.W.InstAt s.heap x ox C od) (hs : PySem.W.findIn K (.ref C) "__repr__" = some (some (.ref f))) (hf : PySem.W.isFn K (.ref f) = true)
    (h : wpAny (model prog w) A (call (.ref f) [.ref x]) (fun v s' => ∃ y t, v = .str y t ∧ Q y s') E s) : wpAny (model prog w) A (pyReprUnder b (.ref x)) Q E s := by
  have has : PySem.W.Looks (model prog w) s.heap (typeLookup (.ref C) "__repr__") (some (.ref f)) := PySem.W.looks_findIn X hs
  have bound : ∀ v, PySem.W.Looks (model prog w) s.heap (bindSpecial (.ref f) v) (.ref f, [v]) := fun v => PySem.W.bind_fn X v (beq_iff_eq.mp hf)
  -- the own method, bound or not, is what is asked
  have asked : ∀ {R : Option Value → Shared → Prop}, wpAny (model prog w) A (call (.ref f) [.ref x]) (fun v => R (some v)) E s →
      wpAny (model prog w) A (callSpecialIfBoundBy? (fun g first => match reprUnder? g, first with | some twin, [self] => call twin [self, rawInt b] | _, _ => call g (first ++ [])) (.ref x) (Str.ofString "__repr__")) R E s := by
    intro R told
    have run : wpAny (model prog w) A (call (.ref f) ([.ref x] ++ []) >>= fun v => pure (some v)) R E s := wpAny_bind (wpAny_mono told (fun _ _ y => wpAny_pure y) fun _ _ y => y)
    unfold callSpecialIfBoundBy? bindSpecialIfBound?
    refine wpAny_holding (wpAny_bind (wpAny_bind (wpAny_bind (I.type.here (has.here (wpAny_bind (wpAny_askSetting (wpAny_ite ?_))))))))
    split
    · exact wpAny_bind ((bound _).here (wpAny_pure run))
    · exact wpAny_tryCatch (wpAny_bind ((bound _).here (wpAny_pure run)))
  refine wpAny_pyReprUnder_ref hb ?_
  unfold pyReprObjUnder
  unfold pyReprObjBy
  refine wpAny_bind (wpAny_cRoomFor hu (wpAny_bind (wpAny_bind (I.type.here (has.here ?_)))))
  refine wpAny_bind (asked (wpAny_mono h (fun v z y => ?_) fun _ _ y => y))
  rcases y with ⟨y, t, rfl, q⟩
  exact wpAny_bind (wpAny_isInstance (typeIs_str z y t) isSubtype_str_str (wpAny_pure ⟨y, t, rfl, q⟩))
/-- the items one by one, J what holds between them -/
theorem tupFold {J : Nat → Shared → Prop} : ∀ (l : List Value) (ts : List Str) (i : Nat) (acc : Array Str) (n : Nat) (s : Shared) (Q : (Array Str × Nat) → Shared → Prop), l.length = ts.length → n + piled ts ≤ sizeLine → J i s →
    (∀ (j : Nat) (x : Value) (t : Str), l[j]? = some x → ts[j]? = some t → ∀ b, b + t.length ≤ sizeLine → ∀ s, J (i + j) s → wpAny (model prog w) A (pyReprUnder b x) (fun r s' => r = t ∧ J (i + j + 1) s') E s) →
    (∀ s', J (i + l.length) s' → Q ⟨acc ++ ts.toArray, n + piled ts⟩ s') → wpAny (model prog w) A (forIn l (⟨acc, n⟩ : (Array Str × Nat)) tupBody) Q E s := by
  intro l
  induction l with
  | nil =>
    intro ts i acc n s Q hl _ hj _ h
    obtain rfl := List.length_eq_zero_iff.mp hl.symm
    have h0 := h s hj
    simp only [List.forIn_nil]
    refine wpAny_pure ?_
    simpa [piled] using h0
  | cons x l ih =>
    intro ts i acc n s Q hl hn hj hx h
    cases ts with
    | nil => cases hl
    | cons t ts =>
      rw [piled_cons] at hn
      rw [List.forIn_cons]
      refine wpAny_bind (wpAny_bind (wpAny_mono (hx 0 x t rfl rfl (n + 1) (by omega) s hj) (fun r s1 hr => ?_) fun _ _ e => e))
      obtain ⟨rfl, hj1⟩ := hr
      refine wpAny_pure ?_
      refine ih ts (i + 1) (acc.push r) (n + (r.length + 2)) s1 Q (by simpa using hl) (by omega) hj1 (fun j x t e1 e2 b hb s hs => ?_) fun s' hs => ?_
      · have e : i + 1 + j = i + (j + 1) := by omega
        rw [e] at hs
        have q := hx (j + 1) x t (by simpa using e1) (by simpa using e2) b hb s hs
        rw [e]
        exact q
      · have e : i + 1 + l.length = i + (x :: l).length := by simp; omega
        rw [e] at hs
        have h1 := h s' hs
        have e : n + piled (r :: ts) = n + (r.length + 2) + piled ts := by rw [piled_cons]; omega
        rw [e] at h1
        simpa using h1
/-- repr(t), t a tuple, where nothing is guarded -/
theorem call_repr_tup {a : Addr} {o : Obj} {items : Array Value} {n : Nat} {ts : List Str} {J : Nat → Shared → Prop} {Q : Value → Shared → Prop} (hg : A.guards = some []) (hu : A.units + 1 < cLine)
    (ha : s.heap.get? a = some o) (hc : o.cls = .type "tuple") (hd : o.data = .seq items n) (hlen : items.toList.length = ts.length) (hj : J 0 s)
    (hx : ∀ (j : Nat) (x : Value) (t : Str), items.toList[j]? = some x → ts[j]? = some t → ∀ b, b + t.length ≤ sizeLine → ∀ s, J j s → wpAny (model prog w) (A.in1.under (.builtin "tuple.__repr__" ⟨[.ref a], []⟩)) (pyReprUnder b x) (fun r s' => r = t ∧ J (j + 1) s') E s)
    (hQ : ∀ s' u tk, J ts.length s' → Q (.str (tupleText ts) u) { s' with toks := tk }) (hsz : (tupleText ts).length ≤ sizeLine) :
    wpAny (model prog w) A (call (.builtin "repr") [.ref a]) Q E s := by
  refine call_repr_slot hu ⟨o, ha, hc⟩ F.slot_tuple_repr ?_
  refine wpAny_call (codeAny_call_builtin_own (Code.quiet_builtin _ (by decide +kernel)) F.entry_tuple_repr (F.slot_tuple_repr.check _ _ _ _ _ _ _ _ ⟨o, ha, hc⟩ (F.args_tuple_repr_1 _) ?_))
  have fits := piled_le_tupleText ts
  show wpOwn _ _ _ (Builtin.tupleReprAt 0 ⟨[.ref a], []⟩) _ _ s
  rw [tuple_repr_tree]
  rw [tupleReprUnderWay_eq]
  refine wpOwn_bind (wpOwn_stackTailAny (show A.in1.guards = some [] from hg) (tupGuardF_off _) (tupGuardF_pos _) ?_)
  refine wpOwn_of_wpAny ?_
  show wpAny _ _ (tupleReprRest 0 (.ref a)) _ _ s
  unfold tupleReprRest
  unfold Builtin.Tuple.tupleItemsOf
  refine wpAny_bind (wpAny_bind (wpAny_seqItems (items := items) ha hd (wpAny_pure ?_)))
  rw [← Array.forIn_toList]
  refine wpAny_bind (tupFold (J := J) _ ts 0 _ _ _ _ hlen (by omega) hj (fun j x t e1 e2 b hb s hs => ?_) fun s' hs => ?_)
  · rw [Nat.zero_add] at hs ⊢
    exact hx j x t e1 e2 b hb s hs
  · rw [Nat.zero_add, hlen] at hs
    have hl' : ts.length = items.size := by simpa using hlen.symm
    refine wpAny_bind (wpAny_mkStr (wpAny_pure ?_) (by simpa [tupleText, hl'] using hsz))
    refine ⟨_, _, rfl, ?_⟩
    have h1 := hQ s' s'.toks (s'.toks + 1) hs
    simpa [tupleText, hl'] using h1
end
end Rt
namespace Rt
open PySem PySem.Spec PyProof.Rows L2
theorem tr_depth {A : Around} {C : Addr} {us : List Value} {kw : List (Str × Value)} : (A.under (.builtin "tuple.__repr__" ⟨.ref C :: us, kw⟩)).depth ≤ A.depth + 1 := by
  first | exact Nat.le_of_eq (by first | rfl | simp [Around.under, Code.weight, Code.isCreation, Code.isGuard, Code.isCaller, Code.frames, Code.isFrame, guardIds]) | (simp [Around.under, Code.weight, Code.isCreation, Code.isGuard, Code.isCaller, Code.frames, Code.isFrame, guardIds])
theorem Room.tr {k : Nat} {A : Around} (r : Room (k + 1) A) (C : Addr) (us : List Value) (kw : List (Str × Value)) : Room k (A.under (.builtin "tuple.__repr__" ⟨.ref C :: us, kw⟩)) :=
  ⟨r.hd, by have := r.dp; have := @tr_depth A C us kw; omega, by have := r.un; rw [units_under_tuple_repr]; omega⟩
theorem Env0.tr {P : Program} {w : World} {K : PySem.W.Frag} {mg : Str → Option Value} {base : Heap} {A : Around} {outer : List Env} {s : Shared} {H : Hp} (e : Env0 P w K mg base A outer s H) (C : Addr) (us : List Value) (kw : List (Str × Value)) :
    Env0 P w K mg base (A.under (.builtin "tuple.__repr__" ⟨.ref C :: us, kw⟩)) outer s H := ⟨by first | exact e.frames | (simpa [Around.under, Code.envs, Code.isFrame, pushEnvs] using e.frames), e.mod, e.bs, e.bsz, e.funs, e.frf, e.hok, e.bare⟩
/-- the promise of an own __repr__ that leaves all as it was: R tells the text -/
def spRep (R : Hp → V → Str → Prop) : Sp := fun vs H Q _ => ∃ v t, vs = [v] ∧ R H v t ∧ Q (.str t) H
/-- an own class with an own __repr__ -/
structure OwnR (X : Cx) (C : Addr) (R : Hp → V → Str → Prop) (k : Nat) : Prop where
  ins : ∀ H v t, R H v t → ∃ a dx fs, v = .ref a ∧ H a = some (.ins C dx fs)
  ex : ∃ f fd, FnOk X.prog X.w X.K X.mg X.base CX0 k f fd ["self"] (spRep R) ∧ Binds X.K fd ["self"] [] ∧ PySem.W.findIn X.K (.ref C) "__repr__" = some (some (.ref f)) ∧ PySem.W.isFn X.K (.ref f) = true
def Item (R : Hp → V → Str → Prop) (H : Hp) (v : V) (t : Str) : Prop := (∃ i : Int, v = .int i ∧ i.natAbs.log2 < 1920 ∧ t = Str.ofString (toString i)) ∨ R H v t
def rRepT (R : Hp → V → Str → Prop) : List V → Hp → VK → Prop := fun xs H Q => ∃ (a : Addr) (v0 v1 : V) (t0 t1 : Str), xs = [.ref a] ∧ H a = some (.tup [v0, v1]) ∧ Item R H v0 t0 ∧ Item R H v1 t1 ∧ (tupleText [t0, t1]).length ≤ sizeLine ∧ Q (.str (tupleText [t0, t1])) H
def rRepI (R : Hp → V → Str → Prop) : List V → Hp → VK → Prop := fun xs H Q => ∃ v t, xs = [v] ∧ Item R H v t ∧ Q (.str t) H
section
variable {X : Cx} {pins : List (Addr × Obj)} {σ : L2.St} {H : Hp} {s : Shared} {C : Addr} {R : Hp → V → Str → Prop} {k : Nat}
/-- the own __repr__, run under A -/
theorem run_rep {A : Around} {v : V} {t : Str} {a f : Addr} {fd : FuncData} (F : FnOk X.prog X.w X.K X.mg X.base CX0 k f fd ["self"] (spRep R)) (hb : Binds X.K fd ["self"] []) (hr : Room k A) (he : Env0 X.prog X.w X.K X.mg X.base A X.stack s H) (I : Inv X pins σ H s) (hR : R H (.ref a) t)
    {E : Value → Shared → Prop} : wpAny (model X.prog X.w) A (call (.ref f) [.ref a]) (fun v s' => ∃ u, v = .str t u ∧ Inv X pins σ H s') E s := by
  refine wpAny_call (codeAny_mono (F.run A X.stack s H ⟨[.ref a], []⟩ [.ref a] [.ref a] (fun v H' => v = .str t ∧ H' = H) E0 hr he (by
    have := hb s [.ref a] I.kIn rfl
    simpa using this) (.cons rfl .nil) ⟨.ref a, t, rfl, hR, rfl, rfl⟩) fun r s' hq => ?_)
  cases r with
  | error e => exact False.elim hq
  | ok fl =>
    cases fl with
    | ret u =>
      obtain ⟨v, H', I', rv, rfl, rfl⟩ := I.after hq
      obtain ⟨tk, rfl⟩ := (show ∃ tk, u = Value.str t tk from rv)
      exact ⟨tk, rfl, I'⟩
    | next => exact False.elim hq
    | brk => exact False.elim hq
    | cont => exact False.elim hq
theorem call_repT (O : OwnR X C R k) (free : X.A.guards = some []) (hr : Room (k + 2) X.A) : CallR X (.builtin "repr") (rRepT R) := by
  intro pins s σ H xs us Q I rel want
  obtain ⟨a, v0, v1, t0, t1, rfl, ha, h0, h1, sz, q⟩ := want
  obtain ⟨u, rfl, ru⟩ := vals1 rel
  cases (show u = Value.ref a from ru)
  obtain ⟨f, fd, F, hb, hs, hf⟩ := O.ex
  obtain ⟨_, its, rv, ob, hob, hcl, nn, hdat⟩ := I.hok a _ ha
  obtain ⟨z0, z1, rfl, r0, r1⟩ : ∃ z0 z1, its = [z0, z1] ∧ RelV v0 z0 ∧ RelV v1 z1 := by
    cases rv with
    | cons r0 rv => cases rv with
      | cons r1 rv => cases rv; exact ⟨_, _, rfl, r0, r1⟩
  have one : ∀ {v : V} {z : Value} {t : Str}, RelV v z → Item R H v t → ∀ b, b + t.length ≤ sizeLine → ∀ s, Inv X pins σ H s →
      wpAny (model X.prog X.w) (X.A.in1.under (.builtin "tuple.__repr__" ⟨[.ref a], []⟩)) (pyReprUnder b z) (fun r s' => r = t ∧ Inv X pins σ H s') X.xe s := by
    intro v z t rz hi b hb' s I
    rcases hi with ⟨i, rfl, hl, rfl⟩ | hR
    · obtain ⟨tk, rfl⟩ := (show ∃ tk, z = Value.int i tk from rz)
      exact wpAny_mono (ReprIs.int tk hl b hb' _ X.xe s (fun r s' => r = Str.ofString (toString i) ∧ Inv X pins σ H s') (fun tk' => ⟨rfl, I.tok tk'⟩)) (fun _ _ z => z) fun _ _ e => e
    · obtain ⟨x, dx, fs, rfl, hx⟩ := O.ins H v t hR
      cases (show z = Value.ref x from rz)
      obtain ⟨od, J⟩ := Am.inst_of I hx
      refine under_own (by omega) (by rw [units_under_tuple_repr]; have := hr.units; show X.A.units + 1 + 1 < _; omega) I.kIn J hs hf ?_
      refine wpAny_mono (run_rep (v := .ref x) F hb (Room.tr (Room.in1 hr) a [] []) (Env0.tr I.env0.in1 a [] []) I hR) (fun v s' hv => ?_) fun _ _ e => e
      obtain ⟨u, rfl, I'⟩ := hv
      exact ⟨t, u, rfl, rfl, I'⟩
  refine call_repr_tup (J := fun _ s => Inv X pins σ H s) (ts := [t0, t1]) free (by have := hr.units; omega) hob hcl hdat (by simp) I (fun j x t e1 e2 b hb s hs => ?_) (fun s' u tk hs => ⟨.str (tupleText [t0, t1]), H, hs.tok tk, ⟨u, rfl⟩, q⟩) sz
  match j, e1, e2 with
  | 0, e1, e2 => cases (show some z0 = some x from e1); cases (show some t0 = some t from e2); exact one r0 h0 b hb s hs
  | 1, e1, e2 => cases (show some z1 = some x from e1); cases (show some t1 = some t from e2); exact one r1 h1 b hb s hs
  | j + 2, e1, e2 => simp at e1
theorem call_repI (O : OwnR X C R k) (hr : Room (k + 1) X.A) : CallR X (.builtin "repr") (rRepI R) := by
  intro pins s σ H xs us Q I rel want
  obtain ⟨v, t, rfl, hi, q⟩ := want
  obtain ⟨f, fd, F, hb, hs, hf⟩ := O.ex
  rcases hi with ⟨i, rfl, hl, rfl⟩ | hR
  · exact SkE.call_repr_int pins s σ H _ us Q I rel ⟨i, rfl, hl, q⟩
  · obtain ⟨x, dx, fs, rfl, hx⟩ := O.ins H v t hR
    obtain ⟨u, rfl, ru⟩ := vals1 rel
    cases (show u = Value.ref x from ru)
    obtain ⟨od, J⟩ := Am.inst_of I hx
    obtain ⟨mm, hF⟩ := I.fr
    refine PySem.W.repr_K (by have := hr.units; show X.A.units + 1 < _; omega) hF I.ok.mod.kin J hs hf ?_
    refine wpAny_mono (run_rep (v := .ref x) F hb (Room.in1 hr) I.env0.in1 I hR) (fun v s' hv => ?_) fun _ _ e => e
    obtain ⟨u, rfl, I'⟩ := hv
    exact ⟨.str t, H, I', ⟨u, rfl⟩, q⟩
end
end Rt
/-! repr of pairs whose items are data (nested too) or instances with an own __repr__ -/
namespace Rt
open PySem PySem.Spec PyProof.Rows L2
/-- data without an address -/
inductive Leaf : V → Str → Prop
  | non : Leaf .non ("None" : Str)
  | bl (b : Bool) : Leaf (.bl b) (if b then ("True" : Str) else "False")
  | int (i : Int) (h : i.natAbs.log2 < 1920) : Leaf (.int i) (Str.ofString (toString i))
  | str (x : Str) (h : (reprText x).length ≤ sizeLine) : Leaf (.str x) (reprText x)
/-- data at an address: plain data, or an empty dict -/
def Known (K : PySem.W.Frag) (H : Hp) (b : Addr) (d : PyData) : Prop := (Dp K H (.ref b) d ∧ d.hasDict = false) ∨ (H b = some (.dK []) ∧ d = .dict [])
def ItemD (K : PySem.W.Frag) (R : Hp → V → Str → Prop) (H : Hp) (v : V) (t : Str) : Prop :=
  Leaf v t ∨ (∃ b d, v = .ref b ∧ Known K H b d ∧ d.showable = true ∧ d.depth ≤ 40 ∧ d.shown.length ≤ sizeLine ∧ t = d.shown) ∨ R H v t
def rRepTD (K : PySem.W.Frag) (R : Hp → V → Str → Prop) : List V → Hp → VK → Prop := fun xs H Q => ∃ (a : Addr) (v0 v1 : V) (t0 t1 : Str), xs = [.ref a] ∧ H a = some (.tup [v0, v1]) ∧
  ItemD K R H v0 t0 ∧ ItemD K R H v1 t1 ∧ (tupleText [t0, t1]).length ≤ sizeLine ∧ Q (.str (tupleText [t0, t1])) H
/-- a pair is no part of its item's data -/
theorem not_within {h : Heap} {a b : Addr} {o : Obj} {z0 z1 : Value} {nn : Nat} {d : PyData} {as bs : List Addr} (at_ : h.get? a = some o) (cl : o.cls = .type "tuple") (dt : o.data = .seq [z0, z1].toArray nn) (hb : Value.ref b = z0 ∨ Value.ref b = z1)
    (r : Reads h (.ref b) d as) (most : ReadAtMost h d.depth bs) : a ∉ bs := by
  intro hm
  obtain ⟨e, cs, re, le⟩ := most a hm
  cases re with
  | list g c _ _ => rw [at_] at g; cases g; rw [cl] at c; exact absurd (Value.type.inj c) (by decide)
  | dict g c _ _ _ => rw [at_] at g; cases g; rw [cl] at c; exact absurd (Value.type.inj c) (by decide)
  | tuple g c f all =>
    rw [at_] at g
    cases g
    rw [dt] at f
    cases f
    cases all with
    | cons r0 all => cases all with
      | cons r1 all =>
        cases all
        have deep : ∀ {x y : PyData}, d = x ∨ d = y → (PyData.tuple [x, y]).depth ≤ d.depth → False := by
          rintro x y (rfl | rfl) le
          · simp only [PyData.depth, PyData.depthAll] at le; omega
          · simp only [PyData.depth, PyData.depthAll] at le; omega
        rcases hb with rfl | rfl
        · exact deep (.inl (reads_det (fun _ _ e _ => e) r0 r).1) le
        · exact deep (.inr (reads_det (fun _ _ e _ => e) r1 r).1) le
section
variable {X : Cx} {pins : List (Addr × Obj)} {σ : L2.St} {H : Hp} {s : Shared} {C : Addr} {R : Hp → V → Str → Prop} {k : Nat}
theorem leaf_is {prog : Program} {w : World} {v : V} {z : Value} {t : Str} (rz : RelV v z) (l : Leaf v t) : ReprIs prog w z t := by
  cases l with
  | non => cases (show z = Value.none from rz); exact ReprIs.none
  | bl b => cases (show z = Value.bool b from rz); exact ReprIs.bool b
  | int i h => obtain ⟨tk, rfl⟩ := (show ∃ tk, z = Value.int i tk from rz); exact ReprIs.int tk h
  | str x h => obtain ⟨tk, rfl⟩ := (show ∃ tk, z = Value.str x tk from rz); exact ReprIs.str x tk h
theorem known_reads {b : Addr} {d : PyData} (I : Inv X pins σ H s) (h : Known X.K H b d) : ∃ as, Reads s.heap (.ref b) d as ∧ (d.hasDict = true → sysModules ∉ as) := by
  rcases h with ⟨hd, nd⟩ | ⟨hb, rfl⟩
  · obtain ⟨as, r⟩ := Dp.reads I d (.ref b) _ hd rfl
    exact ⟨as, r, fun y => by rw [nd] at y; cases y⟩
  · obtain ⟨_, ns, vs, kv, o, es, ep, h1, h2, h3, _, ps, _⟩ := (show ObjOk X.prog X.w H s.heap b (.dK []) from I.hok b _ hb)
    cases kv
    have e : es.toList = [] := by
      cases q : es.toList with
      | nil => rfl
      | cons y ys => rw [q] at ps; cases ps
    refine ⟨_, .dict h1 h2.1 h3 (kvs := []) (by rw [e]; exact .nil) (by rw [e]; exact .nil), fun _ => ?_⟩
    simp only [List.append_nil, List.mem_cons, List.not_mem_nil, or_false]
    rintro rfl
    simp at ns
theorem call_repTD (O : OwnR X C R k) (free : X.A.guards = some []) (hr : Room (k + 2) X.A) : CallR X (.builtin "repr") (rRepTD X.K R) := by
  intro pins s σ H xs us Q I rel want
  obtain ⟨a, v0, v1, t0, t1, rfl, ha, h0, h1, sz, q⟩ := want
  obtain ⟨u, rfl, ru⟩ := vals1 rel
  cases (show u = Value.ref a from ru)
  obtain ⟨f, fd, F, hb, hs, hf⟩ := O.ex
  have open_ : ∀ {s : Shared}, Inv X pins σ H s → ∃ (ob : Obj) (nn : Nat) (z0 z1 : Value), s.heap.get? a = some ob ∧ ob.cls = .type "tuple" ∧ ob.data = .seq [z0, z1].toArray nn ∧ RelV v0 z0 ∧ RelV v1 z1 := by
    intro s I
    obtain ⟨_, its, rv, ob, hob, hcl, nn, hdat⟩ := I.hok a _ ha
    cases rv with
    | cons r0 rv => cases rv with
      | cons r1 rv => cases rv; exact ⟨ob, nn, _, _, hob, hcl, hdat, r0, r1⟩
  obtain ⟨ob, nn, z0, z1, hob, hcl, hdat, r0, r1⟩ := open_ I
  have one : ∀ {v : V} {z : Value} {t : Str}, RelV v z → (v = v0 ∨ v = v1) → ItemD X.K R H v t → ∀ b, b + t.length ≤ sizeLine → ∀ s, Inv X pins σ H s →
      wpAny (model X.prog X.w) (X.A.in1.under (.builtin "tuple.__repr__" ⟨[.ref a], []⟩)) (pyReprUnder b z) (fun r s' => r = t ∧ Inv X pins σ H s') X.xe s := by
    intro v z t rz hv hi b hb' s I
    rcases hi with l | ⟨c, d, rfl, hd, sh, dp, fits, rfl⟩ | hR
    · exact wpAny_mono (leaf_is rz l b hb' _ X.xe s (fun r s' => r = t ∧ Inv X pins σ H s') (fun tk' => ⟨rfl, I.tok tk'⟩)) (fun _ _ z => z) fun _ _ e => e
    · cases (show z = Value.ref c from rz)
      obtain ⟨as, rd, nd⟩ := known_reads I hd
      obtain ⟨bs, most, K⟩ := ReprK.of_reads (prog := X.prog) (w := X.w) rd sh nd fits
      obtain ⟨ob', nn', y0, y1, e1, e2, e3, e4, e5⟩ := open_ I
      have out : a ∉ bs := not_within e1 e2 e3 (by
        rcases hv with rfl | rfl
        · exact .inl (show y0 = Value.ref c from e4).symm
        · exact .inr (show y1 = Value.ref c from e5).symm) rd most
      refine K b hb' _ [.builtin "tuple.__repr__" ⟨[.ref a], []⟩] _ s _ ?_ ?_ ?_ (fun _ _ e => e) fun h' tk keep => ⟨rfl, I.kept (t' := tk) keep⟩
      · exact guards_under_guard (isGuard_tuple_repr _) (show X.A.in1.guards = some [] from free)
      · exact fun y hy => (Clear.nil y).cons fun e => out (e ▸ hy)
      · rw [units_under_tuple_repr]
        have := hr.units
        show X.A.units + 1 + 1 + d.depth < cLine
        omega
    · obtain ⟨x, dx, fs, rfl, hx⟩ := O.ins H v t hR
      cases (show z = Value.ref x from rz)
      obtain ⟨od, J⟩ := Am.inst_of I hx
      refine under_own (by omega) (by rw [units_under_tuple_repr]; have := hr.units; show X.A.units + 1 + 1 < _; omega) I.kIn J hs hf ?_
      refine wpAny_mono (run_rep (v := .ref x) F hb (Room.tr (Room.in1 hr) a [] []) (Env0.tr I.env0.in1 a [] []) I hR) (fun v s' hv => ?_) fun _ _ e => e
      obtain ⟨u, rfl, I'⟩ := hv
      exact ⟨t, u, rfl, rfl, I'⟩
  refine call_repr_tup (J := fun _ s => Inv X pins σ H s) (ts := [t0, t1]) free (by have := hr.units; omega) hob hcl hdat (by simp) I (fun j x t e1 e2 b hb s hs => ?_) (fun s' u tk hs => ⟨.str (tupleText [t0, t1]), H, hs.tok tk, ⟨u, rfl⟩, q⟩) sz
  match j, e1, e2 with
  | 0, e1, e2 => cases (show some z0 = some x from e1); cases (show some t0 = some t from e2); exact one r0 (.inl rfl) h0 b hb s hs
  | 1, e1, e2 => cases (show some z1 = some x from e1); cases (show some t1 = some t from e2); exact one r1 (.inr rfl) h1 b hb s hs
  | j + 2, e1, e2 => simp at e1
end
end Rt
/-! repr of one value: a leaf, known data, or an instance with an own __repr__ -/
namespace Rt
open PySem PySem.Spec PyProof.Rows L2
def rRepD (K : PySem.W.Frag) (R : Hp → V → Str → Prop) : List V → Hp → VK → Prop := fun xs H Q => ∃ v t, xs = [v] ∧ ItemD K R H v t ∧ Q (.str t) H
section
variable {X : Cx} {C : Addr} {R : Hp → V → Str → Prop} {k : Nat}
theorem call_repD (O : OwnR X C R k) (free : X.A.guards = some []) (hr : Room (k + 2) X.A) : CallR X (.builtin "repr") (rRepD X.K R) := by
  intro pins s σ H xs us Q I rel want
  obtain ⟨v, t, ex, it, q⟩ := want
  subst ex
  rcases it with l | ⟨b, d, rfl, kn, sh, dp, sz, rfl⟩ | hR
  · obtain ⟨u, rfl, ru⟩ := vals1 rel
    cases l with
    | non => cases (show u = Value.none from ru); exact PySem.P.repr_of_none ⟨.str _, H, I.tok _, ⟨_, rfl⟩, q⟩
    | bl b => cases (show u = Value.bool b from ru); exact PySem.P.repr_of_bool ⟨.str _, H, I.tok _, ⟨_, by cases b <;> rfl⟩, q⟩
    | int i h => obtain ⟨tk, rfl⟩ := (show ∃ tk, u = Value.int i tk from ru); exact PySem.P.repr_of_int h ⟨.str _, H, I.tok _, ⟨_, rfl⟩, q⟩
    | str x h => obtain ⟨tk, rfl⟩ := (show ∃ tk, u = Value.str x tk from ru); exact PySem.P.repr_of_str ⟨.str _, H, I.tok _, ⟨_, rfl⟩, q⟩ h
  · obtain ⟨u, rfl, ru⟩ := vals1 rel
    cases (show u = Value.ref b from ru)
    obtain ⟨as, r, hsm⟩ := known_reads I kn
    refine repr_of_reads' r sh hsm free (by have := hr.units; omega) (fun _ _ z => z) ?_ sz
    intro h' t tk kp
    exact ⟨.str d.shown, H, I.kept kp, ⟨t, rfl⟩, q⟩
  · exact call_repI O (hr.mono (by omega)) pins s σ H _ us Q I rel ⟨v, t, rfl, .inr hR, q⟩
end
end Rt
/-! str, int and repr of numbers of more than 640 figures, where the limit of figures was not changed -/
namespace Nb
open PySem PySem.Spec PyProof.Rows L2
section
variable {X : Cx}
theorem call_str_big (hc : X.calm = true) (nd : X.base.NoDigits) : CallR X (.type "str") (fun xs H Q => ∃ i : Int, xs = [.int i] ∧ i.natAbs < 10 ^ 4300 ∧ Q (.str (Str.ofString (toString i))) H) := by
  intro pins s σ H xs us Q I r h
  obtain ⟨i, rfl, hz, q⟩ := h
  obtain ⟨u, rfl, t, rfl⟩ := vals1 r
  exact str_of_int_or (I.ok.hd hc) (nd.keeps I.bk) (fun _ => ⟨.str _, H, I.tok _, ⟨_, rfl⟩, q⟩) (fun z => absurd hz (by omega))
end
section
variable {prog : Program} {w : World} {A : Around} {E : Value → Shared → Prop} {s : Shared}
theorem pyReprObj_intB {a : Int} {t : Tok} {Q : Value → Shared → Prop} (hh : A.handled = none) (hn : s.heap.NoDigits) (ha : a.natAbs < 10 ^ 4300) (h : Q (.str (Str.ofString (toString a)) s.toks) { s with toks := s.toks + 1 }) :
    wpAny (model prog w) A (pyReprObj (.int a t)) Q E s := by
  have hv : [Value.int a t].any Value.onHeap = false := rfl
  unfold pyReprObj
  simp only [cRoomFor, hv, Bool.false_eq_true, if_false, pure_bind]
  refine wpAny_bind (wpAny_specialOf (name := Str.ofString "__repr__") (typeIs_int s a t) F.slot_int_repr.lookup ?_)
  refine wpAny_bind (m := callSpecialIfBound? (.int a t) (Str.ofString "__repr__")) (wpAny_callSpecialIfBound?_slot (name := Str.ofString "__repr__") (typeIs_int s a t) F.slot_int_repr
    (call_int_repr_or hh hn (fun _ => ?_) (fun z => absurd ha (by omega))))
  exact wpAny_bind (wpAny_isInstance (T := "str") (b := true) rfl isSubtype_str_str (wpAny_pure h))
theorem reprUnder_int {a : Int} {t : Tok} {b : Nat} {Q : Str → Shared → Prop} (hb : b ≤ sizeLine) (hh : A.handled = none) (hn : s.heap.NoDigits) (ha : a.natAbs < 10 ^ 4300) (h : Q (Str.ofString (toString a)) { s with toks := s.toks + 1 }) :
    wpAny (model prog w) A (pyReprUnder b (.int a t)) Q E s := by
  rw [pyReprUnder_leaf (v := .int a t) hb (fun _ e => nomatch e)]
  unfold pyRepr
  exact wpAny_bind (pyReprObj_intB hh hn ha (wpAny_pure h))
end
/-- repr of a pair of whole numbers -/
def rRepP : List V → Hp → VK → Prop := fun xs H Q => ∃ (a : Addr) (n u : Int), xs = [.ref a] ∧ H a = some (.tup [.int n, .int u]) ∧ n.natAbs < 10 ^ 4300 ∧ u.natAbs < 10 ^ 4300 ∧ (tupleText [Str.ofString (toString n), Str.ofString (toString u)]).length ≤ sizeLine ∧ Q (.str (tupleText [Str.ofString (toString n), Str.ofString (toString u)])) H
theorem call_repP {X : Cx} (hc : X.calm = true) (nd : X.base.NoDigits) (free : X.A.guards = some []) (hr : Room 2 X.A) : CallR X (.builtin "repr") rRepP := by
  intro pins s σ H xs us Q I rel want
  obtain ⟨a, n, m, rfl, ha, h0, h1, sz, q⟩ := want
  obtain ⟨u, rfl, ru⟩ := vals1 rel
  cases (show u = Value.ref a from ru)
  obtain ⟨_, its, rv, ob, hob, hcl, nn, hdat⟩ := I.hok a _ ha
  obtain ⟨z0, z1, rfl, r0, r1⟩ : ∃ z0 z1, its = [z0, z1] ∧ RelV (.int n) z0 ∧ RelV (.int m) z1 := by
    cases rv with
    | cons r0 rv => cases rv with
      | cons r1 rv => cases rv; exact ⟨_, _, rfl, r0, r1⟩
  have one : ∀ {i : Int} {z : Value}, RelV (.int i) z → i.natAbs < 10 ^ 4300 → ∀ b, b + (Str.ofString (toString i)).length ≤ sizeLine → ∀ s, Inv X pins σ H s →
      wpAny (model X.prog X.w) (X.A.in1.under (.builtin "tuple.__repr__" ⟨[.ref a], []⟩)) (pyReprUnder b z) (fun r s' => r = Str.ofString (toString i) ∧ Inv X pins σ H s') X.xe s := by
    intro i z rz hi b hb' s I
    obtain ⟨tk, rfl⟩ := (show ∃ tk, z = Value.int i tk from rz)
    exact reprUnder_int (by omega) (Rt.Room.tr (k := 0) (Room.in1 (hr.mono (by decide))) a [] []).hd (nd.keeps I.bk) hi ⟨rfl, I.tok _⟩
  refine Rt.call_repr_tup (J := fun _ s => Inv X pins σ H s) (ts := [Str.ofString (toString n), Str.ofString (toString m)]) free (by have := hr.units; omega) hob hcl hdat (by simp) I (fun j x t e1 e2 b hb s hs => ?_) (fun s' u tk hs => ⟨.str _, H, hs.tok tk, ⟨u, rfl⟩, q⟩) sz
  match j, e1, e2 with
  | 0, e1, e2 => cases (show some z0 = some x from e1); cases (show some (Str.ofString (toString n)) = some t from e2); exact one r0 h0 b hb s hs
  | 1, e1, e2 => cases (show some z1 = some x from e1); cases (show some (Str.ofString (toString m)) = some t from e2); exact one r1 h1 b hb s hs
  | j + 2, e1, e2 => simp at e1
end Nb
/-! int of a text of at most 4300 figures -/
namespace Nb
open PySem PySem.Spec PySem.Calls PySem.NumText PyProof.Rows PySem.W L2
theorem wp_textB {M : Model} {A : Around} {E : Value → Shared → Prop} {s : Shared} {Q : Value → Shared → Prop} {v : Value} {text : List Nat} {n : Int} (hn : s.heap.NoDigits)
    (hr : (int_private% "readNumeral") 0 10 (text.takeWhile (· != 0)) = (int_private% "Numeral.value") n) (hr2 : (int_private% "readNumeral") 4300 10 (text.takeWhile (· != 0)) = (int_private% "Numeral.value") n)
    (ha : ((text.takeWhile (· != 0)).length == text.length) = true) (h : Q (.int n s.toks) { s with toks := s.toks + 1 }) :
    wpAny M A ((int_private% "intFromText") v text 10) Q E s := by
  by_cases hs : (text.takeWhile (· != 0)).length ≤ 640
  · exact PySem.W.KIN.wp_text hs hr ha h
  obtain ⟨mc, hns, hnone⟩ := hn
  obtain ⟨hp, g, d, tk, os⟩ := s
  have hns' : hp.Ns cStatics mc := hns
  repeat (any_goals (first
    | assumption
    | (with_reducible refine wpAny_ite_true (decide_eq_true ha) ?_)
    | (refine wpAny_ite_false (decide_eq_false hs) ?_)
    | ((with_reducible show wpAny _ _ Builtin.intMaxStrDigits _ _ _); unfold Builtin.intMaxStrDigits; refine wpAny_bind (wpAny_nsGet hns ?_); rw [hnone]; refine wpAny_pure ?_)
    | wp_step))
  all_goals (try rw [hr2])
  all_goals (try dsimp only)
  repeat (any_goals (first
    | assumption
    | (with_reducible refine wpAny_ite_true (decide_eq_true ha) ?_)
    | wp_step))
theorem read_both {x : PySem.Str} {n : Int} (hn : PySem.intText? x = some n) : (int_private% "readNumeral") 0 10 (numSeenOf x) = (int_private% "Numeral.value") n ∧ (int_private% "readNumeral") 4300 10 (numSeenOf x) = (int_private% "Numeral.value") n ∧ ((numSeenOf x).length == (numTextOf x).length) = true := by
  unfold PySem.intText? at hn
  by_cases c : ((numSeenOf x).length == (numTextOf x).length) = true
  · rw [if_pos c] at hn
    cases hd : digits? 10 (core (numSeenOf x)) with
    | none => rw [hd] at hn; cases hn
    | some ds =>
      rw [hd] at hn
      dsimp only at hn
      by_cases c2 : ds.size ≤ 4300
      · rw [if_pos c2] at hn
        have e := Option.some.inj hn
        rw [readNumeral_ten, readNumeral_ten, hd, judge_ok (.inl rfl) (by omega), judge_ok (.inr c2) (by omega), e]
        exact ⟨rfl, rfl, c⟩
      · rw [if_neg c2] at hn
        cases hn
  · rw [if_neg c] at hn
    cases hn
set_option maxHeartbeats 8000000 in
theorem meets_textB {x : PySem.Str} {u : Tok} {n : Int} (hn : PySem.intText? x = some n) : Meets (Builtin.«int.__new__» ⟨[.type "int", .str x u], []⟩) (fun _ R s => s.heap.NoDigits ∧ R (.ok (.ret (.int n s.toks))) { s with toks := s.toks + 1 }) :=
  .of_wp fun prog w A R s h => by
    obtain ⟨nd, h⟩ := h
    obtain ⟨hp, g, d, tk, os⟩ := s
    have f1 := F.conv_sub_int
    have f2 := F.madeHere_int
    have f3 := PySem.W.KIN.str_int
    have f4 := PySem.W.KIN.str_idx
    have f5 := PySem.W.KIN.str_trunc
    have f6 : typeOf (.str x u) = pure (.type "str") := rfl
    have hk := PySem.W.KIN.Hid.mk (read_both hn)
    clear hn
    repeat (any_goals (first
      | assumption
      | ((with_reducible show wpAny _ _ ((int_private% "intFromText") _ _ _) _ _ _); refine wp_textB nd hk.out.1 hk.out.2.1 hk.out.2.2 ?_)
      | wp_step))
    all_goals first | exact ⟨_, rfl, h⟩ | skip
section
variable {X : Cx}
/-- int(text) -/
theorem call_int_big (nd : X.base.NoDigits) : CallR X (.type "int") (fun xs H Q => ∃ a n, xs = [.str a] ∧ PySem.intText? a = some n ∧ Q (.int n) H) := by
  intro pins s σ H xs us Q I rs h
  obtain ⟨a, n, rfl, hn, h⟩ := h
  cases rs with
  | cons r1 rs =>
    cases rs
    obtain ⟨t, rfl⟩ := r1
    exact call_int_1 (meets_textB hn) ⟨nd.keeps I.bk, rfl, ⟨.int n, H, I.tok _, ⟨_, rfl⟩, h⟩⟩
end
end Nb
namespace Am
open PySem PySem.Spec PyProof.Rows L2
abbrev sInitE : Stmt := inClass (top 2) 0
abbrev sRep : Stmt := inClass (top 12) 3
abbrev sAbs : Stmt := inClass (top 12) 10
abbrev sRadd : Stmt := inClass (top 12) 12
abbrev sRsub : Stmt := inClass (top 12) 14
abbrev sMul : Stmt := inClass (top 12) 15
abbrev sRmul : Stmt := inClass (top 12) 16
abbrev sFdiv : Stmt := inClass (top 12) 17
abbrev sRfdiv : Stmt := inClass (top 12) 18
abbrev sQuot : Stmt := top 15
abbrev sFig : Stmt := top 16
def B4 (n u n' u' : Int) : Prop := Bd 4000 n ∧ Bd 4000 u ∧ Bd 4000 n' ∧ Bd 4000 u'
def spAbs (C : Addr) : Sp := fun vs H Q _ => ∃ a n u, vs = [a] ∧ AmAt C H a n u ∧ Bd 8900 n ∧ Bd 8900 u ∧ ∀ v H', Same H H' → AmAt C H' v (if n < 0 then -n else n) u → Q v H'
def spMul (C : Addr) : Sp := fun vs H Q _ => ∃ a y n u n' u', vs = [a, y] ∧ AmAt C H a n u ∧ AmV C H y n' u' ∧ B4 n u n' u' ∧
  ∀ v H', Same H H' → AmAt C H' v (fr (n * n') (u * u')).1 (fr (n * n') (u * u')).2 → Q v H'
def spRsub (C : Addr) : Sp := fun vs H Q _ => ∃ a y n u n' u', vs = [a, y] ∧ AmAt C H a n u ∧ AmV C H y n' u' ∧ B4 n u n' u' ∧
  ∀ v H', Same H H' → AmAt C H' v (fr (-n * u' + n' * u) (u * u')).1 (fr (-n * u' + n' * u) (u * u')).2 → Q v H'
/-- one // other -/
def Qt (C D : Addr) (x : V) (n u n' u' : Int) (H : Hp) (Q : VK) (E : XK) : Prop :=
  (n' ≠ 0 → ∀ v H', Same H H' → AmAt C H' v (fr (n * u') (u * n')).1 (fr (n * u') (u * n')).2 → Q v H') ∧ (n' = 0 → ∀ d H', Same H H' → H' d = some (.xd [("value", x)]) → E (.ref D) (some d) H')
theorem Qt.same {C D : Addr} {x : V} {n u n' u' : Int} {H H1 : Hp} {Q : VK} {E : XK} (h : Qt C D x n u n' u' H Q E) (e : Same H H1) : Qt C D x n u n' u' H1 Q E :=
  ⟨fun z v H' e' q => h.1 z v H' (e.trans e') q, fun z d H' e' q => h.2 z d H' (e.trans e') q⟩
def spQuot (C D : Addr) : Sp := fun vs H Q E => ∃ x y n u n' u', vs = [x, y] ∧ AmV C H x n u ∧ AmV C H y n' u' ∧ B4 n u n' u' ∧ Qt C D x n u n' u' H Q E
def spFdiv (C D : Addr) : Sp := fun vs H Q E => ∃ x y n u n' u', vs = [x, y] ∧ AmAt C H x n u ∧ AmV C H y n' u' ∧ B4 n u n' u' ∧ Qt C D x n u n' u' H Q E
def spRfdiv (C D : Addr) : Sp := fun vs H Q E => ∃ x y n u n' u', vs = [y, x] ∧ AmV C H x n u ∧ AmAt C H y n' u' ∧ B4 n u n' u' ∧ Qt C D x n u n' u' H Q E
def spInitE (K : PySem.W.Frag) : Sp := fun vs H Q _ => ∃ (a D : Addr) (v : V), vs = [.ref a, v] ∧ OexC K D ∧ PySem.W.findIn K (.ref D) "value" = some none ∧ H a = some (exo a D none) ∧ ∀ dx, H dx = none → dx ≠ a → Q .non (upd (upd H dx (exd dx [("value", v)])) a (exo a D (some dx)))
/-- an error class of the text -/
structure Err (K : PySem.W.Frag) (mg : Str → Option Value) (x : Str) (D fI : Addr) : Prop where
  oex : OexC K D
  iC : PySem.W.findIn K (.ref D) "__init__" = some (some (.ref fI))
  tI : PySem.W.typeIn K (.ref fI) = some (.type "function")
  gD : mg x = some (.ref D)
  nv : PySem.W.findIn K (.ref D) "value" = some none
  xf : XfC K D
  te : PySem.W.exmOne K (.ref D) (.ref D) = some true
def GotX (P : Program) (w : World) (K : PySem.W.Frag) (mg : Str → Option Value) (base : Heap) (x : Str) (k : Nat) (ps : List Str) (sp : Sp) : Prop :=
  ∃ (f : Addr) (fd : FuncData), FnOk P w K mg base (L2.CX P w) k f fd ps sp ∧ Binds K fd ps [] ∧ mg x = some (.ref f) ∧ PySem.W.keepIn K (.ref f) = true
section
variable {P : Program} {w : World} {K : PySem.W.Frag} {mg : Str → Option Value} {base : Heap} {C D : Addr}
theorem scInitE : FnScope ["self", "value"] ["self", "value"] (defScope sInitE) := ⟨rfl, rfl, rfl, by decide +kernel, rfl, by decide +kernel, by decide +kernel⟩
theorem ok_initE {f : Addr} {fd : FuncData} (F : Fun K "__init__" "MeterError.__init__" sInitE f fd) : FnOk P w K mg base CX0 1 f fd ["self", "value"] (spInitE K) := by
  refine F.ok scInitE (fun vs H Q E h => ?_) (fun cdv A outer s H vs Q E hr h => ?_)
  · obtain ⟨a, D, v, rfl, _⟩ := h
    rfl
  · obtain ⟨a, D, v, rfl, T, nv, ha, q⟩ := h
    exact ⟨_, pss_one (ps_ost (pv 0) (pv 1)), _, rfl, _, rfl, a, D, rfl, T, nv, .inl ⟨ha, fun dx hd ne => q dx hd ne⟩⟩
/-- a made error, told -/
theorem err_read {fI : Addr} {x : Str} (T : Err K mg x D fI) {H : Hp} {v : V} {Q : XK} (q : ∀ d H', Same H H' → H' d = some (.xd [("value", v)]) → Q (.ref D) (some d) H') :
    ∀ a, H a = none → spInitE K (.ref a :: ([v] ++ [])) (upd H a (exo a D none)) (fun r H2 => r = .non ∧ ∃ (d : Addr) (fs : List (Str × V)), H2 a = some (exo a D (some d)) ∧ H2 d = some (exd d fs) ∧ H d = none ∧ Q (.ref D) (some d) (upd (del H2 a) d (.xd fs))) (fun _ _ _ => False) := by
  intro a na
  refine ⟨a, D, v, rfl, T.oex, T.nv, upd_same, fun dx nd ne => ⟨rfl, dx, [("value", v)], upd_same, ?_, ?_, ?_⟩⟩
  · rw [upd_ne ne]; exact upd_same
  · rw [upd_ne ne] at nd; exact nd
  · refine q dx _ (fun b o e => ?_) upd_same
    have hd : H dx = none := by rw [upd_ne ne] at nd; exact nd
    have n1 : b ≠ dx := ne_of_none e hd
    have n2 : b ≠ a := ne_of_none e na
    rw [upd_ne n1, del_ne n2, upd_ne n2, upd_ne n1, upd_ne n2]
    exact e
theorem scAbs : FnScope ["self"] ["self"] (defScope sAbs) := ⟨rfl, rfl, rfl, by decide +kernel, rfl, by decide +kernel, by decide +kernel⟩
theorem ok_abs {f : Addr} {fd : FuncData} (F : Fun K "__abs__" "Amount.__abs__" sAbs f fd) (T : Txt K mg C) (na : mg "abs" = none) (GI : GotI P w K mg base C) : FnOk P w K mg base CX0 4 f fd ["self"] (spAbs C) := by
  obtain ⟨fI, fdI, GI, bI, _, M⟩ := GI
  refine F.ok scAbs (fun vs H Q E h => ?_) (fun cdv A outer s H vs Q E hr h => ?_)
  · obtain ⟨a, n, u, rfl, _⟩ := h
    rfl
  · obtain ⟨a, n, u, rfl, ⟨l, x, dx, rfl, hx⟩, bn, bu, q⟩ := h
    refine ⟨_, pss_one (ps_ret (pe_make M GI hr (by rfl) T.mgC bI .nil pass0 (pa_cons (pe_callB call_abs (by rfl) na boot_abs (pa_cons (pe_fld (pv 0) rfl) pa_nil)) (pa_cons (pe_fld (pv 0) rfl) pa_nil)))), ?_⟩
    refine ⟨_, rfl, x, C, dx, _, _, rfl, hx, T.cl, T.nN, pf_number _ _, _, rfl, _, rfl, x, C, dx, _, _, rfl, hx, T.cl, T.nU, pf_under _ _, ?_⟩
    have bn' : Bd 8900 (if n < 0 then -n else n) := by split <;> first | exact bn.neg | exact bn
    have l' : Low (if n < 0 then -n else n) u := by split <;> first | exact l.neg | exact l
    refine make_read l.ne bn' bu fun v H' e h => q v H' e ?_
    rw [fr_of_low l'] at h
    exact h
theorem scMul : FnScope ["self", "other", "number", "under"] ["self", "other"] (defScope sMul) := ⟨rfl, rfl, rfl, by decide +kernel, rfl, by decide +kernel, by decide +kernel⟩
theorem ok_mul {f : Addr} {fd : FuncData} (F : Fun K "__mul__" "Amount.__mul__" sMul f fd) (T : Txt K mg C) (GI : GotI P w K mg base C) (GA : GotF P w K mg base "is_amount" 2 ["value"] (spIsAm C)) (GP : GotF P w K mg base "parts" 1 ["amount"] (spParts C)) :
    FnOk P w K mg base CX0 4 f fd ["self", "other"] (spMul C) := by
  obtain ⟨fI, fdI, GI, bI, _, M⟩ := GI
  obtain ⟨fA, fdA, GA, bA, mA, kA⟩ := GA
  obtain ⟨fP, fdP, GP, bP, mP, kP⟩ := GP
  refine F.ok scMul (fun vs H Q E h => ?_) (fun cdv A outer s H vs Q E hr h => ?_)
  · obtain ⟨a, y, n, u, n', u', rfl, _⟩ := h
    rfl
  · obtain ⟨a, y, n, u, n', u', rfl, ⟨l, x, dx, rfl, hx⟩, hy, ⟨b1, b2, b3, b4⟩, q⟩ := h
    have hr1 : Room 1 _ := hr.mono (by decide)
    have hr2 : Room 2 _ := hr.mono (by decide)
    refine ⟨_, pss_cons (ps_if (pt_not (pt_val (pe_call GA hr2 (by rfl) mA kA bA .nil pass0 (pa_cons (pv 1) pa_nil)))) (pss_one ps_never) pss_nil)
      (pss_cons (ps_asg (pe_call GP hr1 (by rfl) mP kP bP .nil pass0 (pa_cons (pv 1) pa_nil)) (pg_tup rfl (pgs_cons (pg_name (i := 2) scMul.nd rfl (.inl rfl)) (pgs_cons (pg_name (i := 3) scMul.nd rfl (.inl rfl)) pgs_nil))))
      (pss_one (ps_ret (pe_make M GI hr (by rfl) T.mgC bI .nil pass0 (pa_cons (pe_op op_mulW (pe_fld (pv 0) rfl) (pv 2)) (pa_cons (pe_op op_mulW (pe_fld (pv 0) rfl) (pv 3)) pa_nil)))))), ?_⟩
    refine ⟨_, rfl, _, true, rfl, hy.isAm, _, rfl, iteF ?_⟩
    refine ⟨_, rfl, y, n', u', rfl, hy, fun p np => ⟨p, _, rfl, SqT.of upd_same, rfl, _, _, rfl, _, _, rfl, rfl, ?_⟩⟩
    have hx1 : (upd H p (.tup [V.int n', V.int u'])) x = some (.ins C dx (pf n u)) := by rw [upd_ne (ne_of_none hx np)]; exact hx
    refine ⟨_, rfl, x, C, dx, _, _, rfl, hx1, T.cl, T.nN, pf_number _ _, _, rfl, _, _, rfl, rfl, b1.cmul b3 (by decide) (by decide), ?_⟩
    refine ⟨_, rfl, x, C, dx, _, _, rfl, hx1, T.cl, T.nU, pf_under _ _, _, rfl, _, _, rfl, rfl, b2.cmul b4 (by decide) (by decide), ?_⟩
    have hu : u * u' ≠ 0 := Int.mul_ne_zero l.ne hy.low.ne
    refine make_read hu ((b1.mul b3).mono (by decide)) ((b2.mul b4).mono (by decide)) fun v H' e h => q v H' ((same_upd np).trans e) h
theorem scRadd : FnScope ["self", "other"] ["self", "other"] (defScope sRadd) := ⟨rfl, rfl, rfl, by decide +kernel, rfl, by decide +kernel, by decide +kernel⟩
theorem ok_radd {f : Addr} {fd : FuncData} (F : Fun K "__radd__" "Amount.__radd__" sRadd f fd) (T : Txt K mg C) (GA : GotF P w K mg base "is_amount" 2 ["value"] (spIsAm C)) (GD : GotM P w K mg base C "__add__" 4 ["self", "other"] (spAdd C)) (cA : OpIK K C "add") :
    FnOk P w K mg base CX0 5 f fd ["self", "other"] (spAdd C) := by
  obtain ⟨fA, fdA, GA, bA, mA, kA⟩ := GA
  obtain ⟨fD, fdD, GD, bD, hD, iD⟩ := GD
  refine F.ok scRadd (fun vs H Q E h => ?_) (fun cdv A outer s H vs Q E hr h => ?_)
  · obtain ⟨a, y, n, u, n', u', rfl, _⟩ := h
    rfl
  · obtain ⟨a, y, n, u, n', u', rfl, ha, hy, bb, q⟩ := h
    have hr2 : Room 2 _ := hr.mono (by decide)
    have hr4 : Room 4 _ := hr.mono (by decide)
    refine ⟨_, pss_cons (ps_if (pt_not (pt_val (pe_call GA hr2 (by rfl) mA kA bA .nil pass0 (pa_cons (pv 1) pa_nil)))) (pss_one ps_never) pss_nil)
      (pss_one (ps_ret (pe_op (op_binC (op := .Add) T.op ⟨cA.h1, cA.h2, cA.hr⟩ ⟨hD, iD⟩ GD hr4 bD pass0) (pv 0) (pv 1)))), ?_⟩
    exact ⟨_, rfl, _, true, rfl, hy.isAm, _, rfl, iteF ⟨_, rfl, _, rfl, ha.inst, hy.orI, a, y, n, u, n', u', rfl, ha, hy, bb, q⟩⟩
theorem scRmul : FnScope ["self", "other"] ["self", "other"] (defScope sRmul) := ⟨rfl, rfl, rfl, by decide +kernel, rfl, by decide +kernel, by decide +kernel⟩
theorem ok_rmul {f : Addr} {fd : FuncData} (F : Fun K "__rmul__" "Amount.__rmul__" sRmul f fd) (T : Txt K mg C) (GA : GotF P w K mg base "is_amount" 2 ["value"] (spIsAm C)) (GD : GotM P w K mg base C "__mul__" 4 ["self", "other"] (spMul C)) (cA : OpIK K C "mul") :
    FnOk P w K mg base CX0 5 f fd ["self", "other"] (spMul C) := by
  obtain ⟨fA, fdA, GA, bA, mA, kA⟩ := GA
  obtain ⟨fD, fdD, GD, bD, hD, iD⟩ := GD
  refine F.ok scRmul (fun vs H Q E h => ?_) (fun cdv A outer s H vs Q E hr h => ?_)
  · obtain ⟨a, y, n, u, n', u', rfl, _⟩ := h
    rfl
  · obtain ⟨a, y, n, u, n', u', rfl, ha, hy, bb, q⟩ := h
    have hr2 : Room 2 _ := hr.mono (by decide)
    have hr4 : Room 4 _ := hr.mono (by decide)
    refine ⟨_, pss_cons (ps_if (pt_not (pt_val (pe_call GA hr2 (by rfl) mA kA bA .nil pass0 (pa_cons (pv 1) pa_nil)))) (pss_one ps_never) pss_nil)
      (pss_one (ps_ret (pe_op (op_binC (op := .Mult) T.op ⟨cA.h1, cA.h2, cA.hr⟩ ⟨hD, iD⟩ GD hr4 bD pass0) (pv 0) (pv 1)))), ?_⟩
    exact ⟨_, rfl, _, true, rfl, hy.isAm, _, rfl, iteF ⟨_, rfl, _, rfl, ha.inst, hy.orI, a, y, n, u, n', u', rfl, ha, hy, bb, q⟩⟩
theorem scRsub : FnScope ["self", "other"] ["self", "other"] (defScope sRsub) := ⟨rfl, rfl, rfl, by decide +kernel, rfl, by decide +kernel, by decide +kernel⟩
theorem ok_rsub {f : Addr} {fd : FuncData} (F : Fun K "__rsub__" "Amount.__rsub__" sRsub f fd) (T : Txt K mg C) (GA : GotF P w K mg base "is_amount" 2 ["value"] (spIsAm C)) (GN : GotM P w K mg base C "__neg__" 4 ["self"] (spNeg C)) (GD : GotM P w K mg base C "__add__" 4 ["self", "other"] (spAdd C)) (cA : OpIK K C "add") :
    FnOk P w K mg base CX0 5 f fd ["self", "other"] (spRsub C) := by
  obtain ⟨fN, fdN, GN, bN, hN, iN⟩ := GN
  obtain ⟨fA, fdA, GA, bA, mA, kA⟩ := GA
  obtain ⟨fD, fdD, GD, bD, hD, iD⟩ := GD
  refine F.ok scRsub (fun vs H Q E h => ?_) (fun cdv A outer s H vs Q E hr h => ?_)
  · obtain ⟨a, y, n, u, n', u', rfl, _⟩ := h
    rfl
  · obtain ⟨a, y, n, u, n', u', rfl, ha, hy, ⟨b1, b2, b3, b4⟩, q⟩ := h
    have hr2 : Room 2 _ := hr.mono (by decide)
    have hr4 : Room 4 _ := hr.mono (by decide)
    refine ⟨_, pss_cons (ps_if (pt_not (pt_val (pe_call GA hr2 (by rfl) mA kA bA .nil pass0 (pa_cons (pv 1) pa_nil)))) (pss_one ps_never) pss_nil)
      (pss_one (ps_ret (pe_op (op_binC (op := .Add) T.op ⟨cA.h1, cA.h2, cA.hr⟩ ⟨hD, iD⟩ GD hr4 bD pass0) (pe_un (un_negC ⟨hN, iN⟩ GN hr4 bN pass0) (pv 0)) (pv 1)))), ?_⟩
    refine ⟨_, rfl, _, true, rfl, hy.isAm, _, rfl, iteF ?_⟩
    refine ⟨_, rfl, ha.inst, a, n, u, rfl, ha, b1.mono (by decide), b2.mono (by decide), fun v1 H1 e h1 => ?_⟩
    have hy1 := hy.same e
    exact ⟨_, rfl, h1.inst, hy1.orI, v1, y, -n, u, n', u', rfl, h1, hy1, ⟨b1.neg, b2, b3, b4⟩, fun v H' e' h => q v H' (e.trans e') h⟩
theorem scQuot : FnScope ["one", "other", "number", "under", "top", "bottom"] ["one", "other"] (defScope sQuot) := ⟨rfl, rfl, rfl, by decide +kernel, rfl, by decide +kernel, by decide +kernel⟩
theorem ok_quot {f fE : Addr} {fd fdE : FuncData} (F : Fun K "quotient" "quotient" sQuot f fd) (T : Txt K mg C) (GI : GotI P w K mg base C) (GP : GotF P w K mg base "parts" 1 ["amount"] (spParts C)) (TE : Err K mg "NoQuotient" D fE)
    (GE : FnOk P w K mg base CX0 1 fE fdE ["self", "value"] (spInitE K)) (bE : Binds K fdE ["self", "value"] []) :
    FnOk P w K mg base (L2.CX P w) 4 f fd ["one", "other"] (spQuot C D) := by
  obtain ⟨fI, fdI, GI, bI, _, M⟩ := GI
  obtain ⟨fP, fdP, GP, bP, mP, kP⟩ := GP
  refine F.okX scQuot (fun vs H Q E h => ?_) (fun cdv A outer s H vs Q E hr h => ?_)
  · obtain ⟨a, y, n, u, n', u', rfl, _⟩ := h
    rfl
  · obtain ⟨x, y, n, u, n', u', rfl, hx, hy, ⟨b1, b2, b3, b4⟩, q1, q2⟩ := h
    have hr1 : Room 1 _ := hr.mono (by decide)
    have hr2 : Room 2 _ := hr.mono (by decide)
    refine ⟨_, pss_cons (ps_asg (pe_call GP hr1 (by rfl) mP kP bP .nil pass0 (pa_cons (pv 1) pa_nil)) (pg_tup rfl (pgs_cons (pg_name (i := 2) scQuot.nd rfl (.inl rfl)) (pgs_cons (pg_name (i := 3) scQuot.nd rfl (.inl rfl)) pgs_nil))))
      (pss_cons (ps_if (pt_cmpR op_eq (pv 2) pe_int (nomark _)) (pss_one (ps_raise rfl (takes_of rfl rfl rfl rfl) (pmk_oex TE.oex TE.iC TE.tI GE hr2 bE .nil pass0 (by rfl) TE.gD (pa_cons (pv 0) pa_nil)))) pss_nil)
      (pss_cons (ps_asg (pe_call GP hr1 (by rfl) mP kP bP .nil pass0 (pa_cons (pv 0) pa_nil)) (pg_tup rfl (pgs_cons (pg_name (i := 4) scQuot.nd rfl (.inl rfl)) (pgs_cons (pg_name (i := 5) scQuot.nd rfl (.inl rfl)) pgs_nil))))
      (pss_one (ps_ret (pe_make M GI hr (by rfl) T.mgC bI .nil pass0 (pa_cons (pe_op op_mulW (pv 4) (pv 3)) (pa_cons (pe_op op_mulW (pv 5) (pv 2)) pa_nil))))))), ?_⟩
    refine ⟨_, rfl, y, n', u', rfl, hy, fun p np => ⟨p, _, rfl, SqT.of upd_same, rfl, _, _, rfl, _, _, rfl, rfl, ?_⟩⟩
    have s1 := same_upd (o := .tup [V.int n', V.int u']) np
    refine ⟨_, rfl, rfl, _, rfl, ite2 (fun c => ?_) (fun c => ?_)⟩
    · have z : n' = 0 := V.int.inj (of_decide_eq_true c)
      exact ⟨_, rfl, (by show 1 ≤ 1000; decide), err_read TE fun d H' e h => q2 z d H' (s1.trans e) h⟩
    · have z : n' ≠ 0 := fun z => c (decide_eq_true (by rw [z]))
      refine ⟨_, rfl, x, n, u, rfl, hx.same s1, fun p' np' => ⟨p', _, rfl, SqT.of upd_same, rfl, _, _, rfl, _, _, rfl, rfl, ?_⟩⟩
      have s2 := same_upd (o := .tup [V.int n, V.int u]) np'
      refine ⟨_, rfl, _, rfl, _, _, rfl, rfl, b1.cmul b4 (by decide) (by decide), _, rfl, _, rfl, _, _, rfl, rfl, b2.cmul b3 (by decide) (by decide), ?_⟩
      have hu : u * n' ≠ 0 := Int.mul_ne_zero hx.low.ne z
      exact make_read hu ((b1.mul b4).mono (by decide)) ((b2.mul b3).mono (by decide)) fun v H' e h => q1 z v H' ((s1.trans s2).trans e) h
theorem scFdiv : FnScope ["self", "other"] ["self", "other"] (defScope sFdiv) := ⟨rfl, rfl, rfl, by decide +kernel, rfl, by decide +kernel, by decide +kernel⟩
theorem ok_fdiv {f : Addr} {fd : FuncData} (F : Fun K "__floordiv__" "Amount.__floordiv__" sFdiv f fd) (T : Txt K mg C) (GA : GotF P w K mg base "is_amount" 2 ["value"] (spIsAm C)) (GQ : GotX P w K mg base "quotient" 4 ["one", "other"] (spQuot C D)) :
    FnOk P w K mg base (L2.CX P w) 5 f fd ["self", "other"] (spFdiv C D) := by
  obtain ⟨fA, fdA, GA, bA, mA, kA⟩ := GA
  obtain ⟨fQ, fdQ, GQ, bQ, mQ, kQ⟩ := GQ
  refine F.okX scFdiv (fun vs H Q E h => ?_) (fun cdv A outer s H vs Q E hr h => ?_)
  · obtain ⟨a, y, n, u, n', u', rfl, _⟩ := h
    rfl
  · obtain ⟨x, y, n, u, n', u', rfl, hx, hy, bb, q⟩ := h
    have hr2 : Room 2 _ := hr.mono (by decide)
    have hr4 : Room 4 _ := hr.mono (by decide)
    refine ⟨_, pss_cons (ps_if (pt_not (pt_val (pe_call GA hr2 (by rfl) mA kA bA .nil pass0 (pa_cons (pv 1) pa_nil)))) (pss_one ps_never) pss_nil)
      (pss_one (ps_ret (pe_call GQ hr4 (by rfl) mQ kQ bQ .nil (passes_call (takes_of rfl rfl rfl rfl) (fun _ _ _ _ h => h)) (pa_cons (pv 0) (pa_cons (pv 1) pa_nil))))), ?_⟩
    exact ⟨_, rfl, _, true, rfl, hy.isAm, _, rfl, iteF ⟨_, rfl, _, rfl, x, y, n, u, n', u', rfl, .inl hx, hy, bb, q⟩⟩
theorem scRfdiv : FnScope ["self", "other"] ["self", "other"] (defScope sRfdiv) := ⟨rfl, rfl, rfl, by decide +kernel, rfl, by decide +kernel, by decide +kernel⟩
theorem ok_rfdiv {f : Addr} {fd : FuncData} (F : Fun K "__rfloordiv__" "Amount.__rfloordiv__" sRfdiv f fd) (T : Txt K mg C) (GA : GotF P w K mg base "is_amount" 2 ["value"] (spIsAm C)) (GQ : GotX P w K mg base "quotient" 4 ["one", "other"] (spQuot C D)) :
    FnOk P w K mg base (L2.CX P w) 5 f fd ["self", "other"] (spRfdiv C D) := by
  obtain ⟨fA, fdA, GA, bA, mA, kA⟩ := GA
  obtain ⟨fQ, fdQ, GQ, bQ, mQ, kQ⟩ := GQ
  refine F.okX scRfdiv (fun vs H Q E h => ?_) (fun cdv A outer s H vs Q E hr h => ?_)
  · obtain ⟨a, y, n, u, n', u', rfl, _⟩ := h
    rfl
  · obtain ⟨x, y, n, u, n', u', rfl, hx, hy, bb, q⟩ := h
    have hr2 : Room 2 _ := hr.mono (by decide)
    have hr4 : Room 4 _ := hr.mono (by decide)
    refine ⟨_, pss_cons (ps_if (pt_not (pt_val (pe_call GA hr2 (by rfl) mA kA bA .nil pass0 (pa_cons (pv 1) pa_nil)))) (pss_one ps_never) pss_nil)
      (pss_one (ps_ret (pe_call GQ hr4 (by rfl) mQ kQ bQ .nil (passes_call (takes_of rfl rfl rfl rfl) (fun _ _ _ _ h => h)) (pa_cons (pv 1) (pa_cons (pv 0) pa_nil))))), ?_⟩
    exact ⟨_, rfl, _, true, rfl, hx.isAm, _, rfl, iteF ⟨_, rfl, _, rfl, x, y, n, u, n', u', rfl, hx, .inl hy, bb, q⟩⟩
end
end Am
namespace Am
open PySem PySem.Spec PyProof.Rows L2
def figT (n : Int) : Str := ((Str.empty ++ (if n < 0 then ("-" : Str) else "")) ++ Str.ofString (toString (if n < 0 then -n else n))) ++ ("" : Str)
def repT (n u : Int) : Str := if u = 1 then ((Str.empty ++ ("Amount(" : Str)) ++ figT n) ++ (")" : Str) else ((((Str.empty ++ ("Amount(" : Str)) ++ figT n) ++ (", " : Str)) ++ figT u) ++ (")" : Str)
def itT (v : V) (n u : Int) : Str := match v with
  | .int _ => Str.ofString (toString n)
  | _ => repT n u
theorem dig_len {n : Int} (h : Bd 190 n) : (Str.ofString (toString n)).length ≤ 61 := by
  have h' : n.natAbs < 10 ^ 60 := Nat.lt_of_lt_of_le h (by decide)
  have := int_text_length_le10 (k := 60) (by decide) h'
  rw [ofString_len]
  exact this
theorem abs_bd {k : Nat} {n : Int} (h : Bd k n) : Bd k (if n < 0 then -n else n) := by split <;> first | exact h.neg | exact h
theorem fig_len {n : Int} (h : Bd 190 n) : (figT n).length ≤ 62 := by
  have := dig_len (abs_bd h)
  unfold figT
  rw [strLen_append, strLen_append, strLen_append]
  have e0 : (Str.empty).length = 0 := rfl
  have e1 : (if n < 0 then ("-" : Str) else "").length ≤ 1 := by split <;> decide
  have e2 : ("" : Str).length = 0 := rfl
  omega
theorem rep_len {n u : Int} (h : Bd 190 n) (h' : Bd 190 u) : (repT n u).length ≤ 150 := by
  have := fig_len h
  have := fig_len h'
  unfold repT
  have e0 : (Str.empty).length = 0 := rfl
  have e1 : ("Amount(" : Str).length = 7 := rfl
  have e2 : (")" : Str).length = 1 := rfl
  have e3 : (", " : Str).length = 2 := rfl
  split <;> simp only [strLen_append] <;> omega
theorem it_len {v : V} {n u : Int} (h : Bd 190 n) (h' : Bd 190 u) : (itT v n u).length ≤ 150 := by
  unfold itT
  split
  · exact Nat.le_trans (dig_len h) (by decide)
  · exact rep_len h h'
theorem two_len {a b : Str} (h : a.length ≤ 150) (h' : b.length ≤ 150) : (tupleText [a, b]).length ≤ 400 := by
  have e : tupleText [a, b] = ("(" : Str) ++ (a ++ ", " ++ b) ++ (")" : Str) := rfl
  have e1 : ("(" : Str).length = 1 := rfl
  have e2 : (")" : Str).length = 1 := rfl
  have e3 : (", " : Str).length = 2 := rfl
  rw [e]
  simp only [strLen_append]
  omega
theorem fits400 {k : Nat} (h : k ≤ 400) : k ≤ sizeLine := Nat.le_trans h (by decide)
theorem log_bd {n : Int} (h : Bd 190 n) : n.natAbs.log2 < 1920 := Nat.lt_trans (log2_lt (by decide) h) (by decide)
def spFig : Sp := fun vs H Q _ => ∃ n, vs = [.int n] ∧ Bd 190 n ∧ Q (.str (figT n)) H
/-- what the own repr tells of an Amount -/
def RA (C : Addr) (H : Hp) (v : V) (t : Str) : Prop := ∃ n u, AmAt C H v n u ∧ Bd 190 n ∧ Bd 190 u ∧ t = repT n u
theorem item_of {C : Addr} {H : Hp} {v : V} {n u : Int} (h : AmV C H v n u) (b : Bd 190 n) (b' : Bd 190 u) : Rt.Item (RA C) H v (itT v n u) := by
  rcases h with h | ⟨rfl, rfl⟩
  · obtain ⟨a, dx, fs, rfl, ha⟩ := h.inst
    exact .inr ⟨n, u, h, b, b', rfl⟩
  · exact .inl ⟨n, rfl, log_bd b, rfl⟩
theorem ra_ins {C : Addr} (H : Hp) (v : V) (t : Str) (h : RA C H v t) : ∃ a dx fs, v = .ref a ∧ H a = some (.ins C dx fs) := by
  obtain ⟨n, u, h, _⟩ := h
  exact h.inst
section
variable {P : Program} {w : World} {K : PySem.W.Frag} {mg : Str → Option Value} {base : Heap} {C D : Addr}
theorem scFig : FnScope ["number", "left", "tail", "block", "sign"] ["number"] (defScope sFig) := ⟨rfl, rfl, rfl, by decide +kernel, rfl, by decide +kernel, by decide +kernel⟩
theorem ok_fig {f : Addr} {fd : FuncData} (F : Fun K "figures" "figures" sFig f fd) (na : mg "abs" = none) (mB : ∃ t, mg "BLOCK" = some (.int (10 ^ 60) t)) : FnOk P w K mg base CX0 1 f fd ["number"] spFig := by
  obtain ⟨tb, mB⟩ := mB
  refine F.ok scFig (fun vs H Q E h => ?_) (fun cdv A outer s H vs Q E hr h => ?_)
  · obtain ⟨n, rfl, _⟩ := h
    rfl
  · obtain ⟨n, rfl, bn, q⟩ := h
    refine ⟨_, pss_cons (ps_par (by rfl) scFig.nd (i := 1) (j := 2) rfl rfl (by decide) rfl rfl (pa_cons (pe_callB call_abs (by rfl) na boot_abs (pa_cons (pv 0) pa_nil)) (pa_cons pe_str pa_nil)) (by rfl))
      (pss_cons (ps_while PassesOwn.never (pt_cmpR op_ge (pv 1) (pe_glob (v := .int (10 ^ 60)) (by rfl) mB ⟨_, rfl⟩) (nomark _)) (pss_cons ps_never (pss_one ps_never)))
      (pss_cons (ps_set (i := 4) scFig.nd rfl (.inl rfl) (pe_ifExp (pt_cmpR op_lt (pv 0) pe_int (nomark _)) pe_str pe_str))
      (pss_one (ps_ret (pe_joined (.cons (pe_fmt (pv 4)) (.cons (pe_fmt (pv 1)) (.cons (pe_fmt (pv 2)) .nil)))))))), ?_⟩
    have ab := abs_bd bn
    refine ⟨_, rfl, _, rfl, _, _, rfl, ?_⟩
    refine while_by (fun σ H' => σ = [some (.int n), some (.int (if n < 0 then -n else n)), some (.str ""), none, none] ∧ H' = H) (fun _ _ => 0) ⟨rfl, rfl⟩ ?_ ?_
    · rintro σ H' ⟨rfl, rfl⟩
      have lt : ¬ (10 ^ 60 : Int) ≤ (if n < 0 then -n else n) := by
        have z : (if n < 0 then -n else n).natAbs < 10 ^ 60 := Nat.lt_of_lt_of_le ab (by decide)
        omega
      refine ⟨_, rfl, _, _, rfl, rfl, _, rfl, ?_⟩
      rw [show decide ((10 ^ 60 : Int) ≤ (if n < 0 then -n else n)) = false from decide_eq_false lt]
      refine iteF ?_
      refine ⟨_, rfl, _, _, rfl, rfl, _, rfl, ?_⟩
      have fin : ∀ sg : Str, sg = (if n < 0 then ("-" : Str) else "") → tRet (fun σ H Q => tJs [tFmt (tVar 4), tFmt (tVar 1), tFmt (tVar 2)] Str.empty σ H fun out H1 => Q (.str out) H1) { nx := fun _ H' => Q .non H', rt := Q } [some (.int n), some (.int (if n < 0 then -n else n)), some (.str ""), none, some (.str sg)] H' := by
        rintro sg rfl
        have d := dig_len ab
        have e0 : (Str.empty).length = 0 := rfl
        have e1 : (if n < 0 then ("-" : Str) else "").length ≤ 1 := by split <;> decide
        have e2 : ("" : Str).length = 0 := rfl
        refine ⟨_, rfl, .inl ⟨_, rfl, fits400 (by omega), _, rfl, fits400 (by rw [strLen_append]; omega), ?_⟩⟩
        refine ⟨_, rfl, .inr ⟨_, rfl, log_bd ab, _, rfl, fits400 (by rw [strLen_append, strLen_append]; omega), ?_⟩⟩
        refine ⟨_, rfl, .inl ⟨_, rfl, fits400 (by omega), _, rfl, fits400 (by rw [strLen_append, strLen_append, strLen_append]; omega), ?_⟩⟩
        exact q
      refine ite2 (fun c => ?_) (fun c => ?_)
      · exact fin _ (if_pos (of_decide_eq_true c)).symm
      · exact fin _ (if_neg (fun z => c (decide_eq_true z))).symm
    · rintro σ H' Q1 Q2 hQ ⟨v, hv, i, j, e1, e2, k, e3, z⟩
      exact ⟨v, hv, i, j, e1, e2, k, e3, hQ _ _ z⟩
theorem scRep : FnScope ["self"] ["self"] (defScope sRep) := ⟨rfl, rfl, rfl, by decide +kernel, rfl, by decide +kernel, by decide +kernel⟩
theorem ok_rep {f : Addr} {fd : FuncData} (F : Fun K "__repr__" "Amount.__repr__" sRep f fd) (T : Txt K mg C) (GF : GotF P w K mg base "figures" 1 ["number"] spFig) : FnOk P w K mg base CX0 2 f fd ["self"] (Rt.spRep (RA C)) := by
  obtain ⟨fF, fdF, GF, bF, mF, kF⟩ := GF
  refine F.ok scRep (fun vs H Q E h => ?_) (fun cdv A outer s H vs Q E hr h => ?_)
  · obtain ⟨a, t, rfl, _⟩ := h
    rfl
  · obtain ⟨a, t, rfl, ⟨n, u, ⟨l, x, dx, rfl, hx⟩, bn, bu, rfl⟩, q⟩ := h
    refine ⟨_, pss_cons (ps_if (pt_cmpR op_eq (pe_fld (pv 0) rfl) pe_int (nomark _))
        (pss_one (ps_ret (pe_joined (.cons pe_str (.cons (pe_fmt (pe_call GF hr (by rfl) mF kF bF .nil pass0 (pa_cons (pe_fld (pv 0) rfl) pa_nil))) (.cons pe_str .nil)))))) pss_nil)
      (pss_one (ps_ret (pe_joined (.cons pe_str (.cons (pe_fmt (pe_call GF hr (by rfl) mF kF bF .nil pass0 (pa_cons (pe_fld (pv 0) rfl) pa_nil))) (.cons pe_str (.cons (pe_fmt (pe_call GF hr (by rfl) mF kF bF .nil pass0 (pa_cons (pe_fld (pv 0) rfl) pa_nil))) (.cons pe_str .nil)))))))), ?_⟩
    have f1 := fig_len bn
    have f2 := fig_len bu
    have e0 : (Str.empty).length = 0 := rfl
    have e1 : ("Amount(" : Str).length = 7 := rfl
    have e2 : (")" : Str).length = 1 := rfl
    have e3 : (", " : Str).length = 2 := rfl
    refine ⟨_, rfl, x, C, dx, _, _, rfl, hx, T.cl, T.nU, pf_under _ _, rfl, _, rfl, ite2 (fun c => ?_) (fun c => ?_)⟩
    · have z : u = 1 := V.int.inj (of_decide_eq_true c)
      refine ⟨_, rfl, fits400 (by simp only [strLen_append]; omega), ?_⟩
      refine ⟨_, rfl, x, C, dx, _, _, rfl, hx, T.cl, T.nN, pf_number _ _, n, rfl, bn, .inl ⟨_, rfl, fits400 (by omega), _, rfl, fits400 (by simp only [strLen_append]; omega), ?_⟩⟩
      refine ⟨_, rfl, fits400 (by simp only [strLen_append]; omega), ?_⟩
      have e : repT n u = ((Str.empty ++ ("Amount(" : Str)) ++ figT n) ++ (")" : Str) := if_pos z
      rw [e] at q
      exact q
    · have z : ¬ u = 1 := fun z => c (decide_eq_true (by rw [z]))
      refine ⟨_, rfl, fits400 (by simp only [strLen_append]; omega), ?_⟩
      refine ⟨_, rfl, x, C, dx, _, _, rfl, hx, T.cl, T.nN, pf_number _ _, n, rfl, bn, .inl ⟨_, rfl, fits400 (by omega), _, rfl, fits400 (by simp only [strLen_append]; omega), ?_⟩⟩
      refine ⟨_, rfl, fits400 (by simp only [strLen_append]; omega), ?_⟩
      refine ⟨_, rfl, x, C, dx, _, _, rfl, hx, T.cl, T.nU, pf_under _ _, u, rfl, bu, .inl ⟨_, rfl, fits400 (by omega), _, rfl, fits400 (by simp only [strLen_append]; omega), ?_⟩⟩
      refine ⟨_, rfl, fits400 (by simp only [strLen_append]; omega), ?_⟩
      have e : repT n u = ((((Str.empty ++ ("Amount(" : Str)) ++ figT n) ++ (", " : Str)) ++ figT u) ++ (")" : Str) := if_neg z
      rw [e] at q
      exact q
end
end Am
namespace Am
open PySem PySem.Spec PyProof.Rows L2
/-- isinstance of a kept exception with an own dict -/
def rIsiE (K : PySem.W.Frag) (D : Addr) : List V → Hp → VK → Prop := fun xs H Q => ∃ (e dd : Addr) (fs : List (Str × V)) (c : V) (cv : Value) (b : Bool), xs = [.ref e, c] ∧ H e = some (Kt.EO e (.ref D) (some dd)) ∧ H dd = some (.xd fs) ∧ ClsV c cv ∧ PySem.W.kitOne K (.ref D) cv = some b ∧ Q (.bl b) H
structure ErrC (K : PySem.W.Frag) (D : Addr) : Prop where
  ic : PySem.W.isClsIn K D = true
  ca : PySem.W.findIn K (.ref D) "__class__" = some (some (.builtin "object.__class__"))
  cn : PySem.W.specialIn K (.builtin "object.__class__") "__get__" = some (some (.builtin "getset_descriptor.__get__"))
  ct : PySem.W.takesIn K (.builtin "object.__class__") = some true
  ob : PySem.W.mroIn K D (.type "object") = some true
theorem call_isiE {X : Cx} {D : Addr} (T : XfC X.K D) (E : ErrC X.K D) : CallR X (.builtin "isinstance") (rIsiE X.K D) := by
  intro pins z τ G xs us Q I rel want
  obtain ⟨e, dd, fs, c, cv, b, rfl, he, hd, cls, kit, q⟩ := want
  obtain ⟨u1, u2, rfl, r1, r2⟩ := vals2 rel
  cases (show u1 = Value.ref e from r1)
  obtain rfl := cls.eq r2
  obtain ⟨oe, vs, at_, zc, rec⟩ := Kt.eo_at I.hok he
  obtain ⟨m, space, _⟩ := (show ObjOk X.prog X.w G z.heap dd (.xd fs) from I.hok dd _ hd)
  obtain ⟨od, od_at, _⟩ := lookIn_ns space
  have inst : PySem.W.InstAt z.heap e oe D (some od) := by
    refine ⟨at_, zc.1, ?_, ?_⟩
    · unfold PySem.W.notCls
      rw [rec] <;> rfl
    · rw [zc.2]
      exact od_at
  exact PySem.W.kia_one (PySem.W.kitx_exc (od := some od) E.ic T.ga T.gg T.exC E.ca E.cn E.ct E.ob) I.kIn inst kit (fun y => nomatch y) fun tk => ⟨.bl b, G, I.tok tk, rfl, q⟩
end Am
namespace Am
open PySem PySem.Spec PyProof.Rows L2
theorem ofS_app (a b : String) : Str.ofString (a ++ b) = Str.ofString a ++ Str.ofString b := by
  refine Str.ext' ?_
  rw [Str.cps_append, Str.ofString_eq_toList, Str.ofString_eq_toList, Str.ofString_eq_toList]
  simp
/-- figures tell what str tells -/
theorem figT_eq (n : Int) : figT n = Str.ofString (toString n) := by
  have e0 : ("" : Str) = Str.empty := rfl
  unfold figT
  rw [e0, Str.append_empty, Str.empty_append]
  by_cases c : n < 0
  · rw [if_pos c, if_pos c, toString_neg c, ofS_app, Int.zero_sub]
  · rw [if_neg c, if_neg c, Str.empty_append]
/-- the law's own words for an amount -/
def toldT (n u : Int) : Str := ((("Amount(" : Str) ++ Str.ofString (toString n)) ++ (if u = 1 then ("" : Str) else (", " : Str) ++ Str.ofString (toString u))) ++ (")" : Str)
theorem repT_told (n u : Int) : repT n u = toldT n u := by
  have e0 : ("" : Str) = Str.empty := rfl
  unfold repT toldT
  rw [figT_eq, figT_eq, Str.empty_append]
  by_cases c : u = 1
  · rw [if_pos c, if_pos c, e0, Str.append_empty]
  · rw [if_neg c, if_neg c, Str.append_assoc, Str.append_assoc, Str.append_assoc]
    simp only [Str.append_assoc]
end Am
namespace Am
open PySem PySem.Spec PyProof.Rows L2
abbrev sJar : Stmt := top 18
abbrev sTake : Stmt := top 19
abbrev sOf : Stmt := top 20
abbrev sFrac : Stmt := top 21
/-- all but p stands as it did -/
def Chg (p : Addr) (H H' : Hp) : Prop := ∀ b u, H b = some u → b ≠ p → H' b = some u
theorem Chg.refl (p : Addr) (H : Hp) : Chg p H H := fun _ _ e _ => e
theorem Chg.trans {p : Addr} {H H1 H2 : Hp} (a : Chg p H H1) (b : Chg p H1 H2) : Chg p H H2 := fun c u e n => b c u (a c u e n) n
theorem Chg.of {p : Addr} {H H' : Hp} (s : Same H H') : Chg p H H' := fun b u e _ => s b u e
theorem Chg.upd {p : Addr} {H : Hp} {o : HO} : Chg p H (upd H p o) := fun b u e n => by rw [upd_ne n]; exact e
/-- the law's jar: what is left of the cell's own digits, the mixed number, how often it was asked -/
def JarAt (H : Hp) (p : Addr) (N : Int) : Prop := ∃ o m c : Int, H p = some (.lst [.int o, .int m, .int c]) ∧ 0 ≤ o ∧ (0 ≤ m ∧ m < 2 ^ 61) ∧ 0 ≤ c ∧ c ≤ N
theorem JarAt.mono {H : Hp} {p : Addr} {N M : Int} (h : JarAt H p N) (l : N ≤ M) : JarAt H p M := by
  obtain ⟨o, m, c, h, a, b, d, e⟩ := h
  exact ⟨o, m, c, h, a, b, d, Int.le_trans e l⟩
theorem JarAt.same {H H' : Hp} {p : Addr} {N : Int} (h : JarAt H p N) (e : Same H H') : JarAt H' p N := by
  obtain ⟨o, m, c, h, r⟩ := h
  exact ⟨o, m, c, e _ _ h, r⟩
theorem JarAt.lst {H : Hp} {p : Addr} {N : Int} (h : JarAt H p N) : ∃ xs, H p = some (.lst xs) := by
  obtain ⟨o, m, c, h, _⟩ := h
  exact ⟨_, h⟩
theorem AmAt.chg {C p : Addr} {H H' : Hp} {N : Int} {v : V} {n u : Int} (j : JarAt H p N) (e : Chg p H H') (h : AmAt C H v n u) : AmAt C H' v n u := by
  obtain ⟨l, a, dx, rfl, h⟩ := h
  obtain ⟨xs, hp⟩ := j.lst
  exact ⟨l, a, dx, rfl, e _ _ h (ne_of h hp (by intro z; cases z))⟩
theorem AmV.chg {C p : Addr} {H H' : Hp} {N : Int} {v : V} {n u : Int} (j : JarAt H p N) (e : Chg p H H') (h : AmV C H v n u) : AmV C H' v n u := h.elim (fun h => .inl (h.chg j e)) .inr
theorem tup_chg {p a : Addr} {H H' : Hp} {N : Int} {xs : List V} (j : JarAt H p N) (e : Chg p H H') (h : H a = some (.tup xs)) : H' a = some (.tup xs) := by
  obtain ⟨ys, hp⟩ := j.lst
  exact e _ _ h (ne_of h hp (by intro z; cases z))
theorem atI_in {xs : List V} {i : Int} (h0 : 0 ≤ i) (h1 : i < xs.length) : ∃ v, atI xs i = some v ∧ v ∈ xs := by
  obtain ⟨j, rfl⟩ := Int.eq_ofNat_of_zero_le h0
  have hj : j < xs.length := by omega
  exact ⟨xs[j], atI_nat (List.getElem?_eq_getElem hj), List.getElem_mem hj⟩
structure Nm (mg : Str → Option Value) : Prop where
  len : mg "len" = none
  abs : mg "abs" = none
  int : mg "int" = none
  max : mg "max" = none
  min : mg "min" = none
  range : mg "range" = none
  all : mg "all" = none
  repr : mg "repr" = none
  isi : mg "isinstance" = none
theorem b_abs : bootBuiltins "abs" = some (.builtin "abs") := by decide +kernel
theorem b_repr : bootBuiltins "repr" = some (.builtin "repr") := by decide +kernel
theorem b_max : bootBuiltins "max" = some (.builtin "max") := by decide +kernel
theorem b_min : bootBuiltins "min" = some (.builtin "min") := by decide +kernel
theorem b_all : bootBuiltins "all" = some (.builtin "all") := by decide +kernel
/-- ** of a written base of any size -/
theorem op_powX {X : Cx} : OpR X (binaryOp .Pow) (rI (fun i j => 0 ≤ j ∧ (Builtin.Int.intBits i : Int) * j ≤ 2 ^ 27) fun i j => .int (i ^ j.toNat)) := opI fun i j _ _ _ _ _ hc q => pow_int hc.1 hc.2 q
theorem b01 (b : Bool) : (-(2 ^ 64) : Int) < (if b = true then 1 else 0) ∧ (if b = true then (1 : Int) else 0) < 2 ^ 64 := by cases b <;> decide
theorem b01n (b : Bool) : (0 : Int) ≤ (if b = true then 1 else 0) := by cases b <;> decide
def spJar (K : PySem.W.Frag) : Sp := fun vs H Q _ => ∃ (a : Addr) (ns : List Int) (k : Int), vs = [.ref a, .int k] ∧ SqL K H a (ns.map V.int) ∧ 0 ≤ k ∧ k ≤ 63 ∧ ∀ p H', Same H H' → H p = none → JarAt H' p 0 → Q (.ref p) H'
def spTake : Sp := fun vs H Q _ => ∃ (p : Addr) (u N : Int), vs = [.ref p, .int u] ∧ (0 < u ∧ u < 1073741824) ∧ JarAt H p N ∧ N ≤ 9999 ∧ ∀ d H', (0 ≤ d ∧ d < u) → Chg p H H' → JarAt H' p (N + 1) → Q (.int d) H'
def spOf : Sp := fun vs H Q _ => ∃ (p l : Addr) (xs : List V) (N : Int), vs = [.ref p, .ref l] ∧ H l = some (.lst xs) ∧ l ≠ p ∧ (0 < xs.length ∧ xs.length ≤ 1000) ∧ JarAt H p N ∧ N ≤ 9999 ∧ ∀ v H', v ∈ xs → Chg p H H' → JarAt H' p (N + 1) → Q v H'
theorem sq_bound {k c : Int} (hk : 0 ≤ k) (hk2 : k ≤ 200000) (h0 : 0 ≤ c) (h1 : c ≤ 10000) : 0 ≤ k * c * c ∧ k * c * c ≤ 20000000000000 := by
  have a : 0 ≤ k * c := Int.mul_nonneg hk h0
  refine ⟨Int.mul_nonneg a h0, ?_⟩
  have b : k * c ≤ 200000 * 10000 := Int.mul_le_mul hk2 h1 h0 (by decide)
  have d : k * c * c ≤ 200000 * 10000 * 10000 := Int.mul_le_mul b h1 h0 (by decide)
  omega
section
variable {P : Program} {w : World} {K : PySem.W.Frag} {mg : Str → Option Value} {base : Heap} {C : Addr}
theorem scJar : FnScope ["_law_script", "_law_k", "_law_cell", "_law_own", "_law_mixed"] ["_law_script", "_law_k"] (defScope sJar) := ⟨rfl, rfl, rfl, by decide +kernel, rfl, by decide +kernel, by decide +kernel⟩
theorem ok_jar {f : Addr} {fd : FuncData} (F : Fun K "_law_jar" "_law_jar" sJar f fd) (T : Nm mg) : FnOk P w K mg base CX0 1 f fd ["_law_script", "_law_k"] (spJar K) := by
  refine F.ok scJar (fun vs H Q E h => ?_) (fun cdv A outer s H vs Q E hr h => ?_)
  · obtain ⟨a, ns, k, rfl, _⟩ := h
    rfl
  · obtain ⟨a, ns, k, rfl, hS, h0, h1, q⟩ := h
    refine ⟨_, C8.pss_cut (ps_set (i := 2) scJar.nd rfl (.inl rfl) (pe_ifExp (pt_cmpR op_lt (pv 1) (pe_callB call_len_seq (by rfl) T.len PySem.boot_len (pa_cons (pv 0) pa_nil)) (nomark _)) (pe_ix ix_list (pv 0) (pv 1) (fun _ _ => rfl)) (pe_op op_add (pe_op op_mul pe_int (pv 1)) pe_int)))
      (pss_cons (ps_set (i := 3) scJar.nd rfl (.inl rfl) (pe_op op_mul (pe_op op_mod (pe_callTy call_int1 (by rfl) T.int b_int (pa_cons (pe_callB call_abs (by rfl) T.abs b_abs (pa_cons (pv 2) pa_nil)) pa_nil)) (pe_op op_powX (pe_op op_pow pe_int pe_int) pe_int))
        (pe_callTy call_int1 (by rfl) T.int b_int (pa_cons (pe_cmpR op_ge (pe_callB call_abs (by rfl) T.abs b_abs (pa_cons (pv 2) pa_nil)) (pe_op op_pow pe_int pe_int) (nomark _)) pa_nil))))
      (pss_cons (ps_set (i := 4) scJar.nd rfl (.inl rfl) (pe_callTy call_int1 (by rfl) T.int b_int (pa_cons (pe_op op_add (pe_op op_add (pe_op op_mul (pe_op op_mod (pe_callTy call_int1 (by rfl) T.int b_int (pa_cons (pv 2) pa_nil)) pe_int) pe_int) (pe_op op_mul (pe_op op_mul pe_int (pv 1)) (pv 1))) pe_int) pa_nil)))
      (pss_one (ps_ret (pe_lst (pa_cons (pv 3) (pa_cons (pe_op op_mod (pv 4) pe_int) (pa_cons pe_int pa_nil)))))))), ?_⟩
    refine ⟨fun σ' H' => ∃ cell : Int, σ' = [some (.ref a), some (.int k), some (.int cell), none, none] ∧ H' = H, ?_, ?_⟩
    · refine ⟨_, rfl, _, rfl, a, _, rfl, .inl hS, _, _, rfl, rfl, _, rfl, ite2 (fun c => ?_) (fun c => ?_)⟩
      · have c' := of_decide_eq_true c
        rw [List.length_map] at c'
        obtain ⟨v, hv, mv⟩ := atI_in (xs := ns.map V.int) h0 (by rw [List.length_map]; exact c')
        obtain ⟨z, _, rfl⟩ := List.mem_map.mp mv
        exact ⟨_, rfl, _, rfl, a, _, _, _, rfl, rfl, hS, hv, z, rfl, rfl⟩
      · exact ⟨_, rfl, _, _, rfl, rfl, .inl (by decide), _, _, rfl, rfl, _, rfl, rfl⟩
    · rintro σ' H' ⟨cell, rfl, rfl⟩
      have own0 : ∀ x : Int, 0 ≤ x % (((10 : Int) ^ (60 : Int).toNat) ^ (5 : Int).toNat) := fun x => Int.emod_nonneg _ (by decide +kernel)
      refine ⟨_, rfl, cell, rfl, .inl ⟨_, rfl, _, _, rfl, rfl, ⟨by decide, by decide, by decide⟩, _, _, rfl, rfl, (by decide +kernel), _, _, rfl, rfl, (by show (0 : Int) < (10 ^ (60 : Int).toNat) ^ (5 : Int).toNat; decide +kernel), ?_⟩⟩
      refine ⟨_, rfl, cell, rfl, _, _, rfl, rfl, ⟨by decide, by decide, by decide⟩, _, _, rfl, rfl, .inr ⟨_, rfl, _, _, rfl, rfl, .inr (b01 _), ?_⟩⟩
      refine ⟨_, rfl, .inl ⟨_, rfl, _, _, rfl, rfl, (by show (0 : Int) < 2305843009213693951; decide), _, _, rfl, rfl, .inr (by decide), ?_⟩⟩
      refine ⟨_, rfl, _, _, rfl, rfl, .inl (by decide), _, rfl, _, _, rfl, rfl, .inr (by omega), _, _, rfl, rfl, _, _, rfl, rfl, .inl ⟨_, rfl, ?_⟩⟩
      refine ⟨_, rfl, _, rfl, _, _, rfl, rfl, (by show (0 : Int) < 2305843009213693921; decide), (by show 3 ≤ sizeLine; decide), fun p np => ?_⟩
      refine q p _ (same_upd np) np ⟨_, _, _, upd_same, ?_, ⟨Int.emod_nonneg _ (by decide), Int.lt_of_lt_of_le (Int.emod_lt_of_pos _ (by decide)) (by decide)⟩, Int.le_refl _, Int.le_refl _⟩
      exact Int.mul_nonneg (own0 _) (b01n _)
theorem scTake : FnScope ["_law_jar_here", "_law_upto", "_law_digit", "_law_prime", "_law_mixed"] ["_law_jar_here", "_law_upto"] (defScope sTake) := ⟨rfl, rfl, rfl, by decide +kernel, rfl, by decide +kernel, by decide +kernel⟩
theorem ok_take {f : Addr} {fd : FuncData} (F : Fun K "_law_take" "_law_take" sTake f fd) (T : Nm mg) : FnOk P w K mg base CX0 1 f fd ["_law_jar_here", "_law_upto"] spTake := by
  refine F.ok scTake (fun vs H Q E h => ?_) (fun cdv A outer s H vs Q E hr h => ?_)
  · obtain ⟨p, u, N, rfl, _⟩ := h
    rfl
  · obtain ⟨p, u, N, rfl, ⟨u0, u1⟩, ⟨o, m, c, hp, o0, ⟨m0, m1⟩, c0, c1⟩, hN, q⟩ := h
    refine ⟨_, pss_cons (ps_if (pt_cmpR op_gt (pe_ix ix_list (pv 0) pe_int (fun _ _ => rfl)) pe_int (nomark _))
        (pss_cons (ps_set (i := 2) scTake.nd rfl (.inl rfl) (pe_op op_mod (pe_callTy call_int1 (by rfl) T.int b_int (pa_cons (pe_ix ix_list (pv 0) pe_int (fun _ _ => rfl)) pa_nil)) (pv 1)))
        (pss_cons (ps_asg (pe_op op_fdiv (pe_ix ix_list (pv 0) pe_int (fun _ _ => rfl)) (pv 1)) (pg_sub (pv 0) pe_int set_list))
        (pss_one (ps_ret (pv 2))))) pss_nil)
      (pss_cons (ps_asg (pe_op op_add (pe_ix ix_list (pv 0) pe_int (fun _ _ => rfl)) pe_int) (pg_sub (pv 0) pe_int set_list))
      (pss_cons (ps_set (i := 3) scTake.nd rfl (.inl rfl) (pe_ix ix_list (pe_lst (pa_cons pe_int (pa_cons pe_int (pa_cons pe_int (pa_cons pe_int (pa_cons pe_int pa_nil)))))) (pe_op op_mod (pe_callTy call_int1 (by rfl) T.int b_int (pa_cons (pe_ix ix_list (pv 0) pe_int (fun _ _ => rfl)) pa_nil)) pe_int) (fun _ _ => rfl)))
      (pss_cons (ps_set (i := 4) scTake.nd rfl (.inl rfl) (pe_op op_mod (pe_callTy call_int1 (by rfl) T.int b_int (pa_cons (pe_op op_pow (pe_callTy call_int1 (by rfl) T.int b_int (pa_cons (pe_op op_add (pe_op op_add (pe_ix ix_list (pv 0) pe_int (fun _ _ => rfl)) (pe_op op_mul (pe_op op_mul pe_int (pe_ix ix_list (pv 0) pe_int (fun _ _ => rfl))) (pe_ix ix_list (pv 0) pe_int (fun _ _ => rfl)))) pe_int) pa_nil)) pe_int) pa_nil)) (pv 3)))
      (pss_one (ps_ret (pe_op op_mod (pe_callTy call_int1 (by rfl) T.int b_int (pa_cons (pe_op op_fdiv (pe_op op_mul (pv 4) (pe_op op_add (pe_op op_mod (pe_callTy call_int1 (by rfl) T.int b_int (pa_cons (pv 4) pa_nil)) pe_int) (pe_op op_mul pe_int (pe_ix ix_list (pv 0) pe_int (fun _ _ => rfl))))) pe_int) pa_nil)) (pv 1))))))), ?_⟩
    refine ⟨_, rfl, p, _, _, _, rfl, rfl, SqL.of hp, rfl, _, _, rfl, rfl, _, rfl, ite2 (fun z => ?_) (fun _ => ?_)⟩
    · refine ⟨_, rfl, p, _, _, _, rfl, rfl, SqL.of hp, rfl, .inl ⟨_, rfl, _, rfl, _, _, rfl, rfl, u0, ?_⟩⟩
      refine ⟨_, rfl, p, _, _, _, rfl, rfl, SqL.of hp, rfl, _, rfl, _, _, rfl, rfl, ⟨u0, u1⟩, _, rfl, p, _, _, 0, rfl, rfl, hp, rfl, ?_⟩
      refine ⟨_, rfl, q _ _ ⟨Int.emod_nonneg _ (by omega), Int.emod_lt_of_pos _ u0⟩ Chg.upd ⟨_, _, _, upd_same, Int.ediv_nonneg o0 (by omega), ⟨m0, m1⟩, c0, by omega⟩⟩
    · refine ⟨_, rfl, p, _, _, _, rfl, rfl, SqL.of hp, rfl, _, _, rfl, rfl, _, rfl, p, _, _, 2, rfl, rfl, hp, rfl, ?_⟩
      have hp1 : (upd H p (.lst ([V.int o, .int m, .int c].set 2 (.int (c + 1))))) p = some (.lst [V.int o, .int m, .int (c + 1)]) := upd_same
      have k1 : Chg p H (upd H p (.lst ([V.int o, .int m, .int c].set 2 (.int (c + 1))))) := Chg.upd
      generalize (upd H p (.lst ([V.int o, .int m, .int c].set 2 (.int (c + 1))))) = H1 at hp1 k1 ⊢
      refine ⟨by show 5 ≤ sizeLine; decide, fun l nl => ?_⟩
      have npl : p ≠ l := ne_of_none hp1 nl
      have hp2 : ∀ o, (upd H1 l o) p = some (.lst [V.int _, .int m, .int (c + 1)]) := fun o => by rw [upd_ne npl]; exact hp1
      refine ⟨_, rfl, p, _, _, _, rfl, rfl, SqL.of (hp2 _), rfl, .inl ⟨_, rfl, _, _, rfl, rfl, (by show (0 : Int) < 5; decide), ?_⟩⟩
      obtain ⟨v, hv, mv⟩ := atI_in (xs := [V.int 2147483647, .int 2147483629, .int 2147483587, .int 2147483579, .int 2147483563]) (i := (c + 1) % 5) (Int.emod_nonneg _ (by decide)) (Int.emod_lt_of_pos _ (by decide))
      obtain ⟨pr, rfl, pr0⟩ : ∃ pr : Int, v = .int pr ∧ 0 < pr := by
        simp only [List.mem_cons, List.not_mem_nil, or_false] at mv
        rcases mv with rfl | rfl | rfl | rfl | rfl <;> exact ⟨_, rfl, by decide⟩
      refine ⟨l, _, _, _, rfl, rfl, SqL.of upd_same, hv, ?_⟩
      have sq := fun (k : Int) (a : 0 ≤ k) (b : k ≤ 200000) => sq_bound (k := k) (c := c + 1) a b (by omega) (by omega)
      refine ⟨_, rfl, p, _, _, _, rfl, rfl, SqL.of (hp2 _), rfl, ?_⟩
      refine ⟨_, rfl, p, _, _, _, rfl, rfl, SqL.of (hp2 _), rfl, _, _, rfl, rfl, .inl (by decide), ?_⟩
      refine ⟨_, rfl, p, _, _, _, rfl, rfl, SqL.of (hp2 _), rfl, _, _, rfl, rfl, .inr (by omega), ?_⟩
      refine ⟨_, _, rfl, rfl, _, _, rfl, rfl, .inl ⟨_, rfl, _, _, rfl, rfl, ⟨by decide, by decide, ?_⟩, .inl ⟨_, rfl, _, rfl, _, _, rfl, rfl, pr0, ?_⟩⟩⟩
      · have := sq 120041 (by decide) (by decide)
        omega
      refine ⟨_, rfl, _, rfl, .inl ⟨_, rfl, _, _, rfl, rfl, (by show (0 : Int) < 10007; decide), ?_⟩⟩
      refine ⟨_, rfl, p, _, _, _, rfl, rfl, SqL.of (hp2 _), rfl, _, _, rfl, rfl, .inl (by decide), _, _, rfl, rfl, _, _, rfl, rfl, .inr ?_, _, _, rfl, rfl, ⟨by decide, by decide⟩, .inl ⟨_, rfl, _, rfl, _, _, rfl, rfl, u0, ?_⟩⟩
      · have g0 := fun x : Int => Int.emod_nonneg x (b := 10007) (by decide)
        have g1 := fun x : Int => Int.emod_lt_of_pos x (b := 10007) (by decide)
        have := g0 (((m + 120041 * (c + 1) * (c + 1) + 63) ^ (3 : Int).toNat) % pr)
        have := g1 (((m + 120041 * (c + 1) * (c + 1) + 63) ^ (3 : Int).toNat) % pr)
        constructor <;> omega
      · have np1 := hp2 (.lst [V.int 2147483647, .int 2147483629, .int 2147483587, .int 2147483579, .int 2147483563])
        exact q _ _ ⟨Int.emod_nonneg _ (by omega), Int.emod_lt_of_pos _ u0⟩ (k1.trans (Chg.of (same_upd nl))) ⟨_, _, _, np1, o0, ⟨m0, m1⟩, by omega, by omega⟩
theorem scOf : FnScope ["_law_jar_here", "_law_some"] ["_law_jar_here", "_law_some"] (defScope sOf) := ⟨rfl, rfl, rfl, by decide +kernel, rfl, by decide +kernel, by decide +kernel⟩
theorem ok_of {f : Addr} {fd : FuncData} (F : Fun K "_law_of" "_law_of" sOf f fd) (T : Nm mg) (GT : GotF P w K mg base "_law_take" 1 ["_law_jar_here", "_law_upto"] spTake) : FnOk P w K mg base CX0 2 f fd ["_law_jar_here", "_law_some"] spOf := by
  obtain ⟨fT, fdT, GT, bT, mT, kT⟩ := GT
  refine F.ok scOf (fun vs H Q E h => ?_) (fun cdv A outer s H vs Q E hr h => ?_)
  · obtain ⟨p, l, xs, N, rfl, _⟩ := h
    rfl
  · obtain ⟨p, l, xs, N, rfl, hl, nlp, ⟨x0, x1⟩, hj, hN, q⟩ := h
    refine ⟨_, pss_one (ps_ret (pe_ix ix_list (pv 1) (pe_call GT hr (by rfl) mT kT bT .nil pass0 (pa_cons (pv 0) (pa_cons (pe_callB call_len_seq (by rfl) T.len PySem.boot_len (pa_cons (pv 1) pa_nil)) pa_nil))) (fun _ _ => rfl))), ?_⟩
    refine ⟨_, rfl, _, rfl, _, rfl, l, _, rfl, .inl (SqL.of hl), ?_⟩
    refine ⟨p, _, N, rfl, ⟨by omega, by omega⟩, hj, hN, fun d H' hd k j => ?_⟩
    obtain ⟨v, hv, mv⟩ := atI_in hd.1 hd.2
    exact ⟨l, xs, d, v, rfl, rfl, SqL.of (k _ _ hl nlp), hv, q v H' mv k j⟩
end
end Am
namespace Am
open PySem PySem.Spec PyProof.Rows L2
abbrev sDec : Stmt := top 8
abbrev sText : Stmt := inClass (top 12) 1
abbrev sOfA : Stmt := inClass (top 12) 2
/-- decimal(word) -/
def spDec : Sp := fun vs H Q _ => ∃ x : Str, vs = [.str x] ∧ x.length ≤ 4300 ∧ Q (.int (Mt.num x.cps.toList)) H
theorem digit_asc : ∀ c, c < 128 → Unicode.isDigit c = Mt.digB c := by
  have h : ∀ c : Fin 128, Unicode.isDigit c.val = Mt.digB c.val := by decide +kernel
  exact fun c hc => h ⟨c, hc⟩
theorem ascB (x : Str) : Txt.isascii x = x.cps.toList.all (fun c => decide (c < 128)) := by
  unfold Txt.isascii
  rw [← Array.all_toList]
theorem digB_asc {c : Nat} (h : Mt.digB c = true) : c < 128 := by
  have := of_decide_eq_true h
  omega
theorem decimal_test (x : Str) : (Txt.isascii x && Txt.isdigit x) = (!x.cps.toList.isEmpty && x.cps.toList.all Mt.digB) := by
  rw [ascB]
  unfold Txt.isdigit
  rw [← Array.all_toList]
  have e0 : decide (x.length > 0) = !x.cps.toList.isEmpty := by
    rw [← SL.len_toList]
    cases x.cps.toList <;> simp
  rw [e0]
  generalize x.cps.toList = l
  cases ha : l.all (fun c => decide (c < 128)) with
  | true =>
    have e : l.all Unicode.isDigit = l.all Mt.digB := by
      rw [Bool.eq_iff_iff, List.all_eq_true, List.all_eq_true]
      have h := List.all_eq_true.mp ha
      exact ⟨fun z c hc => by rw [← digit_asc c (of_decide_eq_true (h c hc))]; exact z c hc, fun z c hc => by rw [digit_asc c (of_decide_eq_true (h c hc))]; exact z c hc⟩
    rw [e, Bool.true_and]
  | false =>
    cases hd : l.all Mt.digB with
    | false => simp
    | true =>
      have h := List.all_eq_true.mp hd
      have : l.all (fun c => decide (c < 128)) = true := List.all_eq_true.mpr fun c hc => decide_eq_true (digB_asc (h c hc))
      rw [ha] at this
      cases this
theorem starts0 (x : Str) : Txt.startswith x "0" = decide (x.cps.toList.head? = some 48) := by
  unfold Txt.startswith
  have e : ("0" : Str) = ⟨#[48]⟩ := by decide +kernel
  rw [e]
  have h := StrLaws.subAt_one x 48 0
  rw [Bool.eq_iff_iff, Bool.and_eq_true, decide_eq_true_eq, decide_eq_true_eq, h, List.head?_eq_getElem?]
theorem is0 (x : Str) : decide (V.str x = V.str ("0" : Str)) = decide (x.cps.toList = [48]) := by
  have e : ("0" : Str) = ⟨#[48]⟩ := by decide +kernel
  rw [e]
  refine decide_eq_decide.mpr ⟨fun h => ?_, fun h => ?_⟩
  · rw [V.str.inj h]
  · rw [SL.ext (x := x) (y := ⟨#[48]⟩) h]
section
variable {P : Program} {w : World} {K : PySem.W.Frag} {mg : Str → Option Value} {base : Heap} {C D : Addr}
theorem scDec : FnScope ["word"] ["word"] (defScope sDec) := ⟨rfl, rfl, rfl, by decide +kernel, rfl, by decide +kernel, by decide +kernel⟩
theorem ok_dec {f : Addr} {fd : FuncData} (F : Fun K "decimal" "decimal" sDec f fd) (ni : mg "int" = none) (nd : base.NoDigits) : FnOk P w K mg base CX0 1 f fd ["word"] spDec := by
  refine F.ok scDec (fun vs H Q E h => ?_) (fun cdv A outer s H vs Q E hr h => ?_)
  · obtain ⟨x, rfl, _⟩ := h
    rfl
  · obtain ⟨x, rfl, hl, q⟩ := h
    refine ⟨_, pss_cons (ps_if (pt_not (PW.pt (pw_and (pt_val (pe_bm0 PySem.F.plainAttrs_str PySem.F.slot_str_isascii PySem.F.type_str_isascii mt_isascii (pv 0))) (pw_and1 (pt_val (pe_bm0 PySem.F.plainAttrs_str PySem.F.slot_str_isdigit PySem.F.type_str_isdigit mt_isdigit (pv 0)))))))
        (pss_one (ps_ret (pe_un un_neg pe_int))) pss_nil)
      (pss_cons (ps_if (PW.pt (pw_and (pt_val (pe_bm PySem.F.plainAttrs_str PySem.F.slot_str_startswith PySem.F.type_str_startswith mt_startswith (pv 0) (pa_cons pe_str pa_nil))) (pw_and1 (pt_cmpR op_ne (pv 0) pe_str (nomark _)))))
        (pss_one (ps_ret (pe_un un_neg pe_int))) pss_nil)
      (pss_one (ps_ret (pe_callTy (Nb.call_int_big nd) (by rfl) ni b_int (pa_cons (pv 0) pa_nil))))), ?_⟩
    have key : Mt.num x.cps.toList = if (Txt.isascii x && Txt.isdigit x) = true then (if (x.cps.toList.head? = some 48 ∧ x.cps.toList ≠ [48]) then -1 else (NumText.digitsVal x.cps.toList : Int)) else -1 := by rw [decimal_test]; rfl
    rw [key] at q
    refine ⟨_, rfl, rfl, x, rfl, rfl, trivial, _, rfl, ?_⟩
    cases ha : Txt.isascii x with
    | false =>
      refine iteF (iteT ?_)
      rw [ha, Bool.false_and, if_neg (by decide)] at q
      exact ⟨_, rfl, q⟩
    | true =>
      refine iteT ⟨_, rfl, rfl, x, rfl, rfl, trivial, _, rfl, ?_⟩
      cases hd : Txt.isdigit x with
      | false =>
        refine iteT ?_
        rw [ha, hd, Bool.and_false, if_neg (by decide)] at q
        exact ⟨_, rfl, q⟩
      | true =>
        refine iteF ?_
        have hT : (!x.cps.toList.isEmpty && x.cps.toList.all Mt.digB) = true := by rw [← decimal_test, ha, hd]; rfl
        rw [Bool.and_eq_true] at hT
        have hne : x.cps.toList ≠ [] := by
          intro e
          rw [e] at hT
          exact absurd hT.1 (by decide)
        have hI : PySem.intText? x = some (NumText.digitsVal x.cps.toList : Int) := PySem.intText_digits (Mt.all_dig hT.2) hne hl
        rw [ha, hd, if_pos (by decide)] at q
        have fin : ¬ (x.cps.toList.head? = some 48 ∧ x.cps.toList ≠ [48]) → tRet (tCB (fun xs H Q => ∃ a n, xs = [V.str a] ∧ intText? a = some n ∧ Q (V.int n) H) (tCons (tVar 0) tNil)) { nx := fun x H' => Q V.non H', rt := Q } [some (V.str x)] H := by
          intro z
          rw [if_neg z] at q
          exact ⟨_, rfl, x, _, rfl, hI, q⟩
        refine ⟨_, rfl, rfl, x, _, rfl, rfl, _, rfl, ?_⟩
        rw [starts0]
        by_cases h0 : x.cps.toList.head? = some 48
        · rw [decide_eq_true h0]
          refine iteT ⟨_, rfl, rfl, _, rfl, ?_⟩
          rw [is0]
          by_cases h1 : x.cps.toList = [48]
          · rw [decide_eq_true h1]
            exact iteF (fin fun z => z.2 h1)
          · rw [decide_eq_false h1]
            refine iteT ⟨_, rfl, ?_⟩
            rw [if_pos ⟨h0, h1⟩] at q
            exact q
        · rw [decide_eq_false h0]
          exact iteF (iteF (fin fun z => h0 z.1))
end
end Am
set_option exponentiation.threshold 5000
namespace Am
open PySem PySem.Spec PyProof.Rows L2
theorem zfill_dg {b : Nat} (h : b < 10 ^ 60) : (Txt.zfill (Str.ofString (toString ((b : Nat) : Int))) 60).cps.toList = Mt.zpad 60 (Mt.dg b) := by
  have hL := Mt.dg_str b
  have len : (Str.ofString (toString ((b : Nat) : Int))).length = (Mt.dg b).length := by rw [← SL.len_toList, hL]
  have le := Mt.dg_len 59 b h
  unfold Txt.zfill Mt.zpad
  rw [len]
  by_cases c : (60 : Int) ≤ ((Mt.dg b).length : Int)
  · rw [if_pos c, hL]
    have e : 60 - (Mt.dg b).length = 0 := by omega
    rw [e]
    rfl
  · rw [if_neg c]
    have e : (60 : Int).toNat - (Mt.dg b).length = 60 - (Mt.dg b).length := rfl
    rw [e]
    generalize 60 - (Mt.dg b).length = k
    have first : ∀ y, (Str.ofString (toString ((b : Nat) : Int))).cps[0]? = some y → 48 ≤ y ∧ y ≤ 57 := by
      intro y hy
      rw [← Array.getElem?_toList, hL] at hy
      exact Mt.dg_all b y (List.mem_of_getElem? hy)
    unfold zfilled
    split
    · rename_i z; exact absurd (first _ z) (by decide)
    · rename_i z; exact absurd (first _ z) (by decide)
    · show ((Array.replicate k 48 ++ (Str.ofString (toString ((b : Nat) : Int))).cps) ++ Array.replicate 0 48).toList = _
      rw [Array.toList_append, Array.toList_append, hL]
      simp
theorem bits_le {n : Int} {k : Nat} (h : n.natAbs < 2 ^ k) : Builtin.Int.intBits n ≤ k := by
  first
    | exact intBits_le h
    | (unfold Builtin.Int.intBits
       split
       · omega
       · rename_i h0
         have := (Nat.log2_lt (by first | exact h0 | (intro z; simp_all))).mpr h
         omega)
theorem intL_len {n : Int} {k : Nat} (h : n.natAbs < 10 ^ (k + 1)) : (Str.ofString (toString n)).length ≤ k + 2 := by
  rw [← SL.len_toList]
  show (Mt.intL n).length ≤ _
  have := Mt.dg_len k n.natAbs h
  by_cases c : n < 0
  · rw [Mt.intL_neg c, List.length_cons]; omega
  · rw [Mt.intL_pos (by omega)]; omega
def spFigB : Sp := fun vs H Q _ => ∃ n : Int, vs = [.int n] ∧ n.natAbs < 10 ^ 1000 ∧ ∀ H', Same H H' → Q (.str (Str.ofString (toString n))) H'
def mu1 (σ : L2.St) (_ : Hp) : Nat := match σ[1]? with
  | some (some (V.int b)) => b.natAbs
  | _ => 0
theorem b_divmod : bootBuiltins "divmod" = some (.builtin "divmod") := by decide +kernel
theorem b_str : bootBuiltins "str" = some (.type "str") := by decide +kernel
section
variable {P : Program} {w : World} {K : PySem.W.Frag} {mg : Str → Option Value} {base : Heap} {C D : Addr}
theorem ok_figB {f : Addr} {fd : FuncData} (F : Fun K "figures" "figures" sFig f fd) (na : mg "abs" = none) (nd : mg "divmod" = none) (ns : mg "str" = none) (mB : ∃ t, mg "BLOCK" = some (.int (10 ^ 60) t)) (mW : ∃ t, mg "WIDTH" = some (.int 60 t)) : FnOk P w K mg base CX0 1 f fd ["number"] spFigB := by
  obtain ⟨tb, mB⟩ := mB
  obtain ⟨tw, mW⟩ := mW
  refine F.ok scFig (fun vs H Q E h => ?_) (fun cdv A outer s H vs Q E hr h => ?_)
  · obtain ⟨n, rfl, _⟩ := h
    rfl
  · obtain ⟨n, rfl, bn, q⟩ := h
    refine ⟨_, pss_cons (ps_par (by rfl) scFig.nd (i := 1) (j := 2) rfl rfl (by decide) rfl rfl (pa_cons (pe_callB call_abs (by rfl) na boot_abs (pa_cons (pv 0) pa_nil)) (pa_cons pe_str pa_nil)) (by rfl))
      (pss_cons (ps_while PassesOwn.never (pt_cmpR op_ge (pv 1) (pe_glob (v := .int (10 ^ 60)) (by rfl) mB ⟨_, rfl⟩) (nomark _))
        (pss_cons (ps_asg (pe_callB call_divmodW (by rfl) nd b_divmod (pa_cons (pv 1) (pa_cons (pe_glob (v := .int (10 ^ 60)) (by rfl) mB ⟨_, rfl⟩) pa_nil))) (pg_tup rfl (pgs_cons (pg_name (i := 1) scFig.nd rfl (.inl rfl)) (pgs_cons (pg_name (i := 3) scFig.nd rfl (.inl rfl)) pgs_nil))))
        (pss_one (ps_set (i := 2) scFig.nd rfl (.inl rfl) (pe_joined (.cons (pe_fmt (pe_bm PySem.F.plainAttrs_str PySem.F.slot_str_zfill PySem.F.type_str_zfill mt_zfill (pe_callTy call_str_int (by rfl) ns b_str (pa_cons (pv 3) pa_nil)) (pa_cons (pe_glob (v := .int 60) (by rfl) mW ⟨_, rfl⟩) pa_nil))) (.cons (pe_fmt (pv 2)) .nil)))))))
      (pss_cons (ps_set (i := 4) scFig.nd rfl (.inl rfl) (pe_ifExp (pt_cmpR op_lt (pv 0) pe_int (nomark _)) pe_str pe_str))
      (pss_one (ps_ret (pe_joined (.cons (pe_fmt (pv 4)) (.cons (pe_fmt (pv 1)) (.cons (pe_fmt (pv 2)) .nil)))))))), ?_⟩
    have big : ∀ {k : Nat}, k ≤ 4000 → k ≤ sizeLine := fun h => Nat.le_trans h (by decide)
    have lenM := Mt.dg_len 999 n.natAbs bn
    refine ⟨_, rfl, _, rfl, _, _, rfl, ?_⟩
    have ab : (if n < 0 then -n else n) = (n.natAbs : Int) := by split <;> omega
    rw [ab]
    refine while_by (Pv := fun σ H' => ∃ (l : Nat) (t : Str) (v3 : Option V), σ = [some (.int n), some (.int (l : Int)), some (.str t), v3, none] ∧ Same H H' ∧ l ≤ n.natAbs ∧ Mt.dg n.natAbs = Mt.dg l ++ t.cps.toList) mu1 ⟨n.natAbs, "", none, rfl, Same.refl _, Nat.le_refl _, by rw [show ("" : Str).cps.toList = [] from rfl, List.append_nil]⟩ ?_ ?_
    · rintro σ H' ⟨l, t, v3, rfl, hs, hl, hd⟩
      have tl : t.length ≤ 1000 := by
        rw [← SL.len_toList]
        have e := congrArg List.length hd
        rw [List.length_append] at e
        omega
      refine ⟨_, rfl, _, _, rfl, rfl, _, rfl, ite2 (fun c => ?_) (fun c => ?_)⟩
      · have c' : 10 ^ 60 ≤ l := by
          have := of_decide_eq_true c
          omega
        have lb : l < 10 ^ 1000 := Nat.lt_of_le_of_lt hl bn
        have lb2 : (l : Int).natAbs < 2 ^ 3400 := Nat.lt_trans (by rw [Int.natAbs_natCast]; exact lb) (by decide +kernel)
        refine ⟨_, rfl, _, _, rfl, divp_ok (by decide) (Nat.le_trans (bits_le lb2) (by decide +kernel)), fun p np => ?_⟩
        refine ⟨p, _, rfl, SqT.of upd_same, rfl, _, _, rfl, _, _, rfl, rfl, ?_⟩
        have ld := Nat.div_add_mod l (10 ^ 60)
        have bm : l % 10 ^ 60 < 10 ^ 60 := Nat.mod_lt _ (by decide)
        have qpos : 0 < l / 10 ^ 60 := Nat.div_pos c' (by decide)
        have eb : (l : Int) % 10 ^ 60 = ((l % 10 ^ 60 : Nat) : Int) := by omega
        have eq : (l : Int) / 10 ^ 60 = ((l / 10 ^ 60 : Nat) : Int) := by omega
        have hz := zfill_dg bm
        have hdl : Mt.dg l = Mt.dg (l / 10 ^ 60) ++ Mt.zpad 60 (Mt.dg (l % 10 ^ 60)) := by
          have e := Mt.dg_block qpos 59 (l % 10 ^ 60) bm
          rw [Nat.mul_comm, ld] at e
          exact e
        have zl : (Txt.zfill (Str.ofString (toString ((l % 10 ^ 60 : Nat) : Int))) 60).length ≤ 1000 := by
          rw [← SL.len_toList]
          have e := congrArg List.length hdl
          have e2 := congrArg List.length hd
          rw [List.length_append] at e e2
          rw [hz]
          omega
        have lg : ((l % 10 ^ 60 : Nat) : Int).natAbs.log2 < 1920 := Nat.lt_of_lt_of_le (log2_lt (k := 200) (by decide) (Nat.lt_of_lt_of_le (by rw [Int.natAbs_natCast]; exact bm) (by decide))) (by decide)
        rw [eb, eq]
        have e0 : (Str.empty).length = 0 := rfl
        refine ⟨_, rfl, _, rfl, lg, rfl, _, _, rfl, rfl, rfl, .inl ⟨_, rfl, big (by omega), _, rfl, big (by rw [strLen_append]; omega), ?_⟩⟩
        refine ⟨_, rfl, .inl ⟨_, rfl, big (by omega), _, rfl, big (by rw [strLen_append, strLen_append]; omega), ?_⟩⟩
        refine ⟨⟨_, _, _, rfl, hs.trans (same_upd np), ?_, ?_⟩, ?_⟩
        · exact Nat.le_trans (Nat.div_le_self _ _) hl
        · rw [hd, hdl, Str.empty_append, Str.cps_append, Array.toList_append, hz, List.append_assoc]
        · show (((l / 10 ^ 60 : Nat) : Int)).natAbs < ((l : Nat) : Int).natAbs
          rw [Int.natAbs_natCast, Int.natAbs_natCast]
          omega
      · have lb : (l : Int).natAbs < 10 ^ 60 := by
          have : ¬ (10 ^ 60 : Int) ≤ (l : Int) := fun z => c (decide_eq_true z)
          omega
        have lg : (l : Int).natAbs.log2 < 1920 := Nat.lt_of_lt_of_le (log2_lt (k := 200) (by decide) (Nat.lt_of_lt_of_le lb (by decide))) (by decide)
        have ll : (Str.ofString (toString ((l : Nat) : Int))).length ≤ 61 := intL_len (k := 59) lb
        have fin : ∀ sg : Str, sg = (if n < 0 then ("-" : Str) else "") → tRet (fun σ H Q => tJs [tFmt (tVar 4), tFmt (tVar 1), tFmt (tVar 2)] Str.empty σ H fun out H1 => Q (.str out) H1) { nx := fun _ H' => Q .non H', rt := Q } [some (.int n), some (.int (l : Int)), some (.str t), v3, some (.str sg)] H' := by
          rintro sg rfl
          have e0 : (Str.empty).length = 0 := rfl
          have e1 : (if n < 0 then ("-" : Str) else "").length ≤ 1 := by split <;> decide
          refine ⟨_, rfl, .inl ⟨_, rfl, big (by omega), _, rfl, big (by rw [strLen_append]; omega), ?_⟩⟩
          refine ⟨_, rfl, .inr ⟨_, rfl, lg, _, rfl, big (by rw [strLen_append, strLen_append]; omega), ?_⟩⟩
          refine ⟨_, rfl, .inl ⟨_, rfl, big (by omega), _, rfl, big (by rw [strLen_append, strLen_append, strLen_append]; omega), ?_⟩⟩
          have e : ((Str.empty ++ (if n < 0 then ("-" : Str) else "")) ++ Str.ofString (toString ((l : Nat) : Int))) ++ t = Str.ofString (toString n) := by
            refine SL.ext ?_
            rw [Str.empty_append, Str.cps_append, Str.cps_append, Array.toList_append, Array.toList_append, Mt.dg_str, List.append_assoc, ← hd]
            show _ = Mt.intL n
            by_cases cn : n < 0
            · rw [if_pos cn, Mt.intL_neg cn]
              rfl
            · rw [if_neg cn, Mt.intL_pos (by omega)]
              rfl
          have q' := q H' hs
          rw [← e] at q'
          exact q'
        refine ⟨_, rfl, _, _, rfl, rfl, _, rfl, ite2 (fun c => ?_) (fun c => ?_)⟩
        · exact fin _ (if_pos (of_decide_eq_true c)).symm
        · exact fin _ (if_neg (fun z => c (decide_eq_true z))).symm
    · rintro σ H' Q1 Q2 hQ ⟨v, hv, i, j, e1, e2, k, e3, z⟩
      exact ⟨v, hv, i, j, e1, e2, k, e3, hQ _ _ z⟩
/-- the text of an amount -/
def B1 (n u : Int) : Prop := n.natAbs < 10 ^ 1000 ∧ u.natAbs < 10 ^ 1000
def spText (C : Addr) : Sp := fun vs H Q _ => ∃ (v : V) (n u : Int), vs = [v] ∧ AmAt C H v n u ∧ B1 n u ∧ ∀ H', Same H H' → Q (.str (Mt.textT n u)) H'
theorem scText : FnScope ["self"] ["self"] (defScope sText) := ⟨rfl, rfl, rfl, by decide +kernel, rfl, by decide +kernel, by decide +kernel⟩
theorem ok_text {f : Addr} {fd : FuncData} (F : Fun K "text" "Amount.text" sText f fd) (T : Txt K mg C) (GF : GotF P w K mg base "figures" 1 ["number"] spFigB) : FnOk P w K mg base CX0 2 f fd ["self"] (spText C) := by
  obtain ⟨fF, fdF, GF, bF, mF, kF⟩ := GF
  refine F.ok scText (fun vs H Q E h => ?_) (fun cdv A outer s H vs Q E hr h => ?_)
  · obtain ⟨v, n, u, rfl, _⟩ := h
    rfl
  · obtain ⟨v, n, u, rfl, ⟨l, x, dx, rfl, hx⟩, ⟨bn, bu⟩, q⟩ := h
    refine ⟨_, pss_cons (ps_if (pt_cmpR op_eq (pe_fld (pv 0) rfl) pe_int (nomark _))
        (pss_one (ps_ret (pe_call GF hr (by rfl) mF kF bF .nil pass0 (pa_cons (pe_fld (pv 0) rfl) pa_nil)))) pss_nil)
      (pss_one (ps_ret (pe_joined (.cons (pe_fmt (pe_call GF hr (by rfl) mF kF bF .nil pass0 (pa_cons (pe_fld (pv 0) rfl) pa_nil))) (.cons pe_str (.cons (pe_fmt (pe_call GF hr (by rfl) mF kF bF .nil pass0 (pa_cons (pe_fld (pv 0) rfl) pa_nil))) .nil)))))), ?_⟩
    have big : ∀ {k : Nat}, k ≤ 4000 → k ≤ sizeLine := fun h => Nat.le_trans h (by decide)
    have l1 := intL_len (k := 999) bn
    have l2 := intL_len (k := 999) bu
    have e0 : (Str.empty).length = 0 := rfl
    have e1 : ("/" : Str).length = 1 := rfl
    refine ⟨_, rfl, x, C, dx, _, _, rfl, hx, T.cl, T.nU, pf_under _ _, rfl, _, rfl, ite2 (fun c => ?_) (fun c => ?_)⟩
    · have z : u = 1 := V.int.inj (of_decide_eq_true c)
      refine ⟨_, rfl, x, C, dx, _, _, rfl, hx, T.cl, T.nN, pf_number _ _, n, rfl, bn, fun H1 s1 => ?_⟩
      have e : Mt.textT n u = Str.ofString (toString n) := by
        unfold Mt.textT
        rw [if_pos z]
        exact Str.append_empty _
      rw [e] at q
      exact q H1 s1
    · have z : ¬ u = 1 := fun z => c (decide_eq_true (by rw [z]))
      refine ⟨_, rfl, x, C, dx, _, _, rfl, hx, T.cl, T.nN, pf_number _ _, n, rfl, bn, fun H1 s1 => .inl ⟨_, rfl, big (by omega), _, rfl, big (by rw [strLen_append]; omega), ?_⟩⟩
      refine ⟨_, rfl, big (by rw [strLen_append, strLen_append]; omega), ?_⟩
      refine ⟨_, rfl, x, C, dx, _, _, rfl, s1 _ _ hx, T.cl, T.nU, pf_under _ _, u, rfl, bu, fun H2 s2 => .inl ⟨_, rfl, big (by omega), _, rfl, big (by simp only [strLen_append]; omega), ?_⟩⟩
      have e : Mt.textT n u = ((Str.empty ++ Str.ofString (toString n)) ++ ("/" : Str)) ++ Str.ofString (toString u) := by
        unfold Mt.textT
        rw [if_neg z, Str.empty_append, Str.append_assoc]
      rw [e] at q
      exact q H2 (s1.trans s2)
end
end Am
set_option exponentiation.threshold 5000
namespace Am
open PySem PySem.Spec PyProof.Rows L2
def isS : V → Bool
  | .str _ => true
  | _ => false
theorem kB_str {K : PySem.W.Frag} {H : Hp} {x : V} {T : String} (b : Bk H x T) : PySem.W.kitOne K (.type T) (.type "str") = some (isS x) := by
  cases b with
  | non => exact kit_ty (show kitB "NoneType" "str" = some false by decide +kernel)
  | bl => exact kit_ty (show kitB "bool" "str" = some false by decide +kernel)
  | int => exact kit_ty (show kitB "int" "str" = some false by decide +kernel)
  | str => exact kit_ty (show kitB "str" "str" = some true by decide +kernel)
  | lst => exact kit_ty (show kitB "list" "str" = some false by decide +kernel)
  | tup => exact kit_ty (show kitB "tuple" "str" = some false by decide +kernel)
  | dK => exact kit_ty (show kitB "dict" "str" = some false by decide +kernel)
theorem kS_of {K : PySem.W.Frag} {C : Addr} (s : PySem.W.subIn K (.ref C) (.type "str") = some false) : PySem.W.kitOne K (.ref C) (.type "str") = some false := by
  unfold PySem.W.kitOne
  rw [if_neg (by simp)]
  show (if PySem.W.kitMeta "str" = true then PySem.W.subIn K (.ref C) (.type "str") else none) = _
  rw [if_pos (by decide +kernel)]
  exact s
/-- a value that may be handed in -/
def W1 (C : Addr) (H : Hp) (v : V) : Prop := (∃ T, Bk H v T) ∨ ∃ a dx fs, v = .ref a ∧ H a = some (.ins C dx fs)
def spOfA (C D : Addr) : Sp := fun vs H Q E => ∃ v, vs = [v] ∧
  ((∃ x : Str, v = .str x ∧ x.length ≤ 990 ∧ (∀ n u, Mt.readT x = some (n, u) → ∀ y H', Same H H' → AmAt C H' y n u → Q y H') ∧ (Mt.readT x = none → ∀ d H', Same H H' → H' d = some (.xd [("value", v)]) → E (.ref D) (some d) H')) ∨
   (isS v = false ∧ W1 C H v ∧ ∀ d H', Same H H' → H' d = some (.xd [("value", v)]) → E (.ref D) (some d) H'))
theorem rmp (x : Str) : (Txt.removeprefix x "-").cps.toList = Mt.bare x.cps.toList := by
  have e : ("-" : Str) = ⟨#[45]⟩ := by decide +kernel
  rw [e]
  unfold Txt.removeprefix Mt.bare
  have h := StrLaws.subAt_one x 45 0
  have l1 : (⟨#[45]⟩ : Str).length = 1 := rfl
  rw [← List.head?_eq_getElem?, l1] at h
  by_cases c : x.cps.toList.head? = some 45
  · obtain ⟨h1, h2⟩ := h.mpr c
    rw [h2, if_pos c, if_pos rfl, l1]
    unfold Txt.affix
    dsimp only
    have hl : x.length = x.cps.toList.length := (SL.len_toList x).symm
    split
    · rename_i z
      exfalso
      simp at z
      omega
    · rw [StrLaws.strSub_toList, hl]
      cases x.cps.toList with
      | nil => rfl
      | cons a r => simp
  · rw [if_neg c]
    have h2 : ¬ Builtin.Str.subAt x ⟨#[45]⟩ 0 = true := by
      intro z
      refine c (h.mp ⟨?_, z⟩)
      rw [StrLaws.subAt_eq] at z
      have z2 := eq_of_beq z
      have e2 := congrArg List.length z2
      simp [SL.len_toList] at e2
      rw [← SL.len_toList]
      have : x.cps.toList.length ≠ 0 := by
        intro z0
        have e0 := List.eq_nil_of_length_eq_zero z0
        rw [e0] at z2
        simp at z2
      omega
    rw [if_neg h2]
    rfl
theorem starts45 (x : Str) : Txt.startswith x "-" = Mt.sgn x.cps.toList := by
  unfold Txt.startswith Mt.sgn
  have e : ("-" : Str) = ⟨#[45]⟩ := by decide +kernel
  rw [e]
  have h := StrLaws.subAt_one x 45 0
  rw [Bool.eq_iff_iff, Bool.and_eq_true, decide_eq_true_eq, decide_eq_true_eq, h, List.head?_eq_getElem?]
theorem bd1000 {z : Int} {k : Nat} (hk : k ≤ 990) (h : z.natAbs < 10 ^ k) : z.natAbs < 10 ^ 1000 := Nat.lt_of_lt_of_le h (Nat.pow_le_pow_right (by decide) (by omega))
theorem bd_of {z : Int} (h : z.natAbs < 10 ^ 1000) : Bd 3400 z := Nat.lt_trans h (by decide +kernel)
theorem part_read (x : Str) : ∃ t sl b : Str, Txt.partition x "/" = (t, sl, b) ∧ t.length ≤ x.length ∧ b.length ≤ x.length ∧ (sl = "" ∨ sl = "/") ∧ Mt.sgn x.cps.toList = Mt.sgn t.cps.toList ∧
    Mt.readT x = Mt.readB x x.cps.toList t.cps.toList (if sl = "" then 1 else Mt.num b.cps.toList) := by
  have e : ("/" : Str) = ⟨#[47]⟩ := by decide +kernel
  by_cases h : 47 ∈ x.cps.toList
  · obtain ⟨p, r, hx, hp⟩ := SL.first_c h
    refine ⟨SL.ofL p, "/", SL.ofL r, ?_, ?_, ?_, .inr rfl, ?_, ?_⟩
    · rw [e]
      exact SL.part_sign x 47 p r hx hp
    · rw [← SL.len_toList, ← SL.len_toList, SL.toList_ofL, hx, List.length_append]
      omega
    · rw [← SL.len_toList, ← SL.len_toList, SL.toList_ofL, hx, List.length_append, List.length_cons]
      omega
    · rw [SL.toList_ofL, hx, Mt.sgn_app]
    · rw [SL.toList_ofL, SL.toList_ofL, if_neg (by decide +kernel), Mt.readT_yes hx hp]
  · refine ⟨x, "", "", ?_, Nat.le_refl _, Nat.zero_le _, .inl rfl, rfl, ?_⟩
    · rw [e, SL.part_none x 47 h]
      rfl
    · rw [if_pos rfl, Mt.readT_no h]
/-- a property of the class, its def known -/
def GotP (P : Program) (w : World) (K : PySem.W.Frag) (mg : Str → Option Value) (base : Heap) (C : Addr) (x : Str) (k : Nat) (sp : Sp) : Prop :=
  ∃ (p g : Addr) (fd : FuncData), PropOf K C x p g ∧ FnOk P w K mg base CX0 k g fd ["self"] sp ∧ Binds K fd ["self"] []
section
variable {P : Program} {w : World} {K : PySem.W.Frag} {mg : Str → Option Value} {base : Heap} {C D : Addr}
theorem scOfA : FnScope ["text", "top", "slash", "bottom", "number", "under", "amount"] ["text"] (defScope sOfA) := ⟨rfl, rfl, rfl, by decide +kernel, rfl, by decide +kernel, by decide +kernel⟩
theorem ok_ofA {f fE : Addr} {fd fdE : FuncData} (F : Fun K "of" "Amount.of" sOfA f fd) (T : Txt K mg C) (ns : mg "str" = none) (GI : GotI P w K mg base C) (GD : GotF P w K mg base "decimal" 1 ["word"] spDec) (GT : GotP P w K mg base C "text" 2 (spText C)) (TE : Err K mg "BadText" D fE)
    (GE : FnOk P w K mg base CX0 1 fE fdE ["self", "value"] (spInitE K)) (bE : Binds K fdE ["self", "value"] []) :
    FnOk P w K mg base (L2.CX P w) 4 f fd ["text"] (spOfA C D) := by
  obtain ⟨fI, fdI, GI, bI, _, M⟩ := GI
  obtain ⟨fD, fdD, GD, bD, mD, kD⟩ := GD
  obtain ⟨pT, fT, fdT, hT, GT, bT⟩ := GT
  refine F.okX scOfA (fun vs H Q E h => ?_) (fun cdv A outer s H vs Q E hr h => ?_)
  · obtain ⟨v, rfl, _⟩ := h
    rfl
  · obtain ⟨v, rfl, want⟩ := h
    have hr1 : Room 1 _ := hr.mono (by decide)
    have hr2 : Room 2 _ := hr.mono (by decide)
    refine ⟨_, pss_cons (ps_if (pt_not (pt_val (pe_callB call_isi (by rfl) T.isi b_isi (pa_cons (pv 0) (pa_cons (pe_bltn (v := .ty "str") (by rfl) ns b_str rfl) pa_nil)))))
        (pss_one (ps_raise rfl (takes_of rfl rfl rfl rfl) (pmk_oex TE.oex TE.iC TE.tI GE hr2 bE .nil pass0 (by rfl) TE.gD (pa_cons (pv 0) pa_nil)))) pss_nil)
      (pss_cons (ps_asg (pe_bm PySem.F.plainAttrs_str PySem.F.slot_str_partition PySem.F.type_str_partition mt_partition (pv 0) (pa_cons pe_str pa_nil)) (pg_tup rfl (pgs_cons (pg_name (i := 1) scOfA.nd rfl (.inl rfl)) (pgs_cons (pg_name (i := 2) scOfA.nd rfl (.inl rfl)) (pgs_cons (pg_name (i := 3) scOfA.nd rfl (.inl rfl)) pgs_nil)))))
      (pss_cons (ps_set (i := 4) scOfA.nd rfl (.inl rfl) (pe_call GD hr1 (by rfl) mD kD bD .nil pass0 (pa_cons (pe_bm PySem.F.plainAttrs_str PySem.F.slot_str_removeprefix PySem.F.type_str_removeprefix mt_removeprefix (pv 1) (pa_cons pe_str pa_nil)) pa_nil)))
      (C8.pss_cut (ps_set (i := 5) scOfA.nd rfl (.inl rfl) (pe_ifExp (pt_truth (pv 2) (fun _ => rfl)) (pe_call GD hr1 (by rfl) mD kD bD .nil pass0 (pa_cons (pv 3) pa_nil)) pe_int))
      (pss_cons (ps_if (PW.pt (pw_or (pt_cmpR op_lt (pv 4) pe_int (nomark _)) (pw_or1 (pt_cmpR op_lt (pv 5) pe_int (nomark _)))))
        (pss_one (ps_raise rfl (takes_of rfl rfl rfl rfl) (pmk_oex TE.oex TE.iC TE.tI GE hr2 bE .nil pass0 (by rfl) TE.gD (pa_cons (pv 0) pa_nil)))) pss_nil)
      (C8.pss_cut (ps_set (i := 6) scOfA.nd rfl (.inl rfl) (pe_make M GI hr (by rfl) T.mgC bI .nil pass0 (pa_cons (pe_ifExp (pt_val (pe_bm PySem.F.plainAttrs_str PySem.F.slot_str_startswith PySem.F.type_str_startswith mt_startswith (pv 1) (pa_cons pe_str pa_nil))) (pe_un un_neg (pv 4)) (pv 4)) (pa_cons (pv 5) pa_nil))))
      (pss_cons (ps_if (pt_cmpR op_ne (pe_prop (pv 6) T.cl hT GT hr bT .nil pass0 rfl) (pv 0) (nomark _))
        (pss_one (ps_raise rfl (takes_of rfl rfl rfl rfl) (pmk_oex TE.oex TE.iC TE.tI GE hr2 bE .nil pass0 (by rfl) TE.gD (pa_cons (pv 0) pa_nil)))) pss_nil)
      (pss_one (ps_ret (pv 6))))))))), ?_⟩
    have out : ∀ {H1 : Hp} {W : XK} {v : V} {r : L2.St}, Same H H1 → (∀ d H', Same H H' → H' d = some (.xd [("value", v)]) → W (.ref D) (some d) H') → tMkO D (spInitE K) [] (tCons (tVar 0) tNil) (some v :: r) H1 W := by
      intro H1 W v r hs k
      exact ⟨_, rfl, (by show 1 ≤ 1000; decide), err_read TE fun d H' e h => k d H' (hs.trans e) h⟩
    rcases want with ⟨x, rfl, hl, q1, q2⟩ | ⟨hS, w1, q⟩
    · refine ⟨_, rfl, .str x, .ty "str", .type "str", .type "str", _, rfl, .ty _, .base (Bk.tyOf (.str x)), kB_str (H := H) (.str x), _, rfl, iteF ?_⟩
      have big : ∀ {k : Nat}, k ≤ 4000 → k ≤ sizeLine := fun h => Nat.le_trans h (by decide)
      obtain ⟨t, sl, b, ep, lt, lb, hsl, hsg, hrd⟩ := part_read x
      refine ⟨_, rfl, rfl, x, _, rfl, rfl, rfl, big (by omega), fun p np => ?_⟩
      rw [ep]
      refine ⟨p, _, rfl, SqT.of upd_same, rfl, _, _, rfl, _, _, rfl, _, _, rfl, rfl, ?_⟩
      have s1 := same_upd (o := .tup [V.str t, V.str sl, V.str b]) np
      generalize upd H p (.tup [V.str t, V.str sl, V.str b]) = H1 at s1 ⊢
      refine ⟨_, rfl, rfl, t, _, rfl, rfl, big (by omega), _, rfl, ?_, ?_⟩
      · have := Mt.bare_len t.cps.toList
        rw [← rmp, SL.len_toList, SL.len_toList] at this
        omega
      rw [rmp]
      refine ⟨fun σ' H' => σ' = [some (.str x), some (.str t), some (.str sl), some (.str b), some (.int (Mt.num (Mt.bare t.cps.toList))), some (.int (if sl = "" then 1 else Mt.num b.cps.toList)), none] ∧ H' = H1, ?_, ?_⟩
      · rcases hsl with rfl | rfl
        · exact ⟨_, rfl, false, ⟨(by show 0 ≤ sizeLine; decide), rfl⟩, iteF ⟨rfl, rfl⟩⟩
        · refine ⟨_, rfl, true, ⟨(by show 1 ≤ sizeLine; decide), rfl⟩, iteT ⟨_, rfl, b, rfl, by omega, ?_⟩⟩
          rw [if_neg (by decide +kernel)]
          exact ⟨rfl, rfl⟩
      rintro σ' H' ⟨rfl, rfl⟩
      generalize hN : Mt.num (Mt.bare t.cps.toList) = N
      generalize hU : (if sl = "" then 1 else Mt.num b.cps.toList) = U at hrd ⊢
      have rd : Mt.readT x = if N < 0 ∨ U < 1 then none else Mt.fin (Mt.sgn t.cps.toList) N U x := by
        rw [hrd]
        unfold Mt.readB
        rw [hN, hsg]
      have bad : N < 0 ∨ U < 1 → Mt.readT x = none := fun z => by rw [rd, if_pos z]
      refine ⟨_, rfl, _, _, rfl, rfl, _, rfl, ite2 (fun c => ?_) (fun c => ?_)⟩
      · exact iteT (out s1 (q2 (bad (.inl (of_decide_eq_true c)))))
      refine ⟨_, rfl, _, _, rfl, rfl, _, rfl, ite2 (fun c2 => ?_) (fun c2 => ?_)⟩
      · exact out s1 (q2 (bad (.inr (of_decide_eq_true c2))))
      have n0 : ¬ N < 0 := fun z => c (decide_eq_true z)
      have u1 : ¬ U < 1 := fun z => c2 (decide_eq_true z)
      rw [if_neg (by omega)] at rd
      have bN : N.natAbs < 10 ^ 1000 := by
        have l1 := Mt.bare_len t.cps.toList
        rw [SL.len_toList] at l1
        rcases Mt.num_lt (l := Mt.bare t.cps.toList) (k := 990) (by omega) with z | z
        · rw [hN] at z
          exact bd1000 (Nat.le_refl _) z
        · rw [hN] at z
          omega
      have bU : U.natAbs < 10 ^ 1000 := by
        by_cases z : sl = ""
        · rw [if_pos z] at hU
          rw [← hU]
          exact Nat.lt_of_lt_of_le (show (1 : Int).natAbs < 10 by decide) (Nat.pow_le_pow_right (n := 10) (i := 1) (by decide) (by decide))
        · rw [if_neg z] at hU
          rcases Mt.num_lt (l := b.cps.toList) (k := 990) (by rw [SL.len_toList]; omega) with z | z
          · rw [hU] at z
            exact bd1000 (Nat.le_refl _) z
          · rw [hU] at z
            omega
      have hu : U ≠ 0 := by omega
      refine ⟨fun σ' H'' => ∃ y, σ' = [some (.str x), some (.str t), some (.str sl), some (.str b), some (.int N), some (.int U), some y] ∧ Same H' H'' ∧ AmAt C H'' y (fr (if Mt.sgn t.cps.toList then -N else N) U).1 (fr (if Mt.sgn t.cps.toList then -N else N) U).2, ?_, ?_⟩
      · refine ⟨_, rfl, rfl, t, _, rfl, rfl, _, rfl, ?_⟩
        rw [starts45]
        cases hs : Mt.sgn t.cps.toList with
        | true =>
          refine iteT ⟨_, rfl, _, rfl, _, rfl, ?_⟩
          intro z dx nz ndx nez
          refine ⟨z, dx, _, U, rfl, upd_same, hu, ((bd_of bN).neg.mono (by decide)), (bd_of bU).mono (by decide), fun H2 h2 k2 => ⟨rfl, .ref z, rfl, Same.made nz ndx k2, ?_⟩⟩
          exact ⟨fr_low hu, z, dx, rfl, h2⟩
        | false =>
          refine iteF ⟨_, rfl, _, rfl, ?_⟩
          intro z dx nz ndx nez
          refine ⟨z, dx, _, U, rfl, upd_same, hu, ((bd_of bN).mono (by decide)), (bd_of bU).mono (by decide), fun H2 h2 k2 => ⟨rfl, .ref z, rfl, Same.made nz ndx k2, ?_⟩⟩
          exact ⟨fr_low hu, z, dx, rfl, h2⟩
      · rintro σ' H'' ⟨y, rfl, s2, hy⟩
        generalize hN' : (if Mt.sgn t.cps.toList = true then -N else N) = N' at hy rd
        have bN' : N'.natAbs < 10 ^ 1000 := by
          rw [← hN']
          split
          · rw [Int.natAbs_neg]; exact bN
          · exact bN
        have bb : B1 (fr N' U).1 (fr N' U).2 := ⟨Nat.lt_of_le_of_lt (fr_le1 hu) bN', Nat.lt_of_le_of_lt (fr_le2 hu) bU⟩
        obtain ⟨lw, a, dx, rfl, ha⟩ := id hy
        refine ⟨_, rfl, a, dx, _, rfl, ha, .ref a, _, _, rfl, hy, bb, fun H3 s3 => ?_⟩
        refine ⟨_, rfl, rfl, _, rfl, ?_⟩
        by_cases c3 : Mt.textT (fr N' U).1 (fr N' U).2 = x
        · have e : (!decide (V.str (Mt.textT (fr N' U).1 (fr N' U).2) = V.str x)) = false := by rw [c3]; simp
          rw [e]
          refine iteF ⟨_, rfl, q1 _ _ ?_ _ _ ((s1.trans s2).trans s3) (hy.same s3)⟩
          rw [rd]
          unfold Mt.fin
          rw [hN', if_pos c3]
        · have e : (!decide (V.str (Mt.textT (fr N' U).1 (fr N' U).2) = V.str x)) = true := by
            rw [decide_eq_false (fun z => c3 (V.str.inj z))]
            rfl
          rw [e]
          refine iteT (out ((s1.trans s2).trans s3) (q2 ?_))
          rw [rd]
          unfold Mt.fin
          rw [hN', if_neg c3]
    · rcases w1 with ⟨Ty, b⟩ | ⟨a, dx, fs, rfl, ha⟩
      · refine ⟨_, rfl, v, .ty "str", .type Ty, .type "str", _, rfl, .ty _, .base b.tyOf, kB_str b, _, rfl, ?_⟩
        rw [hS]
        exact iteT (out (Same.refl _) q)
      · exact ⟨_, rfl, .ref a, .ty "str", .ref C, .type "str", _, rfl, .ty _, T.tyC ha, kS_of T.op.s4, _, rfl, iteT (out (Same.refl _) q)⟩
end
end Am
set_option exponentiation.threshold 5000
namespace Am
open PySem PySem.Spec PyProof.Rows L2
abbrev sTextOf : Stmt := top 22
abbrev sNumOf : Stmt := top 23
abbrev sDue : Stmt := top 24
abbrev sSpoil : Stmt := top 25
abbrev sRead : Stmt := top 26
abbrev sFine : Stmt := top 27
abbrev sLaw : Stmt := top 28
theorem gcd_step {a b : Int} (ha : 0 ≤ a) (hb : 0 < b) : Nat.gcd b.natAbs (a % b).natAbs = Nat.gcd a.natAbs b.natAbs := by
  obtain ⟨m, rfl⟩ := Int.eq_ofNat_of_zero_le ha
  obtain ⟨n, rfl⟩ := Int.eq_ofNat_of_zero_le (Int.le_of_lt hb)
  have e : ((m : Int) % (n : Int)) = ((m % n : Nat) : Int) := by omega
  rw [e, Int.natAbs_natCast, Int.natAbs_natCast, Int.natAbs_natCast, Nat.gcd_comm n (m % n), ← Nat.gcd_rec, Nat.gcd_comm]
def mu3 (σ : L2.St) (_ : Hp) : Nat := match σ[3]? with
  | some (some (V.int b)) => b.natAbs
  | _ => 0
def spFrac : Sp := fun vs H Q _ => ∃ n u : Int, vs = [.int n, .int u] ∧ u ≠ 0 ∧ Bd 8900 n ∧ Bd 8900 u ∧ ∀ t, H t = none → Q (.ref t) (upd H t (.tup [.int (fr n u).1, .int (fr n u).2]))
/-- a pair of whole numbers -/
def PrAt (H : Hp) (v : V) (n u : Int) : Prop := ∃ a, v = .ref a ∧ H a = some (.tup [.int n, .int u])
theorem PrAt.same {H H' : Hp} {v : V} {n u : Int} (e : Same H H') (h : PrAt H v n u) : PrAt H' v n u := by
  obtain ⟨a, rfl, h⟩ := h
  exact ⟨a, rfl, e _ _ h⟩
def spTextOf : Sp := fun vs H Q _ => ∃ (t : V) (n u : Int), vs = [t] ∧ PrAt H t n u ∧ B1 n u ∧ Q (.str (Mt.textT n u)) H
def spNumOf : Sp := fun vs H Q _ => ∃ x : Str, vs = [.str x] ∧ x.length ≤ 990 ∧ ∀ H', Same H H' → Q (.int (Mt.num x.cps.toList)) H'
theorem in_digits (c : Nat) : decide (c ∈ ("0123456789" : Str).cps.toList) = Mt.digB c := by
  have e : ("0123456789" : Str).cps.toList = [48, 49, 50, 51, 52, 53, 54, 55, 56, 57] := by decide +kernel
  rw [e]
  refine decide_eq_decide.mpr ⟨fun h => ?_, fun h => ?_⟩
  · simp only [List.mem_cons, List.not_mem_nil, or_false] at h
    omega
  · simp only [List.mem_cons, List.not_mem_nil, or_false]
    omega
theorem isE (x : Str) : decide (V.str x = V.str ("" : Str)) = x.cps.toList.isEmpty := by
  cases h : x.cps.toList with
  | nil =>
    have e : x = ("" : Str) := SL.ext h
    rw [e]
    simp
  | cons a r =>
    refine decide_eq_false fun z => ?_
    rw [V.str.inj z] at h
    cases h
section
variable {P : Program} {w : World} {K : PySem.W.Frag} {mg : Str → Option Value} {base : Heap} {C D : Addr}
theorem scFrac : FnScope ["_law_number", "_law_under", "_law_one", "_law_other", "_law_sign"] ["_law_number", "_law_under"] (defScope sFrac) := ⟨rfl, rfl, rfl, by decide +kernel, rfl, by decide +kernel, by decide +kernel⟩
theorem ok_frac {f : Addr} {fd : FuncData} (F : Fun K "_law_frac" "_law_frac" sFrac f fd) (T : Nm mg) : FnOk P w K mg base CX0 1 f fd ["_law_number", "_law_under"] spFrac := by
  refine F.ok scFrac (fun vs H Q E h => ?_) (fun cdv A outer s H vs Q E hr h => ?_)
  · obtain ⟨n, u, rfl, _⟩ := h
    rfl
  · obtain ⟨n, u, rfl, hu, bn, bu, q⟩ := h
    refine ⟨_, pss_cons (ps_par (by rfl) scFrac.nd (i := 2) (j := 3) rfl rfl (by decide) rfl rfl (pa_cons (pe_callB call_abs (by rfl) T.abs b_abs (pa_cons (pv 0) pa_nil)) (pa_cons (pe_callB call_abs (by rfl) T.abs b_abs (pa_cons (pv 1) pa_nil)) pa_nil)) (by rfl))
      (pss_cons (ps_while PassesOwn.never (pt_cmpR op_gt (pv 3) pe_int (nomark _)) (pss_one (ps_par (by rfl) scFrac.nd (i := 2) (j := 3) rfl rfl (by decide) rfl rfl
        (pa_cons (pv 3) (pa_cons (pe_op op_mod (pe_callTy call_int1 (by rfl) T.int b_int (pa_cons (pv 2) pa_nil)) (pe_callTy call_int1 (by rfl) T.int b_int (pa_cons (pv 3) pa_nil))) pa_nil)) (by rfl))))
      (pss_cons (ps_set (i := 4) scFrac.nd rfl (.inl rfl) (pe_ifExp (pt_cmpR op_gt (pv 1) pe_int (nomark _)) pe_int (pe_un un_neg pe_int)))
      (pss_one (ps_ret (pe_tup (pa_cons (pe_op op_fdivX (pe_op op_mul (pv 4) (pv 0)) (pv 2)) (pa_cons (pe_op op_fdivX (pe_op op_mul (pv 4) (pv 1)) (pv 2)) pa_nil))))))), ?_⟩
    refine ⟨_, rfl, n, rfl, _, rfl, u, rfl, _, _, rfl, ?_⟩
    have a0 : ∀ x : Int, 0 ≤ (if x < 0 then -x else x) ∧ (if x < 0 then -x else x).natAbs = x.natAbs := fun x => by split <;> omega
    refine while_by (Pv := fun σ H' => ∃ a b : Int, σ = [some (.int n), some (.int u), some (.int a), some (.int b), none] ∧ H' = H ∧ 0 ≤ a ∧ 0 ≤ b ∧ Nat.gcd a.natAbs b.natAbs = Nat.gcd n.natAbs u.natAbs) mu3
      ⟨_, _, rfl, rfl, (a0 n).1, (a0 u).1, by rw [(a0 n).2, (a0 u).2]⟩ ?_ ?_
    · rintro σ H' ⟨a, b, rfl, rfl, ha, hb, hg⟩
      refine ⟨_, rfl, _, _, rfl, rfl, _, rfl, ite2 (fun c => ?_) (fun c => ?_)⟩
      · have hb' : 0 < b := of_decide_eq_true c
        refine ⟨_, rfl, _, rfl, .inl ⟨_, rfl, _, rfl, .inl ⟨_, rfl, _, _, rfl, rfl, hb', _, _, rfl, ?_⟩⟩⟩
        refine ⟨⟨b, a % b, rfl, rfl, hb, Int.emod_nonneg _ (by omega), by rw [gcd_step ha hb', hg]⟩, ?_⟩
        have := Int.emod_lt_of_pos a hb'
        have := Int.emod_nonneg a (b := b) (by omega)
        show (a % b).natAbs < b.natAbs
        omega
      · have hb' : b = 0 := by
          have : ¬ 0 < b := fun z => c (decide_eq_true z)
          omega
        subst hb'
        have hg' : a = gc n u := by
          unfold gc
          have : Nat.gcd a.natAbs (0 : Int).natAbs = a.natAbs := Nat.gcd_zero_right _
          omega
        subst hg'
        have gp := gc_pos (n := n) hu
        have gl : (gc n u).natAbs.log2 < 9000 := by
          refine Nat.lt_trans (log2_lt (k := 8900) (by decide) (Nat.lt_of_le_of_lt ?_ bu)) (by decide)
          show (gc n u).natAbs ≤ u.natAbs
          exact Nat.le_of_dvd (by omega) (Nat.gcd_dvd_right _ _)
        have e := law_fr (n := n) hu
        refine ⟨_, rfl, _, _, rfl, rfl, _, rfl, ite2 (fun c => ?_) (fun c => ?_)⟩
        · have hs : (if u > 0 then 1 else -1 : Int) = 1 := if_pos (of_decide_eq_true c)
          rw [hs] at e
          refine ⟨_, rfl, _, rfl, _, _, rfl, rfl, .inl (by decide), _, rfl, _, _, rfl, rfl, ⟨by omega, gl⟩, _, rfl, _, rfl, _, _, rfl, rfl, .inl (by decide), _, rfl, _, _, rfl, rfl, ⟨by omega, gl⟩, (by show 2 ≤ sizeLine; decide), ?_⟩
          rw [e] at q
          exact q
        · have hs : (if u > 0 then 1 else -1 : Int) = -1 := if_neg (fun z => c (decide_eq_true z))
          rw [hs] at e
          refine ⟨_, rfl, _, rfl, _, rfl, _, _, rfl, rfl, .inl (by decide), _, rfl, _, _, rfl, rfl, ⟨by omega, gl⟩, _, rfl, _, rfl, _, _, rfl, rfl, .inl (by decide), _, rfl, _, _, rfl, rfl, ⟨by omega, gl⟩, (by show 2 ≤ sizeLine; decide), ?_⟩
          rw [e] at q
          exact q
    · rintro σ H' Q1 Q2 hQ ⟨v, hv, i, j, e1, e2, k, e3, z⟩
      exact ⟨v, hv, i, j, e1, e2, k, e3, hQ _ _ z⟩

theorem scTextOf : FnScope ["_law_pair"] ["_law_pair"] (defScope sTextOf) := ⟨rfl, rfl, rfl, by decide +kernel, rfl, by decide +kernel, by decide +kernel⟩
theorem dig4300 {z : Int} (h : z.natAbs < 10 ^ 1000) : z.natAbs < 10 ^ 4300 := Nat.lt_of_lt_of_le h (Nat.pow_le_pow_right (by decide) (by decide))
theorem ok_textOf {f : Addr} {fd : FuncData} (F : Fun K "_law_text_of" "_law_text_of" sTextOf f fd) (ns : mg "str" = none) (nd : base.NoDigits) : FnOk P w K mg base CX0 1 f fd ["_law_pair"] spTextOf := by
  refine F.ok scTextOf (fun vs H Q E h => ?_) (fun cdv A outer s H vs Q E hr h => ?_)
  · obtain ⟨t, n, u, rfl, _⟩ := h
    rfl
  · obtain ⟨t, n, u, rfl, ⟨a, rfl, ha⟩, ⟨bn, bu⟩, q⟩ := h
    refine ⟨_, pss_one (ps_ret (pe_op op_add_str (pe_callTy (Nb.call_str_big rfl nd) (by rfl) ns b_str (pa_cons (pe_ix ix_tup (pv 0) pe_int (fun _ _ => rfl)) pa_nil))
      (pe_ifExp (pt_cmpR op_eq (pe_ix ix_tup (pv 0) pe_int (fun _ _ => rfl)) pe_int (nomark _)) pe_str (pe_op op_add_str pe_str (pe_callTy (Nb.call_str_big rfl nd) (by rfl) ns b_str (pa_cons (pe_ix ix_tup (pv 0) pe_int (fun _ _ => rfl)) pa_nil)))))), ?_⟩
    have big : ∀ {k : Nat}, k ≤ 4000 → k ≤ sizeLine := fun h => Nat.le_trans h (by decide)
    have l1 := intL_len (k := 999) bn
    have l2 := intL_len (k := 999) bu
    have e1 : ("/" : Str).length = 1 := rfl
    have e0 : ("" : Str).length = 0 := rfl
    refine ⟨_, rfl, a, _, _, _, rfl, rfl, SqT.of ha, rfl, n, rfl, dig4300 bn, ?_⟩
    refine ⟨_, rfl, a, _, _, _, rfl, rfl, SqT.of ha, rfl, rfl, _, rfl, ite2 (fun c => ?_) (fun c => ?_)⟩
    · have z : u = 1 := V.int.inj (of_decide_eq_true c)
      refine ⟨_, _, rfl, rfl, big (by omega), ?_⟩
      unfold Mt.textT at q
      rw [if_pos z] at q
      exact q
    · have z : ¬ u = 1 := fun z => c (decide_eq_true (by rw [z]))
      refine ⟨_, rfl, a, _, _, _, rfl, rfl, SqT.of ha, rfl, u, rfl, dig4300 bu, _, _, rfl, rfl, big (by omega), _, _, rfl, rfl, big (by rw [strLen_append]; omega), ?_⟩
      unfold Mt.textT at q
      rw [if_neg z] at q
      exact q
theorem scNumOf : FnScope ["_law_text", "_law_sign"] ["_law_text"] (defScope sNumOf) := ⟨rfl, rfl, rfl, by decide +kernel, rfl, by decide +kernel, by decide +kernel⟩
theorem ok_numOf {f : Addr} {fd : FuncData} (F : Fun K "_law_number_of" "_law_number_of" sNumOf f fd) (T : Nm mg) (nd : base.NoDigits) : FnOk P w K mg base CX0 1 f fd ["_law_text"] spNumOf := by
  refine F.ok scNumOf (fun vs H Q E h => ?_) (fun cdv A outer s H vs Q E hr h => ?_)
  · obtain ⟨x, rfl, _⟩ := h
    rfl
  · obtain ⟨x, rfl, hl, q⟩ := h
    refine ⟨_, pss_cons (ps_if (PW.pt (pw_or (pt_cmpR op_eq (pv 0) pe_str (nomark _)) (pw_or1 (pt_not (pt_val (pe_callB (cr_all rfl) (by rfl) T.all b_all (pa_cons (pe_lc (own := [("_law_sign", 1)]) (g := gName 1) (tt := tYes) rfl scNumOf.nd
          (pi_str (pv 0)) (blkOk_by (N := ["_law_text", "_law_sign"]) (sc := defScope sNumOf) (by decide +kernel)) (fun _ _ _ _ _ => pg_name (i := 1) scNumOf.nd rfl (Or.inl rfl)) (fun _ _ _ _ _ => pts_nil)
          (fun _ _ _ _ _ => pe_cmpR op_in_sign (pv 1) pe_str (by rfl))) pa_nil)))))))
        (pss_one (ps_ret (pe_un un_neg pe_int))) pss_nil)
      (pss_one (ps_ret (pe_ifExp (PW.pt (pw_and (pt_cmpR op_ne (pv 0) pe_str (nomark _)) (pw_and1 (pt_cmpR op_eq (pe_ix ix_str (pv 0) pe_int (fun _ _ => rfl)) pe_str (nomark _))))) (pe_un un_neg pe_int) (pe_callTy (Nb.call_int_big nd) (by rfl) T.int b_int (pa_cons (pv 0) pa_nil))))), ?_⟩
    have big : ∀ {k : Nat}, k ≤ 4000 → k ≤ sizeLine := fun h => Nat.le_trans h (by decide)
    refine ⟨_, rfl, rfl, _, rfl, ?_⟩
    rw [isE]
    have bad : Mt.num x.cps.toList = -1 → ∀ {H1 : Hp} {σ : L2.St} {nx : L2.St → Hp → Prop}, Same H H1 → tRet (tUn (rU fun i => V.int (-i)) (tC (V.int 1))) { nx := nx, rt := Q } σ H1 := by
      intro e H1 σ nx s1
      have q' := q H1 s1
      rw [e] at q'
      exact ⟨_, rfl, q'⟩
    cases he : x.cps.toList.isEmpty with
    | true =>
      refine iteT (bad ?_ (Same.refl _))
      unfold Mt.num
      rw [he]
      rfl
    | false =>
      refine iteF ⟨_, rfl, x, rfl, fun D nD => ?_⟩
      have hsz : x.cps.size = x.cps.toList.length := by simp
      refine lc_it (walk_str (z := x)) (Pv := fun i H' => Same H H' ∧ H' D = some (.lst ((x.cps.toList.take i).map fun c => V.bl (Mt.digB c)))) ⟨same_upd nD, by rw [upd_same]; rfl⟩ (fun _ _ _ _ => trivial) ?_ ?_
      · rintro i v H1 H2 hi ⟨s1, h1⟩ ⟨rfl, c, hc, rfl⟩
        refine ⟨rfl, ?_⟩
        unfold tYes
        refine iteT ⟨_, rfl, c, _, rfl, rfl, ?_⟩
        rw [in_digits]
        have hc' : x.cps.toList[i]? = some c := by rw [Array.getElem?_toList]; exact hc
        refine ⟨_, h1, ?_, ?_, ?_⟩
        · have : x.cps.toList.length ≤ 990 := by rw [SL.len_toList]; exact hl
          rw [List.length_map, List.length_take]
          exact Nat.lt_of_le_of_lt (Nat.le_trans (Nat.min_le_right _ _) this) (by decide)
        · intro b o e
          rw [upd_ne (ne_of_none e nD)]
          exact s1 _ _ e
        · rw [upd_same, List.take_add_one, hc', List.map_append]
          rfl
      · rintro H1 ⟨s1, h1⟩
        rw [hsz, List.take_length] at h1
        refine ⟨D, x.cps.toList.map Mt.digB, rfl, SqL.of (by rw [List.map_map]; exact h1), _, rfl, ?_⟩
        have eall : (x.cps.toList.map Mt.digB).all id = x.cps.toList.all Mt.digB := by rw [List.all_map]; rfl
        rw [eall]
        cases ha : x.cps.toList.all Mt.digB with
        | false =>
          refine iteT (bad ?_ s1)
          unfold Mt.num
          rw [he, ha]
          rfl
        | true =>
          refine iteF ?_
          have hne : x.cps.toList ≠ [] := by
            intro e
            rw [e] at he
            cases he
          have hI : PySem.intText? x = some (NumText.digitsVal x.cps.toList : Int) := PySem.intText_digits (Mt.all_dig ha) hne (by omega)
          have key : Mt.num x.cps.toList = if (x.cps.toList.head? = some 48 ∧ x.cps.toList ≠ [48]) then -1 else (NumText.digitsVal x.cps.toList : Int) := by
            unfold Mt.num
            rw [he, ha, if_pos (by decide)]
          have q1 := q H1 s1
          rw [key] at q1
          refine ⟨_, rfl, rfl, _, rfl, ?_⟩
          rw [is0]
          by_cases h1 : x.cps.toList = [48]
          · rw [decide_eq_true h1]
            rw [if_neg (fun z => z.2 h1)] at q1
            exact iteF (iteF ⟨_, rfl, x, _, rfl, hI, q1⟩)
          · rw [decide_eq_false h1]
            obtain ⟨c, r, hcr⟩ : ∃ c r, x.cps.toList = c :: r := by
              cases e : x.cps.toList with
              | nil => exact absurd e hne
              | cons c r => exact ⟨c, r, rfl⟩
            refine iteT ⟨_, rfl, x, _, c, rfl, rfl, big (by omega), atI_nat (show x.cps.toList[0]? = some c by rw [hcr]; rfl), rfl, _, rfl, ?_⟩
            have e48 : decide (V.str (⟨#[c]⟩ : Str) = V.str ("0" : Str)) = decide (c = 48) := by
              rw [is0]
              refine decide_eq_decide.mpr ?_
              simp
            rw [e48]
            by_cases h0 : c = 48
            · rw [decide_eq_true h0]
              rw [if_pos ⟨by rw [hcr, h0]; rfl, h1⟩] at q1
              exact iteT ⟨_, rfl, q1⟩
            · rw [decide_eq_false h0]
              rw [if_neg (fun z => h0 (by rw [hcr] at z; exact Option.some.inj z.1))] at q1
              exact iteF ⟨_, rfl, x, _, rfl, hI, q1⟩
end
end Am
set_option exponentiation.threshold 5000
namespace Am
open PySem PySem.Spec PyProof.Rows L2
def spDue (C : Addr) : Sp := fun vs H Q _ => ∃ v, vs = [v] ∧
  ((∃ x : Str, v = .str x ∧ x.length ≤ 990 ∧ (∀ n u, Mt.readT x = some (n, u) → ∀ t H', Same H H' → PrAt H' t n u → Q t H') ∧ (Mt.readT x = none → ∀ H', Same H H' → Q .non H')) ∨
   (isS v = false ∧ W1 C H v ∧ Q .non H))
theorem kind_ge (x : Str) {c : Nat} (hc : c < 256) : Builtin.Str.strKind x ≥ Builtin.Str.strKind ⟨#[c]⟩ := by
  have e : Builtin.Str.strKind ⟨#[c]⟩ = 1 := by
    unfold Builtin.Str.strKind
    rw [if_pos (by simp [hc])]
  rw [e]
  unfold Builtin.Str.strKind
  split
  · exact Nat.le_refl _
  · split <;> decide
theorem cut_len {c : Nat} : ∀ (l w : List Nat), w ∈ SL.cutAt c l → w.length ≤ l.length
  | [], w, h => by
    rw [show SL.cutAt c [] = [[]] from rfl] at h
    rw [List.mem_singleton.mp h]
    exact Nat.le_refl _
  | y :: l, w, h => by
    have ih := cut_len (c := c) l
    unfold SL.cutAt at h
    split at h
    · rcases List.mem_cons.mp h with z | z
      · rw [z]; exact Nat.zero_le _
      · exact Nat.le_succ_of_le (ih w z)
    · cases e : SL.cutAt c l with
      | nil => exact absurd e (SL.cut_ne c l)
      | cons a r =>
        rw [e] at h ih
        rcases List.mem_cons.mp h with z | z
        · rw [z]
          exact Nat.succ_le_succ (ih a (List.mem_cons_self ..))
        · exact Nat.le_succ_of_le (ih w (List.mem_cons_of_mem _ z))
theorem cut1 (x : Str) : (cutS x none (some 1)).cps.toList = x.cps.toList.take 1 := by
  unfold cutS
  rw [HT.sIx_none, show (1 : Int) = ((1 : Nat) : Int) from rfl, HT.sIx_nat]
  simp only [List.drop_zero, Nat.sub_zero]
  rw [List.take_eq_take_iff, SL.len_toList]
  omega
theorem cut2 (x : Str) : (cutS x (some 1) none).cps.toList = x.cps.toList.tail := by
  unfold cutS
  rw [HT.sIx_none, show (1 : Int) = ((1 : Nat) : Int) from rfl, HT.sIx_nat, ← SL.len_toList]
  cases h : x.cps.toList with
  | nil => rfl
  | cons a r =>
    have e : min 1 (a :: r).length = 1 := by simp
    rw [e]
    simp
theorem is_minus (x : Str) : decide (V.str (cutS x none (some 1)) = V.str ("-" : Str)) = Mt.sgn x.cps.toList := by
  have e : ("-" : Str) = ⟨#[45]⟩ := by decide +kernel
  rw [e]
  unfold Mt.sgn
  refine decide_eq_decide.mpr ⟨fun h => ?_, fun h => ?_⟩
  · have h1 := congrArg (fun y : Str => y.cps.toList) (V.str.inj h)
    simp only at h1
    rw [cut1] at h1
    cases hx : x.cps.toList with
    | nil => rw [hx] at h1; cases h1
    | cons a r => rw [hx] at h1; simp at h1; rw [h1]; rfl
  · congr 1
    refine SL.ext ?_
    rw [cut1]
    cases hx : x.cps.toList with
    | nil => rw [hx] at h; cases h
    | cons a r => rw [hx] at h; simp at h; rw [h]; rfl
section
variable {P : Program} {w : World} {K : PySem.W.Frag} {mg : Str → Option Value} {base : Heap} {C D : Addr}
theorem scDue : FnScope ["_law_text", "_law_bare", "_law_parts", "_law_one", "_law_other", "_law_pair"] ["_law_text"] (defScope sDue) := ⟨rfl, rfl, rfl, by decide +kernel, rfl, by decide +kernel, by decide +kernel⟩
theorem ok_due {f : Addr} {fd : FuncData} (F : Fun K "_law_due" "_law_due" sDue f fd) (T : Nm mg) (TC : Txt K mg C) (ns : mg "str" = none) (GN : GotF P w K mg base "_law_number_of" 1 ["_law_text"] spNumOf) (GF : GotF P w K mg base "_law_frac" 1 ["_law_number", "_law_under"] spFrac)
    (GT : GotF P w K mg base "_law_text_of" 1 ["_law_pair"] spTextOf) : FnOk P w K mg base CX0 2 f fd ["_law_text"] (spDue C) := by
  obtain ⟨fN, fdN, GN, bN, mN, kN⟩ := GN
  obtain ⟨fF, fdF, GF, bF, mF, kF⟩ := GF
  obtain ⟨fT, fdT, GT, bT, mT, kT⟩ := GT
  refine F.ok scDue (fun vs H Q E h => ?_) (fun cdv A outer s H vs Q E hr h => ?_)
  · obtain ⟨v, rfl, _⟩ := h
    rfl
  · obtain ⟨v, rfl, want⟩ := h
    have hr1 : Room 1 _ := hr.mono (by decide)
    refine ⟨_, pss_cons (ps_if (pt_not (pt_val (pe_callB call_isi (by rfl) T.isi b_isi (pa_cons (pv 0) (pa_cons (pe_bltn (v := .ty "str") (by rfl) ns b_str rfl) pa_nil))))) (pss_one (ps_ret pe_non)) pss_nil)
      (C8.pss_cut (ps_set (i := 1) scDue.nd rfl (.inl rfl) (pe_ifExp (pt_cmpR op_eq (pe_slice sl_str (pv 0) po_none (po_some pe_int)) pe_str (nomark _)) (pe_slice sl_str (pv 0) (po_some pe_int) po_none) (pv 0)))
      (pss_cons (ps_set (i := 2) scDue.nd rfl (.inl rfl) (pe_bm PySem.F.plainAttrs_str PySem.F.slot_str_split PySem.F.type_str_split mt_split (pv 1) (pa_cons pe_str pa_nil)))
      (C8.pss_cut (ps_par (by rfl) scDue.nd (i := 3) (j := 4) rfl rfl (by decide) rfl rfl (pa_cons (pe_call GN hr1 (by rfl) mN kN bN .nil pass0 (pa_cons (pe_ix ix_list (pv 2) pe_int (fun _ _ => rfl)) pa_nil))
          (pa_cons (pe_ifExp (pt_cmpR op_eq (pe_callB call_len_seq (by rfl) T.len PySem.boot_len (pa_cons (pv 2) pa_nil)) pe_int (nomark _)) (pe_call GN hr1 (by rfl) mN kN bN .nil pass0 (pa_cons (pe_ix ix_list (pv 2) (pe_un un_neg pe_int) (fun _ _ => rfl)) pa_nil)) pe_int) pa_nil)) (by rfl))
      (pss_cons (ps_if (PW.pt (pw_or (pt_cmpR op_gt (pe_callB call_len_seq (by rfl) T.len PySem.boot_len (pa_cons (pv 2) pa_nil)) pe_int (nomark _)) (pw_or (pt_cmpR op_lt (pv 3) pe_int (nomark _)) (pw_or1 (pt_cmpR op_lt (pv 4) pe_int (nomark _)))))) (pss_one (ps_ret pe_non)) pss_nil)
      (C8.pss_cut (ps_set (i := 5) scDue.nd rfl (.inl rfl) (pe_call GF hr1 (by rfl) mF kF bF .nil pass0 (pa_cons (pe_ifExp (pt_cmpR op_eq (pe_slice sl_str (pv 0) po_none (po_some pe_int)) pe_str (nomark _)) (pe_un un_neg (pv 3)) (pv 3)) (pa_cons (pv 4) pa_nil))))
      (pss_one (ps_ret (pe_ifExp (pt_cmpR op_eq (pe_call GT hr1 (by rfl) mT kT bT .nil pass0 (pa_cons (pv 5) pa_nil)) (pv 0) (nomark _)) (pv 5) pe_non)))))))), ?_⟩
    rcases want with ⟨x, rfl, hl, q1, q2⟩ | ⟨hS, w1, q⟩
    · refine ⟨_, rfl, .str x, .ty "str", .type "str", .type "str", _, rfl, .ty _, .base (Bk.tyOf (.str x)), kB_str (H := H) (.str x), _, rfl, iteF ?_⟩
      have big : ∀ {k : Nat}, k ≤ 4000 → k ≤ sizeLine := fun h => Nat.le_trans h (by decide)
      refine ⟨fun σ' H' => ∃ b : Str, σ' = [some (.str x), some (.str b), none, none, none, none] ∧ H' = H ∧ b.cps.toList = Mt.bare x.cps.toList, ?_, ?_⟩
      · refine ⟨_, rfl, _, rfl, x, rfl, big (by omega), rfl, _, rfl, ?_⟩
        rw [is_minus]
        unfold Mt.sgn Mt.bare
        by_cases c : x.cps.toList.head? = some 45
        · rw [decide_eq_true c, if_pos c]
          exact iteT ⟨_, rfl, _, rfl, x, rfl, big (by omega), _, rfl, rfl, cut2 x⟩
        · rw [decide_eq_false c, if_neg c]
          exact iteF ⟨_, rfl, x, rfl, rfl, rfl⟩
      rintro σ' H' ⟨b, rfl, rfl, hb⟩
      have lb : b.length ≤ 990 := by
        rw [← SL.len_toList, hb]
        exact Nat.le_trans (Mt.bare_len _) (by rw [SL.len_toList]; exact hl)
      have e47 : ("/" : Str) = ⟨#[47]⟩ := by decide +kernel
      refine ⟨_, rfl, rfl, b, _, rfl, rfl, rfl, big (by omega), fun p np => ?_⟩
      rw [e47, SL.split_sign b 47 (fun _ => kind_ge b (by decide)), hb]
      have hd := Mt.due_eq x
      have hlen : ∀ w ∈ SL.cutAt 47 (Mt.bare x.cps.toList), w.length ≤ 990 := fun w hw => by
        have h1 := cut_len _ w hw
        rw [← hb, SL.len_toList] at h1
        omega
      have hne := SL.cut_ne 47 (Mt.bare x.cps.toList)
      generalize SL.cutAt 47 (Mt.bare x.cps.toList) = ps at hd hlen hne ⊢
      have s1 := same_upd (o := .lst ((ps.map SL.ofL).map V.str)) np
      have hp : (upd H' p (.lst ((ps.map SL.ofL).map V.str))) p = some (.lst ((ps.map SL.ofL).map V.str)) := upd_same
      generalize upd H' p (.lst ((ps.map SL.ofL).map V.str)) = H1 at s1 hp ⊢
      have lens : ((ps.map SL.ofL).map V.str).length = ps.length := by simp
      refine ⟨fun σ' H2 => σ' = [some (.str x), some (.str b), some (.ref p), some (.int (Mt.num (ps.headD []))), some (.int (if ps.length = 2 then Mt.num (ps.getLastD []) else 1)), none] ∧ Same H1 H2, ?_, ?_⟩
      · obtain ⟨h0, rest, rfl⟩ : ∃ h0 rest, ps = h0 :: rest := by
          cases ps with
          | nil => exact absurd rfl hne
          | cons a r => exact ⟨a, r, rfl⟩
        refine ⟨_, rfl, p, _, _, _, rfl, rfl, SqL.of hp, atI_nat (j := 0) (v := V.str (SL.ofL h0)) rfl, SL.ofL h0, rfl, ?_, fun H2 s2 => ?_⟩
        · rw [← SL.len_toList, SL.toList_ofL]
          exact hlen _ (List.mem_cons_self ..)
        have hp2 := s2 _ _ hp
        rw [SL.toList_ofL]
        refine ⟨_, rfl, p, _, rfl, .inl (SqL.of hp2), rfl, _, rfl, ite2 (fun c => ?_) (fun c => ?_)⟩
        · have c' : (h0 :: rest).length = 2 := by
            have z := V.int.inj (of_decide_eq_true c)
            rw [lens] at z
            omega
          obtain ⟨h1, rfl⟩ : ∃ h1, rest = [h1] := by
            match rest, c' with
            | [h1], _ => exact ⟨h1, rfl⟩
          refine ⟨_, rfl, _, rfl, p, _, _, _, rfl, rfl, SqL.of hp2, rfl, SL.ofL h1, rfl, ?_, fun H3 s3 => ?_⟩
          · rw [← SL.len_toList, SL.toList_ofL]
            exact hlen _ (by simp)
          rw [SL.toList_ofL]
          exact ⟨_, _, rfl, rfl, s2.trans s3⟩
        · have c' : ¬ (h0 :: rest).length = 2 := fun z => c (decide_eq_true (by rw [lens, z]; rfl))
          rw [if_neg c']
          exact ⟨_, _, rfl, rfl, s2⟩
      rintro σ' H2 ⟨rfl, s2⟩
      have hp2 := s2 _ _ hp
      have ss := s1.trans s2
      generalize hone : Mt.num (ps.headD []) = one at hd ⊢
      generalize hoth : (if ps.length = 2 then Mt.num (ps.getLastD []) else 1) = oth at hd ⊢
      have none_of : (ps.length > 2 ∨ one < 0 ∨ oth < 1) → Mt.readT x = none := fun z => by rw [← hd, if_pos z]
      have bad : Mt.readT x = none → ∀ {σ : L2.St} {nx : L2.St → Hp → Prop}, tRet (tC V.non) { nx := nx, rt := Q } σ H2 := fun z => q2 z H2 ss
      refine ⟨_, rfl, p, _, rfl, .inl (SqL.of hp2), _, _, rfl, rfl, _, rfl, ite2 (fun c => ?_) (fun c => ?_)⟩
      · refine iteT (bad (none_of (.inl ?_)))
        have := of_decide_eq_true c
        rw [lens] at this
        omega
      refine ⟨_, rfl, _, _, rfl, rfl, _, rfl, ite2 (fun c2 => ?_) (fun c2 => ?_)⟩
      · exact iteT (bad (none_of (.inr (.inl (of_decide_eq_true c2)))))
      refine ⟨_, rfl, _, _, rfl, rfl, _, rfl, ite2 (fun c3 => ?_) (fun c3 => ?_)⟩
      · exact bad (none_of (.inr (.inr (of_decide_eq_true c3))))
      have l2 : ¬ ps.length > 2 := fun z => c (decide_eq_true (by rw [lens]; omega))
      have n0 : ¬ one < 0 := fun z => c2 (decide_eq_true z)
      have u1 : ¬ oth < 1 := fun z => c3 (decide_eq_true z)
      have nn : ¬ (ps.length > 2 ∨ one < 0 ∨ oth < 1) := fun z => z.elim l2 fun z => z.elim n0 u1
      rw [if_neg nn] at hd
      have b990 : ∀ {w : List Nat}, w.length ≤ 990 → ¬ Mt.num w < 0 → (Mt.num w).natAbs < 10 ^ 1000 := by
        intro w hw hn
        rcases Mt.num_lt hw with z | z
        · exact bd1000 (Nat.le_refl _) z
        · omega
      have b1 : one.natAbs < 10 ^ 1000 := by
        rw [← hone] at n0 ⊢
        refine b990 ?_ n0
        cases ps with
        | nil => exact absurd rfl hne
        | cons a r => exact hlen _ (List.mem_cons_self ..)
      have b2 : oth.natAbs < 10 ^ 1000 := by
        rw [← hoth] at u1 ⊢
        split
        · rename_i z
          rw [if_pos z] at u1
          refine b990 ?_ (by omega)
          match ps, z with
          | [a, c], _ => exact hlen c (by simp)
        · exact Nat.lt_of_lt_of_le (show (1 : Int).natAbs < 10 by decide) (Nat.pow_le_pow_right (n := 10) (i := 1) (by decide) (by decide))
      have hu : oth ≠ 0 := by omega
      generalize hN : (if Mt.sgn x.cps.toList = true then -one else one) = N
      have bN : N.natAbs < 10 ^ 1000 := by
        rw [← hN]
        split
        · rw [Int.natAbs_neg]; exact b1
        · exact b1
      refine ⟨fun σ' H3 => ∃ t, σ' = [some (.str x), some (.str b), some (.ref p), some (.int one), some (.int oth), some t] ∧ Same H2 H3 ∧ PrAt H3 t (fr N oth).1 (fr N oth).2, ?_, ?_⟩
      · have fin : ∀ N', N' = N → spFrac [.int N', .int oth] H2 (fun v H3 => ∃ t, [some (.str x), some (.str b), some (.ref p), some (.int one), some (.int oth), some v] = [some (.str x), some (.str b), some (.ref p), some (.int one), some (.int oth), some t] ∧ Same H2 H3 ∧ PrAt H3 t (fr N oth).1 (fr N oth).2) E0 := by
          rintro N' rfl
          exact ⟨N', oth, rfl, hu, (bd_of bN).mono (by decide), (bd_of b2).mono (by decide), fun t nt => ⟨_, rfl, same_upd nt, ⟨t, rfl, upd_same⟩⟩⟩
        refine ⟨_, rfl, _, rfl, x, rfl, big (by omega), rfl, _, rfl, ?_⟩
        rw [is_minus]
        cases hs : Mt.sgn x.cps.toList with
        | true =>
          rw [hs, if_pos rfl] at hN
          exact iteT ⟨_, rfl, _, rfl, _, rfl, fin _ hN⟩
        | false =>
          rw [hs, if_neg (by decide)] at hN
          exact iteF ⟨_, rfl, _, rfl, fin _ hN⟩
      rintro σ' H3 ⟨t, rfl, s3, ht⟩
      have bb : B1 (fr N oth).1 (fr N oth).2 := ⟨Nat.lt_of_le_of_lt (fr_le1 hu) bN, Nat.lt_of_le_of_lt (fr_le2 hu) b2⟩
      refine ⟨_, rfl, t, _, _, rfl, ht, bb, _, rfl, rfl, _, rfl, ?_⟩
      unfold Mt.fin at hd
      rw [hN] at hd
      by_cases c4 : Mt.textT (fr N oth).1 (fr N oth).2 = x
      · rw [c4, decide_eq_true rfl]
        rw [if_pos c4] at hd
        exact iteT ⟨_, rfl, q1 _ _ hd.symm _ _ (ss.trans s3) ht⟩
      · rw [decide_eq_false (fun z => c4 (V.str.inj z))]
        rw [if_neg c4] at hd
        exact iteF (q2 hd.symm _ (ss.trans s3))
    · rcases w1 with ⟨Ty, b⟩ | ⟨a, dx, fs, rfl, ha⟩
      · refine ⟨_, rfl, v, .ty "str", .type Ty, .type "str", _, rfl, .ty _, .base b.tyOf, kB_str b, _, rfl, ?_⟩
        rw [hS]
        exact iteT q
      · exact ⟨_, rfl, .ref a, .ty "str", .ref C, .type "str", _, rfl, .ty _, TC.tyC ha, kS_of TC.op.s4, _, rfl, iteT q⟩
end
end Am
set_option exponentiation.threshold 5000
namespace Am
open PySem PySem.Spec PyProof.Rows L2
def Asc (x : Str) : Prop := ∀ c ∈ x.cps.toList, c < 128
theorem Asc.cut {x : Str} (h : Asc x) (lo hi : Option Int) : Asc (cutS x lo hi) := by
  intro c hc
  refine h c ?_
  unfold cutS at hc
  exact List.mem_of_mem_drop (List.mem_of_mem_take hc)
theorem Asc.app {x y : Str} (h : Asc x) (h' : Asc y) : Asc (x ++ y) := by
  intro c hc
  rw [Str.cps_append, Array.toList_append] at hc
  exact (List.mem_append.mp hc).elim (h c) (h' c)
theorem Asc.repr {x : Str} (h : Asc x) (hl : x.length ≤ 990) : (reprText x).length ≤ sizeLine := by
  refine Nat.le_trans (PySem.StrLaws.reprText_len x (fun c hc => Nat.lt_trans (h c hc) (by decide))) (Nat.le_trans (show _ ≤ 10000 by omega) (by decide))
theorem asc_int (n : Int) : Asc (Str.ofString (toString n)) := by
  intro c hc
  have hd : ∀ m c, c ∈ Mt.dg m → c < 128 := fun m c z => by have := Mt.dg_all m c z; omega
  by_cases h : n < 0
  · have e : (Str.ofString (toString n)).cps.toList = _ := Mt.intL_neg h
    rw [e] at hc
    rcases List.mem_cons.mp hc with z | z
    · omega
    · exact hd _ _ z
  · have e : (Str.ofString (toString n)).cps.toList = _ := Mt.intL_pos (by omega)
    rw [e] at hc
    exact hd _ _ hc
theorem asc_text (n u : Int) : Asc (Mt.textT n u) := by
  unfold Mt.textT
  refine (asc_int n).app ?_
  split
  · intro c hc; cases hc
  · refine Asc.app ?_ (asc_int u)
    intro c hc
    have e : ("/" : Str).cps.toList = [47] := by decide +kernel
    rw [e] at hc
    rw [List.mem_singleton.mp hc]
    decide
theorem cutA_len (x : Str) (a : Nat) : (cutS x none (some (a : Int))).length ≤ min a x.length := by
  unfold cutS
  rw [HT.sIx_none, HT.sIx_nat]
  show ((x.cps.toList.drop 0).take (min a x.length - 0)).toArray.size ≤ _
  rw [List.size_toArray, List.length_take]
  omega
theorem cutB_len (x : Str) (a : Nat) : (cutS x (some (a : Int)) none).length ≤ x.length - min a x.length := by
  unfold cutS
  rw [HT.sIx_none, HT.sIx_nat]
  show ((x.cps.toList.drop (min a x.length)).take (x.length - min a x.length)).toArray.size ≤ _
  rw [List.size_toArray, List.length_take]
  omega
def spSpoil : Sp := fun vs H Q _ => ∃ (p : Addr) (x : Str) (N : Int), vs = [.ref p, .str x] ∧ JarAt H p N ∧ N ≤ 9000 ∧ Asc x ∧ x.length ≤ 980 ∧ ∀ y H', Asc y → y.length ≤ x.length + 1 → Chg p H H' → JarAt H' p (N + 3) → Q (.str y) H'
section
variable {P : Program} {w : World} {K : PySem.W.Frag} {mg : Str → Option Value} {base : Heap} {C D : Addr}
theorem scSpoil : FnScope ["_law_jar_here", "_law_text", "_law_sign", "_law_at"] ["_law_jar_here", "_law_text"] (defScope sSpoil) := ⟨rfl, rfl, rfl, by decide +kernel, rfl, by decide +kernel, by decide +kernel⟩
theorem ok_spoil {f : Addr} {fd : FuncData} (F : Fun K "_law_spoilt_text" "_law_spoilt_text" sSpoil f fd) (T : Nm mg) (GT : GotF P w K mg base "_law_take" 1 ["_law_jar_here", "_law_upto"] spTake) (GO : GotF P w K mg base "_law_of" 2 ["_law_jar_here", "_law_some"] spOf) :
    FnOk P w K mg base CX0 3 f fd ["_law_jar_here", "_law_text"] spSpoil := by
  obtain ⟨fT, fdT, GT, bT, mT, kT⟩ := GT
  obtain ⟨fO, fdO, GO, bO, mO, kO⟩ := GO
  refine F.ok scSpoil (fun vs H Q E h => ?_) (fun cdv A outer s H vs Q E hr h => ?_)
  · obtain ⟨p, x, N, rfl, _⟩ := h
    rfl
  · obtain ⟨p, x, N, rfl, hj, hN, ax, lx, q⟩ := h
    have hr1 : Room 1 _ := hr.mono (by decide)
    refine ⟨_, pss_cons (ps_set (i := 2) scSpoil.nd rfl (.inl rfl) (pe_call GO hr (by rfl) mO kO bO .nil pass0 (pa_cons (pv 0) (pa_cons (pe_lst (pa_cons pe_str (pa_cons pe_str (pa_cons pe_str (pa_cons pe_str (pa_cons pe_str (pa_cons pe_str (pa_cons pe_str (pa_cons pe_str (pa_cons pe_str (pa_cons pe_str pa_nil))))))))))) pa_nil))))
      (pss_cons (ps_set (i := 3) scSpoil.nd rfl (.inl rfl) (pe_call GT hr1 (by rfl) mT kT bT .nil pass0 (pa_cons (pv 0) (pa_cons (pe_op op_add (pe_callB call_len_str (by rfl) T.len PySem.boot_len (pa_cons (pv 1) pa_nil)) pe_int) pa_nil))))
      (pss_one (ps_ret (pe_op op_add_str (pe_op op_add_str (pe_slice sl_str (pv 1) po_none (po_some (pv 3))) (pv 2)) (pe_slice sl_str (pv 1) (po_some (pe_op op_add (pv 3) (pe_call GT hr1 (by rfl) mT kT bT .nil pass0 (pa_cons (pv 0) (pa_cons pe_int pa_nil))))) po_none))))), ?_⟩
    have big : ∀ {k : Nat}, k ≤ 4000 → k ≤ sizeLine := fun h => Nat.le_trans h (by decide)
    refine ⟨_, rfl, (by show 10 ≤ sizeLine; decide), fun l nl => ?_⟩
    generalize hxs : [V.str "0", V.str "1", V.str "2", V.str "-", V.str "/", V.str " ", V.str "+", V.str ".", V.str "x", V.str ""] = xs
    have sg : ∀ v ∈ xs, ∃ y : Str, v = .str y ∧ y.length ≤ 1 ∧ Asc y := by
      have asc1 : ∀ y : Str, y.cps.toList.all (fun c => decide (c < 128)) = true → Asc y := fun y h c hc => of_decide_eq_true (List.all_eq_true.mp h c hc)
      rw [← hxs]
      intro v hv
      simp only [List.mem_cons, List.not_mem_nil, or_false] at hv
      rcases hv with rfl | rfl | rfl | rfl | rfl | rfl | rfl | rfl | rfl | rfl <;> exact ⟨_, rfl, by decide +kernel, asc1 _ (by decide +kernel)⟩
    have len : xs.length = 10 := by rw [← hxs]; rfl
    obtain ⟨ys, hp⟩ := hj.lst
    have nl' : l ≠ p := (ne_of_none hp nl).symm
    have s1 := same_upd (o := .lst xs) nl
    refine ⟨p, l, xs, N, rfl, upd_same, nl', ⟨by omega, by omega⟩, hj.same s1, by omega, fun v H2 mv k2 j2 => ?_⟩
    obtain ⟨y, rfl, ly, ay⟩ := sg v mv
    refine ⟨_, rfl, _, rfl, x, rfl, big (by omega), _, _, rfl, rfl, p, _, _, rfl, ⟨by omega, by omega⟩, j2, by omega, fun d H3 hd k3 j3 => ?_⟩
    obtain ⟨d0, d1⟩ := hd
    obtain ⟨at_, rfl⟩ := Int.eq_ofNat_of_zero_le d0
    refine ⟨_, rfl, _, rfl, _, rfl, x, rfl, big (by omega), ?_⟩
    refine ⟨_, rfl, _, _, rfl, rfl, big ?_, ?_⟩
    · have := cutA_len x at_
      omega
    refine ⟨_, rfl, _, rfl, _, rfl, p, 2, _, rfl, ⟨by decide, by decide⟩, j3, by omega, fun e H4 he k4 j4 => ?_⟩
    obtain ⟨e0, e1⟩ := he
    obtain ⟨k, rfl⟩ := Int.eq_ofNat_of_zero_le e0
    refine ⟨_, _, rfl, rfl, _, rfl, x, rfl, big (by omega), _, _, rfl, rfl, big ?_, ?_⟩
    · have h1 := cutA_len x at_
      have h2 := cutS_length x (some ((at_ : Int) + (k : Int))) none
      rw [strLen_append]
      omega
    refine q _ H4 (((ax.cut _ _).app ay).app (ax.cut _ _)) ?_ (((Chg.of s1).trans k2).trans (k3.trans k4)) (j4.mono (by omega))
    have h1 := cutA_len x at_
    have h2 := cutB_len x (at_ + k)
    rw [strLen_append, strLen_append]
    have e : ((at_ : Int) + (k : Int)) = ((at_ + k : Nat) : Int) := by omega
    rw [e]
    omega
theorem read_text {x : Str} {n u : Int} (h : Mt.readT x = some (n, u)) : Mt.textT n u = x := by
  have key : ∀ {b : Bool} {N U : Int}, Mt.fin b N U x = some (n, u) → Mt.textT n u = x := by
    intro b N U z
    unfold Mt.fin at z
    generalize fr (if b then -N else N) U = p at z
    by_cases c : Mt.textT p.1 p.2 = x
    · rw [if_pos c] at z
      have e := Option.some.inj z
      rw [e] at c
      exact c
    · rw [if_neg c] at z
      cases z
  have key2 : ∀ {l t : List Nat} {U : Int}, Mt.readB x l t U = some (n, u) → Mt.textT n u = x := by
    intro l t U z
    unfold Mt.readB at z
    split at z
    · cases z
    · exact key z
  unfold Mt.readT at h
  split at h
  · exact key2 h
  · exact key2 h
theorem abs_lt_len (n : Int) : n.natAbs < 10 ^ (Str.ofString (toString n)).length := by
  rw [← SL.len_toList]
  show _ < 10 ^ (Mt.intL n).length
  have h := Mt.val_lt (Mt.dg_all n.natAbs)
  rw [Mt.dg_val] at h
  refine Nat.lt_of_lt_of_le h (Nat.pow_le_pow_right (by decide) ?_)
  by_cases c : n < 0
  · rw [Mt.intL_neg c, List.length_cons]; omega
  · rw [Mt.intL_pos (by omega)]; exact Nat.le_refl _
theorem read_b1 {x : Str} {n u : Int} (hl : x.length ≤ 990) (h : Mt.readT x = some (n, u)) : B1 n u := by
  have e := read_text h
  have l : (Mt.textT n u).length ≤ 990 := by rw [e]; exact hl
  unfold Mt.textT at l
  rw [strLen_append] at l
  have p : ∀ {k : Nat}, k ≤ 990 → 10 ^ k ≤ 10 ^ 1000 := fun h => Nat.pow_le_pow_right (by decide) (by omega)
  refine ⟨Nat.lt_of_lt_of_le (abs_lt_len n) (p (by omega)), ?_⟩
  by_cases c : u = 1
  · rw [c]
    exact Nat.lt_of_lt_of_le (show (1 : Int).natAbs < 10 by decide) (Nat.pow_le_pow_right (n := 10) (i := 1) (by decide) (by decide))
  · rw [if_neg c, strLen_append] at l
    exact Nat.lt_of_lt_of_le (abs_lt_len u) (p (by omega))
theorem two_big {n u : Int} (h : B1 n u) : (tupleText [Str.ofString (toString n), Str.ofString (toString u)]).length ≤ sizeLine := by
  have l1 := intL_len (k := 999) h.1
  have l2 := intL_len (k := 999) h.2
  have e : tupleText [Str.ofString (toString n), Str.ofString (toString u)] = ("(" : Str) ++ (Str.ofString (toString n) ++ ", " ++ Str.ofString (toString u)) ++ (")" : Str) := rfl
  have e1 : ("(" : Str).length = 1 := rfl
  have e2 : (")" : Str).length = 1 := rfl
  have e3 : (", " : Str).length = 2 := rfl
  rw [e]
  simp only [strLen_append]
  exact Nat.le_trans (show _ ≤ 4000 by omega) (by decide)
/-- the static method of the class that reads a text -/
def GotS (P : Program) (w : World) (K : PySem.W.Frag) (mg : Str → Option Value) (base : Heap) (C D : Addr) : Prop :=
  ∃ (mc : Value) (p g : Addr) (fd : FuncData), ClX.CRead K C mc ∧ Sm.SMet K C mc "of" p g ∧ FnOk P w K mg base (L2.CX P w) 4 g fd ["text"] (spOfA C D) ∧ Binds K fd ["text"] []
def GotG (P : Program) (w : World) (K : PySem.W.Frag) (mg : Str → Option Value) (base : Heap) (x : Str) (k : Nat) (ps : List Str) (sp : Sp) : Prop :=
  ∃ (f : Addr) (fd : FuncData), Gu.FnG P w K mg base CX0 k f fd ps sp ∧ Binds K fd ps [] ∧ mg x = some (.ref f) ∧ PySem.W.keepIn K (.ref f) = true
def spRead (K : PySem.W.Frag) (C : Addr) : Sp := fun vs H Q _ => ∃ v, vs = [v] ∧ ((∃ x : Str, v = .str x ∧ x.length ≤ 990 ∧ Asc x) ∨ (isS v = false ∧ W1 C H v ∧ ∃ t, (∀ H', Same H H' → Rt.ItemD K (RA C) H' v t) ∧ t.length ≤ sizeLine)) ∧ ∀ H', Same H H' → Q (.bl true) H'
theorem scRead : FnScope ["_law_text", "_law_due_here", "_law_caught", "_law_made", "error"] ["_law_text"] (defScope sRead) := ⟨rfl, rfl, rfl, by decide +kernel, rfl, by decide +kernel, by decide +kernel⟩
theorem ok_read {M f : Addr} {fd : FuncData} (F : Fun K "_law_is_read" "_law_is_read" sRead f fd) (T : Nm mg) (TC : Txt K mg C) (GD : GotF P w K mg base "_law_due" 2 ["_law_text"] (spDue C)) (GS : GotS P w K mg base C D) (GR : GotM P w K mg base C "__repr__" 2 ["self"] (Rt.spRep (RA C)))
    (mM : mg "MeterError" = some (.ref M)) (mD : mg "BadText" = some (.ref D)) (te : PySem.W.exmOne K (.ref D) (.ref M) = some true) (xf : XfC K D) (ec : ErrC K D) (nv : PySem.W.findIn K (.ref D) "value" = some none) (kD : PySem.W.kitOne K (.ref D) (.ref D) = some true) (nd : base.NoDigits) :
    Gu.FnG P w K mg base CX0 5 f fd ["_law_text"] (spRead K C) := by
  obtain ⟨fD, dD, GD, bD, mDu, kDu⟩ := GD
  obtain ⟨mc, pS, gS, dS, rd, sm, GS, bS⟩ := GS
  obtain ⟨fR, dR, GR, bR, hR, iR⟩ := GR
  refine Gu.okG0 F scRead (fun vs H Q E h => ?_) (fun cdv A outer s H vs Q E free hr h => ?_)
  · obtain ⟨v, rfl, _⟩ := h
    rfl
  · obtain ⟨v, rfl, want, q⟩ := h
    have hr2 : Room 2 _ := hr.mono (by decide)
    have own : Rt.OwnR (cxOf CX0 P w K mg base ["_law_text", "_law_due_here", "_law_caught", "_law_made", "error"] "_law_is_read" (defScope sRead) f cdv A outer s H E).nox C (RA C) 2 := ⟨ra_ins, fR, dR, GR, bR, hR, iR⟩
    refine ⟨_, pss_cons (ps_par3 (by rfl) scRead.nd (i := 1) (j := 2) (l := 3) rfl rfl rfl (by decide) (by decide) (by decide) rfl rfl rfl (pa_cons (pe_call GD hr2 (by rfl) mDu kDu bD .nil pass0 (pa_cons (pv 0) pa_nil)) (pa_cons pe_non (pa_cons pe_non pa_nil))) (by rfl))
      (C8.pss_cut (Kt.ps_try_keep (i := 4) (c := .ref M) (Wout := fun _ _ _ _ => False) rfl rfl rfl scRead.nd rfl rfl ⟨rfl, by decide, .inl mM⟩ takes0
          (fun W pn xe tk _ => pss_one (ps_set (i := 3) scRead.nd rfl (.inl rfl) (Sm.pe_smethS (pe_glob (v := .ref C) (by rfl) TC.mgC rfl) rd sm GS hr bS (fun σ => passAt tk σ) (pa_cons (pv 0) pa_nil))))
          (fun a pn => pss_one (ps_set (i := 2) scRead.nd rfl (.inl rfl) (pv 4))))
      (pss_cons (ps_if (pt_cmp (pc_isN (pv 1)))
        (pss_one (ps_ret (pe_and (pe_callB (call_isiE xf ec) (by rfl) T.isi b_isi (pa_cons (pv 2) (pa_cons (pe_glob (v := .ref D) (by rfl) mD rfl) pa_nil)))
          (pe_one (pe_cmpR op_eq (pe_callB (Rt.call_repD own free hr) (by rfl) T.repr b_repr (pa_cons (Kt.pe_ef xf nv (pv 2)) pa_nil)) (pe_callB (Rt.call_repD own free hr) (by rfl) T.repr b_repr (pa_cons (pv 0) pa_nil)) (nomark _)))))) pss_nil)
      (pss_one (ps_ret (pe_and (pe_cmp (pc_isN (pv 2)) rfl) (pe_and (pe_callB call_isi (by rfl) T.isi b_isi (pa_cons (pv 3) (pa_cons (pe_glob (v := .ref C) (by rfl) TC.mgC rfl) pa_nil)))
          (pe_one (pe_cmpR op_eq (pe_callB (Nb.call_repP rfl nd free hr2) (by rfl) T.repr b_repr (pa_cons (pe_tup (pa_cons (pe_fld (pv 3) rfl) (pa_cons (pe_fld (pv 3) rfl) pa_nil))) pa_nil)) (pe_callB (Nb.call_repP rfl nd free hr2) (by rfl) T.repr b_repr (pa_cons (pv 1) pa_nil)) (nomark _))))))))), ?_⟩
    have split : (∃ (x : Str) (n u : Int), v = .str x ∧ x.length ≤ 990 ∧ Mt.readT x = some (n, u)) ∨
        ((∀ (Q0 : VK), (∀ H', Same H H' → Q0 .non H') → spDue C [v] H Q0 E0) ∧ (∀ (H1 : Hp) (Q1 : VK) (E1 : XK), Same H H1 → (∀ d H', Same H1 H' → H' d = some (.xd [("value", v)]) → E1 (.ref D) (some d) H') → spOfA C D [v] H1 Q1 E1) ∧
          ∃ t, (∀ H', Same H H' → Rt.ItemD K (RA C) H' v t) ∧ t.length ≤ sizeLine) := by
      rcases want with ⟨x, rfl, hl, ax⟩ | ⟨hS, w1, t, it, lt⟩
      · cases e : Mt.readT x with
        | some p => exact .inl ⟨x, p.1, p.2, rfl, hl, e⟩
        | none => exact .inr ⟨fun Q0 h => ⟨_, rfl, .inl ⟨x, rfl, hl, fun n u z => by (rw [e] at z; cases z), fun _ => h⟩⟩,
            fun H1 Q1 E1 s1 h => ⟨_, rfl, .inl ⟨x, rfl, hl, fun n u z => by (rw [e] at z; cases z), fun _ => h⟩⟩, reprText x, fun _ _ => .inl (.str x (ax.repr hl)), ax.repr hl⟩
      · have w2 : ∀ H1, Same H H1 → W1 C H1 v := fun H1 s1 => w1.elim (fun ⟨T, b⟩ => .inl ⟨T, b.same s1⟩) fun ⟨y, dy, fs, e, z⟩ => .inr ⟨y, dy, fs, e, s1 _ _ z⟩
        exact .inr ⟨fun Q0 h => ⟨_, rfl, .inr ⟨hS, w1, h _ (Same.refl _)⟩⟩, fun H1 Q1 E1 s1 h => ⟨_, rfl, .inr ⟨hS, w2 H1 s1, h⟩⟩, t, it, lt⟩
    rcases split with ⟨x, n, u, rfl, hl, e⟩ | ⟨due, ofr, t, it, lt⟩
    · have bb := read_b1 hl e
      refine ⟨_, rfl, _, rfl, .inl ⟨x, rfl, hl, fun n' u' e' t H1 s1 ht => ?_, fun e' => by rw [e] at e'; cases e'⟩⟩
      obtain ⟨rfl, rfl⟩ : n' = n ∧ u' = u := by
        rw [e] at e'
        have z := Option.some.inj e'
        exact ⟨(congrArg Prod.fst z).symm, (congrArg Prod.snd z).symm⟩
      obtain ⟨a, rfl, ha⟩ := ht
      refine ⟨_, _, _, rfl, fun σ' H' => ∃ y, σ' = [some (.str x), some (.ref a), some .non, some y, none] ∧ Same H1 H' ∧ AmAt C H' y n' u', ?_, ?_⟩
      · refine ⟨rfl, _, rfl, _, rfl, .inl ⟨x, rfl, hl, fun n2 u2 e2 y H2 s2 hy => ?_, fun e2 => by rw [e] at e2; cases e2⟩⟩
        obtain ⟨rfl, rfl⟩ : n2 = n' ∧ u2 = u' := by
          rw [e] at e2
          have z := Option.some.inj e2
          exact ⟨(congrArg Prod.fst z).symm, (congrArg Prod.snd z).symm⟩
        exact ⟨y, rfl, s2, hy⟩
      · rintro σ' H2 ⟨y, rfl, s2, hy⟩
        obtain ⟨lw, b, dx, rfl, hb⟩ := id hy
        refine ⟨_, rfl, _, rfl, iteF ?_⟩
        refine ⟨_, rfl, _, rfl, iteT ⟨_, rfl, .ref b, .ref C, .ref C, .ref C, _, rfl, .own _, TC.tyC hb, TC.kC, _, rfl, iteT ?_⟩⟩
        refine ⟨_, rfl, b, C, dx, _, _, rfl, hb, TC.cl, TC.nN, pf_number _ _, _, rfl, b, C, dx, _, _, rfl, hb, TC.cl, TC.nU, pf_under _ _, (by show 2 ≤ sizeLine; decide), fun p np => ?_⟩
        have s3 := same_upd (o := .tup [V.int n', V.int u']) np
        refine ⟨p, n', u', rfl, upd_same, dig4300 bb.1, dig4300 bb.2, two_big bb, ?_⟩
        refine ⟨_, rfl, a, n', u', rfl, s3 _ _ (s2 _ _ ha), dig4300 bb.1, dig4300 bb.2, two_big bb, rfl, ?_⟩
        rw [decide_eq_true rfl]
        exact q _ ((s1.trans s2).trans s3)
    · refine ⟨_, rfl, due _ fun H1 s1 => ?_⟩
      refine ⟨_, _, _, rfl, fun σ' H' => ∃ e d, σ' = [some v, some .non, some (.ref e), some .non, none] ∧ Same H1 H' ∧ H' e = some (Kt.EO e (.ref D) (some d)) ∧ H' d = some (.xd [("value", v)]), ?_, ?_⟩
      · refine ⟨rfl, _, rfl, ofr H1 _ _ s1 fun d H2 s2 hd => ?_⟩
        refine ⟨true, te, fun _ e ne => ?_, fun z => nomatch z⟩
        have s3 := same_upd (o := Kt.EO e (.ref D) (some d)) ne
        exact ⟨_, rfl, e, d, rfl, s2.trans s3, upd_same, s3 _ _ hd⟩
      · rintro σ' H2 ⟨e, d, rfl, s2, he, hd⟩
        have ii := it H2 (s1.trans s2)
        refine ⟨_, rfl, _, rfl, iteT ?_⟩
        refine ⟨_, rfl, e, d, _, .ref D, .ref D, true, rfl, he, hd, .own _, kD, _, rfl, iteT ?_⟩
        refine ⟨_, rfl, e, d, _, v, rfl, he, hd, by simp, v, t, rfl, ii, ?_⟩
        refine ⟨_, rfl, v, t, rfl, ii, rfl, ?_⟩
        rw [decide_eq_true rfl]
        exact q _ (s1.trans s2)
end
end Am
set_option exponentiation.threshold 5000
namespace Am
open PySem PySem.Spec PyProof.Rows L2
/-- the odd values of the law, their texts -/
inductive Odd (C : Addr) (H : Hp) : V → Str → Prop
  | non : Odd C H .non ("None" : Str)
  | bl (b : Bool) : Odd C H (.bl b) (if b then ("True" : Str) else "False")
  | int (i : Int) (h : Bd 190 i) : Odd C H (.int i) (Str.ofString (toString i))
  | t0 {b : Addr} (h : H b = some (.tup [])) : Odd C H (.ref b) (PyData.tuple []).shown
  | t1 {b : Addr} (h : H b = some (.tup [.str "1"])) : Odd C H (.ref b) (PyData.tuple [.str "1"]).shown
  | l1 {b : Addr} (h : H b = some (.lst [.str "1"])) : Odd C H (.ref b) (PyData.list [.str "1"]).shown
  | d0 {b : Addr} (h : H b = some (.dK [])) : Odd C H (.ref b) (PyData.dict []).shown
  | am {v : V} {n u : Int} (h : AmAt C H v n u) (bn : Bd 190 n) (bu : Bd 190 u) : Odd C H v (repT n u)
section
variable {C p : Addr} {H H' : Hp} {v : V} {t : Str} {N : Int}
theorem Odd.same (o : Odd C H v t) (e : Same H H') : Odd C H' v t := by
  cases o with
  | non => exact .non
  | bl b => exact .bl b
  | int i h => exact .int i h
  | t0 h => exact .t0 (e _ _ h)
  | t1 h => exact .t1 (e _ _ h)
  | l1 h => exact .l1 (e _ _ h)
  | d0 h => exact .d0 (e _ _ h)
  | am h bn bu => exact .am (h.same e) bn bu
theorem Odd.chg (o : Odd C H v t) (j : JarAt H p N) (e : Chg p H H') : Odd C H' v t := by
  obtain ⟨x, y, z, hp, _⟩ := id j
  cases o with
  | non => exact .non
  | bl b => exact .bl b
  | int i h => exact .int i h
  | t0 h => exact .t0 (e _ _ h (ne_of h hp (by intro z; cases z)))
  | t1 h => exact .t1 (e _ _ h (ne_of h hp (by intro z; cases z)))
  | l1 h => exact .l1 (e _ _ h (ne_of h hp (by intro z; cases z)))
  | d0 h => exact .d0 (e _ _ h (ne_of h hp (by intro z; cases z)))
  | am h bn bu => exact .am (h.chg j e) bn bu
theorem Odd.no (o : Odd C H v t) : isS v = false := by
  cases o with
  | am h _ _ => obtain ⟨l, a, dx, rfl, ha⟩ := h; rfl
  | _ => rfl
theorem Odd.w1 (o : Odd C H v t) : W1 C H v := by
  cases o with
  | non => exact .inl ⟨_, .non⟩
  | bl b => exact .inl ⟨_, .bl b⟩
  | int i _ => exact .inl ⟨_, .int i⟩
  | t0 h => exact .inl ⟨_, .tup h⟩
  | t1 h => exact .inl ⟨_, .tup h⟩
  | l1 h => exact .inl ⟨_, .lst h⟩
  | d0 h => exact .inl ⟨_, .dK h⟩
  | am h _ _ => exact .inr h.inst
theorem Odd.len (o : Odd C H v t) : t.length ≤ 150 := by
  cases o with
  | am h bn bu => exact rep_len bn bu
  | bl b => cases b <;> decide +kernel
  | int i h => exact Nat.le_trans (dig_len h) (by decide)
  | _ => decide +kernel
theorem Odd.item {K : PySem.W.Frag} (o : Odd C H v t) : Rt.ItemD K (RA C) H v t := by
  cases o with
  | non => exact .inl .non
  | bl b => exact .inl (.bl b)
  | int i h => exact .inl (.int i (log_bd h))
  | t0 h => exact .inr (.inl ⟨_, .tuple [], rfl, .inl ⟨.tup (SqT.of h) .nil, rfl⟩, by decide +kernel, by decide +kernel, by decide +kernel, rfl⟩)
  | t1 h => exact .inr (.inl ⟨_, .tuple [.str "1"], rfl, .inl ⟨.tup (SqT.of h) (.cons (.str "1") .nil), rfl⟩, by decide +kernel, by decide +kernel, by decide +kernel, rfl⟩)
  | l1 h => exact .inr (.inl ⟨_, .list [.str "1"], rfl, .inl ⟨.lst (SqL.of h) (.cons (.str "1") .nil), rfl⟩, by decide +kernel, by decide +kernel, by decide +kernel, rfl⟩)
  | d0 h => exact .inr (.inl ⟨_, .dict [], rfl, .inr ⟨h, rfl⟩, by decide +kernel, by decide +kernel, by decide +kernel, rfl⟩)
  | am h bn bu => exact .inr (.inr ⟨_, _, h, bn, bu, rfl⟩)
end
/-- what can be read without harm: a text, or an odd value -/
def Fit (C : Addr) (H : Hp) (v : V) : Prop := (∃ x : Str, v = .str x ∧ x.length ≤ 990 ∧ Asc x) ∨ ∃ t, Odd C H v t
theorem Fit.same {C : Addr} {H H' : Hp} {v : V} (h : Fit C H v) (e : Same H H') : Fit C H' v := h.elim .inl fun ⟨t, o⟩ => .inr ⟨t, o.same e⟩
theorem Fit.want {K : PySem.W.Frag} {C : Addr} {H : Hp} {v : V} (h : Fit C H v) : (∃ x : Str, v = .str x ∧ x.length ≤ 990 ∧ Asc x) ∨ (isS v = false ∧ W1 C H v ∧ ∃ t, (∀ H', Same H H' → Rt.ItemD K (RA C) H' v t) ∧ t.length ≤ sizeLine) :=
  h.elim .inl fun ⟨t, o⟩ => .inr ⟨o.no, o.w1, t, fun H' e => (o.same e).item, Nat.le_trans o.len (by decide)⟩
def oddS : List Str := ["", "-", "/", "1/", "/2", "+1", "-0", "0/1", "0/2", "01", "1/02", "2/4", "3/1", "1/0", "1/-2", "1 /2"]
def oddS2 : List Str := ["1/2/3", "--1", "1-", " 1", "1 ", "1.0", "1e3", "x", "1/2x", "\n1", "1\n", "-3/9"]
theorem odd_fit {C : Addr} {H : Hp} {v : V} (h : v ∈ oddS.map V.str ++ oddS2.map V.str) : Fit C H v := by
  rw [← List.map_append] at h
  obtain ⟨x, hx, rfl⟩ := List.mem_map.mp h
  have all : (oddS ++ oddS2).all (fun x => decide (x.length ≤ 990) && x.cps.toList.all (fun c => decide (c < 128))) = true := by decide +kernel
  have hh := List.all_eq_true.mp all x hx
  rw [Bool.and_eq_true] at hh
  exact .inl ⟨x, rfl, of_decide_eq_true hh.1, fun c hc => of_decide_eq_true (List.all_eq_true.mp hh.2 c hc)⟩
theorem text_len {n u : Int} (hn : Bd 2710 n) (hu : Bd 280 u) : (Mt.textT n u).length ≤ 980 := by
  have l1 := intL_len (k := 815) (Nat.lt_trans hn (by decide +kernel))
  have l2 := intL_len (k := 84) (Nat.lt_trans hu (by decide +kernel))
  have e0 : ("" : Str).length = 0 := rfl
  have e1 : ("/" : Str).length = 1 := rfl
  unfold Mt.textT
  rw [strLen_append]
  split
  · omega
  · rw [strLen_append]; omega
theorem b1_of {n u : Int} (hn : Bd 2710 n) (hu : Bd 280 u) : B1 n u := ⟨Nat.lt_trans hn (by decide +kernel), Nat.lt_trans hu (by decide +kernel)⟩
theorem frBd {k : Nat} {n u : Int} (hu : u ≠ 0) (h : Bd k n) (h' : Bd k u) : Bd k (fr n u).1 ∧ Bd k (fr n u).2 :=
  ⟨Nat.lt_of_le_of_lt (fr_le1 hu) h, Nat.lt_of_le_of_lt (fr_le2 hu) h'⟩
def spFine : Sp := fun vs H Q _ => ∃ p : Addr, vs = [.ref p] ∧ JarAt H p 0 ∧ ∀ H', Chg p H H' → Q (.bl true) H'
section
variable {P : Program} {w : World} {K : PySem.W.Frag} {mg : Str → Option Value} {base : Heap} {C D : Addr}
theorem binMul {X : Cx} (m : GotM X.prog X.w X.K X.mg X.base C "__mul__" 4 ["self", "other"] (spMul C)) (r : GotM X.prog X.w X.K X.mg X.base C "__rmul__" 5 ["self", "other"] (spMul C)) (c : OpIK X.K C "mul") : BinM X C "mul" CX0 5 (spMul C) (spMul C) := by
  obtain ⟨f, fd, F, b, h, i⟩ := m
  obtain ⟨g, gd, G, c2, j, l⟩ := r
  exact ⟨⟨f, fd, _, ⟨h, i⟩, F.mono (by decide), b⟩, ⟨g, gd, _, ⟨j, l⟩, G, c2⟩, c.h1, c.h2⟩
theorem scFine : FnScope ["_law_jar_here", "_law_lap", "_law_number", "_law_under", "_law_made", "_law_turn", "_law_pair", "_law_text", "_law_odd", "_law_none", "_law_one"] ["_law_jar_here"] (defScope sFine) := ⟨rfl, rfl, rfl, by decide +kernel, rfl, by decide +kernel, by decide +kernel⟩
theorem ok_fine {f : Addr} {fd : FuncData} (F : Fun K "_law_fine" "_law_fine" sFine f fd) (T : Nm mg) (TC : Txt K mg C) (GI : GotI P w K mg base C) (GT : GotF P w K mg base "_law_take" 1 ["_law_jar_here", "_law_upto"] spTake) (GO : GotF P w K mg base "_law_of" 2 ["_law_jar_here", "_law_some"] spOf)
    (GX : GotF P w K mg base "_law_text_of" 1 ["_law_pair"] spTextOf) (GSp : GotF P w K mg base "_law_spoilt_text" 3 ["_law_jar_here", "_law_text"] spSpoil) (GRd : GotG P w K mg base "_law_is_read" 5 ["_law_text"] (spRead K C)) (GS : GotS P w K mg base C D) (GP : GotP P w K mg base C "text" 2 (spText C))
    (GM : GotM P w K mg base C "__mul__" 4 ["self", "other"] (spMul C)) (GRm : GotM P w K mg base C "__rmul__" 5 ["self", "other"] (spMul C)) (cM : OpIK K C "mul") (GE : GotM P w K mg base C "__eq__" 3 ["self", "other"] (spEq C)) (GR : GotM P w K mg base C "__repr__" 2 ["self"] (Rt.spRep (RA C))) :
    Gu.FnG P w K mg base CX0 6 f fd ["_law_jar_here"] spFine := by
  obtain ⟨fI, fdI, GI, bI, ⟨ds, hds, bI1⟩, MkI⟩ := GI
  obtain ⟨fT, fdT, GT, bT, mT, kT⟩ := GT
  obtain ⟨fO, fdO, GO, bO, mO, kO⟩ := GO
  obtain ⟨fX, fdX, GX, bX, mX, kX⟩ := GX
  obtain ⟨fSp, fdSp, GSp, bSp, mSp, kSp⟩ := GSp
  obtain ⟨fRd, fdRd, GRd, bRd, mRd, kRd⟩ := GRd
  obtain ⟨mc, pS, gS, dS, rd, sm, GS, bS⟩ := GS
  obtain ⟨pT, fPt, fdPt, hPt, GPt, bPt⟩ := GP
  obtain ⟨fE, dE, GE, bE, hE, iE⟩ := GE
  obtain ⟨fR, dR, GR, bR, hR, iR⟩ := GR
  refine Gu.okG0 F scFine (fun vs H Q E h => ?_) (fun cdv A outer s H vs Q E free hr h => ?_)
  · obtain ⟨p, rfl, _⟩ := h
    rfl
  · obtain ⟨p, rfl, hj, q⟩ := h
    have hr1 : Room 1 _ := hr.mono (by decide)
    have hr2 : Room 2 _ := hr.mono (by decide)
    have hr3 : Room 3 _ := hr.mono (by decide)
    have hr4 : Room 4 _ := hr.mono (by decide)
    have own : Rt.OwnR (cxOf CX0 P w K mg base ["_law_jar_here", "_law_lap", "_law_number", "_law_under", "_law_made", "_law_turn", "_law_pair", "_law_text", "_law_odd", "_law_none", "_law_one"] "_law_fine" (defScope sFine) f cdv A outer s H E).nox C (RA C) 2 := ⟨ra_ins, fR, dR, GR, bR, hR, iR⟩
    refine ⟨_, C8.pss_cut (ps_for PassesOwn.never rfl (pi_range1 (by rfl) T.range (pa_cons pe_int pa_nil)) (pg_name (i := 1) scFine.nd rfl (.inl rfl))
        (pss_cons (ps_par (by rfl) scFine.nd (i := 2) (j := 3) rfl rfl (by decide) rfl rfl (pa_cons (pe_op op_sub (pe_call GT hr1 (by rfl) mT kT bT .nil pass0 (pa_cons (pv 0) (pa_cons pe_int pa_nil))) pe_int)
            (pa_cons (pe_op op_add pe_int (pe_call GO hr2 (by rfl) mO kO bO .nil pass0 (pa_cons (pv 0) (pa_cons (pe_lst (pa_cons pe_int (pa_cons pe_int (pa_cons pe_int (pa_cons pe_int (pa_cons pe_int pa_nil)))))) pa_nil)))) pa_nil)) (by rfl))
        (C8.pss_cut (ps_if (pt_cmpR op_eq (pe_call GT hr1 (by rfl) mT kT bT .nil pass0 (pa_cons (pv 0) (pa_cons pe_int pa_nil))) pe_int (nomark _))
            (pss_cons (ps_set (i := 4) scFine.nd rfl (.inl rfl) (pe_make MkI GI hr3 (by rfl) TC.mgC bI .nil pass0 (pa_cons (pv 2) (pa_cons (pv 3) pa_nil))))
              (pss_one (ps_for PassesOwn.never rfl (pi_range1 (by rfl) T.range (pa_cons (pe_call GO hr2 (by rfl) mO kO bO .nil pass0 (pa_cons (pv 0) (pa_cons (pe_lst (pa_cons pe_int (pa_cons pe_int (pa_cons pe_int (pa_cons pe_int pa_nil))))) pa_nil))) pa_nil)) (pg_name (i := 5) scFine.nd rfl (.inl rfl))
                (pss_one (ps_set (i := 4) scFine.nd rfl (.inl rfl) (pe_opS (opS_bin (op := .Mult) (E := fun _ => E0) TC.op decB_mul (binMul GM GRm cM) hr passS0) (pv 4)
                  (pe_make MkI GI hr3 (by rfl) TC.mgC bI .nil pass0 (pa_cons pe_int (pa_cons (pe_op op_add pe_int (pe_call GO hr2 (by rfl) mO kO bO .nil pass0 (pa_cons (pv 0) (pa_cons (pe_lst (pa_cons pe_int (pa_cons pe_int (pa_cons pe_int pa_nil)))) pa_nil)))) pa_nil)))))))))
            (pss_one (ps_set (i := 4) scFine.nd rfl (.inl rfl) (pe_make MkI GI hr3 (by rfl) TC.mgC bI .nil pass0 (pa_cons (pv 2) (pa_cons (pv 3) pa_nil))))))
        (pss_cons (ps_set (i := 6) scFine.nd rfl (.inl rfl) (pe_tup (pa_cons (pe_fld (pv 4) rfl) (pa_cons (pe_fld (pv 4) rfl) pa_nil))))
        (pss_cons (ps_set (i := 7) scFine.nd rfl (.inl rfl) (pe_call GX hr1 (by rfl) mX kX bX .nil pass0 (pa_cons (pv 6) pa_nil)))
        (pss_cons (ps_if (PW.pt (pw_or (pt_cmpR op_ne (pe_callB (Rt.call_repD own free hr4) (by rfl) T.repr b_repr (pa_cons (pe_prop (pv 4) TC.cl hPt GPt hr3 bPt .nil pass0 rfl) pa_nil)) (pe_callB (Rt.call_repD own free hr4) (by rfl) T.repr b_repr (pa_cons (pv 7) pa_nil)) (nomark _))
            (pw_or (pt_not (pt_cmpR (op_cmpC (op := .Eq) (fun _ _ => rfl) TC.op ⟨hE, iE⟩ GE hr3 bE pass0) (Sm.pe_smethS (pe_glob (v := .ref C) (by rfl) TC.mgC rfl) rd sm GS hr4 bS (fun σ => passAt takes0 σ) (pa_cons (pe_prop (pv 4) TC.cl hPt GPt hr3 bPt .nil pass0 rfl) pa_nil)) (pv 4) (nomark _)))
              (pw_or1 (pt_not (pt_val (Gu.pe_callG GRd free hr (by rfl) mRd kRd bRd pass0 (pa_cons (pv 7) pa_nil)))))))) (pss_one (ps_ret pe_bl)) pss_nil)
        (pss_one (ps_if (pt_not (pt_val (Gu.pe_callG GRd free hr (by rfl) mRd kRd bRd pass0 (pa_cons (pe_call GSp hr3 (by rfl) mSp kSp bSp .nil pass0 (pa_cons (pv 0) (pa_cons (pv 7) pa_nil))) pa_nil)))) (pss_one (ps_ret pe_bl)) pss_nil))))))))
      (pss_cons (ps_set (i := 8) scFine.nd rfl (.inl rfl) (pe_lst (pa_cons pe_str (pa_cons pe_str (pa_cons pe_str (pa_cons pe_str (pa_cons pe_str (pa_cons pe_str (pa_cons pe_str (pa_cons pe_str (pa_cons pe_str (pa_cons pe_str (pa_cons pe_str (pa_cons pe_str (pa_cons pe_str (pa_cons pe_str (pa_cons pe_str (pa_cons pe_str pa_nil))))))))))))))))))
      (pss_cons (ps_expr (pe_bm PySem.F.plainAttrs_list PySem.F.slot_list_extend PySem.F.type_list_extend mt_extend (pv 8) (pa_cons (pe_lst (pa_cons pe_str (pa_cons pe_str (pa_cons pe_str (pa_cons pe_str (pa_cons pe_str (pa_cons pe_str (pa_cons pe_str (pa_cons pe_str (pa_cons pe_str (pa_cons pe_str (pa_cons pe_str (pa_cons pe_str pa_nil))))))))))))) pa_nil)))
      (C8.pss_cut (ps_set (i := 9) scFine.nd rfl (.inl rfl) (pe_call GO hr2 (by rfl) mO kO bO .nil pass0 (pa_cons (pv 0) (pa_cons (pe_lst (pa_cons pe_non (pa_cons pe_bl (pa_cons pe_int (pa_cons pe_int (pa_cons (pe_tup pa_nil) (pa_cons (pe_tup (pa_cons pe_str pa_nil)) (pa_cons (pe_lst (pa_cons pe_str pa_nil)) (pa_cons pe_dnewK
            (pa_cons (pe_make MkI GI hr3 (by rfl) TC.mgC bI1 hds pass0 (pa_cons pe_int pa_nil)) pa_nil)))))))))) pa_nil))))
      (pss_one (ps_ret (pe_callB (cr_all rfl) (by rfl) T.all b_all (pa_cons (pe_lc (own := [("_law_one", 10)]) (g := gName 10) (tt := tYes) rfl scFine.nd
          (pi_tup (pe_tup (pa_cons (pe_call GO hr2 (by rfl) mO kO bO .nil pass0 (pa_cons (pv 0) (pa_cons (pv 8) pa_nil))) (pa_cons (pe_call GO hr2 (by rfl) mO kO bO .nil pass0 (pa_cons (pv 0) (pa_cons (pv 8) pa_nil))) (pa_cons (pv 9) pa_nil)))))
          (blkOk_by (N := ["_law_jar_here", "_law_lap", "_law_number", "_law_under", "_law_made", "_law_turn", "_law_pair", "_law_text", "_law_odd", "_law_none", "_law_one"]) (sc := defScope sFine) (by decide +kernel)) (fun _ _ _ _ _ => pg_name (i := 10) scFine.nd rfl (Or.inl rfl)) (fun _ _ _ _ _ => pts_nil)
          (fun _ _ _ _ _ => Gu.pe_callG GRd free hr (by rfl) mRd kRd bRd pass0 (pa_cons (pv 10) pa_nil))) pa_nil))))))), ?_⟩
    have big : ∀ {k : Nat}, k ≤ 4000 → k ≤ sizeLine := fun h => Nat.le_trans h (by decide)
    refine ⟨fun σ' H' => ∃ v1 v2 v3 v4 v5 v6 v7 : Option V, σ' = [some (.ref p), v1, v2, v3, v4, v5, v6, v7, none, none, none] ∧ Chg p H H' ∧ JarAt H' p 600, ?_, ?_⟩
    · refine ⟨6, rfl, by decide, by decide, for_range (n := 6) (fun i σ H' => ∃ v1 v2 v3 v4 v5 v6 v7 : Option V, σ = [some (.ref p), v1, v2, v3, v4, v5, v6, v7, none, none, none] ∧ Chg p H H' ∧ JarAt H' p (100 * i)) ⟨none, none, none, none, none, none, none, rfl, Chg.refl _ _, hj.mono (by omega)⟩ ?_ ?_⟩
      · rintro i σ H1 hi ⟨v1, v2, v3, v4, v5, v6, v7, rfl, k1, j1⟩
        refine ⟨_, rfl, p, 2000, _, rfl, ⟨by decide, by decide⟩, j1, by omega, fun d H2 hd k2 j2 => ⟨_, _, rfl, rfl, ?_⟩⟩
        refine ⟨_, rfl, (by show 5 ≤ sizeLine; decide), fun l nl => ?_⟩
        obtain ⟨xs, hp2⟩ := j2.lst
        have s2 := same_upd (o := .lst [V.int 0, .int 0, .int 1, .int 11, .int 999]) nl
        refine ⟨p, l, _, _, rfl, upd_same, (ne_of_none hp2 nl).symm, ⟨by show 0 < 5; decide, by show 5 ≤ 1000; decide⟩, j2.same s2, by omega, fun v H3 mv k3 j3 => ?_⟩
        obtain ⟨w0, rfl, w1, w2⟩ : ∃ w0 : Int, v = .int w0 ∧ 0 ≤ w0 ∧ w0 ≤ 999 := by
          simp only [List.mem_cons, List.not_mem_nil, or_false] at mv
          rcases mv with rfl | rfl | rfl | rfl | rfl <;> exact ⟨_, rfl, by decide, by decide⟩
        refine ⟨_, _, rfl, rfl, _, _, rfl, ?_⟩
        have k13 := (k1.trans k2).trans ((Chg.of s2).trans k3)
        have j3' : JarAt H3 p (100 * i + 2) := j3.mono (by omega)
        clear k1 j1 k2 j2 hp2 s2 nl k3 j3 mv
        obtain ⟨d0, d1⟩ := hd
        have hu0 : 1 + w0 ≠ 0 := by omega
        have bn : Bd 10 (d - 1000) := by
          show (d - 1000).natAbs < 1024
          omega
        have bu : Bd 10 (1 + w0) := by
          show (1 + w0).natAbs < 1024
          omega
        refine ⟨fun σ' H' => ∃ (y : V) (n u : Int) (z1 z5 : Option V), σ' = [some (.ref p), z1, some (.int (d - 1000)), some (.int (1 + w0)), some y, z5, v6, v7, none, none, none] ∧ Chg p H3 H' ∧ JarAt H' p (100 * i + 94) ∧ AmAt C H' y n u ∧ Bd 2710 n ∧ Bd 280 u, ?_, ?_⟩
        · refine ⟨_, rfl, p, 4, _, rfl, ⟨by decide, by decide⟩, j3', by omega, fun d2 H4 hd2 k4 j4 => ⟨rfl, _, rfl, ite2 (fun c => ?_) (fun c => ?_)⟩⟩
          · refine ⟨_, rfl, _, rfl, ?_⟩
            intro x dx nx ndx nex
            refine ⟨x, dx, _, _, rfl, upd_same, hu0, bn.mono (by decide), bu.mono (by decide), fun H5 h5 k5 => ⟨rfl, ?_⟩⟩
            have s5 := Same.made nx ndx k5
            have hx : AmAt C H5 (.ref x) (fr (d - 1000) (1 + w0)).1 (fr (d - 1000) (1 + w0)).2 := ⟨fr_low hu0, x, dx, rfl, h5⟩
            have ff := frBd hu0 bn bu
            have j5 := j4.same s5
            refine ⟨_, rfl, (by show 4 ≤ sizeLine; decide), fun l nl => ?_⟩
            obtain ⟨xs, hp5⟩ := j5.lst
            have s6 := same_upd (o := .lst [V.int 2, .int 7, .int 40, .int 90]) nl
            refine ⟨p, l, _, _, rfl, upd_same, (ne_of_none hp5 nl).symm, ⟨by show 0 < 4; decide, by show 4 ≤ 1000; decide⟩, j5.same s6, by omega, fun v H6 mv k6 j6 => ?_⟩
            obtain ⟨m, rfl, hm⟩ : ∃ m : Nat, v = .int (m : Int) ∧ m ≤ 90 := by
              simp only [List.mem_cons, List.not_mem_nil, or_false] at mv
              rcases mv with rfl | rfl | rfl | rfl
              · exact ⟨2, rfl, by decide⟩
              · exact ⟨7, rfl, by decide⟩
              · exact ⟨40, rfl, by decide⟩
              · exact ⟨90, rfl, by decide⟩
            have kk : Chg p H3 H6 := (k4.trans (Chg.of (s5.trans s6))).trans k6
            refine ⟨(m : Int), rfl, by omega, by omega, ?_⟩
            rw [Int.toNat_natCast]
            refine for_range (n := m) (fun t σ H' => ∃ (y : V) (n u : Int) (z5 : Option V), σ = [some (.ref p), some (.int (0 + (i : Int))), some (.int (d - 1000)), some (.int (1 + w0)), some y, z5, v6, v7, none, none, none] ∧ Chg p H3 H' ∧ JarAt H' p (100 * i + 4 + t) ∧ AmAt C H' y n u ∧ Bd (10 + 30 * t) n ∧ Bd (10 + 3 * t) u)
              ⟨.ref x, _, _, v5, rfl, kk, j6.mono (by omega), (hx.same s6).chg (j5.same s6) k6, ff.1, ff.2⟩ ?_ ?_
            · rintro t σ H7 ht ⟨y, n, u, z5, rfl, k7, j7, hy, by1, by2⟩
              refine ⟨_, rfl, _, rfl, (by show 3 ≤ sizeLine; decide), fun l nl => ?_⟩
              obtain ⟨xs, hp7⟩ := j7.lst
              have s8 := same_upd (o := .lst [V.int 0, .int 1, .int 6]) nl
              refine ⟨p, l, _, _, rfl, upd_same, (ne_of_none hp7 nl).symm, ⟨by show 0 < 3; decide, by show 3 ≤ 1000; decide⟩, j7.same s8, by omega, fun v H8 mv k8 j8 => ?_⟩
              obtain ⟨b, rfl, b0, b6⟩ : ∃ b : Int, v = .int b ∧ 0 ≤ b ∧ b ≤ 6 := by
                simp only [List.mem_cons, List.not_mem_nil, or_false] at mv
                rcases mv with rfl | rfl | rfl <;> exact ⟨_, rfl, by decide, by decide⟩
              have hb0 : 1 + b ≠ 0 := by omega
              have bb1 : Bd 30 999999937 := by
                show (999999937 : Int).natAbs < 2 ^ 30
                decide
              have bb2 : Bd 3 (1 + b) := by
                show (1 + b).natAbs < 8
                omega
              refine ⟨_, _, rfl, rfl, ?_⟩
              intro x2 dx2 nx2 ndx2 nex2
              refine ⟨x2, dx2, _, _, rfl, upd_same, hb0, bb1.mono (by decide), bb2.mono (by decide), fun H9 h9 k9 => ⟨rfl, ?_⟩⟩
              have s9 := Same.made nx2 ndx2 k9
              have hx2 : AmAt C H9 (.ref x2) (fr 999999937 (1 + b)).1 (fr 999999937 (1 + b)).2 := ⟨fr_low hb0, x2, dx2, rfl, h9⟩
              have hy9 := ((hy.same s8).chg (j7.same s8) k8).same s9
              have c1 : Bd 30 (fr 999999937 (1 + b)).1 := Nat.lt_of_le_of_lt (fr_le1 hb0) bb1
              have c2 : Bd 3 (fr 999999937 (1 + b)).2 := Nat.lt_of_le_of_lt (fr_le2 hb0) bb2
              refine .inl ⟨hy9.inst, AmV.orI (.inl hx2), y, .ref x2, n, u, _, _, rfl, hy9, .inl hx2, ⟨by1.mono (by omega), by2.mono (by omega), c1.mono (by decide), c2.mono (by decide)⟩, fun v H10 s10 hv => ?_⟩
              have hu2 : u * (fr 999999937 (1 + b)).2 ≠ 0 := Int.mul_ne_zero hy.1.ne hx2.1.ne
              refine ⟨v, _, _, _, rfl, (k7.trans (Chg.of s8)).trans (k8.trans (Chg.of (s9.trans s10))), ((j8.same s9).same s10).mono (by omega), hv, ?_, ?_⟩
              · refine Nat.lt_of_le_of_lt (fr_le1 hu2) ?_
                have := by1.mul c1
                exact this.mono (by omega)
              · refine Nat.lt_of_le_of_lt (fr_le2 hu2) ?_
                have := by2.mul c2
                exact this.mono (by omega)
            · rintro σ H7 ⟨y, n, u, z5, rfl, k7, j7, hy, by1, by2⟩
              exact ⟨y, n, u, _, z5, rfl, k7, j7.mono (by omega), hy, by1.mono (by omega), by2.mono (by omega)⟩
          · refine ⟨_, rfl, _, rfl, ?_⟩
            intro x dx nx ndx nex
            refine ⟨x, dx, _, _, rfl, upd_same, hu0, bn.mono (by decide), bu.mono (by decide), fun H5 h5 k5 => ⟨rfl, ?_⟩⟩
            have s5 := Same.made nx ndx k5
            have hx : AmAt C H5 (.ref x) (fr (d - 1000) (1 + w0)).1 (fr (d - 1000) (1 + w0)).2 := ⟨fr_low hu0, x, dx, rfl, h5⟩
            have ff := frBd hu0 bn bu
            exact ⟨_, _, _, _, _, rfl, k4.trans (Chg.of s5), (j4.same s5).mono (by omega), hx, ff.1.mono (by decide), ff.2.mono (by decide)⟩
        rintro σ' H4 ⟨y, n, u, z1, z5, rfl, k4, j4, hy, bn2, bu2⟩
        obtain ⟨lw, a, dx, rfl, ha⟩ := id hy
        have B := b1_of bn2 bu2
        have tl := text_len bn2 bu2
        have at_ := asc_text n u
        refine ⟨_, rfl, a, C, dx, _, _, rfl, ha, TC.cl, TC.nN, pf_number _ _, _, rfl, a, C, dx, _, _, rfl, ha, TC.cl, TC.nU, pf_under _ _, (by show 2 ≤ sizeLine; decide), fun pp npp => ?_⟩
        have s5 := same_upd (o := .tup [V.int n, V.int u]) npp
        refine ⟨_, rfl, .ref pp, n, u, rfl, ⟨pp, rfl, upd_same⟩, B, ?_⟩
        have hy5 := hy.same s5
        have j5 := j4.same s5
        have k5 := (k13.trans k4).trans (Chg.of s5)
        generalize upd H4 pp (.tup [V.int n, V.int u]) = H5 at hy5 j5 k5 ⊢
        have li : ∀ H', Rt.ItemD K (RA C) H' (.str (Mt.textT n u)) (reprText (Mt.textT n u)) := fun _ => .inl (.str _ (at_.repr (by omega)))
        have ins : ∀ {H' : Hp}, AmAt C H' (.ref a) n u → ∃ dx, H' a = some (.ins C dx (pf n u)) := fun h => by
          obtain ⟨_, a', dx', e', h'⟩ := h
          cases e'
          exact ⟨dx', h'⟩
        obtain ⟨dx5, ha5⟩ := ins hy5
        refine ⟨_, rfl, a, dx5, _, rfl, ha5, .ref a, n, u, rfl, hy5, B, fun H6 s6 => ⟨.str _, _, rfl, li H6, ?_⟩⟩
        refine ⟨_, rfl, .str _, _, rfl, li H6, rfl, _, rfl, ?_⟩
        rw [decide_eq_true rfl]
        refine iteF ?_
        have hy6 := hy5.same s6
        obtain ⟨dx6, ha6⟩ := ins hy6
        refine ⟨rfl, _, rfl, a, dx6, _, rfl, ha6, .ref a, n, u, rfl, hy6, B, fun H7 s7 => ?_⟩
        refine ⟨_, rfl, .inl ⟨_, rfl, by omega, fun n' u' e z H8 s8 hz => ?_, fun e => by rw [Mt.read_written lw] at e; cases e⟩⟩
        obtain ⟨rfl, rfl⟩ : n' = n ∧ u' = u := by
          rw [Mt.read_written lw] at e
          have z := Option.some.inj e
          exact ⟨(congrArg Prod.fst z).symm, (congrArg Prod.snd z).symm⟩
        have hy8 := (hy6.same s7).same s8
        refine ⟨_, rfl, hz.inst, AmV.orB (.inl hy8), z, .ref a, n', u', rfl, hz, .inl ⟨n', u', .inl hy8, fun H9 s9 => ⟨_, rfl, ?_⟩⟩⟩
        rw [decide_eq_true (⟨rfl, rfl⟩ : n' = n' ∧ u' = u')]
        refine iteF ⟨_, rfl, .str _, rfl, .inl ⟨_, rfl, by omega, at_⟩, fun H10 s10 => ⟨_, rfl, iteF ?_⟩⟩
        have ss := (((s6.trans s7).trans s8).trans s9).trans s10
        refine ⟨_, rfl, _, rfl, p, _, _, rfl, j5.same ss, by omega, at_, tl, fun y H11 ay ly k11 j11 => ?_⟩
        refine ⟨.str y, rfl, .inl ⟨y, rfl, by omega, ay⟩, fun H12 s12 => ⟨_, rfl, iteF ?_⟩⟩
        exact ⟨_, _, _, _, _, _, _, rfl, ((k5.trans (Chg.of ss)).trans k11).trans (Chg.of s12), (j11.same s12).mono (by omega)⟩
      · rintro σ H1 ⟨v1, v2, v3, v4, v5, v6, v7, rfl, k1, j1⟩
        exact ⟨_, _, _, _, _, _, _, rfl, k1, j1.mono (by omega)⟩
    rintro σ' H1 ⟨v1, v2, v3, v4, v5, v6, v7, rfl, k1, j1⟩
    refine ⟨(by show 16 ≤ sizeLine; decide), fun l nl => ?_⟩
    have eA : [V.str "", .str "-", .str "/", .str "1/", .str "/2", .str "+1", .str "-0", .str "0/1", .str "0/2", .str "01", .str "1/02", .str "2/4", .str "3/1", .str "1/0", .str "1/-2", .str "1 /2"] = oddS.map V.str := rfl
    have eB : [V.str "1/2/3", .str "--1", .str "1-", .str " 1", .str "1 ", .str "1.0", .str "1e3", .str "x", .str "1/2x", .str "\n1", .str "1\n", .str "-3/9"] = oddS2.map V.str := rfl
    rw [eA]
    obtain ⟨xs0, hp1⟩ := j1.lst
    have nlp : l ≠ p := (ne_of_none hp1 nl).symm
    have s2 := same_upd (o := .lst (oddS.map V.str)) nl
    have h2 : (upd H1 l (.lst (oddS.map V.str))) l = some (.lst (oddS.map V.str)) := upd_same
    refine ⟨_, rfl, .inl ⟨rfl, _, SqL.of (xs := oddS.map V.str) h2⟩, (by show 12 ≤ sizeLine; decide), fun l2 nl2 => ?_⟩
    rw [eB]
    have ne2 : l ≠ l2 := ne_of_none h2 nl2
    have hb : (upd (upd H1 l (.lst (oddS.map V.str))) l2 (.lst (oddS2.map V.str))) l2 = some (.lst (oddS2.map V.str)) := upd_same
    have ha : (upd (upd H1 l (.lst (oddS.map V.str))) l2 (.lst (oddS2.map V.str))) l = some (.lst (oddS.map V.str)) := by rw [upd_ne ne2]; exact h2
    refine ⟨l, l2, oddS.map V.str, oddS2.map V.str, rfl, rfl, ha, hb, (by show 28 ≤ sizeLine; decide), ?_⟩
    have s3 : Same H1 (upd (upd (upd H1 l (.lst (oddS.map V.str))) l2 (.lst (oddS2.map V.str))) l (.lst (oddS.map V.str ++ oddS2.map V.str))) := by
      intro b o e
      rw [upd_ne (ne_of_none e nl), upd_ne (ne_of_none (s2 _ _ e) nl2)]
      exact s2 _ _ e
    have h3 : (upd (upd (upd H1 l (.lst (oddS.map V.str))) l2 (.lst (oddS2.map V.str))) l (.lst (oddS.map V.str ++ oddS2.map V.str))) l = some (.lst (oddS.map V.str ++ oddS2.map V.str)) := upd_same
    generalize (upd (upd (upd H1 l (.lst (oddS.map V.str))) l2 (.lst (oddS2.map V.str))) l (.lst (oddS.map V.str ++ oddS2.map V.str))) = H2 at s3 h3 ⊢
    have j2 := j1.same s3
    have k2 := k1.trans (Chg.of s3)
    clear s2 h2 nl2 hb ha ne2 hp1 nl k1 j1 s3
    have bl : ∀ {k : Nat} {z : Int}, z.natAbs < 2 ^ 10 → 10 ≤ k → Bd k z := fun h l => Nat.lt_of_lt_of_le h (Nat.pow_le_pow_right (by decide) l)
    refine ⟨fun σ' H' => ∃ o : V, σ' = [some (.ref p), v1, v2, v3, v4, v5, v6, v7, some (.ref l), some o, none] ∧ Chg p H H' ∧ JarAt H' p 601 ∧ H' l = some (.lst (oddS.map V.str ++ oddS2.map V.str)) ∧ Fit C H' o, ?_, ?_⟩
    · refine ⟨_, rfl, Nat.zero_le _, fun a1 f1 => ⟨by show 1 ≤ sizeLine; decide, fun a2 f2 => ⟨by show 1 ≤ sizeLine; decide, fun a3 f3 => fun a4 f4 => ?_⟩⟩⟩
      have s1 := same_upd (o := .tup []) f1
      have s2 := same_upd (o := .tup [V.str "1"]) f2
      have s3 := same_upd (o := .lst [V.str "1"]) f3
      have s4 := same_upd (o := .dK []) f4
      have e1 := upd_same (H := H2) (a := a1) (o := .tup [])
      generalize upd H2 a1 (.tup []) = G1 at f2 s1 s2 e1 f3 s3 f4 s4 ⊢
      have e2 := upd_same (H := G1) (a := a2) (o := .tup [V.str "1"])
      generalize upd G1 a2 (.tup [V.str "1"]) = G2 at s2 e2 f3 s3 f4 s4 ⊢
      have e3 := upd_same (H := G2) (a := a3) (o := .lst [V.str "1"])
      generalize upd G2 a3 (.lst [V.str "1"]) = G3 at s3 e3 f4 s4 ⊢
      have e4 := upd_same (H := G3) (a := a4) (o := .dK [])
      generalize upd G3 a4 (.dK []) = G4 at s4 e4 ⊢
      intro x1 d1 nx1 nd1 ne1
      refine ⟨x1, d1, 1, 1, rfl, upd_same, by decide, bl (by decide) (by decide), bl (by decide) (by decide), fun G5 h5 k5 => ⟨rfl, ?_⟩⟩
      have s5 := Same.made nx1 nd1 k5
      refine ⟨by show 9 ≤ sizeLine; decide, fun m fm => ?_⟩
      have s6 := same_upd (o := .lst [V.non, .bl true, .int 3, .int 0, .ref a1, .ref a2, .ref a3, .ref a4, .ref x1]) fm
      have e6 := upd_same (H := G5) (a := m) (o := .lst [V.non, .bl true, .int 3, .int 0, .ref a1, .ref a2, .ref a3, .ref a4, .ref x1])
      generalize upd G5 m (.lst [V.non, .bl true, .int 3, .int 0, .ref a1, .ref a2, .ref a3, .ref a4, .ref x1]) = G6 at s6 e6 ⊢
      have S5 := (((s1.trans s2).trans s3).trans s4).trans s5
      have S6 := S5.trans s6
      obtain ⟨xs, hp⟩ := j2.lst
      have nm : m ≠ p := (ne_of_none (S5 _ _ hp) fm).symm
      refine ⟨p, m, _, 600, rfl, e6, nm, ⟨by show 0 < 9; decide, by show 9 ≤ 1000; decide⟩, j2.same S6, by omega, fun v G7 mv k7 j7 => ?_⟩
      have odd : ∃ ta, Odd C G6 v ta := by
        simp only [List.mem_cons, List.not_mem_nil, or_false] at mv
        rcases mv with rfl | rfl | rfl | rfl | rfl | rfl | rfl | rfl | rfl
        · exact ⟨_, .non⟩
        · exact ⟨_, .bl _⟩
        · exact ⟨_, .int _ (bl (by decide) (by decide))⟩
        · exact ⟨_, .int _ (bl (by decide) (by decide))⟩
        · exact ⟨_, .t0 (s6 _ _ (s5 _ _ (s4 _ _ (s3 _ _ (s2 _ _ e1)))))⟩
        · exact ⟨_, .t1 (s6 _ _ (s5 _ _ (s4 _ _ (s3 _ _ e2))))⟩
        · exact ⟨_, .l1 (s6 _ _ (s5 _ _ (s4 _ _ e3)))⟩
        · exact ⟨_, .d0 (s6 _ _ (s5 _ _ e4))⟩
        · have ff := frBd (k := 190) (n := 1) (u := 1) (by decide) (bl (by decide) (by decide)) (bl (by decide) (by decide))
          exact ⟨_, .am ⟨fr_low (by decide), x1, d1, rfl, s6 _ _ h5⟩ ff.1 ff.2⟩
      obtain ⟨ta, odd⟩ := odd
      have nlp2 := nlp
      exact ⟨v, rfl, (k2.trans (.of S6)).trans k7, j7, k7 _ _ (S6 _ _ h3) nlp2, .inr ⟨ta, odd.chg (j2.same S6) k7⟩⟩
    clear k2 j2 h3
    rintro σ' H3 ⟨o, rfl, k3, j3, h3, fit⟩
    have lenL : (oddS.map V.str ++ oddS2.map V.str).length = 28 := rfl
    have fitL : ∀ (G : Hp) v, v ∈ oddS.map V.str ++ oddS2.map V.str → Fit C G v := fun G v h => odd_fit h
    generalize oddS.map V.str ++ oddS2.map V.str = L at h3 lenL fitL
    have fit_chg : ∀ {G G' : Hp} {N : Int}, JarAt G p N → Chg p G G' → Fit C G o → Fit C G' o := fun j e h => h.elim .inl fun ⟨t, od⟩ => .inr ⟨t, od.chg j e⟩
    refine ⟨_, rfl, _, rfl, p, l, L, _, rfl, h3, nlp, ⟨by omega, by omega⟩, j3, by omega, fun w1 G1 m1 c1 i1 => ?_⟩
    refine ⟨_, rfl, _, rfl, p, l, L, _, rfl, c1 _ _ h3 nlp, nlp, ⟨by omega, by omega⟩, i1, by omega, fun w2 G2 m2 c2 i2 => ?_⟩
    refine ⟨_, rfl, (by show 3 ≤ sizeLine; decide), fun t nt => ?_⟩
    have s4 := same_upd (o := .tup [w1, w2, o]) nt
    have h4 : (upd G2 t (.tup [w1, w2, o])) t = some (.tup [w1, w2, o]) := upd_same
    have fits : ∀ v ∈ [w1, w2, o], Fit C (upd G2 t (.tup [w1, w2, o])) v := by
      intro v hv
      simp only [List.mem_cons, List.not_mem_nil, or_false] at hv
      rcases hv with rfl | rfl | rfl
      · exact fitL _ _ m1
      · exact fitL _ _ m2
      · exact (fit_chg i1 c2 (fit_chg j3 c1 fit)).same s4
    have k4 : Chg p H (upd G2 t (.tup [w1, w2, o])) := ((k3.trans c1).trans c2).trans (Chg.of s4)
    generalize upd G2 t (.tup [w1, w2, o]) = G3 at h4 fits k4 ⊢
    refine ⟨t, rfl, ⟨_, SqT.of h4⟩, fun D nD => ?_⟩
    refine lc_it (walk_tup (xs := [w1, w2, o])) (Pv := fun i H' => Same G3 H' ∧ H' D = some (.lst ((List.replicate i true).map V.bl))) ⟨same_upd nD, upd_same⟩ (fun i H' _ hh => SqT.of (hh.1 _ _ h4)) ?_ ?_
    · rintro i v G4 G5 hi ⟨s5, h5⟩ ⟨rfl, hv⟩
      refine ⟨rfl, ?_⟩
      unfold tYes
      refine iteT ?_
      refine ⟨_, rfl, v, rfl, ((fits v (List.mem_of_getElem? hv)).same s5).want, fun G6 s6 => ?_⟩
      refine ⟨_, s6 _ _ h5, ?_, ?_, ?_⟩
      · rw [List.length_map, List.length_replicate]
        exact Nat.lt_of_lt_of_le hi (by show 3 ≤ sizeLine; decide)
      · intro b u e
        rw [upd_ne (ne_of_none e nD)]
        exact s6 _ _ (s5 _ _ e)
      · rw [upd_same, List.replicate_succ', List.map_append]
        rfl
    · rintro G4 ⟨s5, h5⟩
      refine ⟨D, List.replicate 3 true, rfl, SqL.of h5, ?_⟩
      rw [show (List.replicate 3 true).all id = true from rfl]
      exact q G4 (k4.trans (Chg.of s5))
end
end Am
namespace Am
open PySem PySem.Spec PyProof.Rows L2
def spLaw (K : PySem.W.Frag) : Sp := fun vs H Q _ => ∃ (a : Addr) (ns : List Int), vs = [.ref a] ∧ SqL K H a (ns.map V.int) ∧ ns.length ≤ 63 ∧ ∀ H', Q (.bl true) H'
section
variable {P : Program} {w : World} {K : PySem.W.Frag} {mg : Str → Option Value} {base : Heap} {C : Addr}
theorem scLaw : FnScope ["_law_script", "_law_k"] ["_law_script"] (defScope sLaw) := ⟨rfl, rfl, rfl, by decide +kernel, rfl, by decide +kernel, by decide +kernel⟩
theorem ok_law {f : Addr} {fd : FuncData} (F : Fun K "law" "law" sLaw f fd) (T : Nm mg) (GJ : GotF P w K mg base "_law_jar" 1 ["_law_script", "_law_k"] (spJar K))
    (GF : ∃ f fd, Gu.FnG P w K mg base CX0 6 f fd ["_law_jar_here"] spFine ∧ Binds K fd ["_law_jar_here"] [] ∧ mg "_law_fine" = some (.ref f) ∧ PySem.W.keepIn K (.ref f) = true) : Gu.FnG P w K mg base CX0 7 f fd ["_law_script"] (spLaw K) := by
  obtain ⟨fJ, dJ, GJ, bJ, mJ, kJ⟩ := GJ
  obtain ⟨fF, dF, GF, bF, mF, kF⟩ := GF
  refine Gu.okG0 F scLaw (fun vs H Q E h => ?_) (fun cdv A outer s H vs Q E free hr h => ?_)
  · obtain ⟨a, ns, rfl, _⟩ := h
    rfl
  · obtain ⟨a, ns, rfl, hS, hl, q⟩ := h
    have hr1 : Room 1 _ := hr.mono (by decide)
    refine ⟨_, pss_one (ps_ret (pe_callB (cr_all rfl) (by rfl) T.all b_all (pa_cons (pe_lc (own := [("_law_k", 1)]) (g := gName 1) (tt := tYes) rfl scLaw.nd
      (pi_range1 (by rfl) T.range (pa_cons (pe_callB (call_max2 rfl) (by rfl) T.max b_max (pa_cons pe_int (pa_cons (pe_callB (call_min2 rfl) (by rfl) T.min b_min (pa_cons pe_int (pa_cons (pe_callB call_len_seq (by rfl) T.len PySem.boot_len (pa_cons (pv 0) pa_nil)) pa_nil))) pa_nil))) pa_nil))
      (blkOk_by (N := ["_law_script", "_law_k"]) (sc := defScope sLaw) (by decide +kernel)) (fun _ _ _ _ _ => pg_name (i := 1) scLaw.nd rfl (Or.inl rfl)) (fun _ _ _ _ _ => pts_nil)
      (fun _ _ _ _ _ => Gu.pe_callG GF free hr (by rfl) mF kF bF pass0 (pa_cons (pe_call GJ hr1 (by rfl) mJ kJ bJ .nil pass0 (pa_cons (pv 0) (pa_cons (pv 1) pa_nil))) pa_nil))) pa_nil))), ?_⟩
    have bnd : ∀ m : Nat, m ≤ 63 → (if (if ((m : Int) < 6) then (m : Int) else 6) > 1 then (if ((m : Int) < 6) then (m : Int) else 6) else 1 : Int) ≤ 6 ∧ 1 ≤ (if (if ((m : Int) < 6) then (m : Int) else 6) > 1 then (if ((m : Int) < 6) then (m : Int) else 6) else 1 : Int) := by
      intro m hm
      split <;> split <;> omega
    have bb := bnd (ns.map V.int).length (by rw [List.length_map]; exact hl)
    refine ⟨_, rfl, a, _, rfl, .inl hS, _, _, rfl, _, _, rfl, _, rfl, by omega, by omega, ?_⟩
    generalize (if (if (((ns.map V.int).length : Int) < 6) then ((ns.map V.int).length : Int) else 6) > 1 then (if (((ns.map V.int).length : Int) < 6) then ((ns.map V.int).length : Int) else 6) else 1 : Int) = m at bb ⊢
    intro D nD
    refine lc_range (lo := 0) (n := m.toNat) (fun i H' => Same H H' ∧ H' D = some (.lst ((List.replicate i true).map V.bl))) ⟨same_upd nD, upd_same⟩ ?_ ?_
    · rintro i H1 hi ⟨s1, h1⟩
      refine ⟨rfl, ?_⟩
      unfold tYes
      refine iteT ?_
      refine ⟨_, rfl, _, rfl, a, ns, _, rfl, s1.seq hS, by omega, by omega, fun p H2 s2 np jj => ⟨p, rfl, jj, fun H3 c3 => ?_⟩⟩
      have nDp : D ≠ p := ne_of_none h1 np
      refine ⟨_, c3 _ _ (s2 _ _ h1) nDp, ?_, fun b u e => ?_, ?_⟩
      · rw [List.length_map, List.length_replicate]
        exact Nat.lt_of_lt_of_le hi (Nat.le_trans (show m.toNat ≤ 6 by omega) (by decide))
      · have e1 := s1 _ _ e
        rw [upd_ne (ne_of_none e nD)]
        exact c3 _ _ (s2 _ _ e1) (ne_of_none e1 np)
      · rw [upd_same, List.replicate_succ', List.map_append]
        rfl
    · rintro H1 ⟨s1, h1⟩
      refine ⟨D, List.replicate m.toNat true, rfl, SqL.of h1, ?_⟩
      rw [show (List.replicate m.toNat true).all id = true by simp]
      exact q H1
end
end Am
namespace Am
open PySem PySem.Spec PyProof.Rows L2
/-- a def of the module as the head writes it -/
def FactF (K : PySem.W.Frag) (x : Str) (st : Stmt) : Prop := ∃ (f : Addr) (oc : Value) (od : Option Addr) (kV dc pm : Value) (an : Option Addr) (cd ct : Value) (sl : Array (Option Value)),
  PySem.W.nsIn K mainGlobals x = some (some (.ref f)) ∧ K.lookup f = some ⟨oc, od, .func (PySem.W.fnOf x x (defArgs st) (defBody st) (defScope st) .none kV dc pm an cd ct), sl⟩ ∧ PySem.W.codeIn K cd x = true ∧ PySem.W.keepIn K (.ref f) = true
theorem mkF {K : PySem.W.Frag} {x : Str} {st : Stmt} {f : Addr} {oc : Value} {od : Option Addr} {kV dc pm : Value} {an : Option Addr} {cd ct : Value} {sl : Array (Option Value)}
    (a : PySem.W.nsIn K mainGlobals x = some (some (.ref f))) (l : K.lookup f = some ⟨oc, od, .func (PySem.W.fnOf x x (defArgs st) (defBody st) (defScope st) .none kV dc pm an cd ct), sl⟩) (c : PySem.W.codeIn K cd x = true) (k : PySem.W.keepIn K (.ref f) = true) : FactF K x st :=
  ⟨f, oc, od, kV, dc, pm, an, cd, ct, sl, a, l, c, k⟩
/-- a method of the class -/
def FactM (K : PySem.W.Frag) (C : Addr) (x q : Str) (st : Stmt) : Prop := ∃ (f : Addr) (oc : Value) (od : Option Addr) (kV dc pm : Value) (an : Option Addr) (cd ct : Value) (sl : Array (Option Value)),
  PySem.W.findIn K (.ref C) x = some (some (.ref f)) ∧ PySem.W.isFn K (.ref f) = true ∧ K.lookup f = some ⟨oc, od, .func (PySem.W.fnOf x q (defArgs st) (defBody st) (defScope st) .none kV dc pm an cd ct), sl⟩ ∧ PySem.W.codeIn K cd q = true ∧ PySem.W.keepIn K (.ref f) = true
theorem mkM {K : PySem.W.Frag} {C : Addr} {x q : Str} {st : Stmt} {f : Addr} {oc : Value} {od : Option Addr} {kV dc pm : Value} {an : Option Addr} {cd ct : Value} {sl : Array (Option Value)}
    (a : PySem.W.findIn K (.ref C) x = some (some (.ref f))) (i : PySem.W.isFn K (.ref f) = true) (l : K.lookup f = some ⟨oc, od, .func (PySem.W.fnOf x q (defArgs st) (defBody st) (defScope st) .none kV dc pm an cd ct), sl⟩) (c : PySem.W.codeIn K cd q = true)
    (k : PySem.W.keepIn K (.ref f) = true) : FactM K C x q st := ⟨f, oc, od, kV, dc, pm, an, cd, ct, sl, a, i, l, c, k⟩
/-- the class's __init__, with its default -/
def FactI (K : PySem.W.Frag) (C : Addr) : Prop := ∃ (f T : Addr) (oc : Value) (od : Option Addr) (kV dc pm : Value) (an : Option Addr) (cd ct : Value) (sl : Array (Option Value)) (o : Obj) (n : Nat) (t : Nat),
  PySem.W.findIn K (.ref C) "__init__" = some (some (.ref f)) ∧ PySem.W.isFn K (.ref f) = true ∧ K.lookup f = some ⟨oc, od, .func (PySem.W.fnOf "__init__" "Amount.__init__" (defArgs sInit) (defBody sInit) (defScope sInit) (.ref T) kV dc pm an cd ct), sl⟩ ∧ PySem.W.codeIn K cd "Amount.__init__" = true ∧
  PySem.W.keepIn K (.ref f) = true ∧ K.lookup T = some o ∧ o.data = .seq [Value.int 1 t].toArray n
theorem mkI {K : PySem.W.Frag} {C f T : Addr} {oc : Value} {od : Option Addr} {kV dc pm : Value} {an : Option Addr} {cd ct : Value} {sl : Array (Option Value)} {o : Obj} {n t : Nat}
    (a : PySem.W.findIn K (.ref C) "__init__" = some (some (.ref f))) (i : PySem.W.isFn K (.ref f) = true) (l : K.lookup f = some ⟨oc, od, .func (PySem.W.fnOf "__init__" "Amount.__init__" (defArgs sInit) (defBody sInit) (defScope sInit) (.ref T) kV dc pm an cd ct), sl⟩)
    (c : PySem.W.codeIn K cd "Amount.__init__" = true) (k : PySem.W.keepIn K (.ref f) = true) (d : K.lookup T = some o) (e : o.data = .seq [Value.int 1 t].toArray n) : FactI K C := ⟨f, T, oc, od, kV, dc, pm, an, cd, ct, sl, o, n, t, a, i, l, c, k, d, e⟩
structure FactC (K : PySem.W.Frag) (C : Addr) : Prop where
  pg : PySem.W.plainGet K C Str.empty = true
  hd : PySem.W.hasDictIn K C = true
  po : PySem.W.plainOver K C = true
  sa : PySem.W.findIn K (.ref C) "__setattr__" = some (some (.builtin "object.__setattr__"))
  mkk : PySem.W.makesIn K C = true
  kc : PySem.W.keepIn K (.ref C) = true
  sf : PySem.W.selfFirst K C = true
  ne : PySem.W.findIn K (.ref C) "__ne__" = some (some (.builtin "object.__ne__"))
  ob : PySem.W.mroIn K C (.type "object") = some true
  ca : PySem.W.findIn K (.ref C) "__class__" = some (some (.builtin "object.__class__"))
  cn : PySem.W.specialIn K (.builtin "object.__class__") "__get__" = some (some (.builtin "getset_descriptor.__get__"))
  ct : PySem.W.takesIn K (.builtin "object.__class__") = some true
  nN : PySem.W.findIn K (.ref C) "number" = some none
  nU : PySem.W.findIn K (.ref C) "under" = some none
structure FactT (K : PySem.W.Frag) (C : Addr) : Prop where
  s1 : PySem.W.subIn K (.ref C) (.type "int") = some false
  r1 : PySem.W.subIn K (.type "int") (.ref C) = some false
  k1 : PySem.W.kitOne K (.type "int") (.ref C) = some false
  s2 : PySem.W.subIn K (.ref C) (.type "bool") = some false
  r2 : PySem.W.subIn K (.type "bool") (.ref C) = some false
  k2 : PySem.W.kitOne K (.type "bool") (.ref C) = some false
  s3 : PySem.W.subIn K (.ref C) (.type "NoneType") = some false
  r3 : PySem.W.subIn K (.type "NoneType") (.ref C) = some false
  k3 : PySem.W.kitOne K (.type "NoneType") (.ref C) = some false
  s4 : PySem.W.subIn K (.ref C) (.type "str") = some false
  r4 : PySem.W.subIn K (.type "str") (.ref C) = some false
  k4 : PySem.W.kitOne K (.type "str") (.ref C) = some false
  s5 : PySem.W.subIn K (.ref C) (.type "list") = some false
  r5 : PySem.W.subIn K (.type "list") (.ref C) = some false
  k5 : PySem.W.kitOne K (.type "list") (.ref C) = some false
  s6 : PySem.W.subIn K (.ref C) (.type "tuple") = some false
  r6 : PySem.W.subIn K (.type "tuple") (.ref C) = some false
  k6 : PySem.W.kitOne K (.type "tuple") (.ref C) = some false
  s7 : PySem.W.subIn K (.ref C) (.type "dict") = some false
  r7 : PySem.W.subIn K (.type "dict") (.ref C) = some false
  k7 : PySem.W.kitOne K (.type "dict") (.ref C) = some false
  kC : PySem.W.kitOne K (.ref C) (.ref C) = some true
  kI : PySem.W.kitOne K (.ref C) (.type "int") = some false
def FactO (K : PySem.W.Frag) (C : Addr) (nm : String) : Prop := ∃ (fo ro : Option Value) (g : Addr), PySem.W.findIn K (.type "int") (PySem.dunder nm) = some fo ∧ PySem.W.findIn K (.type "int") (PySem.dunderR nm) = some ro ∧ PySem.W.findIn K (.ref C) (PySem.dunderR nm) = some (some (.ref g))
theorem mkO {K : PySem.W.Frag} {C : Addr} {nm : String} {fo ro : Option Value} {g : Addr} (a : PySem.W.findIn K (.type "int") (PySem.dunder nm) = some fo) (b : PySem.W.findIn K (.type "int") (PySem.dunderR nm) = some ro) (c : PySem.W.findIn K (.ref C) (PySem.dunderR nm) = some (some (.ref g))) : FactO K C nm := ⟨fo, ro, g, a, b, c⟩
def Nones (K : PySem.W.Frag) : Prop := PySem.W.nsIn K mainGlobals "isinstance" = some none ∧ PySem.W.nsIn K mainGlobals "int" = some none ∧ PySem.W.nsIn K mainGlobals "bool" = some none ∧ PySem.W.nsIn K mainGlobals "len" = some none ∧ PySem.W.nsIn K mainGlobals "abs" = some none ∧ PySem.W.nsIn K mainGlobals "max" = some none ∧ PySem.W.nsIn K mainGlobals "min" = some none ∧ PySem.W.nsIn K mainGlobals "range" = some none ∧ PySem.W.nsIn K mainGlobals "all" = some none ∧ PySem.W.nsIn K mainGlobals "repr" = some none ∧ PySem.W.nsIn K mainGlobals "str" = some none ∧ PySem.W.nsIn K mainGlobals "divmod" = some none
theorem FactF.fun {K : PySem.W.Frag} {h : Heap} {mg : Str → Option Value} {x : Str} {st : Stmt} (X : K.In h) (G : h.Ns mainGlobals mg) (F : FactF K x st) : ∃ f fd, Fun K x x st f fd ∧ mg x = some (.ref f) ∧ PySem.W.keepIn K (.ref f) = true := by
  obtain ⟨f, oc, od, kV, dc, pm, an, cd, ct, sl, a, l, c, k⟩ := F
  exact ⟨f, _, fun_mk l c k, PySem.W.mg_of X G a, k⟩
theorem FactM.fun {K : PySem.W.Frag} {C : Addr} {x q : Str} {st : Stmt} (F : FactM K C x q st) : ∃ f fd, Fun K x q st f fd ∧ PySem.W.findIn K (.ref C) x = some (some (.ref f)) ∧ PySem.W.isFn K (.ref f) = true := by
  obtain ⟨f, oc, od, kV, dc, pm, an, cd, ct, sl, a, i, l, c, k⟩ := F
  exact ⟨f, _, fun_mk l c k, a, i⟩
theorem gotI {P : Program} {w : World} {K : PySem.W.Frag} {mg : Str → Option Value} {base : Heap} {C : Addr} (F : FactI K C) (T : Txt K mg C) (mk : PySem.W.makesIn K C = true) (kc : PySem.W.keepIn K (.ref C) = true) (GW : GotF P w K mg base "is_whole" 1 ["value"] (spWhole C)) : GotI P w K mg base C := by
  obtain ⟨f, Td, oc, od, kV, dc, pm, an, cd, ct, sl, o, n, t, a, i, l, c, k, d, e⟩ := F
  obtain ⟨fW, dW, GW, bW, mW, kW⟩ := GW
  have FD : FInit K f (PySem.W.fnOf "__init__" "Amount.__init__" (defArgs sInit) (defBody sInit) (defScope sInit) (.ref Td) kV dc pm an cd ct) :=
    ⟨⟨oc, od, .ref Td, kV, dc, pm, an, cd, ct, sl, rfl, l, c, .inr ⟨by simp, Td, o, [Value.int 1 t], n, rfl, d, e, .cons ⟨t, rfl⟩ .nil⟩, .inl rfl⟩, k⟩
  obtain ⟨d3, v3, b3⟩ := FD.binds1 (ps := ["self", "number", "under"]) 3 1 (by simp) rfl (fun T kV doc pm an cdv ct us its h1 h2 => by
    match us, its, h1, h2 with
    | [_, _, _], [_], _, _ => exact ⟨_, rfl, rfl⟩)
  obtain ⟨d2, v2, b2⟩ := FD.binds1 (ps := ["self", "number", "under"]) 2 0 (by simp) rfl (fun T kV doc pm an cdv ct us its h1 h2 => by
    match us, its, h1, h2 with
    | [_, _], [_], _, _ => exact ⟨_, rfl, rfl⟩)
  cases v3
  exact ⟨f, _, ok_init FD T GW bW mW kW, b3, ⟨d2, v2, b2⟩, ⟨mk, a, i, kc⟩⟩
/-- an error class of the text, its __init__ taken over -/
def FactX (K : PySem.W.Frag) (x : Str) (D : Addr) : Prop := ∃ (nm q : Str) (N : Addr) (bs bm : List Value) (sn : List Str) (sub : List Value) (ab : Bool) (col : Option Bool) (dd : Option Addr) (k0 k1 k2 k3 k5 : Option Value),
  PySem.W.nsIn K mainGlobals x = some (some (.ref D)) ∧ K.lookup D = some (excClassObj nm q D N bs bm true sn sub ab col dd k0 k1 k2 k3 k5 "ValueError.__new__") ∧ PySem.HandSPX.refsVE bm = true
theorem mkX {K : PySem.W.Frag} {x : Str} {D : Addr} {nm q : Str} {N : Addr} {bs bm : List Value} {sn : List Str} {sub : List Value} {ab : Bool} {col : Option Bool} {dd : Option Addr} {k0 k1 k2 k3 k5 : Option Value}
    (a : PySem.W.nsIn K mainGlobals x = some (some (.ref D))) (l : K.lookup D = some (excClassObj nm q D N bs bm true sn sub ab col dd k0 k1 k2 k3 k5 "ValueError.__new__")) (r : PySem.HandSPX.refsVE bm = true) : FactX K x D := ⟨nm, q, N, bs, bm, sn, sub, ab, col, dd, k0, k1, k2, k3, k5, a, l, r⟩
structure FactY (K : PySem.W.Frag) (D : Addr) : Prop where
  sa : PySem.W.findIn K (.ref D) "__setattr__" = some (some (.builtin "object.__setattr__"))
  exC : PySem.W.subIn K (.ref D) (.type "BaseException") = some true
  tyC : PySem.W.typeIn K (.ref D) = some (.type "type")
  kC : PySem.W.keepIn K (.ref D) = true
  nv : PySem.W.findIn K (.ref D) "value" = some none
  ga : PySem.W.findIn K (.ref D) "__getattribute__" = some (some (.builtin "BaseException.__getattribute__"))
  gg : PySem.W.findIn K (.ref D) "__getattr__" = some none
  hdC : PySem.W.hasDictIn K D = true
  iC : PySem.W.isClsIn K D = true
  sC : PySem.W.subIn K (.ref D) (.ref D) = some true
/-- the class's __init__, taken over from the base -/
def FactE (K : PySem.W.Frag) (D : Addr) : Prop := ∃ (f : Addr) (oc : Value) (od : Option Addr) (kV dc pm : Value) (an : Option Addr) (cd ct : Value) (sl : Array (Option Value)),
  PySem.W.findIn K (.ref D) "__init__" = some (some (.ref f)) ∧ PySem.W.typeIn K (.ref f) = some (.type "function") ∧ K.lookup f = some ⟨oc, od, .func (PySem.W.fnOf "__init__" "MeterError.__init__" (defArgs sInitE) (defBody sInitE) (defScope sInitE) .none kV dc pm an cd ct), sl⟩ ∧ PySem.W.codeIn K cd "MeterError.__init__" = true ∧ PySem.W.keepIn K (.ref f) = true
theorem mkE {K : PySem.W.Frag} {D f : Addr} {oc : Value} {od : Option Addr} {kV dc pm : Value} {an : Option Addr} {cd ct : Value} {sl : Array (Option Value)}
    (a : PySem.W.findIn K (.ref D) "__init__" = some (some (.ref f))) (i : PySem.W.typeIn K (.ref f) = some (.type "function")) (l : K.lookup f = some ⟨oc, od, .func (PySem.W.fnOf "__init__" "MeterError.__init__" (defArgs sInitE) (defBody sInitE) (defScope sInitE) .none kV dc pm an cd ct), sl⟩)
    (c : PySem.W.codeIn K cd "MeterError.__init__" = true) (k : PySem.W.keepIn K (.ref f) = true) : FactE K D := ⟨f, oc, od, kV, dc, pm, an, cd, ct, sl, a, i, l, c, k⟩
def FactB (K : PySem.W.Frag) : Prop := ∃ (i : Int) (t : Nat), PySem.W.nsIn K mainGlobals "BLOCK" = some (some (.int i t)) ∧ i = 10 ^ 60
theorem mkB {K : PySem.W.Frag} {i : Int} {t : Nat} (a : PySem.W.nsIn K mainGlobals "BLOCK" = some (some (.int i t))) (e : i = 10 ^ 60) : FactB K := ⟨i, t, a, e⟩
theorem exm_self {K : PySem.W.Frag} {S : Addr} (h1 : PySem.W.subIn K (.ref S) (.type "BaseException") = some true) (h2 : PySem.W.isClsIn K S = true) (h3 : PySem.W.typeIn K (.ref S) = some (.type "type")) (h4 : PySem.W.subIn K (.ref S) (.ref S) = some true) :
    PySem.W.exmOne K (.ref S) (.ref S) = some true := by
  have e1 : (PySem.W.subIn K (.ref S) (.type "BaseException") == some true) = true := by rw [h1] <;> rfl
  have e2 : ((PySem.W.clsIn K S).isSome && PySem.W.typeIn K (.ref S) == some (.type "type")) = true := by
    have h2' : (PySem.W.clsIn K S).isSome = true := h2
    rw [h2', h3] <;> rfl
  show (if (PySem.W.subIn K (.ref S) (.type "BaseException") == some true) = true then (if ((PySem.W.clsIn K S).isSome && PySem.W.typeIn K (.ref S) == some (.type "type")) = true then PySem.W.subIn K (.ref S) (.ref S) else none) else none) = some true
  rw [if_pos e1, if_pos e2]
  exact h4
theorem gotErr {K : PySem.W.Frag} {h : Heap} {mg : Str → Option Value} {x : Str} {D : Addr} (X : K.In h) (G : h.Ns mainGlobals mg) (F : FactX K x D) (Y : FactY K D) (E : FactE K D) :
    ∃ f fd, Err K mg x D f ∧ Fun K "__init__" "MeterError.__init__" sInitE f fd := by
  obtain ⟨nm, q, N, bs, bm, sn, sub, ab, col, dd, k0, k1, k2, k3, k5, a, l, r⟩ := F
  obtain ⟨f, oc, od, kV, dc, pm, an, cd, ct, sl, e1, e2, e3, e4, e5⟩ := E
  exact ⟨f, _, ⟨⟨⟨nm, q, N, bs, bm, sn, sub, ab, col, dd, k0, k1, k2, k3, k5, l, r⟩, Y.sa, Y.exC, Y.tyC, Y.kC⟩, e1, e2, PySem.W.mg_of X G a, Y.nv, ⟨Y.ga, Y.gg, Y.exC, Y.hdC⟩, exm_self Y.exC Y.iC Y.tyC Y.sC⟩, fun_mk e3 e4 e5⟩
theorem exm_of {K : PySem.W.Frag} {D M : Addr} (h1 : PySem.W.subIn K (.ref M) (.type "BaseException") = some true) (h2 : PySem.W.isClsIn K M = true) (h3 : PySem.W.typeIn K (.ref M) = some (.type "type")) (h4 : PySem.W.subIn K (.ref D) (.ref M) = some true) :
    PySem.W.exmOne K (.ref D) (.ref M) = some true := by
  have e1 : (PySem.W.subIn K (.ref M) (.type "BaseException") == some true) = true := by rw [h1] <;> rfl
  have e2 : ((PySem.W.clsIn K M).isSome && PySem.W.typeIn K (.ref M) == some (.type "type")) = true := by
    have h2' : (PySem.W.clsIn K M).isSome = true := h2
    rw [h2', h3] <;> rfl
  show (if (PySem.W.subIn K (.ref M) (.type "BaseException") == some true) = true then (if ((PySem.W.clsIn K M).isSome && PySem.W.typeIn K (.ref M) == some (.type "type")) = true then PySem.W.subIn K (.ref D) (.ref M) else none) else none) = some true
  rw [if_pos e1, if_pos e2]
  exact h4
/-- the base of the error classes, and the error class by it -/
structure FactZ (K : PySem.W.Frag) (D M : Addr) : Prop where
  a : PySem.W.nsIn K mainGlobals "MeterError" = some (some (.ref M))
  exM : PySem.W.subIn K (.ref M) (.type "BaseException") = some true
  iM : PySem.W.isClsIn K M = true
  tM : PySem.W.typeIn K (.ref M) = some (.type "type")
  sDM : PySem.W.subIn K (.ref D) (.ref M) = some true
  ca : PySem.W.findIn K (.ref D) "__class__" = some (some (.builtin "object.__class__"))
  cn : PySem.W.specialIn K (.builtin "object.__class__") "__get__" = some (some (.builtin "getset_descriptor.__get__"))
  ct : PySem.W.takesIn K (.builtin "object.__class__") = some true
  ob : PySem.W.mroIn K D (.type "object") = some true
  kD : PySem.W.kitOne K (.ref D) (.ref D) = some true
/-- a function that a record of the class holds -/
def FactG (K : PySem.W.Frag) (x q : Str) (st : Stmt) (g : Addr) : Prop := ∃ (oc : Value) (od : Option Addr) (kV dc pm : Value) (an : Option Addr) (cd ct : Value) (sl : Array (Option Value)),
  K.lookup g = some ⟨oc, od, .func (PySem.W.fnOf x q (defArgs st) (defBody st) (defScope st) .none kV dc pm an cd ct), sl⟩ ∧ PySem.W.codeIn K cd q = true ∧ PySem.W.keepIn K (.ref g) = true
theorem FactG.fun {K : PySem.W.Frag} {x q : Str} {st : Stmt} {g : Addr} (F : FactG K x q st g) : ∃ fd, Fun K x q st g fd := by
  obtain ⟨oc, od, kV, dc, pm, an, cd, ct, sl, l, c, k⟩ := F
  exact ⟨_, fun_mk l c k⟩
/-- the property and the static method -/
structure FactPr (K : PySem.W.Frag) (C p g : Addr) : Prop where
  po : PropOf K C "text" p g
  fn : FactG K "text" "Amount.text" sText g
theorem mkPr {K : PySem.W.Frag} {C p g : Addr} {rest : List Value} {oc : Value} {od : Option Addr} {kV dc pm : Value} {an : Option Addr} {cd ct : Value} {sl : Array (Option Value)} (a : PySem.W.findIn K (.ref C) "text" = some (some (.ref p))) (b : PySem.W.specialIn K (.ref p) "__get__" = some (some (.builtin "property.__get__")))
    (c : PySem.W.takesIn K (.ref p) = some true) (d : PySem.W.recIn K p "property" = some (.ref g :: rest)) (l : K.lookup g = some ⟨oc, od, .func (PySem.W.fnOf "text" "Amount.text" (defArgs sText) (defBody sText) (defScope sText) .none kV dc pm an cd ct), sl⟩) (e : PySem.W.codeIn K cd "Amount.text" = true) (k : PySem.W.keepIn K (.ref g) = true) : FactPr K C p g :=
  ⟨⟨a, b, c, ⟨rest, d⟩⟩, ⟨oc, od, kV, dc, pm, an, cd, ct, sl, l, e, k⟩⟩
structure FactSt (K : PySem.W.Frag) (C : Addr) (mc : Value) (p g : Addr) : Prop where
  rd : ClX.CRead K C mc
  sm : Sm.SMet K C mc "of" p g
  fn : FactG K "of" "Amount.of" sOfA g
theorem mkSt {K : PySem.W.Frag} {C p g : Addr} {mc : Value} {rest : List Value} {oc : Value} {od : Option Addr} {kV dc pm : Value} {an : Option Addr} {cd ct : Value} {sl : Array (Option Value)} (t : PySem.W.typeIn K (.ref C) = some mc) (r : PySem.W.readsIn K C mc = true) (ga : PySem.W.specialIn K (.ref C) "__getattribute__" = some (some (.builtin "type.__getattribute__")))
    (a : PySem.W.findCls K (.ref C) mc "of" = some (.get (.builtin "staticmethod.__get__") (.ref p) .none (.ref C))) (d : PySem.W.recIn K p "staticmethod" = some (.ref g :: rest)) (l : K.lookup g = some ⟨oc, od, .func (PySem.W.fnOf "of" "Amount.of" (defArgs sOfA) (defBody sOfA) (defScope sOfA) .none kV dc pm an cd ct), sl⟩) (e : PySem.W.codeIn K cd "Amount.of" = true) (k : PySem.W.keepIn K (.ref g) = true) : FactSt K C mc p g :=
  ⟨⟨r, ga⟩, ⟨a, ⟨rest, d⟩, k⟩, ⟨oc, od, kV, dc, pm, an, cd, ct, sl, l, e, k⟩⟩
def FactW (K : PySem.W.Frag) : Prop := ∃ (i : Int) (t : Nat), PySem.W.nsIn K mainGlobals "WIDTH" = some (some (.int i t)) ∧ i = 60
theorem mkW {K : PySem.W.Frag} {i : Int} {t : Nat} (a : PySem.W.nsIn K mainGlobals "WIDTH" = some (some (.int i t))) (e : i = 60) : FactW K := ⟨i, t, a, e⟩
theorem law_ok {P : Program} {w : World} {K : PySem.W.Frag} {h : Heap} {mg : Str → Option Value} {fa C D M pP gP pS gS : Addr} {mc : Value} (X : K.In h) (G : h.Ns mainGlobals mg) (hfa : mg "law" = some (.ref fa)) (aC : PySem.W.nsIn K mainGlobals "Amount" = some (some (.ref C)))
    (aG : PySem.W.nsIn K mainGlobals "gcd" = some (some (.builtin "math.gcd"))) (N : Nones K) (FC : FactC K C) (FT : FactT K C) (FI : FactI K C) (OM : FactO K C "mul")
    (FX : FactX K "BadText" D) (FY : FactY K D) (FE : FactE K D) (FZ : FactZ K D M) (FB : FactB K) (FW : FactW K) (FP : FactPr K C pP gP) (FS : FactSt K C mc pS gS)
    (f0 : FactF K "is_whole" sWhole)
    (f1 : FactF K "decimal" sDec)
    (f2 : FactF K "is_amount" sIsAm)
    (f3 : FactF K "parts" sParts)
    (f4 : FactF K "figures" sFig)
    (f5 : FactF K "_law_jar" sJar)
    (f6 : FactF K "_law_take" sTake)
    (f7 : FactF K "_law_of" sOf)
    (f8 : FactF K "_law_frac" sFrac)
    (f9 : FactF K "_law_text_of" sTextOf)
    (f10 : FactF K "_law_number_of" sNumOf)
    (f11 : FactF K "_law_due" sDue)
    (f12 : FactF K "_law_spoilt_text" sSpoil)
    (f13 : FactF K "_law_is_read" sRead)
    (f14 : FactF K "_law_fine" sFine)
    (f15 : FactF K "law" sLaw)
    (m0 : FactM K C "__eq__" "Amount.__eq__" sEq)
    (m1 : FactM K C "__mul__" "Amount.__mul__" sMul)
    (m2 : FactM K C "__rmul__" "Amount.__rmul__" sRmul)
    (m3 : FactM K C "__repr__" "Amount.__repr__" sRep) :
    ∃ fd : FuncData, (∀ (s : Shared) (u : Value), BindsTo s fd ⟨[u], []⟩ [("_law_script", u)]) ∧ ∀ base : Heap, K.In base → base.Ns mainGlobals mg → base.NoDigits → Gu.FnG P w K mg base CX0 7 fa fd ["_law_script"] (spLaw K) := by
  obtain ⟨n1, n2, n3, n4, n5, n6, n7, n8, n9, n10, n11, n12⟩ := N
  have none_of : ∀ {x : Str}, PySem.W.nsIn K mainGlobals x = some none → mg x = none := fun e => PySem.W.mg_none_of X G e
  have T : Nm mg := ⟨none_of n4, none_of n5, none_of n2, none_of n6, none_of n7, none_of n8, none_of n9, none_of n10, none_of n1⟩
  have cl : Cls K C := ⟨FC.pg, FC.hd, FC.po, FC.sa⟩
  have op : OpC K C := ⟨FC.sf, FC.ne, FC.ob, FT.s1, FT.s2, FT.s3, FT.s4, FT.s5, FT.s6, FT.s7, FT.r1, FT.r2, FT.r3, FT.r4, FT.r5, FT.r6, FT.r7⟩
  have TC : Txt K mg C := ⟨cl, op, FC.ca, FC.cn, FC.ct, FT.kC, FT.kI, FT.k1, FT.k2, FT.k3, FT.k4, FT.k5, FT.k6, FT.k7, FC.nN, FC.nU, PySem.W.mg_of X G aC, none_of n1, none_of n2, none_of n3, PySem.W.mg_of X G aG⟩
  have mB : ∃ t, mg "BLOCK" = some (.int (10 ^ 60) t) := by
    obtain ⟨i, t, e, rfl⟩ := FB
    exact ⟨t, PySem.W.mg_of X G e⟩
  have mW : ∃ t, mg "WIDTH" = some (.int 60 t) := by
    obtain ⟨i, t, e, rfl⟩ := FW
    exact ⟨t, PySem.W.mg_of X G e⟩
  obtain ⟨fE, dE, TE, HE⟩ := gotErr X G FX FY FE
  have bE := HE.binds (ps := ["self", "value"]) fun _ _ _ _ _ _ us hl => match us, hl with | [_, _], _ => rfl
  have te := exm_of FZ.exM FZ.iM FZ.tM FZ.sDM
  have ec : ErrC K D := ⟨FY.iC, FZ.ca, FZ.cn, FZ.ct, FZ.ob⟩
  have mD := TE.gD
  have mM := PySem.W.mg_of X G FZ.a
  obtain ⟨om1, om2, om3, om4, om5, om6⟩ := OM
  have cM : OpIK K C "mul" := ⟨⟨_, om4⟩, ⟨_, om5⟩, ⟨_, om6⟩⟩
  obtain ⟨dP, HP⟩ := FP.fn.fun
  have bP := HP.binds (ps := ["self"]) fun _ _ _ _ _ _ us hl => match us, hl with | [_], _ => rfl
  obtain ⟨dS, HS⟩ := FS.fn.fun
  have bS := HS.binds (ps := ["text"]) fun _ _ _ _ _ _ us hl => match us, hl with | [_], _ => rfl
  obtain ⟨a0, d0, F0, g0, k0⟩ := f0.fun X G
  have b0 := F0.binds (ps := ["value"]) fun _ _ _ _ _ _ us hl => match us, hl with | [_], _ => rfl
  obtain ⟨a1, d1, F1, g1, k1⟩ := f1.fun X G
  have b1 := F1.binds (ps := ["word"]) fun _ _ _ _ _ _ us hl => match us, hl with | [_], _ => rfl
  obtain ⟨a2, d2, F2, g2, k2⟩ := f2.fun X G
  have b2 := F2.binds (ps := ["value"]) fun _ _ _ _ _ _ us hl => match us, hl with | [_], _ => rfl
  obtain ⟨a3, d3, F3, g3, k3⟩ := f3.fun X G
  have b3 := F3.binds (ps := ["amount"]) fun _ _ _ _ _ _ us hl => match us, hl with | [_], _ => rfl
  obtain ⟨a4, d4, F4, g4, k4⟩ := f4.fun X G
  have b4 := F4.binds (ps := ["number"]) fun _ _ _ _ _ _ us hl => match us, hl with | [_], _ => rfl
  obtain ⟨a5, d5, F5, g5, k5⟩ := f5.fun X G
  have b5 := F5.binds (ps := ["_law_script", "_law_k"]) fun _ _ _ _ _ _ us hl => match us, hl with | [_, _], _ => rfl
  obtain ⟨a6, d6, F6, g6, k6⟩ := f6.fun X G
  have b6 := F6.binds (ps := ["_law_jar_here", "_law_upto"]) fun _ _ _ _ _ _ us hl => match us, hl with | [_, _], _ => rfl
  obtain ⟨a7, d7, F7, g7, k7⟩ := f7.fun X G
  have b7 := F7.binds (ps := ["_law_jar_here", "_law_some"]) fun _ _ _ _ _ _ us hl => match us, hl with | [_, _], _ => rfl
  obtain ⟨a8, d8, F8, g8, k8⟩ := f8.fun X G
  have b8 := F8.binds (ps := ["_law_number", "_law_under"]) fun _ _ _ _ _ _ us hl => match us, hl with | [_, _], _ => rfl
  obtain ⟨a9, d9, F9, g9, k9⟩ := f9.fun X G
  have b9 := F9.binds (ps := ["_law_pair"]) fun _ _ _ _ _ _ us hl => match us, hl with | [_], _ => rfl
  obtain ⟨a10, d10, F10, g10, k10⟩ := f10.fun X G
  have b10 := F10.binds (ps := ["_law_text"]) fun _ _ _ _ _ _ us hl => match us, hl with | [_], _ => rfl
  obtain ⟨a11, d11, F11, g11, k11⟩ := f11.fun X G
  have b11 := F11.binds (ps := ["_law_text"]) fun _ _ _ _ _ _ us hl => match us, hl with | [_], _ => rfl
  obtain ⟨a12, d12, F12, g12, k12⟩ := f12.fun X G
  have b12 := F12.binds (ps := ["_law_jar_here", "_law_text"]) fun _ _ _ _ _ _ us hl => match us, hl with | [_, _], _ => rfl
  obtain ⟨a13, d13, F13, g13, k13⟩ := f13.fun X G
  have b13 := F13.binds (ps := ["_law_text"]) fun _ _ _ _ _ _ us hl => match us, hl with | [_], _ => rfl
  obtain ⟨a14, d14, F14, g14, k14⟩ := f14.fun X G
  have b14 := F14.binds (ps := ["_law_jar_here"]) fun _ _ _ _ _ _ us hl => match us, hl with | [_], _ => rfl
  obtain ⟨a15, d15, F15, g15, k15⟩ := f15.fun X G
  have b15 := F15.binds (ps := ["_law_script"]) fun _ _ _ _ _ _ us hl => match us, hl with | [_], _ => rfl
  obtain ⟨p0, q0, M0, h0, i0⟩ := m0.fun
  have c0 := M0.binds (ps := ["self", "other"]) fun _ _ _ _ _ _ us hl => match us, hl with | [_, _], _ => rfl
  obtain ⟨p1, q1, M1, h1, i1⟩ := m1.fun
  have c1 := M1.binds (ps := ["self", "other"]) fun _ _ _ _ _ _ us hl => match us, hl with | [_, _], _ => rfl
  obtain ⟨p2, q2, M2, h2, i2⟩ := m2.fun
  have c2 := M2.binds (ps := ["self", "other"]) fun _ _ _ _ _ _ us hl => match us, hl with | [_, _], _ => rfl
  obtain ⟨p3, q3, M3, h3, i3⟩ := m3.fun
  have c3 := M3.binds (ps := ["self"]) fun _ _ _ _ _ _ us hl => match us, hl with | [_], _ => rfl
  have e := hfa.symm.trans g15
  cases e
  refine ⟨d15, fun s u => ?_, fun base _ _ nd => ?_⟩
  · obtain ⟨oc, od, kV, doc, pm, an, cdv, ct, osl, rfl, lk, hcd⟩ := F15.ex
    exact .of_eq rfl
  have GWh : GotF P w K mg base "is_whole" 1 ["value"] (spWhole C) := ⟨a0, d0, ok_whole F0 TC, b0, g0, k0⟩
  have GI : GotI P w K mg base C := gotI FI TC FC.mkk FC.kc GWh
  obtain ⟨_, _, GW, bW, mWh, kW⟩ := id GWh
  have GA : GotF P w K mg base "is_amount" 2 ["value"] (spIsAm C) := ⟨a2, d2, ok_isAm F2 TC GW bW mWh kW, b2, g2, k2⟩
  have GPa : GotF P w K mg base "parts" 1 ["amount"] (spParts C) := ⟨a3, d3, ok_parts F3 TC, b3, g3, k3⟩
  have GD : GotF P w K mg base "decimal" 1 ["word"] spDec := ⟨a1, d1, ok_dec F1 (none_of n2) nd, b1, g1, k1⟩
  have GFg : GotF P w K mg base "figures" 1 ["number"] spFig := ⟨a4, d4, ok_fig F4 T.abs mB, b4, g4, k4⟩
  have GFb : GotF P w K mg base "figures" 1 ["number"] spFigB := ⟨a4, d4, ok_figB F4 T.abs (none_of n12) (none_of n11) mB mW, b4, g4, k4⟩
  have Grep : GotM P w K mg base C "__repr__" 2 ["self"] (Rt.spRep (RA C)) := ⟨p3, q3, ok_rep M3 TC GFg, c3, h3, i3⟩
  have Gmul : GotM P w K mg base C "__mul__" 4 ["self", "other"] (spMul C) := ⟨p1, q1, ok_mul M1 TC GI GA GPa, c1, h1, i1⟩
  have Grmul : GotM P w K mg base C "__rmul__" 5 ["self", "other"] (spMul C) := ⟨p2, q2, ok_rmul M2 TC GA Gmul cM, c2, h2, i2⟩
  have Geq : GotM P w K mg base C "__eq__" 3 ["self", "other"] (spEq C) := ⟨p0, q0, ok_eq M0 TC GA GPa, c0, h0, i0⟩
  have GE : FnOk P w K mg base CX0 1 fE dE ["self", "value"] (spInitE K) := ok_initE HE
  have GTx : GotP P w K mg base C "text" 2 (spText C) := ⟨pP, gP, dP, FP.po, ok_text HP TC GFb, bP⟩
  have GS : GotS P w K mg base C D := ⟨mc, pS, gS, dS, FS.rd, FS.sm, ok_ofA HS TC (none_of n11) GI GD GTx TE GE bE, bS⟩
  have GJ : GotF P w K mg base "_law_jar" 1 ["_law_script", "_law_k"] (spJar K) := ⟨a5, d5, ok_jar F5 T, b5, g5, k5⟩
  have GT : GotF P w K mg base "_law_take" 1 ["_law_jar_here", "_law_upto"] spTake := ⟨a6, d6, ok_take F6 T, b6, g6, k6⟩
  have GO : GotF P w K mg base "_law_of" 2 ["_law_jar_here", "_law_some"] spOf := ⟨a7, d7, ok_of F7 T GT, b7, g7, k7⟩
  have GFr : GotF P w K mg base "_law_frac" 1 ["_law_number", "_law_under"] spFrac := ⟨a8, d8, ok_frac F8 T, b8, g8, k8⟩
  have GTo : GotF P w K mg base "_law_text_of" 1 ["_law_pair"] spTextOf := ⟨a9, d9, ok_textOf F9 (none_of n11) nd, b9, g9, k9⟩
  have GNo : GotF P w K mg base "_law_number_of" 1 ["_law_text"] spNumOf := ⟨a10, d10, ok_numOf F10 T nd, b10, g10, k10⟩
  have GDu : GotF P w K mg base "_law_due" 2 ["_law_text"] (spDue C) := ⟨a11, d11, ok_due F11 T TC (none_of n11) GNo GFr GTo, b11, g11, k11⟩
  have GSp : GotF P w K mg base "_law_spoilt_text" 3 ["_law_jar_here", "_law_text"] spSpoil := ⟨a12, d12, ok_spoil F12 T GT GO, b12, g12, k12⟩
  have GRd : GotG P w K mg base "_law_is_read" 5 ["_law_text"] (spRead K C) := ⟨a13, d13, ok_read F13 T TC GDu GS Grep mM mD te TE.xf ec TE.nv FZ.kD nd, b13, g13, k13⟩
  have GFi : GotG P w K mg base "_law_fine" 6 ["_law_jar_here"] spFine := ⟨a14, d14, ok_fine F14 T TC GI GT GO GTo GSp GRd GS GTx Gmul Grmul cM Geq Grep, b14, g14, k14⟩
  exact ok_law F15 T GJ GFi
end Am
open PySem PySem.W PyProof.Rows in
set_option maxRecDepth 100000 in
set_option maxHeartbeats 0 in
theorem PySem.Challenge.cw_whoseuse_k04_texts_of_amounts_holds : PySem.Challenge.rw_whoseuse_k04_texts_of_amounts.Holds := by
  w_on; o_law; k_head; (case hw => w_witness2)
  k_fill
  refine Gu.walkGN (n := 63) (k := 7) (x := "_law_script") (sp := Am.spLaw) rfl (by decide) rfl ⟨rfl, by decide, by decide⟩ (fun w h Y => by first | exact PySem.W.kIn_of Y | exact PySem.W.km_in_of Y) ?F (fun K H a ns hl hS => ⟨a, ns, rfl, hS, hl, fun _ => rfl⟩)
  case F =>
    intro w mg fa h KX G hmg
    refine' Am.law_ok KX G hmg ?zzaC ?zzaG ?zzN ?zzFC ?zzFT ?zzFI ?zzOM ?zzFX ?zzFY ?zzFE ?zzFZ ?zzFB ?zzFW ?zzFP ?zzFS ?zzf0 ?zzf1 ?zzf2 ?zzf3 ?zzf4 ?zzf5 ?zzf6 ?zzf7 ?zzf8 ?zzf9 ?zzf10 ?zzf11 ?zzf12 ?zzf13 ?zzf14 ?zzf15 ?zzm0 ?zzm1 ?zzm2 ?zzm3
    (case zzaC => k_is)
    (case zzaG => k_is)
    (case zzN => refine' ⟨?zzn0_1, ?zzn1_1, ?zzn2_1, ?zzn3_1, ?zzn4_1, ?zzn5_1, ?zzn6_1, ?zzn7_1, ?zzn8_1, ?zzn9_1, ?zzn10_1, ?zzn11_1⟩; (case zzn0_1 => k_is); (case zzn1_1 => k_is); (case zzn2_1 => k_is); (case zzn3_1 => k_is); (case zzn4_1 => k_is); (case zzn5_1 => k_is); (case zzn6_1 => k_is); (case zzn7_1 => k_is); (case zzn8_1 => k_is); (case zzn9_1 => k_is); (case zzn10_1 => k_is); (case zzn11_1 => k_is))
    (case zzFC => refine' ⟨?zzpg_2, ?zzhd_2, ?zzpo_2, ?zzsa_2, ?zzmkk_2, ?zzkc_2, ?zzsf_2, ?zzne_2, ?zzob_2, ?zzca_2, ?zzcn_2, ?zzct_2, ?zznN_2, ?zznU_2⟩; (case zzpg_2 => k_is); (case zzhd_2 => k_is); (case zzpo_2 => k_is); (case zzsa_2 => k_is); (case zzmkk_2 => k_is); (case zzkc_2 => k_is); (case zzsf_2 => k_is); (case zzne_2 => k_is); (case zzob_2 => k_is); (case zzca_2 => k_is); (case zzcn_2 => k_is); (case zzct_2 => k_is); (case zznN_2 => k_is); (case zznU_2 => k_is))
    (case zzFT => refine' ⟨?zzs1_3, ?zzr1_3, ?zzk1_3, ?zzs2_3, ?zzr2_3, ?zzk2_3, ?zzs3_3, ?zzr3_3, ?zzk3_3, ?zzs4_3, ?zzr4_3, ?zzk4_3, ?zzs5_3, ?zzr5_3, ?zzk5_3, ?zzs6_3, ?zzr6_3, ?zzk6_3, ?zzs7_3, ?zzr7_3, ?zzk7_3, ?zzkC_3, ?zzkI_3⟩; (case zzs1_3 => first | rfl | k_is); (case zzr1_3 => first | rfl | k_is); (case zzk1_3 => first | rfl | k_is); (case zzs2_3 => first | rfl | k_is); (case zzr2_3 => first | rfl | k_is); (case zzk2_3 => first | rfl | k_is); (case zzs3_3 => first | rfl | k_is); (case zzr3_3 => first | rfl | k_is); (case zzk3_3 => first | rfl | k_is); (case zzs4_3 => first | rfl | k_is); (case zzr4_3 => first | rfl | k_is); (case zzk4_3 => first | rfl | k_is); (case zzs5_3 => first | rfl | k_is); (case zzr5_3 => first | rfl | k_is); (case zzk5_3 => first | rfl | k_is); (case zzs6_3 => first | rfl | k_is); (case zzr6_3 => first | rfl | k_is); (case zzk6_3 => first | rfl | k_is); (case zzs7_3 => first | rfl | k_is); (case zzr7_3 => first | rfl | k_is); (case zzk7_3 => first | rfl | k_is); (case zzkC_3 => first | rfl | k_is); (case zzkI_3 => first | rfl | k_is))
    (case zzFI => refine' Am.mkI ?zza_4 ?zzi_4 ?zzl_4 ?zzc_4 ?zzk_4 ?zzd_4 ?zze_4; (case zza_4 => k_is); (case zzi_4 => k_is); (case zzl_4 => k_is); (case zzc_4 => k_is); (case zzk_4 => k_is); (case zzd_4 => k_is); (case zze_4 => rfl))
    (case zzOM => refine' Am.mkO ?zza_5 ?zzb_5 ?zzc_5; (case zza_5 => k_is); (case zzb_5 => k_is); (case zzc_5 => k_is))
    (case zzFX => refine' Am.mkX ?zza_6 ?zzl_6 ?zzr_6; (case zza_6 => k_is); (case zzl_6 => k_is); (case zzr_6 => first | rfl | decide +kernel))
    (case zzFY => refine' ⟨?zzsa_7, ?zzexC_7, ?zztyC_7, ?zzkC_7, ?zznv_7, ?zzga_7, ?zzgg_7, ?zzhdC_7, ?zziC_7, ?zzsC_7⟩; (case zzsa_7 => first | rfl | k_is); (case zzexC_7 => first | rfl | k_is); (case zztyC_7 => first | rfl | k_is); (case zzkC_7 => first | rfl | k_is); (case zznv_7 => first | rfl | k_is); (case zzga_7 => first | rfl | k_is); (case zzgg_7 => first | rfl | k_is); (case zzhdC_7 => first | rfl | k_is); (case zziC_7 => first | rfl | k_is); (case zzsC_7 => first | rfl | k_is))
    (case zzFE => refine' Am.mkE ?zza_8 ?zzi_8 ?zzl_8 ?zzc_8 ?zzk_8; (case zza_8 => k_is); (case zzi_8 => k_is); (case zzl_8 => k_is); (case zzc_8 => k_is); (case zzk_8 => k_is))
    (case zzFZ => refine' ⟨?zza_9, ?zzexM_9, ?zziM_9, ?zztM_9, ?zzsDM_9, ?zzca_9, ?zzcn_9, ?zzct_9, ?zzob_9, ?zzkD_9⟩; (case zza_9 => first | rfl | k_is); (case zzexM_9 => first | rfl | k_is); (case zziM_9 => first | rfl | k_is); (case zztM_9 => first | rfl | k_is); (case zzsDM_9 => first | rfl | k_is); (case zzca_9 => first | rfl | k_is); (case zzcn_9 => first | rfl | k_is); (case zzct_9 => first | rfl | k_is); (case zzob_9 => first | rfl | k_is); (case zzkD_9 => first | rfl | k_is))
    (case zzFB => refine' Am.mkB ?zza_10 ?zze_10; (case zza_10 => k_is); (case zze_10 => first | rfl | decide +kernel))
    (case zzFW => refine' Am.mkW ?zza_11 ?zze_11; (case zza_11 => k_is); (case zze_11 => first | rfl | decide +kernel))
    (case zzFP => refine' Am.mkPr ?zza_12 ?zzb_12 ?zzc_12 ?zzd_12 ?zzl_12 ?zze_12 ?zzk_12; (case zza_12 => k_is); (case zzb_12 => k_is); (case zzc_12 => k_is); (case zzd_12 => k_is); (case zzl_12 => k_is); (case zze_12 => k_is); (case zzk_12 => k_is))
    (case zzFS => refine' Am.mkSt ?zzt_13 ?zzr_13 ?zzga_13 ?zza_13 ?zzd_13 ?zzl_13 ?zze_13 ?zzk_13; (case zzt_13 => k_is); (case zzr_13 => k_is); (case zzga_13 => k_is); (case zza_13 => k_is); (case zzd_13 => k_is); (case zzl_13 => k_is); (case zze_13 => k_is); (case zzk_13 => k_is))
    (case zzf0 => refine' Am.mkF ?zza_14 ?zzl_14 ?zzc_14 ?zzk_14; (case zza_14 => k_is); (case zzl_14 => k_is); (case zzc_14 => k_is); (case zzk_14 => k_is))
    (case zzf1 => refine' Am.mkF ?zza_15 ?zzl_15 ?zzc_15 ?zzk_15; (case zza_15 => k_is); (case zzl_15 => k_is); (case zzc_15 => k_is); (case zzk_15 => k_is))
    (case zzf2 => refine' Am.mkF ?zza_16 ?zzl_16 ?zzc_16 ?zzk_16; (case zza_16 => k_is); (case zzl_16 => k_is); (case zzc_16 => k_is); (case zzk_16 => k_is))
    (case zzf3 => refine' Am.mkF ?zza_17 ?zzl_17 ?zzc_17 ?zzk_17; (case zza_17 => k_is); (case zzl_17 => k_is); (case zzc_17 => k_is); (case zzk_17 => k_is))
    (case zzf4 => refine' Am.mkF ?zza_18 ?zzl_18 ?zzc_18 ?zzk_18; (case zza_18 => k_is); (case zzl_18 => k_is); (case zzc_18 => k_is); (case zzk_18 => k_is))
    (case zzf5 => refine' Am.mkF ?zza_19 ?zzl_19 ?zzc_19 ?zzk_19; (case zza_19 => k_is); (case zzl_19 => k_is); (case zzc_19 => k_is); (case zzk_19 => k_is))
    (case zzf6 => refine' Am.mkF ?zza_20 ?zzl_20 ?zzc_20 ?zzk_20; (case zza_20 => k_is); (case zzl_20 => k_is); (case zzc_20 => k_is); (case zzk_20 => k_is))
    (case zzf7 => refine' Am.mkF ?zza_21 ?zzl_21 ?zzc_21 ?zzk_21; (case zza_21 => k_is); (case zzl_21 => k_is); (case zzc_21 => k_is); (case zzk_21 => k_is))
    (case zzf8 => refine' Am.mkF ?zza_22 ?zzl_22 ?zzc_22 ?zzk_22; (case zza_22 => k_is); (case zzl_22 => k_is); (case zzc_22 => k_is); (case zzk_22 => k_is))
    (case zzf9 => refine' Am.mkF ?zza_23 ?zzl_23 ?zzc_23 ?zzk_23; (case zza_23 => k_is); (case zzl_23 => k_is); (case zzc_23 => k_is); (case zzk_23 => k_is))
    (case zzf10 => refine' Am.mkF ?zza_24 ?zzl_24 ?zzc_24 ?zzk_24; (case zza_24 => k_is); (case zzl_24 => k_is); (case zzc_24 => k_is); (case zzk_24 => k_is))
    (case zzf11 => refine' Am.mkF ?zza_25 ?zzl_25 ?zzc_25 ?zzk_25; (case zza_25 => k_is); (case zzl_25 => k_is); (case zzc_25 => k_is); (case zzk_25 => k_is))
    (case zzf12 => refine' Am.mkF ?zza_26 ?zzl_26 ?zzc_26 ?zzk_26; (case zza_26 => k_is); (case zzl_26 => k_is); (case zzc_26 => k_is); (case zzk_26 => k_is))
    (case zzf13 => refine' Am.mkF ?zza_27 ?zzl_27 ?zzc_27 ?zzk_27; (case zza_27 => k_is); (case zzl_27 => k_is); (case zzc_27 => k_is); (case zzk_27 => k_is))
    (case zzf14 => refine' Am.mkF ?zza_28 ?zzl_28 ?zzc_28 ?zzk_28; (case zza_28 => k_is); (case zzl_28 => k_is); (case zzc_28 => k_is); (case zzk_28 => k_is))
    (case zzf15 => refine' Am.mkF ?zza_29 ?zzl_29 ?zzc_29 ?zzk_29; (case zza_29 => k_is); (case zzl_29 => k_is); (case zzc_29 => k_is); (case zzk_29 => k_is))
    (case zzm0 => refine' Am.mkM ?zza_30 ?zzi_30 ?zzl_30 ?zzc_30 ?zzk_30; (case zza_30 => k_is); (case zzi_30 => k_is); (case zzl_30 => k_is); (case zzc_30 => k_is); (case zzk_30 => k_is))
    (case zzm1 => refine' Am.mkM ?zza_31 ?zzi_31 ?zzl_31 ?zzc_31 ?zzk_31; (case zza_31 => k_is); (case zzi_31 => k_is); (case zzl_31 => k_is); (case zzc_31 => k_is); (case zzk_31 => k_is))
    (case zzm2 => refine' Am.mkM ?zza_32 ?zzi_32 ?zzl_32 ?zzc_32 ?zzk_32; (case zza_32 => k_is); (case zzi_32 => k_is); (case zzl_32 => k_is); (case zzc_32 => k_is); (case zzk_32 => k_is))
    (case zzm3 => refine' Am.mkM ?zza_33 ?zzi_33 ?zzl_33 ?zzc_33 ?zzk_33; (case zza_33 => k_is); (case zzi_33 => k_is); (case zzl_33 => k_is); (case zzc_33 => k_is); (case zzk_33 => k_is))
