import PyProof.Rows.All
import Wide.All
import OpenK.AllK
import Wide.FinOn
import PyProof.EqAt
import PyProof.EqKinds
import PyProof.NeKinds
import KE.KOpsOwn
import HandS.ForMost
import HandS.Wide
import HandS.Gcd
import HandS.IsInst
import HandS.Defaults
import HandS.OwnEq
import HandS.SlotsOwn
import PySem.Challenge.RW_whoseuse_k07_who_lives_where_and_prices
import HandS.Codes
import HandS.Words
import PyProof.StrLawsIn
import PyProof.StrBlockL
import PyProof.Rows.StrNews2
import KE.IntTextLaws
import HandS.Walk
import HandS.ForDict
import KE.KIntText
import PyProof.StrLawsRepr
import PyProof.Rows.StrDigitsNeg
import PyProof.Rows.ReprOcc
import HandS.StrMore
import HandS.Text
import KE.KUnpackStar
import HandS.SortKw
import KE.GoesEnumKw
import KE.GoesNew
import HandS.Conv
import HandS.DictComp
import HandS.RaiseMore
import HandS.ExcOwn
import HandS.Exc
import HandS.ExcInit
import HandS.ExcValue
import HandS.ExcField
import HandS.WordsExc
import HandS.Deep
import HandS.Dict
import HandS.Style
import HandS.Lambda
import HandS.Ends
import HandS.EndOwn
import KE.KExcIs
import HandS.Property
set_option Elab.async false
set_option linter.all false
set_option maxRecDepth 100000
set_option maxHeartbeats 8000000
/-! operators of an own class: library level -/
namespace AmL
open PySem PySem.SeqAt PySem.Calls PyProof.Rows
open AutoSeq1 (wpAny_loadPart')
open MeetsSeq

section
variable {prog : Program} {w : World} {A : Around} {E : Value → Shared → Prop} {s : Shared} {K : PySem.W.Frag} {C : Addr}

theorem refl_inst {x : Addr} {v : Value} {T id : String} {f : Addr} {op : CmpOp} {ox : Obj} {od : Option Obj} {Q : Value → Shared → Prop} (hu : A.units < cLine)
    (X : K.In s.heap) (I : PySem.W.InstAt s.heap x ox C od) (hT : s.TypeIs v T) (slot : Slot T (cmpInfo op).2.1 id)
    (dec : ∀ Q' : Value → Shared → Prop, Q' .notImplemented s → wpAny (model prog w) A (call (.builtin id) [v, .ref x]) Q' E s)
    (hsub : PySem.W.subIn K (.ref C) (.type T) = some false)
    (hs : PySem.W.findIn K (.ref C) (cmpInfo op).2.2 = some (some (.ref f))) (hf : PySem.W.isFn K (.ref f) = true)
    (h : wpAny (model prog w) A (call (.ref f) [.ref x, v]) (PySem.W.CmpBack Q) E s) : wpAny (model prog w) A (richCompare op v (.ref x)) Q E s := by
  have one : wpAny (model prog w) A (tryCompare (.ref x) (cmpInfo op).2.2 v) (fun r s' => ∃ v, r = some v ∧ Q v s') E s := by
    unfold tryCompare
    refine wpAny_bind (PySem.W.ifBound_K X I hs hf (wpAny_mono h (fun v s' hv => ?_) fun _ _ e => e))
    cases v <;> first | exact hv.elim | exact wpAny_pure ⟨_, rfl, hv⟩
  have hne : (Value.type T != Value.ref C) = true := by
    rw [bne, beq_eq_false_iff_ne.mpr (fun q => by cases q)]; rfl
  rcases hi : cmpInfo op with ⟨sym, f', r'⟩
  rw [hi] at slot one
  simp only [richCompare, hi, hT.oneThing_none]
  refine wpAny_holding ?_
  refine wpAny_bind (wpAny_cRoomFor hu ?_)
  refine wpAny_bind (wpAny_typeOf hT (wpAny_bind (I.type.here ?_)))
  simp only [hne, if_true]
  refine wpAny_bind ((PySem.W.looks_subIn X hsub).here ?_)
  simp only [Bool.false_eq_true, if_false]
  refine wpAny_bind (m := tryCompare v _ (.ref x)) (wpAny_tryCompare_declines hT slot (dec _ ⟨rfl, ?_⟩))
  simp only [Bool.not_false, if_true]
  refine wpAny_bind (wpAny_mono one (fun r s' z => ?_) fun _ _ e => e)
  obtain ⟨u, rfl, hq⟩ := z
  exact wpAny_pure hq


/-- the != that object gives: not (x == b) -/
theorem try_ne {x : Addr} {b : Value} {f : Addr} {ox : Obj} {od : Option Obj} {Q : Option Value → Shared → Prop} (hu : A.units + 1 < cLine)
    (X : K.In s.heap) (I : PySem.W.InstAt s.heap x ox C od)
    (hs : PySem.W.findIn K (.ref C) "__ne__" = some (some (.builtin "object.__ne__"))) (hobj : PySem.W.mroIn K C (.type "object") = some true)
    (he : PySem.W.findIn K (.ref C) "__eq__" = some (some (.ref f))) (hf : PySem.W.isFn K (.ref f) = true)
    (h : wpAny (model prog w) A.in1 (call (.ref f) [.ref x, b]) (fun v s' => ∃ k, v = .bool k ∧ Q (some (.bool (!k))) s') E s) : wpAny (model prog w) A (tryCompare (.ref x) "__ne__" b) Q E s := by
  have sub : PySem.W.Looks (model prog w) s.heap (isInstance (.ref x) (.type "object")) true := I.type.andThen (PySem.W.looks_mroIn X hobj)
  have main : wpAny (model prog w) A (call (.builtin "object.__ne__") [.ref x, b]) (fun v s' => ∃ k, v = .bool k ∧ Q (some (.bool k)) s') E s := by
    refine wpAny_call (codeAny_call_builtin F.slot_object_ne.plain F.entry_object_ne (@PySem.W.check_slot (model prog w) _ _ s "object.__ne__" "object" "__ne__" (.ref x) [b] [] _ F.cmpKind_ne F.cmpSplit_ne sub (F.cmpArgs_ne _ _) ?_))
    unfold Builtin.«object.__ne__»
    refine wpAny_bind (m := slotArgs _ _ _) (wpAny_pure ?_)
    refine wpAny_bind (wpAny_cRoomFor hu ?_)
    refine wpAny_bind (m := callSpecialIfBound? (.ref x) _ _) (PySem.W.ifBound_K X I he hf (wpAny_mono h (fun v s' hv => ?_) fun _ _ e => e))
    obtain ⟨k, rfl, q⟩ := hv
    refine wpAny_bind (wpAny_truthy_bool ?_)
    exact wpAny_pure ⟨_, rfl, q⟩
  unfold tryCompare
  refine wpAny_bind (m := callSpecialIfBound? (.ref x) _ _) ?_
  simp only [callSpecialIfBound?, bindSpecialIfBound?]
  refine wpAny_holding (wpAny_bind (wpAny_bind (wpAny_bind (I.type.here ((PySem.W.looks_findIn X hs).here ?_)))))
  refine wpAny_bind (wpAny_askSetting (wpAny_ite ?_))
  have bd : PySem.W.Looks (model prog w) s.heap (bindSpecial (.builtin "object.__ne__") (.ref x)) (.builtin "object.__ne__", [.ref x]) := PySem.W.Looks.of_pure (F.slot_object_ne.bind _)
  have fin : wpAny (model prog w) A (call (.builtin "object.__ne__") ([.ref x] ++ [b]) >>= fun v => pure (some v)) (fun r s' => wpAny (model prog w) A (match r with | some .notImplemented | none => pure none | some v => pure (some v)) Q E s') E s := by
    refine wpAny_bind (wpAny_mono main (fun v s' h' => ?_) fun _ _ h' => h')
    obtain ⟨k, rfl, q⟩ := h'
    exact wpAny_pure (wpAny_pure q)
  split
  · exact wpAny_bind (bd.here (wpAny_pure (by exact fin)))
  · exact wpAny_tryCatch (wpAny_bind (bd.here (wpAny_pure (by exact fin))))

/-- x != b, x an instance with an own == and no own != -/
theorem ne_inst {x : Addr} {b tb : Value} {f : Addr} {ox : Obj} {od : Option Obj} {Q : Value → Shared → Prop} (hu : A.units + 1 < cLine)
    (X : K.In s.heap) (I : PySem.W.InstAt s.heap x ox C od) (hb : PySem.W.Looks (model prog w) s.heap (typeOf b) tb) (hn : PySem.W.notFirst K C tb = true)
    (hs : PySem.W.findIn K (.ref C) "__ne__" = some (some (.builtin "object.__ne__"))) (hobj : PySem.W.mroIn K C (.type "object") = some true)
    (he : PySem.W.findIn K (.ref C) "__eq__" = some (some (.ref f))) (hf : PySem.W.isFn K (.ref f) = true)
    (h : wpAny (model prog w) A.in1 (call (.ref f) [.ref x, b]) (fun v s' => ∃ k, v = .bool k ∧ Q (.bool (!k)) s') E s) : wpAny (model prog w) A (richCompare .NotEq (.ref x) b) Q E s := by
  have one : wpAny (model prog w) A (tryCompare (.ref x) "__ne__" b) (fun r s' => ∃ v, r = some v ∧ Q v s') E s :=
    try_ne hu X I hs hobj he hf (wpAny_mono h (fun v s' ⟨k, e, q⟩ => ⟨k, e, _, rfl, q⟩) fun _ _ e => e)
  unfold richCompare
  simp only [oneThing_ref]
  refine wpAny_holding (wpAny_bind (wpAny_cRoomFor (by omega) ?_))
  refine wpAny_bind (I.type.here (wpAny_bind (hb.here ?_)))
  split
  · rename_i q
    have e : PySem.W.subIn K tb (.ref C) = some false := by
      rcases Bool.or_eq_true_iff.mp hn with e | e
      · rw [beq_iff_eq.mp e] at q; simp at q
      · exact beq_iff_eq.mp e
    refine wpAny_bind ((PySem.W.looks_subIn X e).here ?_)
    simp only [Bool.false_eq_true, if_false]
    refine wpAny_bind (wpAny_mono one (fun r s' z => ?_) fun _ _ e => e)
    obtain ⟨v, rfl, hq⟩ := z
    exact wpAny_pure hq
  · refine wpAny_bind (wpAny_pure ?_)
    simp only [Bool.false_eq_true, if_false]
    refine wpAny_bind (wpAny_mono one (fun r s' z => ?_) fun _ _ e => e)
    obtain ⟨v, rfl, hq⟩ := z
    exact wpAny_pure hq

/-- v != x, v of a built-in type that declines, x an instance -/
theorem ne_refl {x : Addr} {v : Value} {T id : String} {f : Addr} {ox : Obj} {od : Option Obj} {Q : Value → Shared → Prop} (hu : A.units + 1 < cLine)
    (X : K.In s.heap) (I : PySem.W.InstAt s.heap x ox C od) (hT : s.TypeIs v T) (slot : Slot T (cmpInfo .NotEq).2.1 id)
    (dec : ∀ Q' : Value → Shared → Prop, Q' .notImplemented s → wpAny (model prog w) A (call (.builtin id) [v, .ref x]) Q' E s)
    (hsub : PySem.W.subIn K (.ref C) (.type T) = some false)
    (hs : PySem.W.findIn K (.ref C) "__ne__" = some (some (.builtin "object.__ne__"))) (hobj : PySem.W.mroIn K C (.type "object") = some true)
    (he : PySem.W.findIn K (.ref C) "__eq__" = some (some (.ref f))) (hf : PySem.W.isFn K (.ref f) = true)
    (h : wpAny (model prog w) A.in1 (call (.ref f) [.ref x, v]) (fun v s' => ∃ k, v = .bool k ∧ Q (.bool (!k)) s') E s) : wpAny (model prog w) A (richCompare .NotEq v (.ref x)) Q E s := by
  have one : wpAny (model prog w) A (tryCompare (.ref x) (cmpInfo .NotEq).2.2 v) (fun r s' => ∃ v, r = some v ∧ Q v s') E s :=
    try_ne hu X I hs hobj he hf (wpAny_mono h (fun v s' ⟨k, e, q⟩ => ⟨k, e, _, rfl, q⟩) fun _ _ e => e)
  have hne : (Value.type T != Value.ref C) = true := by
    rw [bne, beq_eq_false_iff_ne.mpr (fun q => by cases q)]; rfl
  rcases hi : cmpInfo CmpOp.NotEq with ⟨sym, f', r'⟩
  rw [hi] at slot one
  simp only [richCompare, hi, hT.oneThing_none]
  refine wpAny_holding ?_
  refine wpAny_bind (wpAny_cRoomFor (by omega) ?_)
  refine wpAny_bind (wpAny_typeOf hT (wpAny_bind (I.type.here ?_)))
  simp only [hne, if_true]
  refine wpAny_bind ((PySem.W.looks_subIn X hsub).here ?_)
  simp only [Bool.false_eq_true, if_false]
  refine wpAny_bind (m := tryCompare v _ (.ref x)) (wpAny_tryCompare_declines hT slot (dec _ ⟨rfl, ?_⟩))
  simp only [Bool.not_false, if_true]
  refine wpAny_bind (wpAny_mono one (fun r s' z => ?_) fun _ _ e => e)
  obtain ⟨u, rfl, hq⟩ := z
  exact wpAny_pure hq

/-! ### what declines beside an instance -/
section
variable {a : Addr}
abbrev PlainAt (s : Shared) (a C : Addr) : Prop := ∃ dd sl, s.heap.get? a = some { cls := .ref C, dict := dd, data := .plain, slots := sl }
theorem dec_int_eq (b : Int) (u : Tok) (C : Addr) : Meets (Builtin.«int.__eq__» ⟨[.int b u, .ref a], []⟩) (fun _ R s => PlainAt s a C ∧ R (.ok (.ret .notImplemented)) s) :=
  .of_wp fun prog w A R s h => by obtain ⟨hp, g, d, tk, os⟩ := s; obtain ⟨⟨dd, sl, hl⟩, h⟩ := h; wp_walk using wpAny_loadPart' hl, wpAny_load hl; exact ⟨_, rfl, h⟩
theorem dec_int_ne (b : Int) (u : Tok) (C : Addr) : Meets (Builtin.«int.__ne__» ⟨[.int b u, .ref a], []⟩) (fun _ R s => PlainAt s a C ∧ R (.ok (.ret .notImplemented)) s) :=
  .of_wp fun prog w A R s h => by obtain ⟨hp, g, d, tk, os⟩ := s; obtain ⟨⟨dd, sl, hl⟩, h⟩ := h; wp_walk using wpAny_loadPart' hl, wpAny_load hl; exact ⟨_, rfl, h⟩
theorem dec_int_lt (b : Int) (u : Tok) (C : Addr) : Meets (Builtin.«int.__lt__» ⟨[.int b u, .ref a], []⟩) (fun _ R s => PlainAt s a C ∧ R (.ok (.ret .notImplemented)) s) :=
  .of_wp fun prog w A R s h => by obtain ⟨hp, g, d, tk, os⟩ := s; obtain ⟨⟨dd, sl, hl⟩, h⟩ := h; wp_walk using wpAny_loadPart' hl, wpAny_load hl; exact ⟨_, rfl, h⟩
theorem dec_int_le (b : Int) (u : Tok) (C : Addr) : Meets (Builtin.«int.__le__» ⟨[.int b u, .ref a], []⟩) (fun _ R s => PlainAt s a C ∧ R (.ok (.ret .notImplemented)) s) :=
  .of_wp fun prog w A R s h => by obtain ⟨hp, g, d, tk, os⟩ := s; obtain ⟨⟨dd, sl, hl⟩, h⟩ := h; wp_walk using wpAny_loadPart' hl, wpAny_load hl; exact ⟨_, rfl, h⟩
theorem dec_int_gt (b : Int) (u : Tok) (C : Addr) : Meets (Builtin.«int.__gt__» ⟨[.int b u, .ref a], []⟩) (fun _ R s => PlainAt s a C ∧ R (.ok (.ret .notImplemented)) s) :=
  .of_wp fun prog w A R s h => by obtain ⟨hp, g, d, tk, os⟩ := s; obtain ⟨⟨dd, sl, hl⟩, h⟩ := h; wp_walk using wpAny_loadPart' hl, wpAny_load hl; exact ⟨_, rfl, h⟩
theorem dec_int_ge (b : Int) (u : Tok) (C : Addr) : Meets (Builtin.«int.__ge__» ⟨[.int b u, .ref a], []⟩) (fun _ R s => PlainAt s a C ∧ R (.ok (.ret .notImplemented)) s) :=
  .of_wp fun prog w A R s h => by obtain ⟨hp, g, d, tk, os⟩ := s; obtain ⟨⟨dd, sl, hl⟩, h⟩ := h; wp_walk using wpAny_loadPart' hl, wpAny_load hl; exact ⟨_, rfl, h⟩
theorem dec_bool_eq (b : Bool) (C : Addr) : Meets (Builtin.«int.__eq__» ⟨[.bool b, .ref a], []⟩) (fun _ R s => PlainAt s a C ∧ R (.ok (.ret .notImplemented)) s) :=
  .of_wp fun prog w A R s h => by obtain ⟨hp, g, d, tk, os⟩ := s; obtain ⟨⟨dd, sl, hl⟩, h⟩ := h; wp_walk using wpAny_loadPart' hl, wpAny_load hl; exact ⟨_, rfl, h⟩
theorem dec_none_eq : Gives (Builtin.«NoneType.__eq__» ⟨[.none, .ref a], []⟩) (.val (Value.notImplemented)) :=
  .of_wp fun M A E s Q h => by obtain ⟨hp, g, d, tk, os⟩ := s; wp_walk; exact ⟨_, rfl, h⟩
theorem dec_str_eq (b : Str) (u : Tok) (C : Addr) : Meets (Builtin.«str.__eq__» ⟨[.str b u, .ref a], []⟩) (fun _ R s => PlainAt s a C ∧ R (.ok (.ret .notImplemented)) s) :=
  .of_wp fun prog w A R s h => by obtain ⟨hp, g, d, tk, os⟩ := s; obtain ⟨⟨dd, sl, hl⟩, h⟩ := h; wp_walk using wpAny_loadPart' hl, wpAny_load hl; exact ⟨_, rfl, h⟩
theorem dec_list_eq {l : Addr} {R : Result → Shared → Prop} (sub : PySem.W.Looks (model prog w) s.heap (isInstance (.ref a) (.type "list")) false) (h : R (.ok (.ret .notImplemented)) s) :
    wpAny (model prog w) A.in1 (Builtin.«list.__eq__» ⟨[.ref l, .ref a], []⟩) (fun fin s' => match fin with | .done f => R (.ok f) s' | .again c' => c'.quiet = true ∧ codeAny (model prog w) A c' R s') (fun e s' => R (.error e) s') s := by
  refine wpAny_bind (m := slotArgs _ _ _) (wpAny_pure ?_)
  refine wpAny_bind (m := isInstance _ _) (sub.here ?_)
  wp_walk
  exact h
theorem dec_tuple_eq {l : Addr} {R : Result → Shared → Prop} (sub : PySem.W.Looks (model prog w) s.heap (isInstance (.ref a) (.type "tuple")) false) (h : R (.ok (.ret .notImplemented)) s) :
    wpAny (model prog w) A.in1 (Builtin.«tuple.__eq__» ⟨[.ref l, .ref a], []⟩) (fun fin s' => match fin with | .done f => R (.ok f) s' | .again c' => c'.quiet = true ∧ codeAny (model prog w) A c' R s') (fun e s' => R (.error e) s') s := by
  refine wpAny_bind (m := slotArgs _ _ _) (wpAny_pure ?_)
  refine wpAny_bind (m := isInstance _ _) (sub.here ?_)
  wp_walk
  exact h
theorem dec_dict_eq {l : Addr} {R : Result → Shared → Prop} (sub : PySem.W.Looks (model prog w) s.heap (isInstance (.ref a) (.type "dict")) false) (h : R (.ok (.ret .notImplemented)) s) :
    wpAny (model prog w) A.in1 (Builtin.«dict.__eq__» ⟨[.ref l, .ref a], []⟩) (fun fin s' => match fin with | .done f => R (.ok f) s' | .again c' => c'.quiet = true ∧ codeAny (model prog w) A c' R s') (fun e s' => R (.error e) s') s := by
  have e : Builtin.Dict.dictSlotArgs "__eq__" ⟨[.ref l, .ref a], []⟩ = pure (.ref l, .ref a) := by kernel_rfl
  refine wpAny_bind (m := Builtin.Dict.dictSlotArgs _ _) ?_
  rw [e]
  refine wpAny_pure ?_
  refine wpAny_bind (m := isInstance _ _) (sub.here ?_)
  wp_walk
  exact h
theorem dec_bool_ne (b : Bool) (C : Addr) : Meets (Builtin.«int.__ne__» ⟨[.bool b, .ref a], []⟩) (fun _ R s => PlainAt s a C ∧ R (.ok (.ret .notImplemented)) s) :=
  .of_wp fun prog w A R s h => by obtain ⟨hp, g, d, tk, os⟩ := s; obtain ⟨⟨dd, sl, hl⟩, h⟩ := h; wp_walk using wpAny_loadPart' hl, wpAny_load hl; exact ⟨_, rfl, h⟩
theorem dec_none_ne : Gives (Builtin.«NoneType.__ne__» ⟨[.none, .ref a], []⟩) (.val (Value.notImplemented)) :=
  .of_wp fun M A E s Q h => by obtain ⟨hp, g, d, tk, os⟩ := s; wp_walk; exact ⟨_, rfl, h⟩
theorem dec_str_ne (b : Str) (u : Tok) (C : Addr) : Meets (Builtin.«str.__ne__» ⟨[.str b u, .ref a], []⟩) (fun _ R s => PlainAt s a C ∧ R (.ok (.ret .notImplemented)) s) :=
  .of_wp fun prog w A R s h => by obtain ⟨hp, g, d, tk, os⟩ := s; obtain ⟨⟨dd, sl, hl⟩, h⟩ := h; wp_walk using wpAny_loadPart' hl, wpAny_load hl; exact ⟨_, rfl, h⟩
theorem dec_list_ne {l : Addr} {R : Result → Shared → Prop} (sub : PySem.W.Looks (model prog w) s.heap (isInstance (.ref a) (.type "list")) false) (h : R (.ok (.ret .notImplemented)) s) :
    wpAny (model prog w) A.in1 (Builtin.«list.__ne__» ⟨[.ref l, .ref a], []⟩) (fun fin s' => match fin with | .done f => R (.ok f) s' | .again c' => c'.quiet = true ∧ codeAny (model prog w) A c' R s') (fun e s' => R (.error e) s') s := by
  refine wpAny_bind (m := slotArgs _ _ _) (wpAny_pure ?_)
  refine wpAny_bind (m := isInstance _ _) (sub.here ?_)
  wp_walk
  exact h
theorem dec_tuple_ne {l : Addr} {R : Result → Shared → Prop} (sub : PySem.W.Looks (model prog w) s.heap (isInstance (.ref a) (.type "tuple")) false) (h : R (.ok (.ret .notImplemented)) s) :
    wpAny (model prog w) A.in1 (Builtin.«tuple.__ne__» ⟨[.ref l, .ref a], []⟩) (fun fin s' => match fin with | .done f => R (.ok f) s' | .again c' => c'.quiet = true ∧ codeAny (model prog w) A c' R s') (fun e s' => R (.error e) s') s := by
  refine wpAny_bind (m := slotArgs _ _ _) (wpAny_pure ?_)
  refine wpAny_bind (m := isInstance _ _) (sub.here ?_)
  wp_walk
  exact h
theorem dec_dict_ne {l : Addr} {R : Result → Shared → Prop} (sub : PySem.W.Looks (model prog w) s.heap (isInstance (.ref a) (.type "dict")) false) (h : R (.ok (.ret .notImplemented)) s) :
    wpAny (model prog w) A.in1 (Builtin.«dict.__ne__» ⟨[.ref l, .ref a], []⟩) (fun fin s' => match fin with | .done f => R (.ok f) s' | .again c' => c'.quiet = true ∧ codeAny (model prog w) A c' R s') (fun e s' => R (.error e) s') s := by
  have e : Builtin.Dict.dictSlotArgs "__ne__" ⟨[.ref l, .ref a], []⟩ = pure (.ref l, .ref a) := by kernel_rfl
  refine wpAny_bind (m := Builtin.Dict.dictSlotArgs _ _) ?_
  rw [e]
  refine wpAny_pure ?_
  refine wpAny_bind (m := isInstance _ _) (sub.here ?_)
  wp_walk
  exact h
end
end
end AmL
/-! rules over the hand layer: operators of an own class, beside built-in values too -/
namespace Am
open PySem PySem.Spec PyProof.Rows L2

/-- values of built-in types -/
inductive Bk (H : Hp) : V → String → Prop where
  | non : Bk H .non "NoneType"
  | bl (b : Bool) : Bk H (.bl b) "bool"
  | int (i : Int) : Bk H (.int i) "int"
  | str (z : Str) : Bk H (.str z) "str"
  | lst {a : Addr} {xs : List V} (h : H a = some (.lst xs)) : Bk H (.ref a) "list"
  | tup {a : Addr} {xs : List V} (h : H a = some (.tup xs)) : Bk H (.ref a) "tuple"
  | dK {a : Addr} {kvs : List (Key × V)} (h : H a = some (.dK kvs)) : Bk H (.ref a) "dict"
def isI : V → Bool
  | .int _ => true
  | _ => false
theorem Bk.same {H H' : Hp} (e : Same H H') {x : V} {T : String} (b : Bk H x T) : Bk H' x T := by
  cases b with
  | non => exact .non
  | bl b => exact .bl b
  | int i => exact .int i
  | str z => exact .str z
  | lst h => exact .lst (e _ _ h)
  | tup h => exact .tup (e _ _ h)
  | dK h => exact .dK (e _ _ h)
theorem Bk.tyOf {K : PySem.W.Frag} {H : Hp} {x : V} {T : String} (b : Bk H x T) : TyOf K H x (.type T) := by
  cases b with
  | non => exact .non
  | bl b => exact .bl b
  | int i => exact .int i
  | str z => exact .str z
  | lst h => exact .lst h
  | tup h => exact .tup h
  | dK h => exact .dK h
section
variable {X : Cx} {pins : List (Addr × Obj)} {σ : L2.St} {H : Hp} {s : Shared}
theorem Bk.typeIs {x : V} {T : String} {u : Value} (b : Bk H x T) (I : Inv X pins σ H s) (r : RelV x u) : s.TypeIs u T := by
  cases b with
  | non => cases (show u = Value.none from r); rfl
  | bl b => cases (show u = Value.bool b from r); rfl
  | int i => obtain ⟨t, q⟩ := (show ∃ t, u = Value.int i t from r); cases q; rfl
  | str z => obtain ⟨t, q⟩ := (show ∃ t, u = Value.str z t from r); cases q; rfl
  | @lst a xs ea =>
    cases (show u = Value.ref a from r)
    obtain ⟨_, _, n, _, h1⟩ := (show ObjOk X.prog X.w H s.heap a (.lst xs) from I.hok a _ ea)
    exact ⟨_, h1, rfl⟩
  | @tup a xs ea =>
    cases (show u = Value.ref a from r)
    obtain ⟨_, _, _, o, h1, h2, _⟩ := (show ObjOk X.prog X.w H s.heap a (.tup xs) from I.hok a _ ea)
    exact ⟨o, h1, h2⟩
  | @dK a kvs ea =>
    cases (show u = Value.ref a from r)
    obtain ⟨_, _, vs, _, o, es, ep, h1, h2, _⟩ := (show ObjOk X.prog X.w H s.heap a (.dK kvs) from I.hok a _ ea)
    exact ⟨o, h1, h2.1⟩
theorem looks_typeIs {M : Model} {u : Value} {T : String} (h : s.TypeIs u T) : PySem.W.Looks M s.heap (typeOf u) (.type T) := by
  intro A Q E s' k q
  have h' : s'.TypeIs u T := by
    cases u with
    | ref a => obtain ⟨o, ho, hc⟩ := h; exact ⟨o, k _ _ ho, hc⟩
    | _ => exact h
  exact wpAny_typeOf h' q
end

/-- what the operators ask of the class -/
structure OpC (K : PySem.W.Frag) (C : Addr) : Prop where
  sf : PySem.W.selfFirst K C = true
  ne : PySem.W.findIn K (.ref C) "__ne__" = some (some (.builtin "object.__ne__"))
  ob : PySem.W.mroIn K C (.type "object") = some true
  s1 : PySem.W.subIn K (.ref C) (.type "int") = some false
  s2 : PySem.W.subIn K (.ref C) (.type "bool") = some false
  s3 : PySem.W.subIn K (.ref C) (.type "NoneType") = some false
  s4 : PySem.W.subIn K (.ref C) (.type "str") = some false
  s5 : PySem.W.subIn K (.ref C) (.type "list") = some false
  s6 : PySem.W.subIn K (.ref C) (.type "tuple") = some false
  s7 : PySem.W.subIn K (.ref C) (.type "dict") = some false
  r1 : PySem.W.subIn K (.type "int") (.ref C) = some false
  r2 : PySem.W.subIn K (.type "bool") (.ref C) = some false
  r3 : PySem.W.subIn K (.type "NoneType") (.ref C) = some false
  r4 : PySem.W.subIn K (.type "str") (.ref C) = some false
  r5 : PySem.W.subIn K (.type "list") (.ref C) = some false
  r6 : PySem.W.subIn K (.type "tuple") (.ref C) = some false
  r7 : PySem.W.subIn K (.type "dict") (.ref C) = some false
theorem OpC.sub {K : PySem.W.Frag} {C : Addr} {H : Hp} {x : V} {T : String} (c : OpC K C) (b : Bk H x T) : PySem.W.subIn K (.ref C) (.type T) = some false := by
  cases b <;> first | exact c.s1 | exact c.s2 | exact c.s3 | exact c.s4 | exact c.s5 | exact c.s6 | exact c.s7
theorem OpC.rev {K : PySem.W.Frag} {C : Addr} {H : Hp} {x : V} {T : String} (c : OpC K C) (b : Bk H x T) : PySem.W.subIn K (.type T) (.ref C) = some false := by
  cases b <;> first | exact c.r1 | exact c.r2 | exact c.r3 | exact c.r4 | exact c.r5 | exact c.r6 | exact c.r7
theorem OpC.nf {K : PySem.W.Frag} {C : Addr} {H : Hp} {x : V} {T : String} (c : OpC K C) (b : Bk H x T) : PySem.W.notFirst K C (.type T) = true := by
  unfold PySem.W.notFirst
  rw [c.rev b]
  simp
theorem nf_self {K : PySem.W.Frag} {C : Addr} : PySem.W.notFirst K C (.ref C) = true := by
  unfold PySem.W.notFirst
  simp

/-- a method that an operator calls -/
structure Om (X : Cx) (C : Addr) (name : Str) (g : Addr) : Prop where
  hs : PySem.W.findIn X.K (.ref C) name = some (some (.ref g))
  hf : PySem.W.isFn X.K (.ref g) = true
/-- an instance of C, or a value of a built-in type -/
def OrB (C : Addr) (H : Hp) (y : V) : Prop := (∃ b dy gs, y = .ref b ∧ H b = some (.ins C dy gs)) ∨ ∃ T, Bk H y T
section
variable {X : Cx} {C g : Addr} {k : Nat} {fd : FuncData} {ps : List Str} {sp : Sp} {CX : CXT} {E : XK} {pins : List (Addr × Obj)} {σ : L2.St} {H : Hp} {s : Shared}
theorem inst_of {a dx : Addr} {fs : List (Str × V)} (I : Inv X pins σ H s) (ha : H a = some (.ins C dx fs)) : ∃ od, PySem.W.InstAt s.heap a (PySem.W.instObj C dx) C (some od) := by
  obtain ⟨mA, J, _⟩ := ins_get I.hok ha
  obtain ⟨od, J, _⟩ := J.look
  exact ⟨od, J⟩
theorem plain_of {a dx : Addr} {fs : List (Str × V)} (I : Inv X pins σ H s) (ha : H a = some (.ins C dx fs)) : AmL.PlainAt s a C := by
  obtain ⟨_, _, _, h, _⟩ := (show ObjOk X.prog X.w H s.heap a (.ins C dx fs) from I.hok a _ ha)
  exact ⟨_, _, h⟩
theorem orB_type {y : V} {u : Value} (c : OpC X.K C) (I : Inv X pins σ H s) (ry : RelV y u) (h : OrB C H y) : ∃ tb, PySem.W.Looks (model X.prog X.w) s.heap (typeOf u) tb ∧ PySem.W.notFirst X.K C tb = true := by
  rcases h with ⟨b, dy, gs, rfl, hb⟩ | ⟨T, b⟩
  · cases (show u = Value.ref b from ry)
    obtain ⟨od, J⟩ := inst_of I hb
    exact ⟨.ref C, J.type, nf_self⟩
  · exact ⟨.type T, looks_typeIs (b.typeIs I ry), c.nf b⟩

/-- x op y: x an instance -/
def rCmp (C : Addr) (sp : Sp) (E : XK) : R2 := fun x y H Q => (∃ a dx fs, x = .ref a ∧ H a = some (.ins C dx fs)) ∧ OrB C H y ∧ sp [x, y] H Q E
theorem op_cmpC {op : CmpOp} (hop : ∀ a b, compareOp op a b = richCompare op a b) (c : OpC X.K C) (m : Om X C (cmpInfo op).2.1 g) (F : FnOk X.prog X.w X.K X.mg X.base CX k g fd ps sp) (hr : Room k X.A) (hb : Binds X.K fd ps [])
    (hx : Passes CX X E) : OpR X (compareOp op) (rCmp C sp E) := by
  intro pins s σ H x y v u Q I rx ry h
  obtain ⟨⟨a, dx, fs, rfl, ha⟩, hy, q⟩ := h
  cases (show v = Value.ref a from rx)
  obtain ⟨od, J⟩ := inst_of I ha
  obtain ⟨tb, ht, hn⟩ := orB_type c I ry hy
  obtain ⟨mm, hF⟩ := I.fr
  rw [hop]
  refine PySem.W.cmp_K (op := op) hr.units0 hF I.ok.mod.kin J ht hn m.hs m.hf ?_
  refine wpAny_mono (run_fn (us := [.ref a, u]) (vs := [.ref a, y]) (dvs := []) F hr hb .nil hx I (.cons rfl (.cons ry .nil)) q) (fun w s' z => ?_) fun _ _ x => x
  obtain ⟨z', H', I', rz, qz⟩ := z
  exact SlX.cmpback rz ⟨z', H', I', rz, qz⟩

theorem room_in1 {A : Around} (hr : Room (k + 1) A) : Room k A.in1 := hr.in1
/-- the callee runs one builtin below -/
theorem run_in1 {Q : VK} {us : List Value} {vs : List V} (F : FnOk X.prog X.w X.K X.mg X.base CX k g fd ps sp) (hr : Room (k + 1) X.A) (hb : Binds X.K fd ps []) (hx : Passes CX X E)
    (I : Inv X pins σ H s) (r : Vals vs us) (h : sp vs H Q E) : wpAny (model X.prog X.w) X.A.in1 (call (.ref g) us) (EP X pins σ Q) X.xe s := by
  have hl : us.length = ps.length := by rw [← r.length]; exact F.len _ _ _ _ h
  refine wpAny_call (codeAny_mono (F.run X.A.in1 X.stack s H ⟨us, []⟩ us vs Q E hr.in1 I.env0.in1 (by
    have := hb s us I.kIn (by simpa using hl)
    simpa using this) r h) fun r s' hq => ?_)
  cases r with
  | error e => exact hx pins σ H s e s' I hq
  | ok fl =>
    cases fl with
    | ret u => exact I.after hq
    | next => exact False.elim hq
    | brk => exact False.elim hq
    | cont => exact False.elim hq

/-- x != y: x an instance whose class has an own ==, that hands back a truth value -/
def rNeC (C : Addr) (sp : Sp) (E : XK) : R2 := fun x y H Q => (∃ a dx fs, x = .ref a ∧ H a = some (.ins C dx fs)) ∧ OrB C H y ∧ sp [x, y] H (fun v H' => ∃ b, v = .bl b ∧ Q (.bl (!b)) H') E
theorem op_neC (c : OpC X.K C) (m : Om X C "__eq__" g) (F : FnOk X.prog X.w X.K X.mg X.base CX k g fd ps sp) (hr : Room (k + 1) X.A) (hb : Binds X.K fd ps [])
    (hx : Passes CX X E) : OpR X (compareOp .NotEq) (rNeC C sp E) := by
  intro pins s σ H x y v u Q I rx ry h
  obtain ⟨⟨a, dx, fs, rfl, ha⟩, hy, q⟩ := h
  cases (show v = Value.ref a from rx)
  obtain ⟨od, J⟩ := inst_of I ha
  obtain ⟨tb, ht, hn⟩ := orB_type c I ry hy
  show wpAny (model X.prog X.w) X.A (richCompare .NotEq _ _) (EP X pins σ Q) X.xe s
  refine AmL.ne_inst (by have := hr.units; omega) I.kIn J ht hn c.ne c.ob m.hs m.hf ?_
  refine wpAny_mono (run_in1 (us := [.ref a, u]) (vs := [.ref a, y]) F hr hb hx I (.cons rfl (.cons ry .nil)) q) (fun w s' z => ?_) fun _ _ x => x
  obtain ⟨z', H', I', rz, b, rfl, qz⟩ := z
  cases (show w = Value.bool b from rz)
  exact ⟨b, rfl, .bl (!b), H', I', rfl, qz⟩

theorem insub {a dx : Addr} {fs : List (Str × V)} {T : String} (I : Inv X pins σ H s) (ha : H a = some (.ins C dx fs)) (h : PySem.W.subIn X.K (.ref C) (.type T) = some false) :
    PySem.W.Looks (model X.prog X.w) s.heap (isInstance (.ref a) (.type T)) false := by
  obtain ⟨od, J⟩ := inst_of I ha
  exact J.type.andThen (PySem.W.looks_subIn I.kIn h)

/-- what declines -/
structure Dec (X : Cx) (op : CmpOp) (P : Hp → V → Prop) : Prop where
  run : ∀ (pins : List (Addr × Obj)) (σ : L2.St) (H : Hp) (s : Shared) (C a dx : Addr) (fs : List (Str × V)) (x : V) (v : Value), OpC X.K C → Inv X pins σ H s → RelV x v → P H x → H a = some (.ins C dx fs) →
    ∃ T id, Bk H x T ∧ Slot T (cmpInfo op).2.1 id ∧ ∀ (E : Value → Shared → Prop) (Q' : Value → Shared → Prop), Q' .notImplemented s → wpAny (model X.prog X.w) X.A (call (.builtin id) [v, .ref a]) Q' E s

/-- x op y: x a value that declines, y an instance -/
def rRef (C : Addr) (P : Hp → V → Prop) (sp : Sp) (E : XK) : R2 := fun x y H Q => P H x ∧ (∃ a dx fs, y = .ref a ∧ H a = some (.ins C dx fs)) ∧ sp [y, x] H Q E
theorem op_refC {op : CmpOp} {P : Hp → V → Prop} (hop : ∀ a b, compareOp op a b = richCompare op a b) (d : Dec X op P) (c : OpC X.K C) (m : Om X C (cmpInfo op).2.2 g) (F : FnOk X.prog X.w X.K X.mg X.base CX k g fd ps sp) (hr : Room k X.A)
    (hb : Binds X.K fd ps []) (hx : Passes CX X E) : OpR X (compareOp op) (rRef C P sp E) := by
  intro pins s σ H x y v u Q I rx ry h
  obtain ⟨hp, ⟨a, dx, fs, rfl, ha⟩, q⟩ := h
  cases (show u = Value.ref a from ry)
  obtain ⟨od, J⟩ := inst_of I ha
  obtain ⟨T, id, bk, slot, dec⟩ := d.run pins σ H s C a dx fs x v c I rx hp ha
  rw [hop]
  refine AmL.refl_inst (op := op) hr.units0 I.kIn J (bk.typeIs I rx) slot (fun Q' q' => dec _ Q' q') (c.sub bk) m.hs m.hf ?_
  refine wpAny_mono (run_fn (us := [.ref a, v]) (vs := [.ref a, x]) (dvs := []) F hr hb .nil hx I (.cons rfl (.cons rx .nil)) q) (fun w s' z => ?_) fun _ _ x => x
  obtain ⟨z', H', I', rz, qz⟩ := z
  exact SlX.cmpback rz ⟨z', H', I', rz, qz⟩
def rRefN (C : Addr) (P : Hp → V → Prop) (sp : Sp) (E : XK) : R2 := fun x y H Q => P H x ∧ (∃ a dx fs, y = .ref a ∧ H a = some (.ins C dx fs)) ∧ sp [y, x] H (fun v H' => ∃ b, v = .bl b ∧ Q (.bl (!b)) H') E
theorem op_refN {P : Hp → V → Prop} (d : Dec X .NotEq P) (c : OpC X.K C) (m : Om X C "__eq__" g) (F : FnOk X.prog X.w X.K X.mg X.base CX k g fd ps sp) (hr : Room (k + 1) X.A)
    (hb : Binds X.K fd ps []) (hx : Passes CX X E) : OpR X (compareOp .NotEq) (rRefN C P sp E) := by
  intro pins s σ H x y v u Q I rx ry h
  obtain ⟨hp, ⟨a, dx, fs, rfl, ha⟩, q⟩ := h
  cases (show u = Value.ref a from ry)
  obtain ⟨od, J⟩ := inst_of I ha
  obtain ⟨T, id, bk, slot, dec⟩ := d.run pins σ H s C a dx fs x v c I rx hp ha
  show wpAny (model X.prog X.w) X.A (richCompare .NotEq _ _) (EP X pins σ Q) X.xe s
  refine AmL.ne_refl (by have := hr.units; omega) I.kIn J (bk.typeIs I rx) slot (fun Q' q' => dec _ Q' q') (c.sub bk) c.ne c.ob m.hs m.hf ?_
  refine wpAny_mono (run_in1 (us := [.ref a, v]) (vs := [.ref a, x]) F hr hb hx I (.cons rfl (.cons rx .nil)) q) (fun w s' z => ?_) fun _ _ x => x
  obtain ⟨z', H', I', rz, b, rfl, qz⟩ := z
  cases (show w = Value.bool b from rz)
  exact ⟨b, rfl, .bl (!b), H', I', rfl, qz⟩
end
section
variable {X : Cx}
theorem meets_call {T : String} {name : Str} {id : String} {B : Builtin} {v : Value} {rest : List Value} {A : Around} {E : Value → Shared → Prop} {s : Shared} {prog : Program} {w : World} (slot : Slot T name id) (hT : s.TypeIs v T) (entry : entryFor table id = some B) (args : argsOk id ⟨v :: rest, []⟩)
    {P : Shared → Prop} (g : PySem.Meets (B ⟨v :: rest, []⟩) (fun _ R s => P s ∧ R (.ok (.ret .notImplemented)) s)) (hp : P s) (Q' : Value → Shared → Prop) (q : Q' .notImplemented s) : wpAny (model prog w) A (call (.builtin id) (v :: rest)) Q' E s :=
  wpAny_call (codeAny_call_builtin slot.plain entry (slot.check _ _ _ _ _ _ _ _ hT args (g prog w A (wants Q' E) s ⟨hp, q⟩)))
def PInt : Hp → V → Prop := fun _ x => ∃ i, x = .int i
theorem dec_intEq : Dec X .Eq PInt := ⟨fun pins σ H s C a dx fs x v c I r hp ha => by
  obtain ⟨i, rfl⟩ := hp
  obtain ⟨t, rfl⟩ := (show ∃ t, v = Value.int i t from r)
  exact ⟨"int", _, .int i, PySem.F.slot_int_eq, fun E Q' q => meets_call PySem.F.slot_int_eq (typeIs_int s i t) PySem.F.entry_int_eq (PySem.F.args_int_eq_2 _ _) (AmL.dec_int_eq i t C) (plain_of I ha) Q' q⟩⟩
theorem dec_intNotEq : Dec X .NotEq PInt := ⟨fun pins σ H s C a dx fs x v c I r hp ha => by
  obtain ⟨i, rfl⟩ := hp
  obtain ⟨t, rfl⟩ := (show ∃ t, v = Value.int i t from r)
  exact ⟨"int", _, .int i, PySem.F.slot_int_ne, fun E Q' q => meets_call PySem.F.slot_int_ne (typeIs_int s i t) PySem.F.entry_int_ne (PySem.F.args_int_ne_2 _ _) (AmL.dec_int_ne i t C) (plain_of I ha) Q' q⟩⟩
theorem dec_intLt : Dec X .Lt PInt := ⟨fun pins σ H s C a dx fs x v c I r hp ha => by
  obtain ⟨i, rfl⟩ := hp
  obtain ⟨t, rfl⟩ := (show ∃ t, v = Value.int i t from r)
  exact ⟨"int", _, .int i, PySem.F.slot_int_lt, fun E Q' q => meets_call PySem.F.slot_int_lt (typeIs_int s i t) PySem.F.entry_int_lt (PySem.F.args_int_lt_2 _ _) (AmL.dec_int_lt i t C) (plain_of I ha) Q' q⟩⟩
theorem dec_intLtE : Dec X .LtE PInt := ⟨fun pins σ H s C a dx fs x v c I r hp ha => by
  obtain ⟨i, rfl⟩ := hp
  obtain ⟨t, rfl⟩ := (show ∃ t, v = Value.int i t from r)
  exact ⟨"int", _, .int i, PySem.F.slot_int_le, fun E Q' q => meets_call PySem.F.slot_int_le (typeIs_int s i t) PySem.F.entry_int_le (PySem.F.args_int_le_2 _ _) (AmL.dec_int_le i t C) (plain_of I ha) Q' q⟩⟩
theorem dec_intGt : Dec X .Gt PInt := ⟨fun pins σ H s C a dx fs x v c I r hp ha => by
  obtain ⟨i, rfl⟩ := hp
  obtain ⟨t, rfl⟩ := (show ∃ t, v = Value.int i t from r)
  exact ⟨"int", _, .int i, PySem.F.slot_int_gt, fun E Q' q => meets_call PySem.F.slot_int_gt (typeIs_int s i t) PySem.F.entry_int_gt (PySem.F.args_int_gt_2 _ _) (AmL.dec_int_gt i t C) (plain_of I ha) Q' q⟩⟩
theorem dec_intGtE : Dec X .GtE PInt := ⟨fun pins σ H s C a dx fs x v c I r hp ha => by
  obtain ⟨i, rfl⟩ := hp
  obtain ⟨t, rfl⟩ := (show ∃ t, v = Value.int i t from r)
  exact ⟨"int", _, .int i, PySem.F.slot_int_ge, fun E Q' q => meets_call PySem.F.slot_int_ge (typeIs_int s i t) PySem.F.entry_int_ge (PySem.F.args_int_ge_2 _ _) (AmL.dec_int_ge i t C) (plain_of I ha) Q' q⟩⟩
def PBk : Hp → V → Prop := fun H x => ∃ T, Bk H x T
theorem dec_bkEq : Dec X .Eq PBk := ⟨fun pins σ H s C a dx fs x v c I r hp ha => by
  obtain ⟨T, b⟩ := hp
  refine ⟨T, ?_⟩
  have hT := b.typeIs I r
  cases b with
  | non =>
    cases (show v = Value.none from r)
    exact ⟨_, .non, PySem.F.slot_NoneType_eq, fun E Q' q => call_gives PySem.F.slot_NoneType_eq hT PySem.F.entry_NoneType_eq (PySem.F.args_NoneType_eq_2 _ _) AmL.dec_none_eq q⟩
  | bl k =>
    cases (show v = Value.bool k from r)
    exact ⟨_, .bl k, PySem.F.slot_bool_eq, fun E Q' q => meets_call PySem.F.slot_bool_eq hT PySem.F.entry_int_eq (PySem.F.args_int_eq_2 _ _) (AmL.dec_bool_eq k C) (plain_of I ha) Q' q⟩
  | int i =>
    obtain ⟨t, rfl⟩ := (show ∃ t, v = Value.int i t from r)
    exact ⟨_, .int i, PySem.F.slot_int_eq, fun E Q' q => meets_call PySem.F.slot_int_eq hT PySem.F.entry_int_eq (PySem.F.args_int_eq_2 _ _) (AmL.dec_int_eq i t C) (plain_of I ha) Q' q⟩
  | str z =>
    obtain ⟨t, rfl⟩ := (show ∃ t, v = Value.str z t from r)
    exact ⟨_, .str z, PySem.F.slot_str_eq, fun E Q' q => meets_call PySem.F.slot_str_eq hT PySem.F.entry_str_eq (PySem.F.args_str_eq_2 _ _) (AmL.dec_str_eq z t C) (plain_of I ha) Q' q⟩
  | @lst l xs ea =>
    cases (show v = Value.ref l from r)
    exact ⟨_, .lst ea, PySem.F.slot_list_eq, fun E Q' q => GQ.call_here PySem.F.slot_list_eq hT PySem.F.entry_list_eq (PySem.F.args_list_eq_2 _ _) (AmL.dec_list_eq (R := wants Q' E) (insub I ha c.s5) q)⟩
  | @tup l xs ea =>
    cases (show v = Value.ref l from r)
    exact ⟨_, .tup ea, PySem.F.slot_tuple_eq, fun E Q' q => GQ.call_here PySem.F.slot_tuple_eq hT PySem.F.entry_tuple_eq (PySem.F.args_tuple_eq_2 _ _) (AmL.dec_tuple_eq (R := wants Q' E) (insub I ha c.s6) q)⟩
  | @dK l kvs ea =>
    cases (show v = Value.ref l from r)
    exact ⟨_, .dK ea, PySem.F.slot_dict_eq, fun E Q' q => GQ.call_here PySem.F.slot_dict_eq hT PySem.F.entry_dict_eq (PySem.F.args_dict_eq_2 _ _) (AmL.dec_dict_eq (R := wants Q' E) (insub I ha c.s7) q)⟩⟩
theorem dec_bkNotEq : Dec X .NotEq PBk := ⟨fun pins σ H s C a dx fs x v c I r hp ha => by
  obtain ⟨T, b⟩ := hp
  refine ⟨T, ?_⟩
  have hT := b.typeIs I r
  cases b with
  | non =>
    cases (show v = Value.none from r)
    exact ⟨_, .non, PySem.F.slot_NoneType_ne, fun E Q' q => call_gives PySem.F.slot_NoneType_ne hT PySem.F.entry_NoneType_ne (PySem.F.args_NoneType_ne_2 _ _) AmL.dec_none_ne q⟩
  | bl k =>
    cases (show v = Value.bool k from r)
    exact ⟨_, .bl k, PySem.F.slot_bool_ne, fun E Q' q => meets_call PySem.F.slot_bool_ne hT PySem.F.entry_int_ne (PySem.F.args_int_ne_2 _ _) (AmL.dec_bool_ne k C) (plain_of I ha) Q' q⟩
  | int i =>
    obtain ⟨t, rfl⟩ := (show ∃ t, v = Value.int i t from r)
    exact ⟨_, .int i, PySem.F.slot_int_ne, fun E Q' q => meets_call PySem.F.slot_int_ne hT PySem.F.entry_int_ne (PySem.F.args_int_ne_2 _ _) (AmL.dec_int_ne i t C) (plain_of I ha) Q' q⟩
  | str z =>
    obtain ⟨t, rfl⟩ := (show ∃ t, v = Value.str z t from r)
    exact ⟨_, .str z, PySem.F.slot_str_ne, fun E Q' q => meets_call PySem.F.slot_str_ne hT PySem.F.entry_str_ne (PySem.F.args_str_ne_2 _ _) (AmL.dec_str_ne z t C) (plain_of I ha) Q' q⟩
  | @lst l xs ea =>
    cases (show v = Value.ref l from r)
    exact ⟨_, .lst ea, PySem.F.slot_list_ne, fun E Q' q => GQ.call_here PySem.F.slot_list_ne hT PySem.F.entry_list_ne (PySem.F.args_list_ne_2 _ _) (AmL.dec_list_ne (R := wants Q' E) (insub I ha c.s5) q)⟩
  | @tup l xs ea =>
    cases (show v = Value.ref l from r)
    exact ⟨_, .tup ea, PySem.F.slot_tuple_ne, fun E Q' q => GQ.call_here PySem.F.slot_tuple_ne hT PySem.F.entry_tuple_ne (PySem.F.args_tuple_ne_2 _ _) (AmL.dec_tuple_ne (R := wants Q' E) (insub I ha c.s6) q)⟩
  | @dK l kvs ea =>
    cases (show v = Value.ref l from r)
    exact ⟨_, .dK ea, PySem.F.slot_dict_ne, fun E Q' q => GQ.call_here PySem.F.slot_dict_ne hT PySem.F.entry_dict_ne (PySem.F.args_dict_ne_2 _ _) (AmL.dec_dict_ne (R := wants Q' E) (insub I ha c.s7) q)⟩⟩
end
section
variable {X : Cx} {C g : Addr} {k : Nat} {fd : FuncData} {ps : List Str} {sp : Sp} {CX : CXT} {E : XK}
/-- what an arithmetic operator asks of the type int -/
structure OpI (X : Cx) (C : Addr) (nm : String) : Prop where
  h1 : ∃ fo, PySem.W.findIn X.K (.type "int") (PySem.dunder nm) = some fo
  h2 : ∃ ro, PySem.W.findIn X.K (.type "int") (PySem.dunderR nm) = some ro
  hr : ∃ g : Addr, PySem.W.findIn X.K (.ref C) (PySem.dunderR nm) = some (some (.ref g))
/-- x op y: x an instance, y an instance or an int -/
def OrI (C : Addr) (H : Hp) (y : V) : Prop := (∃ b dy gs, y = .ref b ∧ H b = some (.ins C dy gs)) ∨ ∃ i, y = .int i
def rBin (C : Addr) (sp : Sp) (E : XK) : R2 := fun x y H Q => (∃ a dx fs, x = .ref a ∧ H a = some (.ins C dx fs)) ∧ OrI C H y ∧ sp [x, y] H Q E
theorem op_binC {op : Operator} (c : OpC X.K C) (ci : OpI X C op.info.2) (m : Om X C (PySem.dunder op.info.2) g) (F : FnOk X.prog X.w X.K X.mg X.base CX k g fd ps sp) (hr : Room k X.A) (hb : Binds X.K fd ps [])
    (hx : Passes CX X E) : OpR X (binaryOp op) (rBin C sp E) := by
  intro pins s σ H x y v u Q I rx ry h
  obtain ⟨⟨a, dx, fs, rfl, ha⟩, hy, q⟩ := h
  cases (show v = Value.ref a from rx)
  obtain ⟨od, J⟩ := inst_of I ha
  obtain ⟨mm, hF⟩ := I.fr
  have fin : wpAny (model X.prog X.w) X.A (call (.ref g) [.ref a, u]) (PySem.W.CmpBack (EP X pins σ Q)) X.xe s := by
    refine wpAny_mono (run_fn (us := [.ref a, u]) (vs := [.ref a, y]) (dvs := []) F hr hb .nil hx I (.cons rfl (.cons ry .nil)) q) (fun w s' z => ?_) fun _ _ x => x
    obtain ⟨z', H', I', rz, qz⟩ := z
    exact SlX.cmpback rz ⟨z', H', I', rz, qz⟩
  rcases hy with ⟨b, dy, gs, rfl, hb'⟩ | ⟨i, rfl⟩
  · cases (show u = Value.ref b from ry)
    obtain ⟨od', J'⟩ := inst_of I hb'
    exact PySem.W.binop_K hF I.ok.mod.kin J J'.type c.sf m.hs m.hf fin
  · obtain ⟨t, rfl⟩ := (show ∃ t, u = Value.int i t from ry)
    obtain ⟨fo, h1⟩ := ci.h1
    obtain ⟨ro, h2⟩ := ci.h2
    obtain ⟨g', h3⟩ := ci.hr
    exact PySem.W.ksp_binT hF I.ok.mod.kin J rfl c.sf m.hs m.hf h3 (.inr ⟨g', rfl⟩) h1 h2 c.r1 fin
/-- -x -/
def rNegC (C : Addr) (sp : Sp) (E : XK) : V → Hp → VK → Prop := fun x H Q => (∃ a dx fs, x = .ref a ∧ H a = some (.ins C dx fs)) ∧ sp [x] H Q E
theorem un_negC (m : Om X C "__neg__" g) (F : FnOk X.prog X.w X.K X.mg X.base CX k g fd ps sp) (hr : Room k X.A) (hb : Binds X.K fd ps [])
    (hx : Passes CX X E) : UnR X (unaryOp .USub) (rNegC C sp E) := by
  intro pins s σ H x v Q I rx h
  obtain ⟨⟨a, dx, fs, rfl, ha⟩, q⟩ := h
  cases (show v = Value.ref a from rx)
  obtain ⟨od, J⟩ := inst_of I ha
  obtain ⟨mm, hF⟩ := I.fr
  exact PySem.W.ksp_neg hF I.ok.mod.kin J m.hs m.hf (run_fn (us := [.ref a]) (vs := [.ref a]) (dvs := []) F hr hb .nil hx I (.cons rfl .nil) q)
theorem UnR.or {f : Value → Sem Value} {r r' : V → Hp → VK → Prop} (h : UnR X f r) (h' : UnR X f r') : UnR X f (fun x H Q => r x H Q ∨ r' x H Q) := by
  intro pins s σ H x v Q I rx q
  rcases q with q | q
  · exact h pins s σ H x v Q I rx q
  · exact h' pins s σ H x v Q I rx q
end
end Am
namespace Am
/-! fractions in least terms -/
def gc (n u : Int) : Int := ((Nat.gcd n.natAbs u.natAbs : Nat) : Int)
def sg (n u : Int) : Int := if u < 0 then -gc n u else gc n u
def fr (n u : Int) : Int × Int := (n.fdiv (sg n u), u.fdiv (sg n u))
def Low (n u : Int) : Prop := 0 < u ∧ Nat.gcd n.natAbs u.natAbs = 1

theorem gc_pos {n u : Int} (hu : u ≠ 0) : 0 < gc n u := by
  unfold gc
  have : 0 < Nat.gcd n.natAbs u.natAbs := Nat.gcd_pos_of_pos_right _ (by omega)
  omega
theorem gc_dvd_l (n u : Int) : gc n u ∣ n := by
  unfold gc
  exact Int.ofNat_dvd_left.mpr (Nat.gcd_dvd_left _ _)
theorem gc_dvd_r (n u : Int) : gc n u ∣ u := by
  unfold gc
  exact Int.ofNat_dvd_left.mpr (Nat.gcd_dvd_right _ _)
theorem sg_ne {n u : Int} (hu : u ≠ 0) : sg n u ≠ 0 := by
  have := gc_pos (n := n) hu
  unfold sg
  split <;> omega
theorem sg_dvd_l (n u : Int) : sg n u ∣ n := by
  unfold sg
  split
  · exact Int.neg_dvd.mpr (gc_dvd_l n u)
  · exact gc_dvd_l n u
theorem sg_dvd_r (n u : Int) : sg n u ∣ u := by
  unfold sg
  split
  · exact Int.neg_dvd.mpr (gc_dvd_r n u)
  · exact gc_dvd_r n u
theorem fdiv_mul {a b : Int} (h : b ∣ a) : a.fdiv b * b = a := by
  obtain ⟨c, rfl⟩ := h
  by_cases hb : b = 0
  · subst hb; simp
  · rw [Int.mul_fdiv_cancel_left _ hb, Int.mul_comm]
theorem fr_l {n u : Int} : (fr n u).1 * sg n u = n := fdiv_mul (sg_dvd_l n u)
theorem fr_r {n u : Int} : (fr n u).2 * sg n u = u := fdiv_mul (sg_dvd_r n u)
theorem natAbs_sg (n u : Int) : (sg n u).natAbs = Nat.gcd n.natAbs u.natAbs := by
  unfold sg gc
  split <;> omega
theorem fr_low {n u : Int} (hu : u ≠ 0) : Low (fr n u).1 (fr n u).2 := by
  have hg := gc_pos (n := n) hu
  have h1 := fr_l (n := n) (u := u)
  have h2 := fr_r (n := n) (u := u)
  have a1 : (fr n u).1.natAbs * Nat.gcd n.natAbs u.natAbs = n.natAbs := by
    rw [← natAbs_sg, ← Int.natAbs_mul, h1]
  have a2 : (fr n u).2.natAbs * Nat.gcd n.natAbs u.natAbs = u.natAbs := by
    rw [← natAbs_sg, ← Int.natAbs_mul, h2]
  have gp : 0 < Nat.gcd n.natAbs u.natAbs := Nat.gcd_pos_of_pos_right _ (by omega)
  refine ⟨?_, ?_⟩
  · by_cases c : u < 0
    · have e : sg n u = -gc n u := if_pos c
      rw [e] at h2
      refine Int.lt_of_not_ge fun q => ?_
      have : 0 ≤ (fr n u).2 * -gc n u := by
        have := Int.mul_nonneg (a := -(fr n u).2) (b := gc n u) (by omega) (by omega)
        rw [Int.neg_mul] at this
        rw [Int.mul_neg]
        exact this
      omega
    · have e : sg n u = gc n u := if_neg c
      rw [e] at h2
      refine Int.lt_of_not_ge fun q => ?_
      have : 0 ≤ -((fr n u).2 * gc n u) := by
        have := Int.mul_nonneg (a := -(fr n u).2) (b := gc n u) (by omega) (by omega)
        rw [Int.neg_mul] at this
        exact this
      omega
  · have k : Nat.gcd ((fr n u).1.natAbs * Nat.gcd n.natAbs u.natAbs) ((fr n u).2.natAbs * Nat.gcd n.natAbs u.natAbs) = Nat.gcd n.natAbs u.natAbs := by
      rw [a1, a2]
    rw [Nat.gcd_mul_right] at k
    have k' : Nat.gcd (fr n u).1.natAbs (fr n u).2.natAbs * Nat.gcd n.natAbs u.natAbs = 1 * Nat.gcd n.natAbs u.natAbs := by rw [k, Nat.one_mul]
    exact Nat.eq_of_mul_eq_mul_right gp k'
theorem Low.ne {n u : Int} (h : Low n u) : u ≠ 0 := by have := h.1; omega
theorem low_one (n : Int) : Low n 1 := ⟨by decide, by simp⟩
theorem Low.neg {n u : Int} (h : Low n u) : Low (-n) u := ⟨h.1, by rw [Int.natAbs_neg]; exact h.2⟩
theorem fr_of_low {n u : Int} (h : Low n u) : fr n u = (n, u) := by
  have e : sg n u = 1 := by
    unfold sg gc
    rw [h.2, if_neg (by have := h.1; omega)]
    rfl
  unfold fr
  rw [e, Int.fdiv_one, Int.fdiv_one]
theorem fr_pos_lt {n u : Int} (hu : 0 < u) : decide ((fr n u).1 < 0) = decide (n < 0) := by
  have e : sg n u = gc n u := if_neg (by omega)
  have hg := gc_pos (n := n) (u := u) (by omega)
  have h := fr_l (n := n) (u := u)
  rw [e] at h
  refine decide_eq_decide.mpr ⟨fun q => ?_, fun q => ?_⟩
  · have := Int.mul_neg_of_neg_of_pos q hg
    omega
  · refine Int.lt_of_not_ge fun z => ?_
    have := Int.mul_nonneg z (Int.le_of_lt hg)
    omega
theorem fr_pos_le {n u : Int} (hu : 0 < u) : decide ((fr n u).1 ≤ 0) = decide (n ≤ 0) := by
  have e : sg n u = gc n u := if_neg (by omega)
  have hg := gc_pos (n := n) (u := u) (by omega)
  have h := fr_l (n := n) (u := u)
  rw [e] at h
  refine decide_eq_decide.mpr ⟨fun q => ?_, fun q => ?_⟩
  · have := Int.mul_nonneg (a := -(fr n u).1) (b := gc n u) (by omega) (by omega)
    rw [Int.neg_mul] at this
    omega
  · refine Int.le_of_not_gt fun z => ?_
    have := Int.mul_pos z hg
    omega
theorem le_of_mul {a b c : Nat} (h : a * b = c) (hb : 0 < b) : a ≤ c := by
  rw [← h]
  exact Nat.le_mul_of_pos_right a hb
theorem fr_le1 {n u : Int} (hu : u ≠ 0) : (fr n u).1.natAbs ≤ n.natAbs := by
  have gp : 0 < Nat.gcd n.natAbs u.natAbs := Nat.gcd_pos_of_pos_right _ (by omega)
  exact le_of_mul (b := Nat.gcd n.natAbs u.natAbs) (by rw [← natAbs_sg, ← Int.natAbs_mul, fr_l]) gp
theorem fr_le2 {n u : Int} (hu : u ≠ 0) : (fr n u).2.natAbs ≤ u.natAbs := by
  have gp : 0 < Nat.gcd n.natAbs u.natAbs := Nat.gcd_pos_of_pos_right _ (by omega)
  exact le_of_mul (b := Nat.gcd n.natAbs u.natAbs) (by rw [← natAbs_sg, ← Int.natAbs_mul, fr_r]) gp
theorem sg_le {n u : Int} (hu : u ≠ 0) : (sg n u).natAbs ≤ u.natAbs := by
  rw [natAbs_sg]
  exact Nat.le_of_dvd (by omega) (Nat.gcd_dvd_right _ _)
/-- the law's own fraction: the sign ahead, then // by the greatest divisor -/
theorem law_fr {n u : Int} (hu : u ≠ 0) : fr n u = (((if u > 0 then 1 else -1) * n).fdiv (gc n u), ((if u > 0 then 1 else -1) * u).fdiv (gc n u)) := by
  unfold fr sg
  by_cases c : u < 0
  · rw [if_pos c, if_neg (by omega)]
    have e : ∀ x : Int, x.fdiv (-gc n u) = (-1 * x).fdiv (gc n u) := fun x => by
      have := Int.neg_fdiv_neg (-x) (gc n u)
      rw [Int.neg_neg] at this
      rw [this]
      congr 1
      omega
    rw [e, e]
  · rw [if_neg c, if_pos (by omega), Int.one_mul, Int.one_mul]
end Am
namespace Am
open PySem PySem.Spec PyProof.Rows L2
def top (i : Nat) : Stmt := PySem.Challenge.pw_whoseuse_k07_who_lives_where_and_prices.main.body.getD i (.Pass ⟨0, 0, 0, 0⟩)
abbrev sF__wall : Stmt := top 0
abbrev sInitE : Stmt := inClass (top 2) 0
abbrev sWhole : Stmt := top 9
abbrev sIsName : Stmt := top 10
abbrev sDec : Stmt := top 11
abbrev sAsc : Stmt := top 12
abbrev sHInit : Stmt := inClass (top 16) 0
abbrev sHText : Stmt := inClass (top 16) 1
abbrev sHLives : Stmt := inClass (top 16) 2
abbrev sHRoom : Stmt := inClass (top 16) 3
abbrev sHPrice : Stmt := inClass (top 16) 4
abbrev sHIsUse : Stmt := inClass (top 16) 5
abbrev sHEq : Stmt := inClass (top 16) 6
abbrev sHIsPlace : Stmt := inClass (top 16) 7
abbrev sHIsDay : Stmt := inClass (top 16) 8
abbrev sHIsPU : Stmt := inClass (top 16) 9
abbrev sDrInit : Stmt := inClass (top 17) 0
abbrev sDrTake : Stmt := inClass (top 17) 1
abbrev sDrDays : Stmt := inClass (top 17) 2
abbrev sDrPlace : Stmt := inClass (top 17) 3
abbrev sDrPrice : Stmt := inClass (top 17) 4
abbrev sDrStay : Stmt := inClass (top 17) 5
abbrev sDrHasP : Stmt := inClass (top 17) 6
abbrev sDrHasF : Stmt := inClass (top 17) 7
abbrev sDrIsLet : Stmt := inClass (top 17) 8
abbrev sDrafted : Stmt := top 18
abbrev sTenants : Stmt := top 19
abbrev sPricesOf : Stmt := top 20
abbrev sJar : Stmt := top 22
abbrev sTake : Stmt := top 23
abbrev sOf : Stmt := top 24
abbrev sL_titles : Stmt := top 25
abbrev sL_stays : Stmt := top 26
abbrev sL_prices : Stmt := top 27
abbrev sL_page : Stmt := top 28
abbrev sL_who : Stmt := top 29
abbrev sL_price : Stmt := top 30
abbrev sL_wide : Stmt := top 31
abbrev sL_caught : Stmt := top 32
abbrev sL_are_told : Stmt := top 33
abbrev sL_no_flat : Stmt := top 34
abbrev sL_no_day : Stmt := top 35
abbrev sL_are_refused : Stmt := top 36
abbrev sL_fine : Stmt := top 37
abbrev sLaw : Stmt := top 38
end Am
namespace Am
open PySem PySem.Spec PyProof.Rows L2

/-! ### data -/
def pf (n u : Int) : List (Str × V) := putF "under" (.int u) (putF "number" (.int n) [])
theorem nu_ : ¬ (("number" : Str) = "under") := by decide +kernel
theorem un_ : ¬ (("under" : Str) = "number") := by decide +kernel
theorem pf_number (n u : Int) : (pf n u).lookup ("number" : Str) = some (.int n) := by
  unfold pf
  rw [lookup_putF, if_neg nu_, lookup_putF, if_pos rfl]
theorem pf_under (n u : Int) : (pf n u).lookup ("under" : Str) = some (.int u) := by
  unfold pf
  rw [lookup_putF, if_pos rfl]
/-- an Amount in least terms -/
def AmAt (C : Addr) (H : Hp) (v : V) (n u : Int) : Prop := Low n u ∧ ∃ a dx, v = .ref a ∧ H a = some (.ins C dx (pf n u))
/-- an Amount or an integer -/
def AmV (C : Addr) (H : Hp) (v : V) (n u : Int) : Prop := AmAt C H v n u ∨ (v = .int n ∧ u = 1)
theorem AmAt.same {C : Addr} {H H' : Hp} {v : V} {n u : Int} (e : Same H H') (h : AmAt C H v n u) : AmAt C H' v n u := by
  obtain ⟨l, a, dx, rfl, h⟩ := h
  exact ⟨l, a, dx, rfl, e _ _ h⟩
theorem AmV.same {C : Addr} {H H' : Hp} {v : V} {n u : Int} (e : Same H H') (h : AmV C H v n u) : AmV C H' v n u := h.elim (fun h => .inl (h.same e)) .inr
theorem AmAt.low {C : Addr} {H : Hp} {v : V} {n u : Int} (h : AmAt C H v n u) : Low n u := h.1
theorem AmV.low {C : Addr} {H : Hp} {v : V} {n u : Int} (h : AmV C H v n u) : Low n u := h.elim (fun h => h.1) fun ⟨_, e⟩ => by rw [e]; exact low_one n
theorem AmAt.inst {C : Addr} {H : Hp} {v : V} {n u : Int} (h : AmAt C H v n u) : ∃ a dx fs, v = .ref a ∧ H a = some (.ins C dx fs) := by
  obtain ⟨l, a, dx, rfl, h⟩ := h
  exact ⟨a, dx, _, rfl, h⟩
theorem AmV.orB {C : Addr} {H : Hp} {v : V} {n u : Int} (h : AmV C H v n u) : OrB C H v := by
  rcases h with h | ⟨rfl, _⟩
  · obtain ⟨a, dx, fs, rfl, ha⟩ := h.inst
    exact .inl ⟨a, dx, fs, rfl, ha⟩
  · exact .inr ⟨_, .int n⟩
theorem AmV.orI {C : Addr} {H : Hp} {v : V} {n u : Int} (h : AmV C H v n u) : OrI C H v := by
  rcases h with h | ⟨rfl, _⟩
  · obtain ⟨a, dx, fs, rfl, ha⟩ := h.inst
    exact .inl ⟨a, dx, fs, rfl, ha⟩
  · exact .inr ⟨n, rfl⟩
def Bd (k : Nat) (n : Int) : Prop := n.natAbs < 2 ^ k
theorem same_upd {H : Hp} {p : Addr} {o : HO} (h : H p = none) : Same H (upd H p o) := fun b u e => by rw [upd_ne (ne_of_none e h)]; exact e

/-! ### facts of the text -/
structure Txt (K : PySem.W.Frag) (mg : Str → Option Value) (C : Addr) : Prop where
  cl : Cls K C
  op : OpC K C
  ca : PySem.W.findIn K (.ref C) "__class__" = some (some (.builtin "object.__class__"))
  cn : PySem.W.specialIn K (.builtin "object.__class__") "__get__" = some (some (.builtin "getset_descriptor.__get__"))
  ct : PySem.W.takesIn K (.builtin "object.__class__") = some true
  kC : PySem.W.kitOne K (.ref C) (.ref C) = some true
  kI : PySem.W.kitOne K (.ref C) (.type "int") = some false
  k1 : PySem.W.kitOne K (.type "int") (.ref C) = some false
  k2 : PySem.W.kitOne K (.type "bool") (.ref C) = some false
  k3 : PySem.W.kitOne K (.type "NoneType") (.ref C) = some false
  k4 : PySem.W.kitOne K (.type "str") (.ref C) = some false
  k5 : PySem.W.kitOne K (.type "list") (.ref C) = some false
  k6 : PySem.W.kitOne K (.type "tuple") (.ref C) = some false
  k7 : PySem.W.kitOne K (.type "dict") (.ref C) = some false
  nN : NoAttr K C "number"
  nU : NoAttr K C "under"
  mgC : mg "Amount" = some (.ref C)
  isi : mg "isinstance" = none
  int : mg "int" = none
  bool : mg "bool" = none
  gcd : mg "gcd" = some (.builtin "math.gcd")
theorem Txt.kOf {K : PySem.W.Frag} {mg : Str → Option Value} {C : Addr} {H : Hp} {x : V} {T : String} (t : Txt K mg C) (b : Bk H x T) : PySem.W.kitOne K (.type T) (.ref C) = some false := by
  cases b <;> first | exact t.k1 | exact t.k2 | exact t.k3 | exact t.k4 | exact t.k5 | exact t.k6 | exact t.k7
def isIB : V → Bool
  | .int _ => true
  | .bl _ => true
  | _ => false
def isB : V → Bool
  | .bl _ => true
  | _ => false
theorem kB_int {K : PySem.W.Frag} {H : Hp} {x : V} {T : String} (b : Bk H x T) : PySem.W.kitOne K (.type T) (.type "int") = some (isIB x) := by
  cases b with
  | non => exact kit_ty (show kitB "NoneType" "int" = some false by decide +kernel)
  | bl => exact kit_ty (show kitB "bool" "int" = some true by decide +kernel)
  | int => exact kit_ty (show kitB "int" "int" = some true by decide +kernel)
  | str => exact kit_ty (show kitB "str" "int" = some false by decide +kernel)
  | lst => exact kit_ty (show kitB "list" "int" = some false by decide +kernel)
  | tup => exact kit_ty (show kitB "tuple" "int" = some false by decide +kernel)
  | dK => exact kit_ty (show kitB "dict" "int" = some false by decide +kernel)
theorem kB_bool {K : PySem.W.Frag} {H : Hp} {x : V} {T : String} (b : Bk H x T) : PySem.W.kitOne K (.type T) (.type "bool") = some (isB x) := by
  cases b with
  | non => exact kit_ty (show kitB "NoneType" "bool" = some false by decide +kernel)
  | bl => exact kit_ty (show kitB "bool" "bool" = some true by decide +kernel)
  | int => exact kit_ty (show kitB "int" "bool" = some false by decide +kernel)
  | str => exact kit_ty (show kitB "str" "bool" = some false by decide +kernel)
  | lst => exact kit_ty (show kitB "list" "bool" = some false by decide +kernel)
  | tup => exact kit_ty (show kitB "tuple" "bool" = some false by decide +kernel)
  | dK => exact kit_ty (show kitB "dict" "bool" = some false by decide +kernel)
theorem Txt.tyC {K : PySem.W.Frag} {mg : Str → Option Value} {C a dx : Addr} {H : Hp} {fs : List (Str × V)} (t : Txt K mg C) (h : H a = some (.ins C dx fs)) : TyX K H (.ref a) (.ref C) :=
  .base (.ins h t.cl t.ca t.cn t.ct t.op.ob)

/-! ### promises -/
def spWhole (C : Addr) : Sp := fun vs H Q _ => ∃ v, vs = [v] ∧ ((∃ T, Bk H v T) ∨ ∃ a dx fs, v = .ref a ∧ H a = some (.ins C dx fs)) ∧ Q (.bl (isI v)) H
def IsAm (C : Addr) (H : Hp) (v : V) (b : Bool) : Prop := ((∃ T, Bk H v T) ∧ b = isI v) ∨ ((∃ a dx fs, v = .ref a ∧ H a = some (.ins C dx fs)) ∧ b = true)
def spIsAm (C : Addr) : Sp := fun vs H Q _ => ∃ v b, vs = [v] ∧ IsAm C H v b ∧ Q (.bl b) H
theorem AmV.isAm {C : Addr} {H : Hp} {y : V} {n u : Int} (h : AmV C H y n u) : IsAm C H y true := by
  rcases h with h | ⟨rfl, _⟩
  · exact .inr ⟨h.inst, rfl⟩
  · exact .inl ⟨⟨_, .int n⟩, rfl⟩
def spParts (C : Addr) : Sp := fun vs H Q _ => ∃ v n u, vs = [v] ∧ AmV C H v n u ∧ ∀ p, H p = none → Q (.ref p) (upd H p (.tup [.int n, .int u]))
def spInit (C : Addr) : Sp := fun vs H Q _ => ∃ x dx n u, vs = [.ref x, .int n, .int u] ∧ H x = some (.ins C dx []) ∧ u ≠ 0 ∧ Bd 8900 n ∧ Bd 8900 u ∧
  ∀ H' : Hp, H' x = some (.ins C dx (pf (fr n u).1 (fr n u).2)) → (∀ b o, H b = some o → b ≠ x → H' b = some o) → Q .non H'
/-- // by any divisor below 2 ^ 9000 -/
theorem op_fdivX {X : Cx} : OpR X (binaryOp .FloorDiv) (rI (fun _ j => j ≠ 0 ∧ j.natAbs.log2 < 9000) fun i j => .int (i.fdiv j)) := opI fun i j _ _ _ _ _ hc q =>
  floordiv_int hc.1 q (.inl (PyProof.noPylong_of_log2 hc.2))

section
variable {P : Program} {w : World} {K : PySem.W.Frag} {mg : Str → Option Value} {base : Heap}
theorem b_isi : bootBuiltins "isinstance" = some (.builtin "isinstance") := by decide +kernel
theorem b_int : bootBuiltins "int" = some (.type "int") := by decide +kernel
theorem b_bool : bootBuiltins "bool" = some (.type "bool") := by decide +kernel

end
end Am
/-! texts as lists of signs: one sign found, cut at, parted at -/
namespace SL
open PySem PySem.StrLaws PySem.Builtin PySem.Builtin.Str
abbrev ofL (l : List Nat) : Str := ⟨l.toArray⟩
theorem ofL_toList (x : Str) : ofL x.cps.toList = x := by cases x; simp [ofL]
theorem toList_ofL (l : List Nat) : (ofL l).cps.toList = l := by simp [ofL]
theorem len_toList (x : Str) : x.cps.toList.length = x.length := Array.length_toList
theorem ext {x y : Str} (h : x.cps.toList = y.cps.toList) : x = y := by rw [← ofL_toList x, ← ofL_toList y, h]
/-- where the sign stands -/
def idxs (c : Nat) : List Nat → Nat → List Nat
  | [], _ => []
  | y :: ys, k => if y = c then k :: idxs c ys (k + 1) else idxs c ys (k + 1)
theorem occ_run (x : Str) (c limit : Nat) : ∀ (m : List Nat) (i : Nat) (acc : Array Nat) (free : Nat), x.cps.toList.drop i = m → i + m.length = x.length → acc.size ≤ limit → free ≤ i →
    (forIn (List.range' i (m.length + 1)) (acc, free) (occBody x ⟨#[c]⟩ x.length limit)).run.fst.toList = acc.toList ++ (idxs c m i).take (limit - acc.size)
  | [], i, acc, free, hd, hl, hs, hf => by
    have hl' : i = x.length := by simpa using hl
    subst hl'
    rw [show List.range' x.length (([] : List Nat).length + 1) = [x.length] from rfl, List.forIn_cons]
    unfold occBody
    rw [if_neg (by rintro ⟨⟨_, h⟩, _⟩; have : (⟨#[c]⟩ : Str).length = 1 := rfl; omega)]
    simp [idxs]
  | y :: m, i, acc, free, hd, hl, hs, hf => by
    have hi : x.cps.toList[i]? = some y := by
      have e := congrArg (·[0]?) hd
      simpa using e
    have hd' : x.cps.toList.drop (i + 1) = m := by
      have e := congrArg List.tail hd
      simpa using e
    have hl' : (i + 1) + m.length = x.length := by simp only [List.length_cons] at hl; omega
    rw [List.length_cons, List.range'_succ, List.forIn_cons]
    unfold occBody
    by_cases hc : y = c
    · subst hc
      have hat := (subAt_one x y i).mpr hi
      by_cases hlt : acc.size < limit
      · rw [if_pos ⟨⟨⟨hlt, hf⟩, hat.1⟩, hat.2⟩]
        have ih := occ_run x y limit m (i + 1) (acc.push i) (i + (⟨#[y]⟩ : Str).length) hd' hl' (by rw [Array.size_push]; omega) (Nat.le_refl _)
        refine Eq.trans ih ?_
        have e : limit - acc.size = (limit - (acc.push i).size) + 1 := by rw [Array.size_push]; omega
        rw [e]
        simp [idxs]
      · rw [if_neg (by rintro ⟨⟨⟨h, _⟩, _⟩, _⟩; exact hlt h)]
        have ih := occ_run x y limit m (i + 1) acc free hd' hl' hs (by omega)
        refine Eq.trans ih ?_
        have e : limit - acc.size = 0 := by omega
        rw [e]
        simp
    · rw [if_neg (by rintro ⟨⟨_, h1⟩, h2⟩; have h3 := (subAt_one x c i).mp ⟨h1, h2⟩; rw [hi] at h3; exact hc (Option.some.inj h3))]
      have ih := occ_run x c limit m (i + 1) acc free hd' hl' hs (by omega)
      refine Eq.trans ih ?_
      simp [idxs, hc]
theorem occ_sign (x : Str) (c limit : Nat) : occurrences x ⟨#[c]⟩ 0 x.length limit = (idxs c x.cps.toList 0).take limit := by
  rw [occ_eq]
  have h := occ_run x c limit x.cps.toList 0 #[] 0 (by simp) (by rw [len_toList]; omega) (Nat.zero_le _) (Nat.le_refl _)
  have e : x.length + 1 - 0 = x.cps.toList.length + 1 := by rw [len_toList]; omega
  rw [e, h]
  simp
theorem idxs_len (c : Nat) : ∀ (m : List Nat) (k : Nat), (idxs c m k).length ≤ m.length
  | [], _ => Nat.le_refl _
  | y :: m, k => by
    have := idxs_len c m (k + 1)
    unfold idxs
    split <;> simp <;> omega
theorem idxs_none {c : Nat} : ∀ {m : List Nat} {k : Nat}, c ∉ m → idxs c m k = []
  | [], _, _ => rfl
  | y :: m, k, h => by
    unfold idxs
    rw [if_neg (fun e => h (by rw [e]; exact List.mem_cons_self ..))]
    exact idxs_none (fun z => h (List.mem_cons_of_mem _ z))
theorem idxs_app {c : Nat} {r : List Nat} : ∀ {p : List Nat} {k : Nat}, c ∉ p → idxs c (p ++ c :: r) k = (k + p.length) :: idxs c r (k + p.length + 1)
  | [], k, _ => by simp [idxs]
  | y :: p, k, h => by
    have ih := idxs_app (r := r) (k := k + 1) (fun z => h (List.mem_cons_of_mem _ z) : c ∉ p)
    rw [List.cons_append, idxs, if_neg (fun e => h (by rw [e]; exact List.mem_cons_self ..)), ih, List.length_cons]
    rw [show k + 1 + p.length = k + (p.length + 1) by omega]
/-- the list cut at each c -/
def cutAt (c : Nat) : List Nat → List (List Nat)
  | [] => [[]]
  | y :: ys => if y = c then [] :: cutAt c ys else match cutAt c ys with
    | [] => [[y]]
    | w :: ws => (y :: w) :: ws
theorem cut_ne (c : Nat) (l : List Nat) : cutAt c l ≠ [] := by
  cases l with
  | nil => simp [cutAt]
  | cons y ys =>
    unfold cutAt
    split
    · simp
    · split <;> simp
theorem cut_none {c : Nat} : ∀ {l : List Nat}, c ∉ l → cutAt c l = [l]
  | [], _ => rfl
  | y :: ys, h => by
    unfold cutAt
    rw [if_neg (fun e => h (by rw [e]; exact List.mem_cons_self ..)), cut_none (fun z => h (List.mem_cons_of_mem _ z))]
theorem cut_app {c : Nat} {r : List Nat} : ∀ {p : List Nat}, c ∉ p → cutAt c (p ++ c :: r) = p :: cutAt c r
  | [], _ => by simp [cutAt]
  | y :: p, h => by
    have ih := cut_app (r := r) (fun z => h (List.mem_cons_of_mem _ z) : c ∉ p)
    rw [List.cons_append, cutAt, if_neg (fun e => h (by rw [e]; exact List.mem_cons_self ..)), ih]
theorem first_c {c : Nat} : ∀ {l : List Nat}, c ∈ l → ∃ p r, l = p ++ c :: r ∧ c ∉ p
  | [], h => by cases h
  | y :: ys, h => by
    by_cases e : y = c
    · exact ⟨[], ys, by rw [e]; rfl, by simp⟩
    · rcases List.mem_cons.mp h with z | z
      · exact (e z.symm).elim
      · obtain ⟨p, r, h1, h2⟩ := first_c z
        refine ⟨y :: p, r, by rw [h1]; rfl, ?_⟩
        intro z
        rcases List.mem_cons.mp z with z | z
        · exact e z.symm
        · exact h2 z
theorem sub_ofL (x : Str) (a b : Nat) : strSub x a b = ofL ((x.cps.toList.drop a).take (b - a)) := ext (by rw [strSub_toList, toList_ofL])
theorem parts_eq (x : Str) (c : Nat) : ∀ (n : Nat) (m : List Nat) (a : Nat), m.length ≤ n → x.cps.toList.drop a = m → a + m.length = x.length →
    ((a :: (idxs c m a).map (· + 1)).zip (idxs c m a ++ [x.length])).map (fun p => strSub x p.1 p.2) = (cutAt c m).map ofL := by
  intro n
  induction n with
  | zero =>
    intro m a hn hd hl
    have e : m = [] := List.eq_nil_of_length_eq_zero (by omega)
    subst e
    simp [idxs, cutAt, sub_ofL, hd]
  | succ n ih =>
    intro m a hn hd hl
    by_cases hc : c ∈ m
    · obtain ⟨p, r, e, hp⟩ := first_c hc
      subst e
      have hl2 : a + (p.length + (r.length + 1)) = x.length := by simpa using hl
      have hd2 : x.cps.toList.drop (a + p.length + 1) = r := by
        have e : x.cps.toList.drop (a + p.length + 1) = (x.cps.toList.drop a).drop (p.length + 1) := by rw [List.drop_drop]; congr 1
        rw [e, hd]
        simp
      rw [idxs_app hp, cut_app hp]
      have h := ih r (a + p.length + 1) (by simp only [List.length_append, List.length_cons] at hn; omega) hd2 (by omega)
      show strSub x a (a + p.length) :: List.map (fun p => strSub x p.1 p.2) (((a + p.length + 1) :: (idxs c r (a + p.length + 1)).map (· + 1)).zip (idxs c r (a + p.length + 1) ++ [x.length])) = ofL p :: (cutAt c r).map ofL
      rw [h, sub_ofL, hd]
      have e : a + p.length - a = p.length := by omega
      rw [e]
      simp
    · rw [idxs_none hc, cut_none hc]
      show [strSub x a x.length] = [ofL m]
      rw [sub_ofL, hd]
      have e : x.length - a = m.length := by omega
      rw [e]
      simp
theorem split_sign (x : Str) (c : Nat) (h0 : x.length ≠ 0 → strKind x ≥ strKind ⟨#[c]⟩) : Txt.split x ⟨#[c]⟩ = (cutAt c x.cps.toList).map ofL := by
  unfold Txt.split
  have l1 : (⟨#[c]⟩ : Str).length = 1 := rfl
  rw [occ_sign, l1]
  by_cases hx : x.length = 0
  · have e : x.cps.toList = [] := List.eq_nil_of_length_eq_zero (by rw [len_toList]; exact hx)
    have hlt : (decide (x.length < 1) || decide (strKind x < strKind ⟨#[c]⟩)) = true := by rw [hx]; simp
    rw [if_pos hlt, e]
    show [x] = [ofL []]
    rw [← e, ofL_toList]
  · have hlt : ¬ (decide (x.length < 1) || decide (strKind x < strKind ⟨#[c]⟩)) = true := by
      have := h0 hx
      simp only [Bool.or_eq_true, decide_eq_true_eq]
      omega
    rw [if_neg hlt]
    have hlen : (idxs c x.cps.toList 0).take (x.length + 1) = idxs c x.cps.toList 0 := by
      refine List.take_of_length_le ?_
      have := idxs_len c x.cps.toList 0
      rw [len_toList] at this
      omega
    rw [hlen]
    have key := parts_eq x c x.cps.toList.length x.cps.toList 0 (Nat.le_refl _) (by simp) (by rw [len_toList]; omega)
    by_cases hem : (idxs c x.cps.toList 0).isEmpty = true
    · rw [if_pos hem]
      have e : idxs c x.cps.toList 0 = [] := List.isEmpty_iff.mp hem
      rw [e] at key
      rw [← key]
      show [x] = [strSub x 0 x.length]
      rw [sub_ofL]
      have e2 : (x.cps.toList.drop 0).take (x.length - 0) = x.cps.toList := by
        rw [List.drop_zero]
        exact List.take_of_length_le (by rw [len_toList]; omega)
      rw [e2, ofL_toList]
    · rw [if_neg hem, ← key]
      rfl
theorem part_sign (x : Str) (c : Nat) (p r : List Nat) (h : x.cps.toList = p ++ c :: r) (hp : c ∉ p) : Txt.partition x ⟨#[c]⟩ = (ofL p, ⟨#[c]⟩, ofL r) := by
  unfold Txt.partition
  rw [occ_sign, h, idxs_app hp]
  show (strSub x 0 (0 + p.length), (⟨#[c]⟩ : Str), strSub x (0 + p.length + 1) x.length) = _
  rw [sub_ofL, sub_ofL, h]
  have l : x.length = p.length + (r.length + 1) := by rw [← len_toList, h]; simp
  congr 1
  · simp
  · congr 1
    rw [l]
    have e : (p ++ c :: r).drop (0 + p.length + 1) = r := by
      have e : (0 + p.length + 1) = p.length + 1 := by omega
      rw [e]
      simp
    rw [e]
    congr 2
    refine List.take_of_length_le ?_
    omega
theorem part_none (x : Str) (c : Nat) (h : c ∉ x.cps.toList) : Txt.partition x ⟨#[c]⟩ = (x, Str.empty, Str.empty) := by
  unfold Txt.partition
  rw [occ_sign, idxs_none h]
  rfl
end SL
/-! houses: what their text tells, and how the program keeps it while it reads -/
namespace Hs
open PySem PySem.Spec PyProof.Rows L2
structure Pl where
  name : Str
  room : Nat
  inner : Bool
structure St where
  who : Str
  pl : Str
  a : Nat
  b : Nat
structure Lore where
  days : Nat
  places : List Pl
  prices : List (Nat × Nat)
  stays : List St
def plO (p : Pl) : HO := .tup [.str p.name, .int p.room, .bl p.inner]
def prO (p : Nat × Nat) : HO := .tup [.int p.1, .int p.2]
def stO (s : St) : HO := .tup [.str s.who, .str s.pl, .int s.a, .int s.b]
/-- objects one by one -/
def Refs {α : Type} (f : α → HO) (H : Hp) (rs : List Addr) (xs : List α) : Prop := rs.length = xs.length ∧ ∀ (i : Nat) (r : Addr) (x : α), rs[i]? = some r → xs[i]? = some x → H r = some (f x)
def LstAt {α : Type} (f : α → HO) (H : Hp) (l : Addr) (xs : List α) : Prop := ∃ rs : List Addr, H l = some (.lst (rs.map V.ref)) ∧ Refs f H rs xs
section
variable {α : Type} {f : α → HO} {H H' : Hp} {l : Addr} {xs : List α} {rs : List Addr}
theorem Refs.same (h : Refs f H rs xs) (e : Same H H') : Refs f H' rs xs := ⟨h.1, fun i r x a b => e _ _ (h.2 i r x a b)⟩
theorem LstAt.same (h : LstAt f H l xs) (e : Same H H') : LstAt f H' l xs := by
  obtain ⟨rs, a, b⟩ := h
  exact ⟨rs, e _ _ a, b.same e⟩
theorem Refs.at (h : Refs f H rs xs) {i : Nat} {v : V} (hv : (rs.map V.ref)[i]? = some v) : ∃ r x, v = .ref r ∧ rs[i]? = some r ∧ xs[i]? = some x ∧ H r = some (f x) := by
  rw [List.getElem?_map] at hv
  cases hr : rs[i]? with
  | none => rw [hr] at hv; cases hv
  | some r =>
    rw [hr] at hv
    have e : V.ref r = v := Option.some.inj hv
    have hi : i < xs.length := by
      rw [← h.1]
      exact (List.getElem?_eq_some_iff.mp hr).1
    exact ⟨r, xs[i], e.symm, rfl, List.getElem?_eq_getElem hi, h.2 i r _ hr (List.getElem?_eq_getElem hi)⟩
theorem Refs.nil : Refs f H [] [] := ⟨rfl, fun i r x a => by simp at a⟩
theorem Refs.snoc {r : Addr} {x : α} (h : Refs f H rs xs) (hr : H r = some (f x)) : Refs f H (rs ++ [r]) (xs ++ [x]) := by
  refine ⟨by simp [h.1], fun i q y a b => ?_⟩
  by_cases c : i < rs.length
  · rw [List.getElem?_append_left c] at a
    rw [List.getElem?_append_left (by rw [← h.1]; exact c)] at b
    exact h.2 i q y a b
  · rw [List.getElem?_append_right (by omega)] at a
    rw [List.getElem?_append_right (by rw [← h.1]; omega), ← h.1] at b
    by_cases z : i - rs.length = 0
    · rw [z] at a b
      simp at a b
      rw [← a, ← b]
      exact hr
    · have : ([r] : List Addr)[i - rs.length]? = none := List.getElem?_eq_none (by simp; omega)
      rw [this] at a
      cases a
end
/-- all but what is named stands as it did -/
def Fr (ms : List Addr) (H H' : Hp) : Prop := ∀ b u, H b = some u → b ∉ ms → H' b = some u
theorem Fr.same {ms : List Addr} {H H' : Hp} (e : Same H H') : Fr ms H H' := fun b u h _ => e b u h
theorem Fr.trans {ms : List Addr} {H H1 H2 : Hp} (a : Fr ms H H1) (b : Fr ms H1 H2) : Fr ms H H2 := fun c u e n => b c u (a c u e n) n
def dfs (days : Nat) (lp lt ls : Addr) : List (Str × V) := putF "stays" (.ref ls) (putF "tariffs" (.ref lt) (putF "places" (.ref lp) (putF "days" (.int days) [])))
/-- a draft, its lists -/
structure DraftAt (C : Addr) (H : Hp) (d lp lt ls : Addr) (L : Lore) : Prop where
  ob : ∃ dx, H d = some (.ins C dx (dfs L.days lp lt ls))
  pl : LstAt plO H lp L.places
  pr : LstAt prO H lt L.prices
  st : LstAt stO H ls L.stays
  n1 : lp ≠ lt
  n2 : lp ≠ ls
  n3 : lt ≠ ls
theorem DraftAt.same {C : Addr} {H H' : Hp} {d lp lt ls : Addr} {L : Lore} (h : DraftAt C H d lp lt ls L) (e : Same H H') : DraftAt C H' d lp lt ls L :=
  ⟨by obtain ⟨dx, z⟩ := h.ob; exact ⟨dx, e _ _ z⟩, h.pl.same e, h.pr.same e, h.st.same e, h.n1, h.n2, h.n3⟩
theorem n_dp : ¬ (("days" : Str) = "places") := by decide +kernel
theorem n_dt : ¬ (("days" : Str) = "tariffs") := by decide +kernel
theorem n_ds : ¬ (("days" : Str) = "stays") := by decide +kernel
theorem n_pt : ¬ (("places" : Str) = "tariffs") := by decide +kernel
theorem n_ps : ¬ (("places" : Str) = "stays") := by decide +kernel
theorem n_ts : ¬ (("tariffs" : Str) = "stays") := by decide +kernel
theorem dfs_days (n : Nat) (lp lt ls : Addr) : (dfs n lp lt ls).lookup ("days" : Str) = some (.int n) := by
  unfold dfs
  rw [lookup_putF, if_neg n_ds, lookup_putF, if_neg n_dt, lookup_putF, if_neg n_dp, lookup_putF, if_pos rfl]
theorem dfs_pl (n : Nat) (lp lt ls : Addr) : (dfs n lp lt ls).lookup ("places" : Str) = some (.ref lp) := by
  unfold dfs
  rw [lookup_putF, if_neg n_ps, lookup_putF, if_neg n_pt, lookup_putF, if_pos rfl]
theorem dfs_ta (n : Nat) (lp lt ls : Addr) : (dfs n lp lt ls).lookup ("tariffs" : Str) = some (.ref lt) := by
  unfold dfs
  rw [lookup_putF, if_neg n_ts, lookup_putF, if_pos rfl]
theorem dfs_st (n : Nat) (lp lt ls : Addr) : (dfs n lp lt ls).lookup ("stays" : Str) = some (.ref ls) := by
  unfold dfs
  rw [lookup_putF, if_pos rfl]
theorem dfs_set (n m : Nat) (lp lt ls : Addr) : putF "days" (.int m) (dfs n lp lt ls) = dfs m lp lt ls := by
  have e : dfs n lp lt ls = [(("days" : Str), V.int n), (("places" : Str), V.ref lp), (("tariffs" : Str), V.ref lt), (("stays" : Str), V.ref ls)] := by
    unfold dfs
    simp only [putF, if_neg n_dp, if_neg n_dt, if_neg n_ds, if_neg n_pt, if_neg n_ps, if_neg n_ts]
  have e2 : dfs m lp lt ls = [(("days" : Str), V.int m), (("places" : Str), V.ref lp), (("tariffs" : Str), V.ref lt), (("stays" : Str), V.ref ls)] := by
    unfold dfs
    simp only [putF, if_neg n_dp, if_neg n_dt, if_neg n_ds, if_neg n_pt, if_neg n_ps, if_neg n_ts]
  rw [e, e2]
  simp [putF]
/-- what the class Draft must have -/
structure DC (K : PySem.W.Frag) (C : Addr) : Prop where
  cl : Cls K C
  nD : NoAttr K C "days"
  nP : NoAttr K C "places"
  nT : NoAttr K C "tariffs"
  nS : NoAttr K C "stays"
end Hs
/-! the questions of a draft -/
namespace Hs
open PySem PySem.Spec PyProof.Rows L2 Am
theorem b_any : bootBuiltins "any" = some (.builtin "any") := by decide +kernel
/-- what is asked in vain: nothing but new objects -/
def hasP (L : Lore) (x : Str) : Bool := L.places.any fun p => decide (p.name = x)
def hasF (L : Lore) : Bool := L.places.any fun p => p.inner
def letS (L : Lore) (x : Str) (a b : Nat) : Bool := L.stays.any fun s => decide (s.pl = x) && (decide (s.a < b) && decide (a < s.b))
def Small (L : Lore) : Prop := L.places.length ≤ 4 ∧ L.prices.length ≤ 3 ∧ L.stays.length ≤ 8
def spHasP (C : Addr) : Sp := fun vs H Q _ => ∃ (d lp lt ls : Addr) (L : Lore) (x : Str), vs = [.ref d, .str x] ∧ DraftAt C H d lp lt ls L ∧ Small L ∧ ∀ H', Same H H' → Q (.bl (hasP L x)) H'
def spHasF (C : Addr) : Sp := fun vs H Q _ => ∃ (d lp lt ls : Addr) (L : Lore), vs = [.ref d] ∧ DraftAt C H d lp lt ls L ∧ Small L ∧ ∀ H', Same H H' → Q (.bl (hasF L)) H'
def spIsLet (C : Addr) : Sp := fun vs H Q _ => ∃ (d lp lt ls : Addr) (L : Lore) (x : Str) (a b : Nat), vs = [.ref d, .str x, .int a, .int b] ∧ DraftAt C H d lp lt ls L ∧ Small L ∧ ∀ H', Same H H' → Q (.bl (letS L x a b)) H'
theorem any_map {α : Type} (g : α → Bool) (xs : List α) : (xs.map g).any id = xs.any g := by rw [List.any_map]; rfl
theorem str_eq (x y : Str) : decide (V.str x = V.str y) = decide (x = y) := decide_eq_decide.mpr ⟨V.str.inj, fun h => by rw [h]⟩
/-- what a comprehension holds between its turns -/
def Tk (H1 : Hp) (D : Addr) (ys : List V) (i : Nat) (H : Hp) : Prop := Same H1 H ∧ H D = some (.lst (ys.take i))
theorem Tk.start {H1 : Hp} {D : Addr} {ys : List V} (nD : H1 D = none) : Tk H1 D ys 0 (upd H1 D (.lst [])) := ⟨same_upd nD, by rw [upd_same]; rfl⟩
theorem Tk.step {H1 H H' : Hp} {D : Addr} {ys : List V} {i : Nat} {y : V} (nD : H1 D = none) (h : Tk H1 D ys i H) (e : Same H H') (hy : ys[i]? = some y) (hn : ys.length ≤ 1000) :
    ∃ acc, H' D = some (.lst acc) ∧ acc.length < sizeLine ∧ Tk H1 D ys (i + 1) (upd H' D (.lst (acc ++ [y]))) := by
  refine ⟨_, e _ _ h.2, ?_, ?_, ?_⟩
  · rw [List.length_take]
    exact Nat.lt_of_le_of_lt (Nat.le_trans (Nat.min_le_right _ _) hn) (by decide)
  · intro b o z
    rw [upd_ne (ne_of_none z nD)]
    exact e _ _ (h.1 _ _ z)
  · rw [upd_same, List.take_add_one, hy]
    rfl
theorem Tk.done {H1 H : Hp} {D : Addr} {ys : List V} {n : Nat} (h : Tk H1 D ys n H) (hn : n = ys.length) : H D = some (.lst ys) := by
  have := h.2
  rw [hn, List.take_length] at this
  exact this
section
variable {P : Program} {w : World} {K : PySem.W.Frag} {mg : Str → Option Value} {base : Heap} {C : Addr}
theorem scHasP : FnScope ["self", "name", "place", "room", "inner"] ["self", "name"] (defScope sDrHasP) := ⟨rfl, rfl, rfl, by decide +kernel, rfl, by decide +kernel, by decide +kernel⟩
theorem ok_hasP {f : Addr} {fd : FuncData} (F : Fun K "has_place" "Draft.has_place" sDrHasP f fd) (dc : DC K C) (na : mg "any" = none) : FnOk P w K mg base CX0 1 f fd ["self", "name"] (spHasP C) := by
  refine F.ok scHasP (fun vs H Q E h => ?_) (fun cdv A outer s H vs Q E hr h => ?_)
  · obtain ⟨d, lp, lt, ls, L, x, rfl, _⟩ := h
    rfl
  · obtain ⟨d, lp, lt, ls, L, x, rfl, hd, sm, q⟩ := h
    refine ⟨_, pss_one (ps_ret (pe_callB (cr_any rfl) (by rfl) na b_any (pa_cons (pe_lc (own := [("place", 2), ("room", 3), ("inner", 4)]) (g := gTup K 3 (gCons (gName 2) (gCons (gName 3) (gCons (gName 4) gNil)))) (tt := tYes) rfl scHasP.nd (pi_list (pe_fld (pv 0) rfl))
      (blkOk_by (N := ["self", "name", "place", "room", "inner"]) (sc := defScope sDrHasP) (by decide +kernel))
      (fun _ _ _ _ _ => pg_tup rfl (pgs_cons (pg_name (i := 2) scHasP.nd rfl (.inl rfl)) (pgs_cons (pg_name (i := 3) scHasP.nd rfl (.inl rfl)) (pgs_cons (pg_name (i := 4) scHasP.nd rfl (.inl rfl)) pgs_nil)))) (fun _ _ _ _ _ => pts_nil)
      (fun _ _ _ _ _ => pe_cmpR op_eq (pv 2) (pv 1) (nomark _))) pa_nil))), ?_⟩
    obtain ⟨dx, ob⟩ := hd.ob
    obtain ⟨rs, hl, hrs⟩ := hd.pl
    refine ⟨_, rfl, d, C, dx, _, _, rfl, ob, dc.cl, dc.nP, dfs_pl _ _ _ _, lp, rfl, ⟨_, SqL.of hl⟩, fun D nD => ?_⟩
    refine lc_it (walk_list (xs := rs.map V.ref)) (Pv := Tk H D (L.places.map fun p => V.bl (decide (p.name = x)))) (Tk.start nD) (fun i H' _ hh => SqL.of (hh.1 _ _ hl)) ?_ ?_
    · rintro i v H1 H2 hi hk ⟨rfl, hv⟩
      obtain ⟨r, p, rfl, hr', hp, ho⟩ := hrs.at hv
      refine ⟨r, _, rfl, SqT.of (hk.1 _ _ ho), rfl, _, _, rfl, _, _, rfl, _, _, rfl, rfl, rfl, ?_⟩
      unfold tYes
      refine iteT ⟨_, rfl, _, rfl, rfl, ?_⟩
      rw [str_eq]
      exact hk.step nD (Same.refl _) (by rw [List.getElem?_map, hp]; rfl) (by rw [List.length_map]; have := sm.1; omega)
    · rintro H1 hk
      refine ⟨D, L.places.map fun p => decide (p.name = x), rfl, SqL.of ?_, ?_⟩
      · rw [List.map_map]
        exact hk.done (by simp [hrs.1])
      · rw [any_map]
        exact q H1 hk.1
theorem scHasF : FnScope ["self", "name", "room", "inner"] ["self"] (defScope sDrHasF) := ⟨rfl, rfl, rfl, by decide +kernel, rfl, by decide +kernel, by decide +kernel⟩
theorem ok_hasF {f : Addr} {fd : FuncData} (F : Fun K "has_flat" "Draft.has_flat" sDrHasF f fd) (dc : DC K C) (na : mg "any" = none) : FnOk P w K mg base CX0 1 f fd ["self"] (spHasF C) := by
  refine F.ok scHasF (fun vs H Q E h => ?_) (fun cdv A outer s H vs Q E hr h => ?_)
  · obtain ⟨d, lp, lt, ls, L, rfl, _⟩ := h
    rfl
  · obtain ⟨d, lp, lt, ls, L, rfl, hd, sm, q⟩ := h
    refine ⟨_, pss_one (ps_ret (pe_callB (cr_any rfl) (by rfl) na b_any (pa_cons (pe_lc (own := [("name", 1), ("room", 2), ("inner", 3)]) (g := gTup K 3 (gCons (gName 1) (gCons (gName 2) (gCons (gName 3) gNil)))) (tt := tYes) rfl scHasF.nd (pi_list (pe_fld (pv 0) rfl))
      (blkOk_by (N := ["self", "name", "room", "inner"]) (sc := defScope sDrHasF) (by decide +kernel))
      (fun _ _ _ _ _ => pg_tup rfl (pgs_cons (pg_name (i := 1) scHasF.nd rfl (.inl rfl)) (pgs_cons (pg_name (i := 2) scHasF.nd rfl (.inl rfl)) (pgs_cons (pg_name (i := 3) scHasF.nd rfl (.inl rfl)) pgs_nil)))) (fun _ _ _ _ _ => pts_nil)
      (fun _ _ _ _ _ => pv 3)) pa_nil))), ?_⟩
    obtain ⟨dx, ob⟩ := hd.ob
    obtain ⟨rs, hl, hrs⟩ := hd.pl
    refine ⟨_, rfl, d, C, dx, _, _, rfl, ob, dc.cl, dc.nP, dfs_pl _ _ _ _, lp, rfl, ⟨_, SqL.of hl⟩, fun D nD => ?_⟩
    refine lc_it (walk_list (xs := rs.map V.ref)) (Pv := Tk H D (L.places.map fun p => V.bl p.inner)) (Tk.start nD) (fun i H' _ hh => SqL.of (hh.1 _ _ hl)) ?_ ?_
    · rintro i v H1 H2 hi hk ⟨rfl, hv⟩
      obtain ⟨r, p, rfl, hr', hp, ho⟩ := hrs.at hv
      refine ⟨r, _, rfl, SqT.of (hk.1 _ _ ho), rfl, _, _, rfl, _, _, rfl, _, _, rfl, rfl, rfl, ?_⟩
      unfold tYes
      refine iteT ⟨_, rfl, ?_⟩
      exact hk.step nD (Same.refl _) (by rw [List.getElem?_map, hp]; rfl) (by rw [List.length_map]; have := sm.1; omega)
    · rintro H1 hk
      refine ⟨D, L.places.map fun p => p.inner, rfl, SqL.of ?_, ?_⟩
      · rw [List.map_map]
        exact hk.done (by simp [hrs.1])
      · rw [any_map]
        exact q H1 hk.1
theorem scIsLet : FnScope ["self", "name", "first", "behind", "person", "place", "start", "end"] ["self", "name", "first", "behind"] (defScope sDrIsLet) := ⟨rfl, rfl, rfl, by decide +kernel, rfl, by decide +kernel, by decide +kernel⟩
theorem ok_isLet {f : Addr} {fd : FuncData} (F : Fun K "is_let" "Draft.is_let" sDrIsLet f fd) (dc : DC K C) (na : mg "any" = none) : FnOk P w K mg base CX0 1 f fd ["self", "name", "first", "behind"] (spIsLet C) := by
  refine F.ok scIsLet (fun vs H Q E h => ?_) (fun cdv A outer s H vs Q E hr h => ?_)
  · obtain ⟨d, lp, lt, ls, L, x, a, b, rfl, _⟩ := h
    rfl
  · obtain ⟨d, lp, lt, ls, L, x, a, b, rfl, hd, sm, q⟩ := h
    refine ⟨_, pss_one (ps_ret (pe_callB (cr_any rfl) (by rfl) na b_any (pa_cons (pe_lc (own := [("person", 4), ("place", 5), ("start", 6), ("end", 7)]) (g := gTup K 4 (gCons (gName 4) (gCons (gName 5) (gCons (gName 6) (gCons (gName 7) gNil))))) (tt := tYes) rfl scIsLet.nd (pi_list (pe_fld (pv 0) rfl))
      (blkOk_by (N := ["self", "name", "first", "behind", "person", "place", "start", "end"]) (sc := defScope sDrIsLet) (by decide +kernel))
      (fun _ _ _ _ _ => pg_tup rfl (pgs_cons (pg_name (i := 4) scIsLet.nd rfl (.inl rfl)) (pgs_cons (pg_name (i := 5) scIsLet.nd rfl (.inl rfl)) (pgs_cons (pg_name (i := 6) scIsLet.nd rfl (.inl rfl)) (pgs_cons (pg_name (i := 7) scIsLet.nd rfl (.inl rfl)) pgs_nil))))) (fun _ _ _ _ _ => pts_nil)
      (fun _ _ _ _ _ => pe_and (pe_cmpR op_eq (pv 5) (pv 1) (nomark _)) (pe_and (pe_cmpR op_lt (pv 6) (pv 3) (nomark _)) (pe_one (pe_cmpR op_lt (pv 2) (pv 7) (nomark _)))))) pa_nil))), ?_⟩
    obtain ⟨dx, ob⟩ := hd.ob
    obtain ⟨rs, hl, hrs⟩ := hd.st
    refine ⟨_, rfl, d, C, dx, _, _, rfl, ob, dc.cl, dc.nS, dfs_st _ _ _ _, ls, rfl, ⟨_, SqL.of hl⟩, fun D nD => ?_⟩
    refine lc_it (walk_list (xs := rs.map V.ref)) (Pv := Tk H D (L.stays.map fun s => V.bl (decide (s.pl = x) && (decide (s.a < b) && decide (a < s.b))))) (Tk.start nD) (fun i H' _ hh => SqL.of (hh.1 _ _ hl)) ?_ ?_
    · rintro i v H1 H2 hi hk ⟨rfl, hv⟩
      obtain ⟨r, p, rfl, hr', hp, ho⟩ := hrs.at hv
      refine ⟨r, _, rfl, SqT.of (hk.1 _ _ ho), rfl, _, _, rfl, _, _, rfl, _, _, rfl, _, _, rfl, rfl, rfl, ?_⟩
      unfold tYes
      refine iteT ⟨_, rfl, _, rfl, rfl, _, rfl, ?_⟩
      rw [str_eq]
      have fin : ∀ y : Bool, (decide (p.pl = x) && (decide (p.a < b) && decide (a < p.b))) = y → ∃ acc, H2 D = some (.lst acc) ∧ acc.length < sizeLine ∧ Tk H D (L.stays.map fun s => V.bl (decide (s.pl = x) && (decide (s.a < b) && decide (a < s.b)))) (i + 1) (upd H2 D (.lst (acc ++ [V.bl y]))) := by
        rintro y rfl
        exact hk.step nD (Same.refl _) (by rw [List.getElem?_map, hp]; rfl) (by rw [List.length_map]; have := sm.2.2; omega)
      have d1 : decide ((p.a : Int) < (b : Int)) = decide (p.a < b) := decide_eq_decide.mpr (by omega)
      have d2 : decide ((a : Int) < (p.b : Int)) = decide (a < p.b) := decide_eq_decide.mpr (by omega)
      cases c : decide (p.pl = x) with
      | false => exact iteF (fin _ (by rw [c]; rfl))
      | true =>
        refine iteT ⟨_, rfl, _, rfl, _, _, rfl, rfl, _, rfl, ?_⟩
        rw [d1]
        cases c2 : decide (p.a < b) with
        | false => exact iteF (fin _ (by rw [c, c2]; rfl))
        | true =>
          exact iteT ⟨_, rfl, _, rfl, _, _, rfl, rfl, fin (decide ((a : Int) < (p.b : Int))) (by rw [c, c2, d2]; rfl)⟩
    · rintro H1 hk
      refine ⟨D, L.stays.map fun s => (decide (s.pl = x) && (decide (s.a < b) && decide (a < s.b))), rfl, SqL.of ?_, ?_⟩
      · rw [List.map_map]
        exact hk.done (by simp [hrs.1])
      · rw [any_map]
        exact q H1 hk.1
end
end Hs
namespace Am
open PySem PySem.Spec PyProof.Rows L2
theorem log2_lt {n : Nat} {k : Nat} (hk : 0 < k) (h : n < 2 ^ k) : n.log2 < k := PySem.Flt.log2_lt_of hk h
def GotF (P : Program) (w : World) (K : PySem.W.Frag) (mg : Str → Option Value) (base : Heap) (x : Str) (k : Nat) (ps : List Str) (sp : Sp) : Prop :=
  ∃ (f : Addr) (fd : FuncData), FnOk P w K mg base CX0 k f fd ps sp ∧ Binds K fd ps [] ∧ mg x = some (.ref f) ∧ PySem.W.keepIn K (.ref f) = true
/-- a method of the class -/
def GotM (P : Program) (w : World) (K : PySem.W.Frag) (mg : Str → Option Value) (base : Heap) (C : Addr) (x : Str) (k : Nat) (ps : List Str) (sp : Sp) : Prop :=
  ∃ (f : Addr) (fd : FuncData), FnOk P w K mg base CX0 k f fd ps sp ∧ Binds K fd ps [] ∧ PySem.W.findIn K (.ref C) x = some (some (.ref f)) ∧ PySem.W.isFn K (.ref f) = true
/-- the making of an Amount -/
def GotI (P : Program) (w : World) (K : PySem.W.Frag) (mg : Str → Option Value) (base : Heap) (C : Addr) : Prop :=
  ∃ (f : Addr) (fd : FuncData), FnOk P w K mg base CX0 2 f fd ["self", "number", "under"] (spInit C) ∧ Binds K fd ["self", "number", "under"] [] ∧ (∃ ds, Vals [V.int 1] ds ∧ Binds K fd ["self", "number", "under"] ds) ∧ Mk K C f
theorem Bd.mono {k j : Nat} {n : Int} (h : Bd k n) (hj : k ≤ j) : Bd j n := Nat.lt_of_lt_of_le h (Nat.pow_le_pow_right (by decide) hj)
theorem Bd.neg {k : Nat} {n : Int} (h : Bd k n) : Bd k (-n) := by unfold Bd; rw [Int.natAbs_neg]; exact h
theorem Bd.mul {k j : Nat} {n m : Int} (h : Bd k n) (h' : Bd j m) : Bd (k + j) (n * m) := wide_lt h h'
theorem Bd.add {k : Nat} {n m : Int} (h : Bd k n) (h' : Bd k m) : Bd (k + 1) (n + m) := by
  unfold Bd at *
  have e : 2 ^ (k + 1) = 2 ^ k + 2 ^ k := by omega
  have := Int.natAbs_add_le n m
  omega
theorem Bd.cmul {k : Nat} {n m : Int} (h : Bd k n) (h' : Bd k m) (h0 : 0 < k) (hk : k ≤ 5000) : CMulW n m := wide_mul h h' h0 h0 (by omega)

end Am
/-! texts of amounts: what is read, and what is written -/
namespace Mt
open PySem PySem.NumText SL
/-- the figures of a number -/
def dg (m : Nat) : List Nat := (Nat.toDigits 10 m).map Char.toNat
theorem dg_str (m : Nat) : (Str.ofString (toString ((m : Nat) : Int))).cps.toList = dg m := PySem.W.KIN.signs_num m
theorem dg_val (m : Nat) : digitsVal (dg m) = m := PySem.W.KIN.val_back m
theorem dg_all (m : Nat) : AllDigits (dg m) := by
  intro c hc
  obtain ⟨ch, hch, e⟩ := List.mem_map.mp hc
  have r := PyProof.Rows.digit_range (Nat.isDigit_of_mem_toDigits (by decide) (by decide) hch)
  rw [← e]
  exact r
theorem dg_lt {d : Nat} (h : d < 10) : dg d = [48 + d] := by
  have e := Nat.toDigits_of_lt_base (b := 10) h
  unfold dg
  rw [e]
  match d, h with
  | 0, _ | 1, _ | 2, _ | 3, _ | 4, _ | 5, _ | 6, _ | 7, _ | 8, _ | 9, _ => rfl
theorem dg_step {m d : Nat} (hm : 0 < m) (hd : d < 10) : dg (10 * m + d) = dg m ++ [48 + d] := by
  rw [← dg_lt hd]
  unfold dg
  rw [← List.map_append, Nat.toDigits_append_toDigits (by decide) hm hd]
theorem dg_ne (m : Nat) : dg m ≠ [] := by
  by_cases h : m < 10
  · rw [dg_lt h]; simp
  · have e : m = 10 * (m / 10) + m % 10 := by omega
    rw [e, dg_step (by omega) (by omega)]
    simp
/-- zeros ahead, to k signs -/
def zpad (k : Nat) (l : List Nat) : List Nat := List.replicate (k - l.length) 48 ++ l
theorem dg_len : ∀ (k m : Nat), m < 10 ^ (k + 1) → (dg m).length ≤ k + 1
  | 0, m, h => by rw [dg_lt (by simpa using h)]; simp
  | k + 1, m, h => by
    by_cases c : m < 10
    · rw [dg_lt c]; simp
    · have e : m = 10 * (m / 10) + m % 10 := by omega
      have h2 : m / 10 < 10 ^ (k + 1) := by rw [Nat.pow_succ] at h; omega
      have := dg_len k (m / 10) h2
      rw [e, dg_step (by omega) (by omega)]
      simp only [List.length_append, List.length_cons, List.length_nil]
      omega
theorem dg_block {q : Nat} (hq : 0 < q) : ∀ (k b : Nat), b < 10 ^ (k + 1) → dg (q * 10 ^ (k + 1) + b) = dg q ++ zpad (k + 1) (dg b)
  | 0, b, h => by
    have hb : b < 10 := by simpa using h
    have e : q * 10 ^ (0 + 1) + b = 10 * q + b := by rw [show 10 ^ (0 + 1) = 10 from rfl]; omega
    rw [e, dg_step hq hb, dg_lt hb]
    rfl
  | k + 1, b, h => by
    have hd : b % 10 < 10 := by omega
    have hb : b / 10 < 10 ^ (k + 1) := by rw [Nat.pow_succ] at h; omega
    have e : q * 10 ^ (k + 1 + 1) + b = 10 * (q * 10 ^ (k + 1) + b / 10) + b % 10 := by rw [Nat.pow_succ 10 (k + 1), ← Nat.mul_assoc]; omega
    have pos : 0 < q * 10 ^ (k + 1) + b / 10 := Nat.lt_of_lt_of_le (Nat.mul_pos hq (Nat.pow_pos (by decide))) (Nat.le_add_right _ _)
    rw [e, dg_step pos hd, dg_block hq k (b / 10) hb, List.append_assoc]
    congr 1
    by_cases z : b < 10
    · have e0 : b / 10 = 0 := by omega
      have e1 : b % 10 = b := by omega
      rw [e0, e1, dg_lt z, dg_lt (by decide : 0 < 10)]
      unfold zpad
      show List.replicate (k + 1 - 1) 48 ++ [48] ++ [48 + b] = List.replicate (k + 1 + 1 - 1) 48 ++ [48 + b]
      rw [show k + 1 - 1 = k from rfl, show k + 1 + 1 - 1 = k + 1 from rfl, List.replicate_succ']
    · have e2 : b = 10 * (b / 10) + b % 10 := by omega
      have e3 : dg b = dg (b / 10) ++ [48 + b % 10] := by rw [e2, dg_step (by omega) (by omega)]; congr 2 <;> omega
      have l3 := dg_len k (b / 10) hb
      rw [e3]
      unfold zpad
      rw [List.length_append, List.length_cons, List.length_nil, List.append_assoc]
      congr 2
      omega
theorem fold_lt : ∀ (cs : List Nat) (a : Nat), AllDigits cs → cs.foldl (fun acc c => acc * 10 + (c - 48)) a < (a + 1) * 10 ^ cs.length
  | [], a, _ => by simp
  | c :: cs, a, h => by
    have ih := fold_lt cs (a * 10 + (c - 48)) h.tail
    have hc := h.head
    rw [List.length_cons, Nat.pow_succ, Nat.mul_comm (10 ^ cs.length) 10, ← Nat.mul_assoc]
    exact Nat.lt_of_lt_of_le ih (Nat.mul_le_mul_right _ (by omega))
theorem val_lt {cs : List Nat} (h : AllDigits cs) : digitsVal cs < 10 ^ cs.length := by
  have := fold_lt cs 0 h
  simpa [digitsVal] using this
def digB (c : Nat) : Bool := decide (48 ≤ c ∧ c ≤ 57)
/-- the number that a word writes; -1 if it writes none -/
def num (l : List Nat) : Int := if (!l.isEmpty && l.all digB) = true then (if (l.head? = some 48 ∧ l ≠ [48]) then -1 else (digitsVal l : Int)) else -1
theorem all_dig {l : List Nat} (h : l.all digB = true) : AllDigits l := fun c hc => by
  have := List.all_eq_true.mp h c hc
  exact of_decide_eq_true this
theorem num_lt {l : List Nat} {k : Nat} (h : l.length ≤ k) : (num l).natAbs < 10 ^ k ∨ num l = -1 := by
  unfold num
  split
  · rename_i c
    rw [Bool.and_eq_true] at c
    split
    · exact .inr rfl
    · exact .inl (Nat.lt_of_lt_of_le (val_lt (all_dig c.2)) (Nat.pow_le_pow_right (by decide) h))
  · exact .inr rfl
theorem num_ge (l : List Nat) : -1 ≤ num l := by
  unfold num
  split
  · split
    · omega
    · omega
  · omega
theorem num_not {l : List Nat} {c : Nat} (h : c ∈ l) (hc : digB c = false) : num l = -1 := by
  unfold num
  rw [if_neg]
  intro z
  rw [Bool.and_eq_true] at z
  have := List.all_eq_true.mp z.2 c h
  rw [hc] at this
  cases this
theorem num_dg (m : Nat) : num (dg m) = m := by
  have h : (!(dg m).isEmpty && (dg m).all digB) = true := by
    rw [Bool.and_eq_true]
    refine ⟨?_, List.all_eq_true.mpr fun c hc => decide_eq_true (dg_all m c hc)⟩
    have := dg_ne m
    cases e : dg m with
    | nil => exact absurd e this
    | cons a r => rfl
  unfold num
  rw [if_pos h, if_neg, dg_val]
  rintro ⟨h1, h2⟩
  by_cases z : m < 10
  · rw [dg_lt z] at h1 h2
    have e : 48 + m = 48 := by simpa using h1
    exact h2 (by rw [e])
  · -- the first figure is no nought
    have key : ∀ n, 0 < n → (dg n).head? ≠ some 48 := by
      intro n
      induction n using Nat.strongRecOn with
      | _ n ih =>
        intro hn
        by_cases z : n < 10
        · rw [dg_lt z]
          simp
          omega
        · have e : n = 10 * (n / 10) + n % 10 := by omega
          rw [e, dg_step (by omega) (by omega), List.head?_append]
          have := ih (n / 10) (by omega) (by omega)
          cases q : (dg (n / 10)).head? with
          | none => exact absurd (List.head?_eq_none_iff.mp q) (dg_ne _)
          | some v => rw [q] at this; simpa using this
    exact key m (by omega) h1
/-- the sign ahead left out -/
def bare (l : List Nat) : List Nat := if l.head? = some 45 then l.tail else l
def sgn (l : List Nat) : Bool := decide (l.head? = some 45)
/-- the text of a whole number -/
def intL (n : Int) : List Nat := (Str.ofString (toString n)).cps.toList
def textT (n u : Int) : Str := Str.ofString (toString n) ++ (if u = 1 then ("" : Str) else ("/" : Str) ++ Str.ofString (toString u))
def fin (neg : Bool) (number under : Int) (x : Str) : Option (Int × Int) := if textT (Am.fr (if neg then -number else number) under).1 (Am.fr (if neg then -number else number) under).2 = x then some (Am.fr (if neg then -number else number) under) else none
def readB (x : Str) (l : List Nat) (top : List Nat) (under : Int) : Option (Int × Int) := if num (bare top) < 0 ∨ under < 1 then none else fin (sgn l) (num (bare top)) under x
/-- what the text is read as -/
def readT (x : Str) : Option (Int × Int) :=
  if 47 ∈ x.cps.toList then readB x x.cps.toList (x.cps.toList.takeWhile (fun c => decide (c ≠ 47))) (num (x.cps.toList.dropWhile (fun c => decide (c ≠ 47))).tail)
  else readB x x.cps.toList x.cps.toList 1
theorem intL_pos {n : Int} (h : 0 ≤ n) : intL n = dg n.natAbs := by
  obtain ⟨m, rfl⟩ := Int.eq_ofNat_of_zero_le h
  exact dg_str m
theorem intL_neg {n : Int} (h : n < 0) : intL n = 45 :: dg n.natAbs := by
  unfold intL
  rw [PyProof.Rows.toString_neg h, Int.zero_sub]
  have e : ∀ a b : String, (Str.ofString (a ++ b)).cps.toList = (Str.ofString a).cps.toList ++ (Str.ofString b).cps.toList := fun a b => by
    rw [Str.ofString_eq_toList, Str.ofString_eq_toList, Str.ofString_eq_toList]
    simp
  rw [e]
  have e2 : (Str.ofString (toString (-n))).cps.toList = dg n.natAbs := by
    have z := intL_pos (n := -n) (by omega)
    unfold intL at z
    rw [z, Int.natAbs_neg]
  rw [e2]
  rfl
theorem not_dig {c : Nat} (h : digB c = false) (m : Nat) : c ∉ dg m := fun z => by
  have := dg_all m c z
  unfold digB at h
  rw [decide_eq_true this] at h
  cases h
theorem dg_head {m : Nat} : (dg m).head? ≠ some 45 := by
  intro z
  have : 45 ∈ dg m := List.mem_of_head? z
  exact not_dig (by decide) m this
theorem bare_int (n : Int) : bare (intL n) = dg n.natAbs ∧ sgn (intL n) = decide (n < 0) := by
  by_cases c : n < 0
  · rw [intL_neg c]
    refine ⟨rfl, ?_⟩
    rw [decide_eq_true c]
    rfl
  · rw [intL_pos (by omega)]
    unfold bare sgn
    rw [if_neg dg_head, decide_eq_false c, decide_eq_false dg_head]
    exact ⟨rfl, rfl⟩
theorem no_slash (n : Int) : 47 ∉ intL n := by
  by_cases c : n < 0
  · rw [intL_neg c]
    intro z
    rcases List.mem_cons.mp z with z | z
    · cases z
    · exact not_dig (by decide) _ z
  · rw [intL_pos (by omega)]
    exact not_dig (by decide) _
theorem textT_L (n u : Int) : (textT n u).cps.toList = intL n ++ (if u = 1 then [] else 47 :: intL u) := by
  unfold textT
  rw [Str.cps_append]
  by_cases c : u = 1
  · rw [if_pos c, if_pos c]
    show ((Str.ofString (toString n)).cps ++ #[]).toList = _
    simp [intL]
  · rw [if_neg c, if_neg c, Str.cps_append]
    show ((Str.ofString (toString n)).cps ++ (#[47] ++ (Str.ofString (toString u)).cps)).toList = _
    simp [intL]
theorem take_ne {p r : List Nat} (hp : 47 ∉ p) : (p ++ 47 :: r).takeWhile (fun c => decide (c ≠ 47)) = p ∧ ((p ++ 47 :: r).dropWhile (fun c => decide (c ≠ 47))).tail = r := by
  induction p with
  | nil => simp
  | cons y p ih =>
    have hy : y ≠ 47 := fun e => hp (by rw [e]; exact List.mem_cons_self ..)
    obtain ⟨h1, h2⟩ := ih (fun z => hp (List.mem_cons_of_mem _ z))
    constructor
    · rw [List.cons_append, List.takeWhile_cons, if_pos (decide_eq_true hy), h1]
    · rw [List.cons_append, List.dropWhile_cons, if_pos (decide_eq_true hy), h2]
theorem readT_no {x : Str} (h : 47 ∉ x.cps.toList) : readT x = readB x x.cps.toList x.cps.toList 1 := if_neg h
theorem readT_yes {x : Str} {p r : List Nat} (h : x.cps.toList = p ++ 47 :: r) (hp : 47 ∉ p) : readT x = readB x x.cps.toList p (num r) := by
  unfold readT
  rw [if_pos (by rw [h]; simp), h, (take_ne hp).1, (take_ne hp).2]
theorem sgn_app {p r : List Nat} : sgn (p ++ 47 :: r) = sgn p := by
  cases p with
  | nil => rfl
  | cons y p => rfl
theorem bare_app {p r : List Nat} : bare (p ++ 47 :: r) = bare p ++ 47 :: r := by
  cases p with
  | nil => rfl
  | cons y p =>
    unfold bare
    by_cases c : y = 45
    · rw [if_pos (by rw [c]; rfl), if_pos (by rw [c]; rfl)]
      rfl
    · rw [if_neg (by show ¬ some y = some 45; simpa using c), if_neg (by show ¬ some y = some 45; simpa using c)]
theorem bare_mem {p : List Nat} {c : Nat} (h : c ∈ bare p) : c ∈ p := by
  unfold bare at h
  split at h
  · exact List.mem_of_mem_tail h
  · exact h
theorem bare_len (p : List Nat) : (bare p).length ≤ p.length := by
  unfold bare
  split
  · simp
  · exact Nat.le_refl _
/-- a text that was written is read -/
theorem read_written {n u : Int} (h : Am.Low n u) : readT (textT n u) = some (n, u) := by
  have hL := textT_L n u
  obtain ⟨b1, b2⟩ := bare_int n
  have abs : (if decide (n < 0) = true then -(n.natAbs : Int) else (n.natAbs : Int)) = n := by
    by_cases c : n < 0
    · rw [if_pos (decide_eq_true c)]; omega
    · rw [if_neg (by simpa using c)]; omega
  by_cases c : u = 1
  · subst c
    rw [if_pos rfl, List.append_nil] at hL
    rw [readT_no (by rw [hL]; exact no_slash n)]
    unfold readB
    rw [hL, b1, b2, num_dg, if_neg (by omega)]
    unfold fin
    rw [abs, Am.fr_of_low h, if_pos rfl]
  · rw [if_neg c] at hL
    have hu := h.1
    rw [readT_yes hL (no_slash n)]
    have e : num (intL u) = u := by rw [intL_pos (by omega), num_dg]; omega
    unfold readB
    rw [hL, sgn_app, b1, b2, num_dg, e, if_neg (by omega)]
    unfold fin
    rw [abs, Am.fr_of_low h, if_pos rfl]
/-- the law's own words for the same -/
theorem due_eq (x : Str) : (if (cutAt 47 (bare x.cps.toList)).length > 2 ∨ num ((cutAt 47 (bare x.cps.toList)).headD []) < 0 ∨ (if (cutAt 47 (bare x.cps.toList)).length = 2 then num ((cutAt 47 (bare x.cps.toList)).getLastD []) else 1) < 1 then none
    else fin (sgn x.cps.toList) (num ((cutAt 47 (bare x.cps.toList)).headD [])) (if (cutAt 47 (bare x.cps.toList)).length = 2 then num ((cutAt 47 (bare x.cps.toList)).getLastD []) else 1) x) = readT x := by
  by_cases h : 47 ∈ x.cps.toList
  · obtain ⟨p, r, e, hp⟩ := first_c h
    rw [readT_yes e hp]
    have hb : 47 ∉ bare p := fun z => hp (bare_mem z)
    rw [e, bare_app, sgn_app, cut_app hb]
    by_cases h2 : 47 ∈ r
    · obtain ⟨p2, r2, e2, hp2⟩ := first_c h2
      have l : (bare p :: cutAt 47 r).length > 2 := by
        rw [e2, cut_app hp2]
        have := cut_ne 47 r2
        have : 0 < (cutAt 47 r2).length := List.length_pos_iff.mpr this
        simp only [List.length_cons]
        omega
      rw [if_pos (.inl l)]
      unfold readB
      rw [num_not h2 (by decide), if_pos (.inr (by decide))]
    · rw [cut_none h2]
      have l : ([bare p, r] : List (List Nat)).length = 2 := rfl
      have hd : ([bare p, r] : List (List Nat)).headD [] = bare p := rfl
      have hl : ([bare p, r] : List (List Nat)).getLastD [] = r := rfl
      rw [if_pos l, hd, hl]
      unfold readB
      rw [sgn_app]
      by_cases z : num (bare p) < 0 ∨ num r < 1
      · rw [if_pos z, if_pos (.inr z)]
      · rw [if_neg z, if_neg (by
          rintro (y | y)
          · rw [l] at y; omega
          · exact z y)]
  · rw [readT_no h]
    have hb : 47 ∉ bare x.cps.toList := fun z => h (bare_mem z)
    rw [cut_none hb]
    have l1 : ¬ ([bare x.cps.toList] : List (List Nat)).length = 2 := by simp
    have hd : ([bare x.cps.toList] : List (List Nat)).headD [] = bare x.cps.toList := rfl
    rw [if_neg l1, hd]
    unfold readB
    by_cases z : num (bare x.cps.toList) < 0
    · rw [if_pos (.inr (.inl z)), if_pos (.inl z)]
    · have l3 : ([bare x.cps.toList] : List (List Nat)).length = 1 := rfl
      rw [if_neg (by rw [l3]; omega), if_neg (by omega)]
end Mt
namespace Am
open PySem PySem.Spec PyProof.Rows L2
/-- decimal(word) -/
def spDec : Sp := fun vs H Q _ => ∃ x : Str, vs = [.str x] ∧ x.length ≤ 640 ∧ Q (.int (Mt.num x.cps.toList)) H
theorem digit_asc : ∀ c, c < 128 → Unicode.isDigit c = Mt.digB c := by
  have h : ∀ c : Fin 128, Unicode.isDigit c.val = Mt.digB c.val := by decide +kernel
  exact fun c hc => h ⟨c, hc⟩
theorem ascB (x : Str) : Txt.isascii x = x.cps.toList.all (fun c => decide (c < 128)) := by
  unfold Txt.isascii
  rw [← Array.all_toList]
theorem digB_asc {c : Nat} (h : Mt.digB c = true) : c < 128 := by
  have := of_decide_eq_true h
  omega
theorem decimal_test (x : Str) : (Txt.isascii x && Txt.isdigit x) = (!x.cps.toList.isEmpty && x.cps.toList.all Mt.digB) := by
  rw [ascB]
  unfold Txt.isdigit
  rw [← Array.all_toList]
  have e0 : decide (x.length > 0) = !x.cps.toList.isEmpty := by
    rw [← SL.len_toList]
    cases x.cps.toList <;> simp
  rw [e0]
  generalize x.cps.toList = l
  cases ha : l.all (fun c => decide (c < 128)) with
  | true =>
    have e : l.all Unicode.isDigit = l.all Mt.digB := by
      rw [Bool.eq_iff_iff, List.all_eq_true, List.all_eq_true]
      have h := List.all_eq_true.mp ha
      exact ⟨fun z c hc => by rw [← digit_asc c (of_decide_eq_true (h c hc))]; exact z c hc, fun z c hc => by rw [digit_asc c (of_decide_eq_true (h c hc))]; exact z c hc⟩
    rw [e, Bool.true_and]
  | false =>
    cases hd : l.all Mt.digB with
    | false => simp
    | true =>
      have h := List.all_eq_true.mp hd
      have : l.all (fun c => decide (c < 128)) = true := List.all_eq_true.mpr fun c hc => decide_eq_true (digB_asc (h c hc))
      rw [ha] at this
      cases this
theorem starts0 (x : Str) : Txt.startswith x "0" = decide (x.cps.toList.head? = some 48) := by
  unfold Txt.startswith
  have e : ("0" : Str) = ⟨#[48]⟩ := by decide +kernel
  rw [e]
  have h := StrLaws.subAt_one x 48 0
  rw [Bool.eq_iff_iff, Bool.and_eq_true, decide_eq_true_eq, decide_eq_true_eq, h, List.head?_eq_getElem?]
theorem is0 (x : Str) : decide (V.str x = V.str ("0" : Str)) = decide (x.cps.toList = [48]) := by
  have e : ("0" : Str) = ⟨#[48]⟩ := by decide +kernel
  rw [e]
  refine decide_eq_decide.mpr ⟨fun h => ?_, fun h => ?_⟩
  · rw [V.str.inj h]
  · rw [SL.ext (x := x) (y := ⟨#[48]⟩) h]
section
variable {P : Program} {w : World} {K : PySem.W.Frag} {mg : Str → Option Value} {base : Heap} {C D : Addr}
theorem scDec : FnScope ["word"] ["word"] (defScope sDec) := ⟨rfl, rfl, rfl, by decide +kernel, rfl, by decide +kernel, by decide +kernel⟩
theorem ok_dec {f : Addr} {fd : FuncData} (F : Fun K "decimal" "decimal" sDec f fd) (ni : mg "int" = none) : FnOk P w K mg base CX0 1 f fd ["word"] spDec := by
  refine F.ok scDec (fun vs H Q E h => ?_) (fun cdv A outer s H vs Q E hr h => ?_)
  · obtain ⟨x, rfl, _⟩ := h
    rfl
  · obtain ⟨x, rfl, hl, q⟩ := h
    refine ⟨_, pss_cons (ps_if (pt_not (PW.pt (pw_and (pt_val (pe_bm0 PySem.F.plainAttrs_str PySem.F.slot_str_isascii PySem.F.type_str_isascii mt_isascii (pv 0))) (pw_and1 (pt_val (pe_bm0 PySem.F.plainAttrs_str PySem.F.slot_str_isdigit PySem.F.type_str_isdigit mt_isdigit (pv 0)))))))
        (pss_one (ps_ret (pe_un un_neg pe_int))) pss_nil)
      (pss_cons (ps_if (PW.pt (pw_and (pt_val (pe_bm PySem.F.plainAttrs_str PySem.F.slot_str_startswith PySem.F.type_str_startswith mt_startswith (pv 0) (pa_cons pe_str pa_nil))) (pw_and1 (pt_cmpR op_ne (pv 0) pe_str (nomark _)))))
        (pss_one (ps_ret (pe_un un_neg pe_int))) pss_nil)
      (pss_one (ps_ret (pe_callTy (call_int_str) (by rfl) ni b_int (pa_cons (pv 0) pa_nil))))), ?_⟩
    have key : Mt.num x.cps.toList = if (Txt.isascii x && Txt.isdigit x) = true then (if (x.cps.toList.head? = some 48 ∧ x.cps.toList ≠ [48]) then -1 else (NumText.digitsVal x.cps.toList : Int)) else -1 := by rw [decimal_test]; rfl
    rw [key] at q
    refine ⟨_, rfl, rfl, x, rfl, rfl, trivial, _, rfl, ?_⟩
    cases ha : Txt.isascii x with
    | false =>
      refine iteF (iteT ?_)
      rw [ha, Bool.false_and, if_neg (by decide)] at q
      exact ⟨_, rfl, q⟩
    | true =>
      refine iteT ⟨_, rfl, rfl, x, rfl, rfl, trivial, _, rfl, ?_⟩
      cases hd : Txt.isdigit x with
      | false =>
        refine iteT ?_
        rw [ha, hd, Bool.and_false, if_neg (by decide)] at q
        exact ⟨_, rfl, q⟩
      | true =>
        refine iteF ?_
        have hT : (!x.cps.toList.isEmpty && x.cps.toList.all Mt.digB) = true := by rw [← decimal_test, ha, hd]; rfl
        rw [Bool.and_eq_true] at hT
        have hne : x.cps.toList ≠ [] := by
          intro e
          rw [e] at hT
          exact absurd hT.1 (by decide)
        have hI : PySem.intText? x = some (NumText.digitsVal x.cps.toList : Int) := PySem.intText_digits (Mt.all_dig hT.2) hne (by omega)
        rw [ha, hd, if_pos (by decide)] at q
        have fin : ¬ (x.cps.toList.head? = some 48 ∧ x.cps.toList ≠ [48]) → tRet (tCB (fun xs H Q => ∃ a n, xs = [V.str a] ∧ intText? a = some n ∧ a.length ≤ 640 ∧ Q (V.int n) H) (tCons (tVar 0) tNil)) { nx := fun x H' => Q V.non H', rt := Q } [some (V.str x)] H := by
          intro z
          rw [if_neg z] at q
          exact ⟨_, rfl, x, _, rfl, hI, hl, q⟩
        refine ⟨_, rfl, rfl, x, _, rfl, rfl, _, rfl, ?_⟩
        rw [starts0]
        by_cases h0 : x.cps.toList.head? = some 48
        · rw [decide_eq_true h0]
          refine iteT ⟨_, rfl, rfl, _, rfl, ?_⟩
          rw [is0]
          by_cases h1 : x.cps.toList = [48]
          · rw [decide_eq_true h1]
            exact iteF (fin fun z => z.2 h1)
          · rw [decide_eq_false h1]
            refine iteT ⟨_, rfl, ?_⟩
            rw [if_pos ⟨h0, h1⟩] at q
            exact q
        · rw [decide_eq_false h0]
          exact iteF (iteF (fin fun z => h0 z.1))
end
end Am
/-! promises of defs that are run where no repr is under way (A.guards = some []): such a def may ask repr of its own objects -/
namespace Gu
open PySem PySem.Spec PyProof.Rows L2
structure FnG (P : Program) (w : World) (K : PySem.W.Frag) (mg : Str → Option Value) (base : Heap) (CX : CXT) (k : Nat) (f : Addr) (fd : FuncData) (ps : List Str) (sp : Sp) : Prop where
  len : ∀ vs H Q E, sp vs H Q E → vs.length = ps.length
  go : ∀ (A : Around) (out : List Env) (s : Shared) (H : Hp) (args : Args) (us : List Value) (vs : List V) (Q : VK) (E : XK), Room k A → A.guards = some [] → Env0 P w K mg base A out s H →
    BindsTo s fd args (ps.zip us) → Vals vs us → sp vs H Q E → codeAny (model P w) A (.call (.ref f) args) (CR CX out P w H s Q E) s
section
variable {P : Program} {w : World} {K : PySem.W.Frag} {mg : Str → Option Value} {base : Heap} {CX : CXT} {k : Nat} {f : Addr} {fd : FuncData} {N ps : List Str} {sp : Sp}
theorem FnG.of (F : FnOk P w K mg base CX k f fd ps sp) : FnG P w K mg base CX k f fd ps sp :=
  ⟨F.len, fun A out s H args us vs Q E hr _ => F.run A out s H args us vs Q E hr⟩
/-- a def by its body, where nothing is guarded -/
theorem okG {x qual : Str} {st : Stmt} (F : Fun K x qual st f fd) (S : FnScope N ps (defScope st)) (len : ∀ vs H Q E, sp vs H Q E → vs.length = ps.length)
    (body : ∀ (cdv : Value) (A : Around) (out : List Env) (s : Shared) (H : Hp) (vs : List V) (Q : VK) (E : XK), A.guards = some [] → Room k (A.deeper (envOfC qual (defScope st) s.heap.objs.size f cdv)) → sp vs H Q E →
      ∃ t, PSs (cxOf CX P w K mg base N qual (defScope st) f cdv A out s H E) (defBody st) t ∧ t { nx := fun _ H' => Q .non H', rt := Q } (start N vs) H) : FnG P w K mg base CX (k + 1) f fd ps sp := by
  obtain ⟨oc, od, kV, doc, pm, an, cdv, ct, osl, rfl, at_, code⟩ := F.ex
  constructor
  · exact len
  intro A out s H args us vs Q E room free e0 bind rel want
  have n1 := len _ _ _ _ want
  have inK : K.In s.heap := e0.mod.kin.keeps (fun b o z => (e0.bs b o z).1)
  have noLim : s.heap.NoLimit := e0.mod.nolimit.keeps (fun b o z => (e0.bs b o z).1)
  have kinds : ∀ y ∈ ps.zip us, (defScope st).names.lookup y.1 = some .local ∨ ((defScope st).names.lookup y.1 = some .cell ∧ ((cellsFrom (s.heap.objs.size + 1) (defScope st).names []).lookup y.1).isSome = true) := by
    rintro ⟨n, v⟩ hy
    exact (S.par n (List.of_mem_zip hy).1).imp id fun q => ⟨q, PySem.W.cellsFrom_some _ _ _ (.inl q)⟩
  apply codeAny_call_function room.depth (inK _ _ at_) rfl S.co S.gen rfl (PySem.W.codeRec_of inK code) (bind _ _ _ _ _)
  apply wpAny_newFunctionEnv_cells S.kind kinds
  intro env he s1 x
  subst he
  refine ⟨noLim.keeps x.toInCall.keep, codeAny_func ?_⟩
  obtain ⟨t, run, go⟩ := body cdv A out s H vs Q E free (room.deeper _) want
  have I := inv_start (CX := CX) (E := E) S room.hd e0 n1 rel x
  apply wpAny_mono (run.run [] s1 (start N vs) H _ I go)
  · intro fl s' q
    match fl, q with
    | .ret u, ⟨v, σ', H', J, rv, qv⟩ => exact ⟨v, H', J.os, J.bare, J.base, J.hok, rv, qv⟩
    | .next, ⟨σ', H', J, qv⟩ => exact ⟨.non, H', J.os, J.bare, J.base, J.hok, rfl, qv⟩
    | .brk, ⟨_, _, _, z⟩ => exact z.elim
    | .cont, ⟨_, _, _, z⟩ => exact z.elim
  · exact fun _ _ z => z
/-- the same where nothing is let out -/
theorem okG0 {x qual : Str} {st : Stmt} (F : Fun K x qual st f fd) (S : FnScope N ps (defScope st)) (len : ∀ vs H Q E, sp vs H Q E → vs.length = ps.length)
    (body : ∀ (cdv : Value) (A : Around) (out : List Env) (s : Shared) (H : Hp) (vs : List V) (Q : VK) (E : XK), A.guards = some [] → Room k (A.deeper (envOfC qual (defScope st) s.heap.objs.size f cdv)) → sp vs H Q E →
      ∃ t, PSs (cxOf CX0 P w K mg base N qual (defScope st) f cdv A out s H E).nox (defBody st) t ∧ t { nx := fun _ H' => Q .non H', rt := Q } (start N vs) H) : FnG P w K mg base CX0 (k + 1) f fd ps sp :=
  okG F S len fun cdv A out s H vs Q E free room want => let ⟨t, h, q⟩ := body cdv A out s H vs Q E free room want; ⟨t, h.nox, q⟩
end
section
variable {X : Cx} {CX : CXT} {k : Nat} {f : Addr} {fd : FuncData} {ps : List Str} {sp : Sp} {E : XK} {x : Str} {p pos : Pos} {e : Expr} {es : List Expr} {t : TA}
/-- f(e, ..): a def whose promise wants that nothing is guarded -/
theorem pe_callG (F : FnG X.prog X.w X.K X.mg X.base CX k f fd ps sp) (free : X.A.guards = some []) (hr : Room k X.A) (hg : Gl X x) (hm : X.mg x = some (.ref f)) (hk : PySem.W.keepIn X.K (.ref f) = true) (hb : Binds X.K fd ps []) (hx : Passes CX X E)
    (ha : PA X (e :: es) t) (h1 : (x == ("__debug__" : Str)) = false := by decide) (h2 : starEach (e :: es) X.env = (false, eval e X.env) :: starEach es X.env := by rfl) (h3 : (backTo pos (starEach es X.env)).any (·.1) = false := by rfl) :
    PE X (.Call (.Name x p) (e :: es) [] pos) (tCall sp [] E t) := by
  constructor
  intro pins s σ H Q I want
  refine wpAny_Call_Name_kw (ld_glob I hg hm ?_ h1)
  refine PySem.W.callWith_K (h₀ := X.base) I.ok.mod.kin hk (thn (ha.run pos pins s σ H _ I want) ?_) h2 h3
  rintro us s1 ⟨vs, H1, I1, rel, q⟩
  refine ⟨I1.kIn, wpAny_call ?_⟩
  have q' : sp vs H1 Q E := by simpa using q
  have n1 : us.length = ps.length := by rw [← rel.length]; exact F.len _ _ _ _ q'
  refine codeAny_mono (F.go X.A X.stack s1 H1 ⟨us, []⟩ us vs Q E hr free I1.env0 (by have := hb s1 us I1.kIn (by simpa using n1); simpa using this) rel q') ?_
  intro r s' z
  match r, z with
  | .error e, z => exact hx pins σ H1 s1 e s' I1 z
  | .ok (.ret u), z => exact I1.after z
end

/-- the data that a value stands for, of a heap -/
def rRepr (K : PySem.W.Frag) : List V → Hp → VK → Prop := fun xs H Q => ∃ a d, xs = [.ref a] ∧ Dp K H (.ref a) d ∧ d.showable = true ∧ d.hasDict = false ∧ d.depth ≤ 60 ∧ d.shown.length ≤ sizeLine ∧ Q (.str d.shown) H
theorem call_reprD {X : Cx} (free : X.A.guards = some []) (hu : X.A.units + 64 < cLine) : CallR X (.builtin "repr") (rRepr X.K) := by
  intro pins s σ H xs us Q I rel want
  obtain ⟨a, d, rfl, hd, sh, nd, dp, sz, q⟩ := want
  obtain ⟨u, rfl, ru⟩ := vals1 rel
  cases (show u = Value.ref a from ru)
  obtain ⟨as, r⟩ := Dp.reads I d (.ref a) _ hd rfl
  refine repr_of_reads' r sh (fun z => by rw [nd] at z; cases z) free (by omega) (fun _ _ z => z) ?_ sz
  intro h' t tk kp
  exact ⟨.str d.shown, H, I.kept kp, ⟨t, rfl⟩, q⟩
end Gu
namespace Gu
open PySem PySem.Spec PyProof.Rows L2
section
variable {P : Program} {w : World} {K : PySem.W.Frag} {mg mb : Str → Option Value} {k : Nat} {fa a : Addr} {fd : FuncData} {x : Str} {sp : Sp} {s : Shared} {vs : List Value} {ns : List Int}
/-- the script's object -/
abbrev scr (vs : List Value) : Obj := { cls := .type "list", data := .seq vs.toArray }
/-- what may be known at the law's call: nothing but the script, as it stands -/
def Bare (a : Addr) (vs : List Value) (ns : List Int) (H : Hp) : Prop := ∀ b u, H b = some u → b = a ∧ u = .frz (scr vs) (.lst (ns.map V.int))
theorem from_caller (inK : K.In s.heap) (glob : s.heap.Ns mainGlobals mg) (bi : s.heap.Ns builtinsNs mb) (hbi : ∀ x : Str, x ≠ "__name__" → mb x = bootBuiltins x) (lim : s.heap.NoLimit) (gens : s.gens = #[])
    (script : s.heap.get? a = some (scr vs)) (room : Room k callerA) (F : ∀ base : Heap, K.In base → base.Ns mainGlobals mg → FnG P w K mg base CX0 k fa fd [x] sp)
    (bind : ∀ (s : Shared) (u : Value), BindsTo s fd ⟨[u], []⟩ [(x, u)]) {H : Hp} (bare : Bare a vs ns H) (ok : HOk P w H s.heap) (off : H a ≠ none → K.lookup a = none)
    (want : sp [.ref a] H (fun v _ => v = .bl true) fun _ _ _ => False) :
    codeAny (model P w) callerA (.call (.ref fa) ⟨[.ref a], []⟩) (fun r s' => r = .ok (.ret (.bool true)) ∧ OldK s.heap s'.heap ∧ s'.os = s.os ∧ AllBare s'.gens) s := by
  -- an object whose data is a dict is not the script, so it is not known
  have apart : ∀ {b : Addr} {o : Obj} {es : Array DictEntry} {n : Nat}, s.heap.get? b = some o → o.data = .dict es n → H b = none := by
    intro b o es n e d
    cases z : H b with
    | none => rfl
    | some u =>
      obtain ⟨rfl, _⟩ := bare b u z
      rw [script] at e
      cases e
      cases (show Data.seq vs.toArray _ = Data.dict es n from d)
  have ns' : ∀ {b : Addr} {m : Str → Option Value}, s.heap.Ns b m → (hidT s.heap H).Ns b m := by
    rintro b m ⟨o, es, n, e, d, rest⟩
    exact ⟨o, es, n, hidT_get e (apart e d), d, rest⟩
  have inB : K.In (hidT s.heap H) := by
    intro b o e
    refine hidT_get (inK b o e) ?_
    cases z : H b with
    | none => rfl
    | some u =>
      obtain ⟨rfl, _⟩ := bare b u z
      rw [off (by rw [z]; exact fun q => by cases q)] at e
      cases e
  obtain ⟨mc, l1, l2⟩ := lim
  have e0 : Env0 P w K mg (hidT s.heap H) callerA [] s H := {
    frames := rfl
    mod := ⟨inB, ns' glob, ⟨mb, ns' bi, hbi⟩, ⟨mc, ns' l1, l2⟩⟩
    bs := fun b o e => of_hidT e
    bsz := Nat.le_of_eq (hidT_size _ _)
    funs := trivial
    frf := by intro b hb; cases hb
    hok := ok
    bare := .of_eq gens }
  refine codeAny_mono ((F _ inB (ns' glob)).go callerA [] s H ⟨[.ref a], []⟩ [.ref a] [.ref a] _ _ room rfl e0 (bind s (.ref a)) (.cons rfl .nil) want) ?_
  intro r s' z
  match r, z with
  | .error e, z => exact z.elim
  | .ok (.ret u), ⟨v, H', os, bare', un, ok', rv, q⟩ =>
    have q' : v = .bl true := q
    subst q'
    cases (show u = Value.bool true from rv)
    refine ⟨rfl, OldK.of_keep (fun b o e => ?_), os, bare'⟩
    cases z : H b with
    | none => exact un.keep b o e z (by intro h; cases h) (by intro h; cases h)
    | some u =>
      obtain ⟨rfl, rfl⟩ := bare b u z
      obtain ⟨e1, _⟩ := ok b _ z
      obtain ⟨e2, _⟩ := ok' b _ (un.frzs b _ _ z)
      rw [e] at e1
      cases e1
      exact e2
end
/-- the end of a law's row, from a promise of that kind -/
theorem walkG {l : PySem.W.OpenLaw} {n k : Nat} {q : Program} {loose : List Str} {XP : (Str → Option Value) → Heap → Prop} {YP : World → Heap → Prop} {d : DefRec} {K : Params → PySem.W.Frag} {sp : PySem.W.Frag → Sp} {x : Str}
    (most : l.most = some n) (small : n ≤ sizeLine) (nodef : d.params.defaults = []) (room : Room k callerA) (inK : ∀ (w : World) (h : Heap), YP w h → (K w.params).In h)
    (F : ∀ (w : World) (mg : Str → Option Value) (fa : Addr) (h : Heap), (K w.params).In h → h.Ns mainGlobals mg → mg d.name = some (.ref fa) →
      ∃ fd : FuncData, (∀ (s : Shared) (u : Value), BindsTo s fd ⟨[u], []⟩ [(x, u)]) ∧ ∀ base : Heap, (K w.params).In base → base.Ns mainGlobals mg → FnG l.prog w (K w.params) mg base CX0 k fa fd [x] (sp (K w.params)))
    (want : ∀ (K : PySem.W.Frag) (H : Hp) (a : Addr) (ns : List Int), ns.length ≤ n → SqL K H a (ns.map V.int) → sp K [.ref a] H (fun v _ => v = .bl true) fun _ _ _ => False) :
    PySem.W.WalkO q loose XP YP l.row.toRowW d [] (fun f vs => PySem.call f vs) := by
  refine Att.attach_call most nodef fun w s₀ s mg mb fa o pm cd doc a vs ns G Y ho hd hcd hmg script hints len gens => ?_
  have kin := inK w _ Y
  obtain ⟨fd, bind, hF⟩ := F w mg fa _ kin G.T.g hmg
  have rel : Vals (ns.map V.int) vs := vals_ints hints
  have small' : (ns.map V.int).length ≤ sizeLine := by rw [List.length_map]; exact Nat.le_trans len small
  have small2 : vs.toArray.size ≤ sizeLine := by rw [List.size_toArray, ← rel.length]; exact small'
  cases known : K w.params |>.lookup a with
  | some o' =>
    have e := kin a o' known
    rw [script] at e
    cases e
    refine from_caller (ns := ns) (H := fun _ => none) kin G.T.g G.T.b G.T.builtins G.T.nolimit gens script room hF bind (by intro b u z; cases z) (by intro b u z; cases z) (fun z => (z rfl).elim) ?_
    exact want _ _ a ns len (.inr ⟨_, vs.toArray, _, known, rfl, rfl, rfl, small2, by simpa using rel⟩)
  | none =>
    refine from_caller (ns := ns) (H := upd (fun _ => none) a (.frz (scr vs) (.lst (ns.map V.int)))) kin G.T.g G.T.b G.T.builtins G.T.nolimit gens script room hF bind ?_ ?_ (fun _ => known) ?_
    · intro b u z
      by_cases c : b = a
      · subst c
        rw [upd_same] at z
        exact ⟨rfl, (Option.some.inj z).symm⟩
      · rw [upd_ne c] at z
        cases z
    · intro b u z
      by_cases c : b = a
      · subst c
        rw [upd_same] at z
        cases z
        exact ⟨script, small', vs, _, rel, script⟩
      · rw [upd_ne c] at z
        cases z
    · exact want _ _ a ns len (.inl (.inr ⟨_, upd_same⟩))
end Gu
namespace Am
open PySem PySem.Spec PyProof.Rows L2
/-- all but p stands as it did -/
def Chg (p : Addr) (H H' : Hp) : Prop := ∀ b u, H b = some u → b ≠ p → H' b = some u
theorem Chg.refl (p : Addr) (H : Hp) : Chg p H H := fun _ _ e _ => e
theorem Chg.trans {p : Addr} {H H1 H2 : Hp} (a : Chg p H H1) (b : Chg p H1 H2) : Chg p H H2 := fun c u e n => b c u (a c u e n) n
theorem Chg.of {p : Addr} {H H' : Hp} (s : Same H H') : Chg p H H' := fun b u e _ => s b u e
theorem Chg.upd {p : Addr} {H : Hp} {o : HO} : Chg p H (upd H p o) := fun b u e n => by rw [upd_ne n]; exact e
/-- the law's jar: what is left of the cell's own digits, the mixed number, how often it was asked -/
def JarAt (H : Hp) (p : Addr) (N : Int) : Prop := ∃ o m c : Int, H p = some (.lst [.int o, .int m, .int c]) ∧ 0 ≤ o ∧ (0 ≤ m ∧ m < 2 ^ 61) ∧ 0 ≤ c ∧ c ≤ N
theorem JarAt.mono {H : Hp} {p : Addr} {N M : Int} (h : JarAt H p N) (l : N ≤ M) : JarAt H p M := by
  obtain ⟨o, m, c, h, a, b, d, e⟩ := h
  exact ⟨o, m, c, h, a, b, d, Int.le_trans e l⟩
theorem JarAt.same {H H' : Hp} {p : Addr} {N : Int} (h : JarAt H p N) (e : Same H H') : JarAt H' p N := by
  obtain ⟨o, m, c, h, r⟩ := h
  exact ⟨o, m, c, e _ _ h, r⟩
theorem JarAt.lst {H : Hp} {p : Addr} {N : Int} (h : JarAt H p N) : ∃ xs, H p = some (.lst xs) := by
  obtain ⟨o, m, c, h, _⟩ := h
  exact ⟨_, h⟩
theorem AmAt.chg {C p : Addr} {H H' : Hp} {N : Int} {v : V} {n u : Int} (j : JarAt H p N) (e : Chg p H H') (h : AmAt C H v n u) : AmAt C H' v n u := by
  obtain ⟨l, a, dx, rfl, h⟩ := h
  obtain ⟨xs, hp⟩ := j.lst
  exact ⟨l, a, dx, rfl, e _ _ h (ne_of h hp (by intro z; cases z))⟩
theorem AmV.chg {C p : Addr} {H H' : Hp} {N : Int} {v : V} {n u : Int} (j : JarAt H p N) (e : Chg p H H') (h : AmV C H v n u) : AmV C H' v n u := h.elim (fun h => .inl (h.chg j e)) .inr
theorem tup_chg {p a : Addr} {H H' : Hp} {N : Int} {xs : List V} (j : JarAt H p N) (e : Chg p H H') (h : H a = some (.tup xs)) : H' a = some (.tup xs) := by
  obtain ⟨ys, hp⟩ := j.lst
  exact e _ _ h (ne_of h hp (by intro z; cases z))
theorem atI_in {xs : List V} {i : Int} (h0 : 0 ≤ i) (h1 : i < xs.length) : ∃ v, atI xs i = some v ∧ v ∈ xs := by
  obtain ⟨j, rfl⟩ := Int.eq_ofNat_of_zero_le h0
  have hj : j < xs.length := by omega
  exact ⟨xs[j], atI_nat (List.getElem?_eq_getElem hj), List.getElem_mem hj⟩
structure Nm (mg : Str → Option Value) : Prop where
  len : mg "len" = none
  abs : mg "abs" = none
  int : mg "int" = none
  max : mg "max" = none
  min : mg "min" = none
  range : mg "range" = none
  all : mg "all" = none
  repr : mg "repr" = none
  isi : mg "isinstance" = none
theorem b_abs : bootBuiltins "abs" = some (.builtin "abs") := by decide +kernel
theorem b_repr : bootBuiltins "repr" = some (.builtin "repr") := by decide +kernel
theorem b_max : bootBuiltins "max" = some (.builtin "max") := by decide +kernel
theorem b_min : bootBuiltins "min" = some (.builtin "min") := by decide +kernel
theorem b_all : bootBuiltins "all" = some (.builtin "all") := by decide +kernel
/-- ** of a written base of any size -/
theorem op_powX {X : Cx} : OpR X (binaryOp .Pow) (rI (fun i j => 0 ≤ j ∧ (Builtin.Int.intBits i : Int) * j ≤ 2 ^ 27) fun i j => .int (i ^ j.toNat)) := opI fun i j _ _ _ _ _ hc q => pow_int hc.1 hc.2 q
theorem b01 (b : Bool) : (-(2 ^ 64) : Int) < (if b = true then 1 else 0) ∧ (if b = true then (1 : Int) else 0) < 2 ^ 64 := by cases b <;> decide
theorem b01n (b : Bool) : (0 : Int) ≤ (if b = true then 1 else 0) := by cases b <;> decide
def spJar (K : PySem.W.Frag) : Sp := fun vs H Q _ => ∃ (a : Addr) (ns : List Int) (k : Int), vs = [.ref a, .int k] ∧ SqL K H a (ns.map V.int) ∧ 0 ≤ k ∧ k ≤ 63 ∧ ∀ p H', Same H H' → H p = none → JarAt H' p 0 → Q (.ref p) H'
def spTake : Sp := fun vs H Q _ => ∃ (p : Addr) (u N : Int), vs = [.ref p, .int u] ∧ (0 < u ∧ u < 1073741824) ∧ JarAt H p N ∧ N ≤ 9999 ∧ ∀ d H', (0 ≤ d ∧ d < u) → Chg p H H' → JarAt H' p (N + 1) → Q (.int d) H'
def spOf : Sp := fun vs H Q _ => ∃ (p l : Addr) (xs : List V) (N : Int), vs = [.ref p, .ref l] ∧ H l = some (.lst xs) ∧ l ≠ p ∧ (0 < xs.length ∧ xs.length ≤ 1000) ∧ JarAt H p N ∧ N ≤ 9999 ∧ ∀ v H', v ∈ xs → Chg p H H' → JarAt H' p (N + 1) → Q v H'
theorem sq_bound {k c : Int} (hk : 0 ≤ k) (hk2 : k ≤ 200000) (h0 : 0 ≤ c) (h1 : c ≤ 10000) : 0 ≤ k * c * c ∧ k * c * c ≤ 20000000000000 := by
  have a : 0 ≤ k * c := Int.mul_nonneg hk h0
  refine ⟨Int.mul_nonneg a h0, ?_⟩
  have b : k * c ≤ 200000 * 10000 := Int.mul_le_mul hk2 h1 h0 (by decide)
  have d : k * c * c ≤ 200000 * 10000 * 10000 := Int.mul_le_mul b h1 h0 (by decide)
  omega
section
variable {P : Program} {w : World} {K : PySem.W.Frag} {mg : Str → Option Value} {base : Heap} {C : Addr}
theorem scJar : FnScope ["_law_script", "_law_k", "_law_cell", "_law_own", "_law_mixed"] ["_law_script", "_law_k"] (defScope sJar) := ⟨rfl, rfl, rfl, by decide +kernel, rfl, by decide +kernel, by decide +kernel⟩
theorem ok_jar {f : Addr} {fd : FuncData} (F : Fun K "_law_jar" "_law_jar" sJar f fd) (T : Nm mg) : FnOk P w K mg base CX0 1 f fd ["_law_script", "_law_k"] (spJar K) := by
  refine F.ok scJar (fun vs H Q E h => ?_) (fun cdv A outer s H vs Q E hr h => ?_)
  · obtain ⟨a, ns, k, rfl, _⟩ := h
    rfl
  · obtain ⟨a, ns, k, rfl, hS, h0, h1, q⟩ := h
    refine ⟨_, C8.pss_cut (ps_set (i := 2) scJar.nd rfl (.inl rfl) (pe_ifExp (pt_cmpR op_lt (pv 1) (pe_callB call_len_seq (by rfl) T.len PySem.boot_len (pa_cons (pv 0) pa_nil)) (nomark _)) (pe_ix ix_list (pv 0) (pv 1) (fun _ _ => rfl)) (pe_op op_add (pe_op op_mul pe_int (pv 1)) pe_int)))
      (pss_cons (ps_set (i := 3) scJar.nd rfl (.inl rfl) (pe_op op_mul (pe_op op_mod (pe_callTy call_int1 (by rfl) T.int b_int (pa_cons (pe_callB call_abs (by rfl) T.abs b_abs (pa_cons (pv 2) pa_nil)) pa_nil)) (pe_op op_powX (pe_op op_pow pe_int pe_int) pe_int))
        (pe_callTy call_int1 (by rfl) T.int b_int (pa_cons (pe_cmpR op_ge (pe_callB call_abs (by rfl) T.abs b_abs (pa_cons (pv 2) pa_nil)) (pe_op op_pow pe_int pe_int) (nomark _)) pa_nil))))
      (pss_cons (ps_set (i := 4) scJar.nd rfl (.inl rfl) (pe_callTy call_int1 (by rfl) T.int b_int (pa_cons (pe_op op_add (pe_op op_add (pe_op op_mul (pe_op op_mod (pe_callTy call_int1 (by rfl) T.int b_int (pa_cons (pv 2) pa_nil)) pe_int) pe_int) (pe_op op_mul (pe_op op_mul pe_int (pv 1)) (pv 1))) pe_int) pa_nil)))
      (pss_one (ps_ret (pe_lst (pa_cons (pv 3) (pa_cons (pe_op op_mod (pv 4) pe_int) (pa_cons pe_int pa_nil)))))))), ?_⟩
    refine ⟨fun σ' H' => ∃ cell : Int, σ' = [some (.ref a), some (.int k), some (.int cell), none, none] ∧ H' = H, ?_, ?_⟩
    · refine ⟨_, rfl, _, rfl, a, _, rfl, .inl hS, _, _, rfl, rfl, _, rfl, ite2 (fun c => ?_) (fun c => ?_)⟩
      · have c' := of_decide_eq_true c
        rw [List.length_map] at c'
        obtain ⟨v, hv, mv⟩ := atI_in (xs := ns.map V.int) h0 (by rw [List.length_map]; exact c')
        obtain ⟨z, _, rfl⟩ := List.mem_map.mp mv
        exact ⟨_, rfl, _, rfl, a, _, _, _, rfl, rfl, hS, hv, z, rfl, rfl⟩
      · exact ⟨_, rfl, _, _, rfl, rfl, .inl (by decide), _, _, rfl, rfl, _, rfl, rfl⟩
    · rintro σ' H' ⟨cell, rfl, rfl⟩
      have own0 : ∀ x : Int, 0 ≤ x % (((10 : Int) ^ (60 : Int).toNat) ^ (5 : Int).toNat) := fun x => Int.emod_nonneg _ (by decide +kernel)
      refine ⟨_, rfl, cell, rfl, .inl ⟨_, rfl, _, _, rfl, rfl, ⟨by decide, by decide, by decide⟩, _, _, rfl, rfl, (by decide +kernel), _, _, rfl, rfl, (by show (0 : Int) < (10 ^ (60 : Int).toNat) ^ (5 : Int).toNat; decide +kernel), ?_⟩⟩
      refine ⟨_, rfl, cell, rfl, _, _, rfl, rfl, ⟨by decide, by decide, by decide⟩, _, _, rfl, rfl, .inr ⟨_, rfl, _, _, rfl, rfl, .inr (b01 _), ?_⟩⟩
      refine ⟨_, rfl, .inl ⟨_, rfl, _, _, rfl, rfl, (by show (0 : Int) < 2305843009213693951; decide), _, _, rfl, rfl, .inr (by decide), ?_⟩⟩
      refine ⟨_, rfl, _, _, rfl, rfl, .inl (by decide), _, rfl, _, _, rfl, rfl, .inr (by omega), _, _, rfl, rfl, _, _, rfl, rfl, .inl ⟨_, rfl, ?_⟩⟩
      refine ⟨_, rfl, _, rfl, _, _, rfl, rfl, (by show (0 : Int) < 2305843009213693921; decide), (by show 3 ≤ sizeLine; decide), fun p np => ?_⟩
      refine q p _ (same_upd np) np ⟨_, _, _, upd_same, ?_, ⟨Int.emod_nonneg _ (by decide), Int.lt_of_lt_of_le (Int.emod_lt_of_pos _ (by decide)) (by decide)⟩, Int.le_refl _, Int.le_refl _⟩
      exact Int.mul_nonneg (own0 _) (b01n _)
theorem scTake : FnScope ["_law_jar_here", "_law_upto", "_law_digit", "_law_prime", "_law_mixed"] ["_law_jar_here", "_law_upto"] (defScope sTake) := ⟨rfl, rfl, rfl, by decide +kernel, rfl, by decide +kernel, by decide +kernel⟩
theorem ok_take {f : Addr} {fd : FuncData} (F : Fun K "_law_take" "_law_take" sTake f fd) (T : Nm mg) : FnOk P w K mg base CX0 1 f fd ["_law_jar_here", "_law_upto"] spTake := by
  refine F.ok scTake (fun vs H Q E h => ?_) (fun cdv A outer s H vs Q E hr h => ?_)
  · obtain ⟨p, u, N, rfl, _⟩ := h
    rfl
  · obtain ⟨p, u, N, rfl, ⟨u0, u1⟩, ⟨o, m, c, hp, o0, ⟨m0, m1⟩, c0, c1⟩, hN, q⟩ := h
    refine ⟨_, pss_cons (ps_if (pt_cmpR op_gt (pe_ix ix_list (pv 0) pe_int (fun _ _ => rfl)) pe_int (nomark _))
        (pss_cons (ps_set (i := 2) scTake.nd rfl (.inl rfl) (pe_op op_mod (pe_callTy call_int1 (by rfl) T.int b_int (pa_cons (pe_ix ix_list (pv 0) pe_int (fun _ _ => rfl)) pa_nil)) (pv 1)))
        (pss_cons (ps_asg (pe_op op_fdiv (pe_ix ix_list (pv 0) pe_int (fun _ _ => rfl)) (pv 1)) (pg_sub (pv 0) pe_int set_list))
        (pss_one (ps_ret (pv 2))))) pss_nil)
      (pss_cons (ps_asg (pe_op op_add (pe_ix ix_list (pv 0) pe_int (fun _ _ => rfl)) pe_int) (pg_sub (pv 0) pe_int set_list))
      (pss_cons (ps_set (i := 3) scTake.nd rfl (.inl rfl) (pe_ix ix_list (pe_lst (pa_cons pe_int (pa_cons pe_int (pa_cons pe_int (pa_cons pe_int (pa_cons pe_int pa_nil)))))) (pe_op op_mod (pe_callTy call_int1 (by rfl) T.int b_int (pa_cons (pe_ix ix_list (pv 0) pe_int (fun _ _ => rfl)) pa_nil)) pe_int) (fun _ _ => rfl)))
      (pss_cons (ps_set (i := 4) scTake.nd rfl (.inl rfl) (pe_op op_mod (pe_callTy call_int1 (by rfl) T.int b_int (pa_cons (pe_op op_pow (pe_callTy call_int1 (by rfl) T.int b_int (pa_cons (pe_op op_add (pe_op op_add (pe_ix ix_list (pv 0) pe_int (fun _ _ => rfl)) (pe_op op_mul (pe_op op_mul pe_int (pe_ix ix_list (pv 0) pe_int (fun _ _ => rfl))) (pe_ix ix_list (pv 0) pe_int (fun _ _ => rfl)))) pe_int) pa_nil)) pe_int) pa_nil)) (pv 3)))
      (pss_one (ps_ret (pe_op op_mod (pe_callTy call_int1 (by rfl) T.int b_int (pa_cons (pe_op op_fdiv (pe_op op_mul (pv 4) (pe_op op_add (pe_op op_mod (pe_callTy call_int1 (by rfl) T.int b_int (pa_cons (pv 4) pa_nil)) pe_int) (pe_op op_mul pe_int (pe_ix ix_list (pv 0) pe_int (fun _ _ => rfl))))) pe_int) pa_nil)) (pv 1))))))), ?_⟩
    refine ⟨_, rfl, p, _, _, _, rfl, rfl, SqL.of hp, rfl, _, _, rfl, rfl, _, rfl, ite2 (fun z => ?_) (fun _ => ?_)⟩
    · refine ⟨_, rfl, p, _, _, _, rfl, rfl, SqL.of hp, rfl, .inl ⟨_, rfl, _, rfl, _, _, rfl, rfl, u0, ?_⟩⟩
      refine ⟨_, rfl, p, _, _, _, rfl, rfl, SqL.of hp, rfl, _, rfl, _, _, rfl, rfl, ⟨u0, u1⟩, _, rfl, p, _, _, 0, rfl, rfl, hp, rfl, ?_⟩
      refine ⟨_, rfl, q _ _ ⟨Int.emod_nonneg _ (by omega), Int.emod_lt_of_pos _ u0⟩ Chg.upd ⟨_, _, _, upd_same, Int.ediv_nonneg o0 (by omega), ⟨m0, m1⟩, c0, by omega⟩⟩
    · refine ⟨_, rfl, p, _, _, _, rfl, rfl, SqL.of hp, rfl, _, _, rfl, rfl, _, rfl, p, _, _, 2, rfl, rfl, hp, rfl, ?_⟩
      have hp1 : (upd H p (.lst ([V.int o, .int m, .int c].set 2 (.int (c + 1))))) p = some (.lst [V.int o, .int m, .int (c + 1)]) := upd_same
      have k1 : Chg p H (upd H p (.lst ([V.int o, .int m, .int c].set 2 (.int (c + 1))))) := Chg.upd
      generalize (upd H p (.lst ([V.int o, .int m, .int c].set 2 (.int (c + 1))))) = H1 at hp1 k1 ⊢
      refine ⟨by show 5 ≤ sizeLine; decide, fun l nl => ?_⟩
      have npl : p ≠ l := ne_of_none hp1 nl
      have hp2 : ∀ o, (upd H1 l o) p = some (.lst [V.int _, .int m, .int (c + 1)]) := fun o => by rw [upd_ne npl]; exact hp1
      refine ⟨_, rfl, p, _, _, _, rfl, rfl, SqL.of (hp2 _), rfl, .inl ⟨_, rfl, _, _, rfl, rfl, (by show (0 : Int) < 5; decide), ?_⟩⟩
      obtain ⟨v, hv, mv⟩ := atI_in (xs := [V.int 2147483647, .int 2147483629, .int 2147483587, .int 2147483579, .int 2147483563]) (i := (c + 1) % 5) (Int.emod_nonneg _ (by decide)) (Int.emod_lt_of_pos _ (by decide))
      obtain ⟨pr, rfl, pr0⟩ : ∃ pr : Int, v = .int pr ∧ 0 < pr := by
        simp only [List.mem_cons, List.not_mem_nil, or_false] at mv
        rcases mv with rfl | rfl | rfl | rfl | rfl <;> exact ⟨_, rfl, by decide⟩
      refine ⟨l, _, _, _, rfl, rfl, SqL.of upd_same, hv, ?_⟩
      have sq := fun (k : Int) (a : 0 ≤ k) (b : k ≤ 200000) => sq_bound (k := k) (c := c + 1) a b (by omega) (by omega)
      refine ⟨_, rfl, p, _, _, _, rfl, rfl, SqL.of (hp2 _), rfl, ?_⟩
      refine ⟨_, rfl, p, _, _, _, rfl, rfl, SqL.of (hp2 _), rfl, _, _, rfl, rfl, .inl (by decide), ?_⟩
      refine ⟨_, rfl, p, _, _, _, rfl, rfl, SqL.of (hp2 _), rfl, _, _, rfl, rfl, .inr (by omega), ?_⟩
      refine ⟨_, _, rfl, rfl, _, _, rfl, rfl, .inl ⟨_, rfl, _, _, rfl, rfl, ⟨by decide, by decide, ?_⟩, .inl ⟨_, rfl, _, rfl, _, _, rfl, rfl, pr0, ?_⟩⟩⟩
      · have := sq 120059 (by decide) (by decide)
        omega
      refine ⟨_, rfl, _, rfl, .inl ⟨_, rfl, _, _, rfl, rfl, (by show (0 : Int) < 10007; decide), ?_⟩⟩
      refine ⟨_, rfl, p, _, _, _, rfl, rfl, SqL.of (hp2 _), rfl, _, _, rfl, rfl, .inl (by decide), _, _, rfl, rfl, _, _, rfl, rfl, .inr ?_, _, _, rfl, rfl, ⟨by decide, by decide⟩, .inl ⟨_, rfl, _, rfl, _, _, rfl, rfl, u0, ?_⟩⟩
      · have g0 := fun x : Int => Int.emod_nonneg x (b := 10007) (by decide)
        have g1 := fun x : Int => Int.emod_lt_of_pos x (b := 10007) (by decide)
        have := g0 (((m + 120059 * (c + 1) * (c + 1) + 66) ^ (3 : Int).toNat) % pr)
        have := g1 (((m + 120059 * (c + 1) * (c + 1) + 66) ^ (3 : Int).toNat) % pr)
        constructor <;> omega
      · have np1 := hp2 (.lst [V.int 2147483647, .int 2147483629, .int 2147483587, .int 2147483579, .int 2147483563])
        exact q _ _ ⟨Int.emod_nonneg _ (by omega), Int.emod_lt_of_pos _ u0⟩ (k1.trans (Chg.of (same_upd nl))) ⟨_, _, _, np1, o0, ⟨m0, m1⟩, by omega, by omega⟩
theorem scOf : FnScope ["_law_jar_here", "_law_some"] ["_law_jar_here", "_law_some"] (defScope sOf) := ⟨rfl, rfl, rfl, by decide +kernel, rfl, by decide +kernel, by decide +kernel⟩
theorem ok_of {f : Addr} {fd : FuncData} (F : Fun K "_law_of" "_law_of" sOf f fd) (T : Nm mg) (GT : GotF P w K mg base "_law_take" 1 ["_law_jar_here", "_law_upto"] spTake) : FnOk P w K mg base CX0 2 f fd ["_law_jar_here", "_law_some"] spOf := by
  obtain ⟨fT, fdT, GT, bT, mT, kT⟩ := GT
  refine F.ok scOf (fun vs H Q E h => ?_) (fun cdv A outer s H vs Q E hr h => ?_)
  · obtain ⟨p, l, xs, N, rfl, _⟩ := h
    rfl
  · obtain ⟨p, l, xs, N, rfl, hl, nlp, ⟨x0, x1⟩, hj, hN, q⟩ := h
    refine ⟨_, pss_one (ps_ret (pe_ix ix_list (pv 1) (pe_call GT hr (by rfl) mT kT bT .nil pass0 (pa_cons (pv 0) (pa_cons (pe_callB call_len_seq (by rfl) T.len PySem.boot_len (pa_cons (pv 1) pa_nil)) pa_nil))) (fun _ _ => rfl))), ?_⟩
    refine ⟨_, rfl, _, rfl, _, rfl, l, _, rfl, .inl (SqL.of hl), ?_⟩
    refine ⟨p, _, N, rfl, ⟨by omega, by omega⟩, hj, hN, fun d H' hd k j => ?_⟩
    obtain ⟨v, hv, mv⟩ := atI_in hd.1 hd.2
    exact ⟨l, xs, d, v, rfl, rfl, SqL.of (k _ _ hl nlp), hv, q v H' mv k j⟩
end
end Am
/-! names, and the lines of a house, one by one -/
namespace Hs
open PySem PySem.Spec PyProof.Rows L2 Am
def abc : Str := "abcdefghijklmnopqrstuvwxyz"
def letB (c : Nat) : Bool := decide (97 ≤ c ∧ c ≤ 122)
/-- a name -/
def nameB (x : Str) : Bool := (decide (1 ≤ x.length) && decide (x.length ≤ 8)) && (!(decide (x = "main") || (decide (x = "house") || decide (x = "rest"))) && x.cps.toList.all letB)
theorem in_abc (c : Nat) : decide (c ∈ abc.cps.toList) = letB c := by
  have e : abc.cps.toList = [97, 98, 99, 100, 101, 102, 103, 104, 105, 106, 107, 108, 109, 110, 111, 112, 113, 114, 115, 116, 117, 118, 119, 120, 121, 122] := by decide +kernel
  rw [e]
  refine decide_eq_decide.mpr ⟨fun h => ?_, fun h => ?_⟩
  · simp only [List.mem_cons, List.not_mem_nil, or_false] at h
    omega
  · simp only [List.mem_cons, List.not_mem_nil, or_false]
    omega
/-- the module's words -/
structure Wd (K : PySem.W.Frag) (mg : Str → Option Value) : Prop where
  tk : ∃ T, mg "TAKEN" = some (.ref T) ∧ ∀ H, SqT K H T [V.str "main", V.str "house", V.str "rest"]
  lt : ∃ t, mg "LETTERS" = some (.str abc t)
def spIsName : Sp := fun vs H Q _ => ∃ x : Str, vs = [.str x] ∧ x.length ≤ 900 ∧ ∀ H', Same H H' → Q (.bl (nameB x)) H'
theorem taken_in (x : Str) : inV (V.str x) [V.str "main", V.str "house", V.str "rest"] = (decide (x = "main") || (decide (x = "house") || decide (x = "rest"))) := by
  have e : ∀ y : Str, eqV (V.str y) (V.str x) = decide (x = y) := fun y => by
    show (y == x) = _
    rw [Bool.eq_iff_iff, beq_iff_eq, decide_eq_true_eq]
    exact eq_comm
  show (eqV (V.str "main") (V.str x) || (eqV (V.str "house") (V.str x) || (eqV (V.str "rest") (V.str x) || false))) = _
  rw [e, e, e, Bool.or_false]
section
variable {P : Program} {w : World} {K : PySem.W.Frag} {mg : Str → Option Value} {base : Heap} {C : Addr}
theorem kstr {K : PySem.W.Frag} : PySem.W.kitOne K (.type "str") (.type "str") = some true := kit_ty (show kitB "str" "str" = some true by decide +kernel)
theorem scIsName : FnScope ["value", "letter"] ["value"] (defScope sIsName) := ⟨rfl, rfl, rfl, by decide +kernel, rfl, by decide +kernel, by decide +kernel⟩
theorem ok_isName {f : Addr} {fd : FuncData} (F : Fun K "is_name" "is_name" sIsName f fd) (W : Wd K mg) (T : Nm mg) (ns : mg "str" = none) : FnOk P w K mg base CX0 1 f fd ["value"] spIsName := by
  obtain ⟨⟨tkA, mT, tk⟩, tl, mL⟩ := W
  refine F.ok scIsName (fun vs H Q E h => ?_) (fun cdv A outer s H vs Q E hr h => ?_)
  · obtain ⟨x, rfl, _⟩ := h
    rfl
  · obtain ⟨x, rfl, hl, q⟩ := h
    have b_str : bootBuiltins "str" = some (.type "str") := by decide +kernel
    refine ⟨_, pss_cons (ps_if (PW.pt (pw_or (pt_not (pt_val (pe_callB call_isi (by rfl) T.isi b_isi (pa_cons (pv 0) (pa_cons (pe_bltn (v := .ty "str") (by rfl) ns b_str rfl) pa_nil)))))
          (pw_or1 (pt_not (pt_chain op_le op_le pe_int (pe_callB call_len_str (by rfl) T.len PySem.boot_len (pa_cons (pv 0) pa_nil)) pe_int)))))
        (pss_one (ps_ret pe_bl)) pss_nil)
      (pss_one (ps_ret (pe_and (pe_cmpR op_notIn_seq (pv 0) (pe_glob (v := .ref tkA) (by rfl) mT rfl) (by rfl))
        (pe_one (pe_callB (cr_all rfl) (by rfl) T.all b_all (pa_cons (pe_lc (own := [("letter", 1)]) (g := gName 1) (tt := tYes) rfl scIsName.nd
          (pi_str (pv 0)) (blkOk_by (N := ["value", "letter"]) (sc := defScope sIsName) (by decide +kernel)) (fun _ _ _ _ _ => pg_name (i := 1) scIsName.nd rfl (Or.inl rfl)) (fun _ _ _ _ _ => pts_nil)
          (fun _ _ _ _ _ => pe_cmpR op_in_sign (pv 1) (pe_glob (v := .str abc) (by rfl) mL ⟨_, rfl⟩) (by rfl))) pa_nil)))))), ?_⟩
    have big : ∀ {k : Nat}, k ≤ 4000 → k ≤ sizeLine := fun h => Nat.le_trans h (by decide)
    have no : nameB x = false → tRet (tC (V.bl false)) { nx := fun x H' => Q V.non H', rt := Q } [some (V.str x), none] H := fun e => by
      have := q H (Same.refl _)
      rw [e] at this
      exact this
    refine ⟨_, rfl, .str x, .ty "str", .type "str", .type "str", _, rfl, .ty _, .base (Bk.tyOf (.str x)), kstr, _, rfl, iteF ?_⟩
    refine ⟨_, rfl, x, rfl, big (by omega), _, _, rfl, rfl, _, rfl, ?_⟩
    have d1 : decide ((1 : Int) ≤ (x.length : Int)) = decide (1 ≤ x.length) := decide_eq_decide.mpr (by omega)
    have d2 : decide ((x.length : Int) ≤ (8 : Int)) = decide (x.length ≤ 8) := decide_eq_decide.mpr (by omega)
    rw [d1]
    cases c1 : decide (1 ≤ x.length) with
    | false =>
      refine iteF ⟨_, rfl, iteT (no ?_)⟩
      unfold nameB
      rw [c1]
      rfl
    | true =>
      refine iteT ⟨_, _, rfl, rfl, _, rfl, ?_⟩
      rw [d2]
      cases c2 : decide (x.length ≤ 8) with
      | false =>
        refine iteT (no ?_)
        unfold nameB
        rw [c1, c2]
        rfl
      | true =>
        refine iteF ?_
        refine ⟨_, rfl, tkA, _, rfl, .inr (tk H), rfl, rfl, _, rfl, ?_⟩
        rw [if_pos rfl, taken_in]
        cases c3 : (decide (x = "main") || (decide (x = "house") || decide (x = "rest"))) with
        | true =>
          refine iteF ?_
          have := q H (Same.refl _)
          unfold nameB at this
          rw [c1, c2, c3] at this
          exact this
        | false =>
          refine iteT ⟨_, rfl, x, rfl, fun D nD => ?_⟩
          have hsz : x.cps.size = x.cps.toList.length := by simp
          refine lc_it (walk_str (z := x)) (Pv := Tk H D (x.cps.toList.map fun c => V.bl (letB c))) (Tk.start nD) (fun _ _ _ _ => trivial) ?_ ?_
          · rintro i v H1 H2 hi hk ⟨rfl, c, hc, rfl⟩
            refine ⟨rfl, ?_⟩
            unfold tYes
            refine iteT ⟨_, rfl, c, _, rfl, rfl, ?_⟩
            rw [in_abc]
            have hc' : x.cps.toList[i]? = some c := by rw [Array.getElem?_toList]; exact hc
            exact hk.step nD (Same.refl _) (by rw [List.getElem?_map, hc']; rfl) (by rw [List.length_map, SL.len_toList]; omega)
          · rintro H1 hk
            refine ⟨D, x.cps.toList.map letB, rfl, SqL.of ?_, ?_⟩
            · rw [List.map_map]
              exact hk.done (by rw [hsz, List.length_map])
            · have := q H1 hk.1
              unfold nameB at this
              rw [c1, c2, c3] at this
              rw [List.all_map]
              exact this
end
end Hs
/-! a, *b = a list -/
namespace Stt
open PySem PySem.Spec PyProof.Rows L2
section
variable {prog : Program} {w : World} {A : Around} {E : Value → Shared → Prop} {s : Shared}
theorem parts_of_list {l : Addr} {v0 : Value} {vr : List Value} {R : List Value → Shared → Prop} (at_ : s.heap.IsList l (v0 :: vr).toArray) (calm : A.handled = none) (small : vr.length ≤ 16000)
    (next : ∀ (hp : Heap) (tk : Nat), (∀ b o, s.heap.get? b = some o → hp.get? b = some o) → R [v0, .ref hp.objs.size] { s with heap := hp.push { cls := .type "list", data := .seq vr.toArray }, toks := tk }) :
    wpAny (model prog w) A (unpackItems (.ref l) 2 (some 1)) R E s := by
  obtain ⟨ol, eol, _⟩ := id at_
  have below := Heap.lt_size eol
  have apart : l ≠ s.heap.objs.size := Nat.ne_of_lt below
  have iter0 : wpAny (model prog w) A (notIterableAtAll (.ref l)) (fun b s' => b = false ∧ s' = s) E s := by
    unfold notIterableAtAll
    exact wpAny_bind (wpAny_specialOf at_.typeIs slot_list_iter.lookup (wpAny_pure ⟨rfl, rfl⟩))
  unfold unpackItems
  refine wpAny_bind (wpAny_mono iter0 (fun b s' z => ?_) fun _ _ z => z)
  obtain ⟨rfl, rfl⟩ := z
  simp only [Bool.false_eq_true, if_false]
  refine wpAny_bind (wpAny_holding (wpAny_pyIter_list at_ ?_))
  have size2 : (v0 :: vr).toArray.size = vr.length + 1 := by simp
  refine wpAny_bind (wpAny_holding (PySem.W.kun_draw apart 1 0 _ _ ⟨_, Heap.get?_push_size _ rfl, rfl, rfl⟩ (at_.push _) (by rw [size2]; omega) ?_))
  intro g1 it1 sb1
  have at1 : g1.IsList l (v0 :: vr).toArray := (at_.push _).extBut sb1.extBut apart
  obtain ⟨o1, eo1, _⟩ := id at1
  obtain ⟨oi, eoi, _⟩ := id it1
  rw [if_neg (show ¬ (((v0 :: vr).toArray.toList.drop 0).take 1).length < 1 by simp)]
  have k1 : 1 ≤ (v0 :: vr).toArray.size := by rw [size2]; omega
  have z1 : (v0 :: vr).toArray.size ≤ sizeLine := by rw [size2]; exact Nat.le_trans (show _ ≤ 16001 by omega) (by decide)
  refine wpAny_bind (wpAny_holding (PySem.W.kun_collect (s := { s' with heap := g1 }) (T := "list_iterator") (.inr (.inr (.inl rfl))) (Walks.list (A := A.in1) calm s'.heap.objs.size l apart _) (fun j u st => st.1.typeIs) k1 ⟨it1, at1⟩ (Heap.lt_size eoi) (Heap.lt_size eo1) ?_ z1))
  intro g2 tk keep
  have whole : ∀ b o, s'.heap.get? b = some o → g2.get? b = some o := fun b o e => by
    have nb : b ≠ s'.heap.objs.size := Nat.ne_of_lt (Heap.lt_size e)
    exact keep b o nb (sb1.extBut b o nb (Heap.get?_push_of_some _ e))
  have e1 : (v0 :: vr).toArray.toList.drop 1 = vr := by simp
  have e0 : ((v0 :: vr).toArray.toList.drop 0).take 1 = [v0] := by simp
  rw [e1, e0]
  rw [if_neg (show ¬ vr.length < 2 - 1 - 1 by omega)]
  have et : vr.take (vr.length - (2 - 1 - 1)) = vr := List.take_of_length_le (by omega)
  have ed : vr.drop (vr.length - (2 - 1 - 1)) = [] := List.drop_of_length_le (by omega)
  rw [et, ed]
  refine wpAny_bind (wpAny_newList (wpAny_pure ?_) (Nat.le_trans small (by decide)))
  exact next g2 tk whole
end
section
variable {X : Cx}
theorem pgs_star {t : Expr} {sp : Pos} {g : TG} (h : PG X t g) (hs : (assignEach [.Starred t sp] X.env).map (·.2) = [assign t X.env] := by rfl) : PGs X [.Starred t sp] (gCons g gNil) := by
  refine ⟨fun pins s σ H vs us Q I r want => ?_⟩
  obtain ⟨v, vr, rfl, want⟩ := want
  cases r with
  | cons r rr =>
    rw [hs]
    refine assignInOrder_cons (thn (h.run pins s σ H _ _ _ I r want) fun _ s1 ⟨σ1, H1, I1, e, q1⟩ => ?_)
    subst e
    cases rr
    exact assignInOrder_nil ⟨σ1, H1, I1, q1⟩
/-- the first of a list, and a new list of the others -/
def gStar (K : PySem.W.Frag) (t : TGs) : TG := fun v σ H Q => ∃ l x xs, v = .ref l ∧ SqL K H l (x :: xs) ∧ xs.length ≤ 1000 ∧ ∀ D, H D = none → t [x, .ref D] σ (upd H D (.lst xs)) Q
theorem pg_star {es : List Expr} {k : Nat} {t : TGs} {pos : Pos} (hc : X.calm = true) (h : PGs X es t) (hn : (assignEach es X.env).length = 2 := by rfl) (hst : (assignEach es X.env).findIdx? (·.1) = some 1 := by rfl) : PG X (.Tuple es k pos) (gStar X.K t) := by
  refine ⟨fun pins s σ H v u Q I r want => ?_⟩
  obtain ⟨l, x, xs, rfl, hl, hx, want⟩ := want
  cases r
  obtain ⟨its, rv, pl, hz⟩ := I.list hl
  cases rv with
  | cons r0 rr =>
    rename_i v0 vr
    rw [assign_Tuple]
    refine wpAny_bind (wpAny_standAt ?_)
    unfold unpack
    rw [hn, hst]
    refine wpAny_bind (wpAny_holding (parts_of_list pl.isList (I.ok.hd hc) (by rw [← rr.length]; omega) fun hp tk keep => ?_))
    have I1 : Inv X pins σ H { s with heap := hp, toks := tk } := I.kept keep
    have hf : H hp.objs.size = none := I1.hok.fresh (Nat.le_refl _)
    refine h.run pins _ σ _ [x, .ref hp.objs.size] [v0, .ref hp.objs.size] Q (I1.laid (t' := tk) (o := .lst xs) (fun b u e => Heap.get?_push_of_some _ e) (Nat.le_refl _) ?_) (.cons r0 (.cons rfl .nil)) (want _ hf)
    exact ⟨Nat.le_trans hx (by decide), vr, 0, rr, Heap.get?_push_size _ rfl⟩
end
end Stt
/-! the lines of a house -/
namespace Hs
open PySem PySem.Spec PyProof.Rows L2 Am
/-- a list of texts -/
def WdAt (H : Hp) (l : Addr) (ws : List Str) : Prop := H l = some (.lst (ws.map V.str))
def spDays (C : Addr) : Sp := fun vs H Q _ => ∃ (d lp lt ls lw : Addr) (L : Lore) (w : Str) (n : Nat), vs = [.ref d, .ref lw] ∧ DraftAt C H d lp lt ls L ∧ WdAt H lw [w] ∧ L.days = 0 ∧ w.length ≤ 600 ∧ Mt.num w.cps.toList = n ∧ (1 ≤ n ∧ n ≤ 14) ∧
  ∀ H', Fr [d] H H' → DraftAt C H' d lp lt ls { L with days := n } → Q (.bl true) H'
theorem Fr.upd {ms : List Addr} {H : Hp} {d : Addr} {o : HO} (h : d ∈ ms) : Fr ms H (upd H d o) := fun b u e n => by
  rw [upd_ne (fun z => n (by rw [z]; exact h))]
  exact e
theorem Fr.mono {ms ns : List Addr} {H H' : Hp} (h : Fr ms H H') (e : ∀ x ∈ ms, x ∈ ns) : Fr ns H H' := fun b u z n => h b u z (fun y => n (e b y))
theorem dfs_len (n : Nat) (lp lt ls : Addr) : (dfs n lp lt ls).length = 4 := by
  unfold dfs
  simp only [putF, if_neg n_dp, if_neg n_dt, if_neg n_ds, if_neg n_pt, if_neg n_ps, if_neg n_ts]
  rfl
section
variable {P : Program} {w : World} {K : PySem.W.Frag} {mg : Str → Option Value} {base : Heap} {C : Addr}
theorem DraftAt.fld {H : Hp} {d lp lt ls : Addr} {L : Lore} (h : DraftAt C H d lp lt ls L) : ∃ dx, H d = some (.ins C dx (dfs L.days lp lt ls)) := h.ob
theorem DraftAt.d_ne {H : Hp} {d lp lt ls : Addr} {L : Lore} (h : DraftAt C H d lp lt ls L) : d ≠ lp ∧ d ≠ lt ∧ d ≠ ls := by
  obtain ⟨dx, ob⟩ := h.ob
  obtain ⟨r1, l1, _⟩ := h.pl
  obtain ⟨r2, l2, _⟩ := h.pr
  obtain ⟨r3, l3, _⟩ := h.st
  exact ⟨ne_of ob l1 (by intro z; cases z), ne_of ob l2 (by intro z; cases z), ne_of ob l3 (by intro z; cases z)⟩
theorem LstAt.keep {α : Type} {f : α → HO} {H H' : Hp} {l : Addr} {xs : List α} {ms : List Addr} (h : LstAt f H l xs) (e : Fr ms H H') (hl : l ∉ ms) (ho : ∀ r x, H r = some (f x) → r ∉ ms) : LstAt f H' l xs := by
  obtain ⟨rs, a, b, c⟩ := h
  exact ⟨rs, e _ _ a hl, b, fun i r x h1 h2 => e _ _ (c i r x h1 h2) (ho r x (c i r x h1 h2))⟩
theorem scDays : FnScope ["self", "words", "days"] ["self", "words"] (defScope sDrDays) := ⟨rfl, rfl, rfl, by decide +kernel, rfl, by decide +kernel, by decide +kernel⟩
theorem ok_days {f : Addr} {fd : FuncData} (F : Fun K "take_days" "Draft.take_days" sDrDays f fd) (dc : DC K C) (T : Nm mg) (GD : GotF P w K mg base "decimal" 1 ["word"] spDec) : FnOk P w K mg base CX0 2 f fd ["self", "words"] (spDays C) := by
  obtain ⟨fD, fdD, GD, bD, mD, kD⟩ := GD
  refine F.ok scDays (fun vs H Q E h => ?_) (fun cdv A outer s H vs Q E hr h => ?_)
  · obtain ⟨d, lp, lt, ls, lw, L, x, n, rfl, _⟩ := h
    rfl
  · obtain ⟨d, lp, lt, ls, lw, L, x, n, rfl, hd, hw, z0, lx, hn, ⟨n1, n14⟩, q⟩ := h
    refine ⟨_, pss_cons (ps_if (PW.pt (pw_or (pt_cmpR op_gt (pe_fld (pv 0) rfl) pe_int (nomark _)) (pw_or1 (pt_cmpR op_ne (pe_callB call_len_seq (by rfl) T.len PySem.boot_len (pa_cons (pv 1) pa_nil)) pe_int (nomark _))))) (pss_one (ps_ret pe_bl)) pss_nil)
      (pss_cons (ps_set (i := 2) scDays.nd rfl (.inl rfl) (pe_call GD hr (by rfl) mD kD bD .nil pass0 (pa_cons (pe_ix ix_list (pv 1) pe_int (fun _ _ => rfl)) pa_nil)))
      (pss_cons (ps_if (pt_not (pt_chain op_le op_le pe_int (pv 2) pe_int)) (pss_one (ps_ret pe_bl)) pss_nil)
      (pss_cons (ps_fld (pv 0) (pv 2) rfl)
      (pss_one (ps_ret pe_bl))))), ?_⟩
    obtain ⟨dx, ob⟩ := hd.ob
    refine ⟨_, rfl, d, C, dx, _, _, rfl, ob, dc.cl, dc.nD, dfs_days _ _ _ _, _, _, rfl, rfl, _, rfl, ?_⟩
    rw [z0, show decide (((0 : Nat) : Int) > 0) = false from rfl]
    refine iteF ⟨_, rfl, lw, _, rfl, .inl (SqL.of hw), rfl, _, rfl, iteF ?_⟩
    refine ⟨_, rfl, lw, _, _, _, rfl, rfl, SqL.of hw, rfl, x, rfl, by omega, ?_⟩
    rw [hn]
    refine ⟨_, rfl, _, _, rfl, rfl, _, rfl, ?_⟩
    rw [show decide ((1 : Int) ≤ (n : Int)) = true from decide_eq_true (by omega)]
    refine iteT ⟨_, _, rfl, rfl, _, rfl, ?_⟩
    rw [show decide ((n : Int) ≤ (14 : Int)) = true from decide_eq_true (by omega)]
    refine iteF ?_
    obtain ⟨ne1, ne2, ne3⟩ := hd.d_ne
    refine ⟨_, rfl, _, rfl, d, C, dx, _, rfl, ob, dc.cl, dc.nD, by rw [dfs_len]; decide, ?_⟩
    rw [dfs_set]
    have no : ∀ {α : Type} {f : α → HO} (hf : ∀ x, f x ≠ .ins C dx (dfs L.days lp lt ls)) (r : Addr) (x : α), H r = some (f x) → r ∉ [d] := by
      intro α f hf r x e z
      rw [List.mem_singleton.mp z, ob] at e
      exact hf x (Option.some.inj e).symm
    have fr : Fr [d] H (upd H d (.ins C dx (dfs n lp lt ls))) := Fr.upd (by simp)
    refine q _ fr ⟨⟨dx, upd_same⟩, ?_, ?_, ?_, hd.n1, hd.n2, hd.n3⟩
    · exact hd.pl.keep fr (by simpa using ne1.symm) (no (fun x z => by unfold plO at z; cases z))
    · exact hd.pr.keep fr (by simpa using ne2.symm) (no (fun x z => by unfold prO at z; cases z))
    · exact hd.st.keep fr (by simpa using ne3.symm) (no (fun x z => by unfold stO at z; cases z))
end
end Hs
namespace Hs
open PySem PySem.Spec PyProof.Rows L2 Am
def spPlace (C : Addr) : Sp := fun vs H Q _ => ∃ (d lp lt ls lw : Addr) (L : Lore) (x r : Str) (n : Nat) (inner : Bool), vs = [.ref d, .ref lw, .bl inner] ∧ DraftAt C H d lp lt ls L ∧ Small L ∧ WdAt H lw [x, r] ∧ L.days ≠ 0 ∧ L.prices = [] ∧ L.stays = [] ∧ x.length ≤ 600 ∧ r.length ≤ 600 ∧
  nameB x = true ∧ hasP L x = false ∧ Mt.num r.cps.toList = n ∧ (1 ≤ n ∧ n ≤ 9) ∧ L.places.length < 4 ∧ (L.places.length = 3 → inner = true ∨ hasF L = true) ∧
  ∀ H', Fr [lp] H H' → DraftAt C H' d lp lt ls { L with places := L.places ++ [⟨x, n, inner⟩] } → Q (.bl true) H'
def spPrice (C : Addr) : Sp := fun vs H Q _ => ∃ (d lp lt ls lw : Addr) (L : Lore) (x y : Str) (a n : Nat), vs = [.ref d, .ref lw] ∧ DraftAt C H d lp lt ls L ∧ Small L ∧ WdAt H lw [x, y] ∧ hasF L = true ∧ L.stays = [] ∧ L.prices.length < 3 ∧ x.length ≤ 600 ∧ y.length ≤ 600 ∧
  Mt.num x.cps.toList = a ∧ Mt.num y.cps.toList = n ∧ (∀ p, L.prices.getLast? = some p → p.1 < a) ∧ a < L.days ∧ n ≤ 99 ∧
  ∀ H', Fr [lt] H H' → DraftAt C H' d lp lt ls { L with prices := L.prices ++ [(a, n)] } → Q (.bl true) H'
def spStay (C : Addr) : Sp := fun vs H Q _ => ∃ (d lp lt ls lw : Addr) (L : Lore) (x y u v : Str) (a b : Nat), vs = [.ref d, .ref lw] ∧ DraftAt C H d lp lt ls L ∧ Small L ∧ WdAt H lw [x, y, u, v] ∧ hasF L = true ∧ L.stays.length < 8 ∧ x.length ≤ 600 ∧ y.length ≤ 600 ∧ u.length ≤ 600 ∧ v.length ≤ 600 ∧
  nameB x = true ∧ hasP L y = true ∧ Mt.num u.cps.toList = a ∧ Mt.num v.cps.toList = b ∧ a < b ∧ b ≤ L.days ∧ letS L y a b = false ∧
  ∀ H', Fr [ls] H H' → DraftAt C H' d lp lt ls { L with stays := L.stays ++ [⟨x, y, a, b⟩] } → Q (.bl true) H'
/-- a method of Draft, its promise known -/
def GotD (P : Program) (w : World) (K : PySem.W.Frag) (mg : Str → Option Value) (base : Heap) (C : Addr) (x : Str) (k : Nat) (ps : List Str) (sp : Sp) : Prop :=
  ∃ (f : Addr) (fd : FuncData), FnOk P w K mg base CX0 k f fd ps sp ∧ Binds K fd ps [] ∧ Meth K C x f
theorem dfs_none {x : Str} (n : Nat) (lp lt ls : Addr) (h1 : ¬ x = "days") (h2 : ¬ x = "places") (h3 : ¬ x = "tariffs") (h4 : ¬ x = "stays") : (dfs n lp lt ls).lookup x = none := by
  unfold dfs
  rw [lookup_putF, if_neg h4, lookup_putF, if_neg h3, lookup_putF, if_neg h2, lookup_putF, if_neg h1]
  rfl
section
variable {P : Program} {w : World} {K : PySem.W.Frag} {mg : Str → Option Value} {base : Heap} {C : Addr}
theorem dfs_m (n : Nat) (lp lt ls : Addr) : (dfs n lp lt ls).lookup ("has_place" : Str) = none ∧ (dfs n lp lt ls).lookup ("has_flat" : Str) = none ∧ (dfs n lp lt ls).lookup ("is_let" : Str) = none ∧ (dfs n lp lt ls).lookup ("take_days" : Str) = none ∧
    (dfs n lp lt ls).lookup ("take_place" : Str) = none ∧ (dfs n lp lt ls).lookup ("take_price" : Str) = none ∧ (dfs n lp lt ls).lookup ("take_stay" : Str) = none ∧ (dfs n lp lt ls).lookup ("take" : Str) = none :=
  ⟨dfs_none _ _ _ _ (by decide +kernel) (by decide +kernel) (by decide +kernel) (by decide +kernel), dfs_none _ _ _ _ (by decide +kernel) (by decide +kernel) (by decide +kernel) (by decide +kernel), dfs_none _ _ _ _ (by decide +kernel) (by decide +kernel) (by decide +kernel) (by decide +kernel),
   dfs_none _ _ _ _ (by decide +kernel) (by decide +kernel) (by decide +kernel) (by decide +kernel), dfs_none _ _ _ _ (by decide +kernel) (by decide +kernel) (by decide +kernel) (by decide +kernel), dfs_none _ _ _ _ (by decide +kernel) (by decide +kernel) (by decide +kernel) (by decide +kernel),
   dfs_none _ _ _ _ (by decide +kernel) (by decide +kernel) (by decide +kernel) (by decide +kernel), dfs_none _ _ _ _ (by decide +kernel) (by decide +kernel) (by decide +kernel) (by decide +kernel)⟩
/-- the truth of a list -/
theorem tru_lst {X : Cx} {H : Hp} {l : Addr} {xs : List V} (h : H l = some (.lst xs)) : TruV X.K (.ref l) H (!xs.isEmpty) := .inl ⟨xs, SqL.of h, rfl⟩
theorem int_eq (x y : Int) : decide (V.int x = V.int y) = decide (x = y) := decide_eq_decide.mpr ⟨V.int.inj, fun h => by rw [h]⟩
/-- a list grows by a new object -/
theorem LstAt.grow {α : Type} {f : α → HO} {H : Hp} {l : Addr} {xs : List α} {rs : List Addr} {D : Addr} {x : α} (hl : H l = some (.lst (rs.map V.ref))) (h : Refs f H rs xs) (nD : H D = none) (hf : ∀ x ys, f x ≠ .lst ys) :
    LstAt f (upd (upd H D (f x)) l (.lst (rs.map V.ref ++ [.ref D]))) l (xs ++ [x]) ∧ Fr [l] H (upd (upd H D (f x)) l (.lst (rs.map V.ref ++ [.ref D]))) := by
  have nl : D ≠ l := fun z => by rw [← z, nD] at hl; cases hl
  have fr : Fr [l] H (upd (upd H D (f x)) l (.lst (rs.map V.ref ++ [.ref D]))) := fun b u e n => by
    rw [upd_ne (fun z => n (by rw [z]; simp)), upd_ne (ne_of_none e nD)]
    exact e
  refine ⟨⟨rs ++ [D], by rw [upd_same, List.map_append]; rfl, Refs.snoc ⟨h.1, fun i r y a b => fr _ _ (h.2 i r y a b) ?_⟩ (by rw [upd_ne nl, upd_same])⟩, fr⟩
  intro z
  have e := h.2 i r y a b
  rw [List.mem_singleton.mp z, hl] at e
  exact hf y _ (Option.some.inj e).symm
theorem plO_nl (x : Pl) (ys : List V) : plO x ≠ .lst ys := fun z => by unfold plO at z; cases z
theorem prO_nl (x : Nat × Nat) (ys : List V) : prO x ≠ .lst ys := fun z => by unfold prO at z; cases z
theorem stO_nl (x : St) (ys : List V) : stO x ≠ .lst ys := fun z => by unfold stO at z; cases z
theorem at_nl {α : Type} {f : α → HO} {H : Hp} {l : Addr} {zs : List V} (hl : H l = some (.lst zs)) (hf : ∀ x ys, f x ≠ .lst ys) (r : Addr) (x : α) (e : H r = some (f x)) : r ∉ [l] := fun z => by
  rw [List.mem_singleton.mp z, hl] at e
  exact hf x _ (Option.some.inj e).symm
theorem DraftAt.pushP {H : Hp} {d lp lt ls D : Addr} {L : Lore} {rp : List Addr} {p : Pl} (h : DraftAt C H d lp lt ls L) (hl : H lp = some (.lst (rp.map V.ref))) (hr : Refs plO H rp L.places) (nD : H D = none) :
    DraftAt C (upd (upd H D (plO p)) lp (.lst (rp.map V.ref ++ [.ref D]))) d lp lt ls { L with places := L.places ++ [p] } ∧ Fr [lp] H (upd (upd H D (plO p)) lp (.lst (rp.map V.ref ++ [.ref D]))) := by
  obtain ⟨a, fr⟩ := LstAt.grow (x := p) hl hr nD plO_nl
  obtain ⟨dx, ob⟩ := h.ob
  obtain ⟨e1, e2, e3⟩ := h.d_ne
  exact ⟨⟨⟨dx, fr _ _ ob (by simpa using e1)⟩, a, h.pr.keep fr (by simpa using h.n1.symm) (at_nl hl prO_nl), h.st.keep fr (by simpa using h.n2.symm) (at_nl hl stO_nl), h.n1, h.n2, h.n3⟩, fr⟩
theorem DraftAt.pushT {H : Hp} {d lp lt ls D : Addr} {L : Lore} {rp : List Addr} {p : Nat × Nat} (h : DraftAt C H d lp lt ls L) (hl : H lt = some (.lst (rp.map V.ref))) (hr : Refs prO H rp L.prices) (nD : H D = none) :
    DraftAt C (upd (upd H D (prO p)) lt (.lst (rp.map V.ref ++ [.ref D]))) d lp lt ls { L with prices := L.prices ++ [p] } ∧ Fr [lt] H (upd (upd H D (prO p)) lt (.lst (rp.map V.ref ++ [.ref D]))) := by
  obtain ⟨a, fr⟩ := LstAt.grow (x := p) hl hr nD prO_nl
  obtain ⟨dx, ob⟩ := h.ob
  obtain ⟨e1, e2, e3⟩ := h.d_ne
  exact ⟨⟨⟨dx, fr _ _ ob (by simpa using e2)⟩, h.pl.keep fr (by simpa using h.n1) (at_nl hl plO_nl), a, h.st.keep fr (by simpa using h.n3.symm) (at_nl hl stO_nl), h.n1, h.n2, h.n3⟩, fr⟩
theorem DraftAt.pushS {H : Hp} {d lp lt ls D : Addr} {L : Lore} {rp : List Addr} {p : St} (h : DraftAt C H d lp lt ls L) (hl : H ls = some (.lst (rp.map V.ref))) (hr : Refs stO H rp L.stays) (nD : H D = none) :
    DraftAt C (upd (upd H D (stO p)) ls (.lst (rp.map V.ref ++ [.ref D]))) d lp lt ls { L with stays := L.stays ++ [p] } ∧ Fr [ls] H (upd (upd H D (stO p)) ls (.lst (rp.map V.ref ++ [.ref D]))) := by
  obtain ⟨a, fr⟩ := LstAt.grow (x := p) hl hr nD stO_nl
  obtain ⟨dx, ob⟩ := h.ob
  obtain ⟨e1, e2, e3⟩ := h.d_ne
  exact ⟨⟨⟨dx, fr _ _ ob (by simpa using e3)⟩, h.pl.keep fr (by simpa using h.n2) (at_nl hl plO_nl), h.pr.keep fr (by simpa using h.n3) (at_nl hl prO_nl), a, h.n1, h.n2, h.n3⟩, fr⟩
theorem Fr.of {ms : List Addr} {H H1 H2 : Hp} (a : Same H H1) (b : Fr ms H1 H2) : Fr ms H H2 := fun c u e n => b c u (a c u e) n
theorem scPlace : FnScope ["self", "words", "inner", "name", "room", "many"] ["self", "words", "inner"] (defScope sDrPlace) := ⟨rfl, rfl, rfl, by decide +kernel, rfl, by decide +kernel, by decide +kernel⟩
theorem ok_place {f : Addr} {fd : FuncData} (F : Fun K "take_place" "Draft.take_place" sDrPlace f fd) (dc : DC K C) (T : Nm mg) (GD : GotF P w K mg base "decimal" 1 ["word"] spDec) (GN : GotF P w K mg base "is_name" 1 ["value"] spIsName) (GP : GotD P w K mg base C "has_place" 1 ["self", "name"] (spHasP C)) (GFl : GotD P w K mg base C "has_flat" 1 ["self"] (spHasF C)) :
    FnOk P w K mg base CX0 2 f fd ["self", "words", "inner"] (spPlace C) := by
  obtain ⟨fD, fdD, GD, bD, mD, kD⟩ := GD
  obtain ⟨fN, fdN, GN, bN, mN, kN⟩ := GN
  obtain ⟨fP, fdP, GP, bP, mP⟩ := GP
  obtain ⟨fL, fdL, GFl, bL, mL⟩ := GFl
  refine F.ok scPlace (fun vs H Q E h => ?_) (fun cdv A outer s H vs Q E hr h => ?_)
  · obtain ⟨d, lp, lt, ls, lw, L, x, r, n, inner, rfl, _⟩ := h
    rfl
  · obtain ⟨d, lp, lt, ls, lw, L, x, r, n, inner, rfl, hd, sm, hw, nz, p0, s0, lx, lr, hx, hp, hn, ⟨n1, n9⟩, l4, l3, q⟩ := h
    refine ⟨_, pss_cons (ps_if (PW.pt (pw_or (pt_cmpR op_eq (pe_fld (pv 0) rfl) pe_int (nomark _)) (pw_or (pt_truth (pe_fld (pv 0) rfl) (fun _ => rfl)) (pw_or (pt_truth (pe_fld (pv 0) rfl) (fun _ => rfl)) (pw_or1 (pt_cmpR op_ne (pe_callB call_len_seq (by rfl) T.len PySem.boot_len (pa_cons (pv 1) pa_nil)) pe_int (nomark _))))))) (pss_one (ps_ret pe_bl)) pss_nil)
      (pss_cons (ps_par (by rfl) scPlace.nd (i := 3) (j := 4) rfl rfl (by decide) rfl rfl (pa_cons (pe_ix ix_list (pv 1) pe_int (fun _ _ => rfl)) (pa_cons (pe_call GD hr (by rfl) mD kD bD .nil pass0 (pa_cons (pe_ix ix_list (pv 1) pe_int (fun _ _ => rfl)) pa_nil)) pa_nil)) (by rfl))
      (pss_cons (ps_if (PW.pt (pw_or (pt_not (pt_val (pe_call GN hr (by rfl) mN kN bN .nil pass0 (pa_cons (pv 3) pa_nil)))) (pw_or (pt_val (pe_meth (pv 0) dc.cl mP GP hr bP .nil pass0 (pa_cons (pv 3) pa_nil))) (pw_or1 (pt_not (pt_chain op_le op_le pe_int (pv 4) pe_int)))))) (pss_one (ps_ret pe_bl)) pss_nil)
      (pss_cons (ps_set (i := 5) scPlace.nd rfl (.inl rfl) (pe_callB call_len_seq (by rfl) T.len PySem.boot_len (pa_cons (pe_fld (pv 0) rfl) pa_nil)))
      (pss_cons (ps_if (PW.pt (pw_or (pt_cmpR op_eq (pv 5) pe_int (nomark _)) (pw_or1 (PW.pt (pw_and (pt_cmpR op_eq (pv 5) pe_int (nomark _)) (pw_and (pt_not (pt_val (pv 2))) (pw_and1 (pt_not (pt_val (pe_meth0 (pv 0) dc.cl mL GFl hr bL .nil pass0)))))))))) (pss_one (ps_ret pe_bl)) pss_nil)
      (pss_cons (ps_expr (pe_bm PySem.F.plainAttrs_list PySem.F.slot_list_append PySem.F.type_list_append mt_append (pe_fld (pv 0) rfl) (pa_cons (pe_tup (pa_cons (pv 3) (pa_cons (pv 4) (pa_cons (pv 2) pa_nil)))) pa_nil)))
      (pss_one (ps_ret pe_bl))))))), ?_⟩
    obtain ⟨dx, ob⟩ := hd.ob
    obtain ⟨rp, hlp, hrp⟩ := hd.pl
    obtain ⟨rt, hlt, hrt⟩ := hd.pr
    obtain ⟨rs, hls, hrs⟩ := hd.st
    obtain rfl : rt = [] := by have := hrt.1; rw [p0] at this; exact List.eq_nil_of_length_eq_zero this
    obtain rfl : rs = [] := by have := hrs.1; rw [s0] at this; exact List.eq_nil_of_length_eq_zero this
    obtain ⟨m1, m2, m3, m4, m5, m6, m7, m8⟩ := dfs_m L.days lp lt ls
    refine ⟨_, rfl, d, C, dx, _, _, rfl, ob, dc.cl, dc.nD, dfs_days _ _ _ _, rfl, _, rfl, ?_⟩
    rw [int_eq, show decide ((L.days : Int) = 0) = false from decide_eq_false (by omega)]
    refine iteF ⟨_, rfl, d, C, dx, _, _, rfl, ob, dc.cl, dc.nT, dfs_ta _ _ _ _, false, tru_lst hlt, iteF ?_⟩
    refine ⟨_, rfl, d, C, dx, _, _, rfl, ob, dc.cl, dc.nS, dfs_st _ _ _ _, false, tru_lst hls, iteF ?_⟩
    refine ⟨_, rfl, lw, _, rfl, .inl (SqL.of hw), rfl, _, rfl, iteF ?_⟩
    refine ⟨_, rfl, lw, _, _, _, rfl, rfl, SqL.of hw, rfl, ?_⟩
    refine ⟨_, rfl, lw, _, _, _, rfl, rfl, SqL.of hw, rfl, r, rfl, by omega, ?_⟩
    rw [hn]
    refine ⟨_, _, rfl, _, rfl, x, rfl, by omega, fun H1 e1 => ⟨_, rfl, ?_⟩⟩
    rw [hx]
    refine iteF ⟨_, rfl, d, dx, _, rfl, e1 _ _ ob, m1, _, rfl, d, lp, lt, ls, L, x, rfl, hd.same e1, sm, fun H2 e2 => ⟨_, rfl, ?_⟩⟩
    rw [hp]
    have e02 := e1.trans e2
    refine iteF ⟨_, rfl, _, _, rfl, rfl, _, rfl, ?_⟩
    rw [show decide ((1 : Int) ≤ (n : Int)) = true from decide_eq_true (by omega)]
    refine iteT ⟨_, _, rfl, rfl, _, rfl, ?_⟩
    rw [show decide ((n : Int) ≤ (9 : Int)) = true from decide_eq_true (by omega)]
    refine iteF ?_
    refine ⟨_, rfl, d, C, dx, _, _, rfl, e02 _ _ ob, dc.cl, dc.nP, dfs_pl _ _ _ _, lp, _, rfl, .inl (SqL.of (e02 _ _ hlp)), ?_⟩
    rw [List.length_map, hrp.1]
    refine ⟨_, rfl, rfl, _, rfl, ?_⟩
    rw [int_eq, show decide ((L.places.length : Int) = 4) = false from decide_eq_false (by omega)]
    refine iteF ⟨_, rfl, rfl, _, rfl, ?_⟩
    rw [int_eq]
    cases c3 : decide ((L.places.length : Int) = 3) with
    | false => 
      refine iteF (iteF ?_)
      have e03 := e02
      refine ⟨_, rfl, d, C, dx, _, _, rfl, e03 _ _ ob, dc.cl, dc.nP, dfs_pl _ _ _ _, .inl ⟨rfl, _, SqL.of (e03 _ _ hlp)⟩, ?_⟩
      refine ⟨_, rfl, _, rfl, _, rfl, (show 3 ≤ sizeLine by decide), fun D nD => ?_⟩
      obtain ⟨hd', fr⟩ := (hd.same e03).pushP (p := ⟨x, n, inner⟩) (e03 _ _ hlp) (hrp.same e03) nD
      refine ⟨lp, _, _, rfl, rfl, ?_, ?_, q _ (Fr.of e03 fr) hd'⟩
      · rw [upd_ne (ne_of_none (e03 _ _ hlp) nD)]
        exact e03 _ _ hlp
      · rw [List.length_map, hrp.1]
        exact Nat.lt_of_lt_of_le l4 (by decide)
    | true => 
      refine iteT ⟨_, rfl, _, rfl, ?_⟩
      have l3' : L.places.length = 3 := by have := of_decide_eq_true c3; omega
      cases inner with
      | true => 
        refine iteF (iteF ?_)
        have e03 := e02
        refine ⟨_, rfl, d, C, dx, _, _, rfl, e03 _ _ ob, dc.cl, dc.nP, dfs_pl _ _ _ _, .inl ⟨rfl, _, SqL.of (e03 _ _ hlp)⟩, ?_⟩
        refine ⟨_, rfl, _, rfl, _, rfl, (show 3 ≤ sizeLine by decide), fun D nD => ?_⟩
        obtain ⟨hd', fr⟩ := (hd.same e03).pushP (p := ⟨x, n, true⟩) (e03 _ _ hlp) (hrp.same e03) nD
        refine ⟨lp, _, _, rfl, rfl, ?_, ?_, q _ (Fr.of e03 fr) hd'⟩
        · rw [upd_ne (ne_of_none (e03 _ _ hlp) nD)]
          exact e03 _ _ hlp
        · rw [List.length_map, hrp.1]
          exact Nat.lt_of_lt_of_le l4 (by decide)
      | false =>
        refine iteT ⟨_, rfl, d, dx, _, rfl, e02 _ _ ob, m2, d, lp, lt, ls, L, rfl, hd.same e02, sm, fun H3 e3 => ⟨_, rfl, ?_⟩⟩
        have e03 := e02.trans e3
        rw [(l3 l3').resolve_left (by decide)]
        refine iteF ?_
        refine ⟨_, rfl, d, C, dx, _, _, rfl, e03 _ _ ob, dc.cl, dc.nP, dfs_pl _ _ _ _, .inl ⟨rfl, _, SqL.of (e03 _ _ hlp)⟩, ?_⟩
        refine ⟨_, rfl, _, rfl, _, rfl, (show 3 ≤ sizeLine by decide), fun D nD => ?_⟩
        obtain ⟨hd', fr⟩ := (hd.same e03).pushP (p := ⟨x, n, false⟩) (e03 _ _ hlp) (hrp.same e03) nD
        refine ⟨lp, _, _, rfl, rfl, ?_, ?_, q _ (Fr.of e03 fr) hd'⟩
        · rw [upd_ne (ne_of_none (e03 _ _ hlp) nD)]
          exact e03 _ _ hlp
        · rw [List.length_map, hrp.1]
          exact Nat.lt_of_lt_of_le l4 (by decide)
end
end Hs
namespace Hs
open PySem PySem.Spec PyProof.Rows L2 Am
section
variable {P : Program} {w : World} {K : PySem.W.Frag} {mg : Str → Option Value} {base : Heap} {C : Addr}
theorem scPrice : FnScope ["self", "words", "day", "number", "ahead"] ["self", "words"] (defScope sDrPrice) := ⟨rfl, rfl, rfl, by decide +kernel, rfl, by decide +kernel, by decide +kernel⟩
theorem atI_last {xs : List V} {v : V} : atI (xs ++ [v]) (-1) = some v := by
  have e : ixN (xs.length + 1) (-1) = some xs.length := by
    unfold ixN
    rw [if_neg (by decide), if_pos (by omega)]
    exact congrArg some (by omega)
  simp only [atI, List.length_append, List.length_singleton, e, Option.bind_some]
  simp
theorem if_val {c : Bool} {tA tB : TE} {σ : L2.St} {H : Hp} {Q : VK} (v : V) (h : Q v H) (hA : c = true → ∀ Q', Q' v H → tA σ H Q') (hB : c = false → ∀ Q', Q' v H → tB σ H Q') : if c = true then tA σ H Q else tB σ H Q := by
  cases c with
  | true => exact iteT (hA rfl _ h)
  | false => exact iteF (hB rfl _ h)
def ahd (ps : List (Nat × Nat)) : Int := match ps.getLast? with | some p => (p.1 : Int) | none => -1
theorem ok_price {f : Addr} {fd : FuncData} (F : Fun K "take_price" "Draft.take_price" sDrPrice f fd) (dc : DC K C) (T : Nm mg) (GD : GotF P w K mg base "decimal" 1 ["word"] spDec) (GFl : GotD P w K mg base C "has_flat" 1 ["self"] (spHasF C)) :
    FnOk P w K mg base CX0 2 f fd ["self", "words"] (spPrice C) := by
  obtain ⟨fD, fdD, GD, bD, mD, kD⟩ := GD
  obtain ⟨fL, fdL, GFl, bL, mL⟩ := GFl
  refine F.ok scPrice (fun vs H Q E h => ?_) (fun cdv A outer s H vs Q E hr h => ?_)
  · obtain ⟨d, lp, lt, ls, lw, L, x, y, a, n, rfl, _⟩ := h
    rfl
  · obtain ⟨d, lp, lt, ls, lw, L, x, y, a, n, rfl, hd, sm, hw, hf, s0, l3, lx, ly, hx, hy, hlast, ha, hn, q⟩ := h
    refine ⟨_, pss_cons (ps_if (PW.pt (pw_or (pt_not (pt_val (pe_meth0 (pv 0) dc.cl mL GFl hr bL .nil pass0))) (pw_or (pt_truth (pe_fld (pv 0) rfl) (fun _ => rfl)) (pw_or (pt_cmpR op_eq (pe_callB call_len_seq (by rfl) T.len PySem.boot_len (pa_cons (pe_fld (pv 0) rfl) pa_nil)) pe_int (nomark _)) (pw_or1 (pt_cmpR op_ne (pe_callB call_len_seq (by rfl) T.len PySem.boot_len (pa_cons (pv 1) pa_nil)) pe_int (nomark _))))))) (pss_one (ps_ret pe_bl)) pss_nil)
      (pss_cons (ps_par (by rfl) scPrice.nd (i := 2) (j := 3) rfl rfl (by decide) rfl rfl (pa_cons (pe_call GD hr (by rfl) mD kD bD .nil pass0 (pa_cons (pe_ix ix_list (pv 1) pe_int (fun _ _ => rfl)) pa_nil)) (pa_cons (pe_call GD hr (by rfl) mD kD bD .nil pass0 (pa_cons (pe_ix ix_list (pv 1) pe_int (fun _ _ => rfl)) pa_nil)) pa_nil)) (by rfl))
      (pss_cons (ps_set (i := 4) scPrice.nd rfl (.inl rfl) (pe_ifExp (pt_truth (pe_fld (pv 0) rfl) (fun _ => rfl)) (pe_ix ix_tup (pe_ix ix_list (pe_fld (pv 0) rfl) (pe_un un_neg pe_int) (fun _ _ => rfl)) pe_int (fun _ _ => rfl)) (pe_un un_neg pe_int)))
      (pss_cons (ps_if (PW.pt (pw_or (pt_not (pt_chain op_lt op_lt (pv 4) (pv 2) (pe_fld (pv 0) rfl))) (pw_or1 (pt_not (pt_chain op_le op_le pe_int (pv 3) pe_int))))) (pss_one (ps_ret pe_bl)) pss_nil)
      (pss_cons (ps_expr (pe_bm PySem.F.plainAttrs_list PySem.F.slot_list_append PySem.F.type_list_append mt_append (pe_fld (pv 0) rfl) (pa_cons (pe_tup (pa_cons (pv 2) (pa_cons (pv 3) pa_nil))) pa_nil)))
      (pss_one (ps_ret pe_bl)))))), ?_⟩
    obtain ⟨dx, ob⟩ := hd.ob
    obtain ⟨rt, hlt, hrt⟩ := hd.pr
    obtain ⟨rs, hls, hrs⟩ := hd.st
    obtain rfl : rs = [] := by have := hrs.1; rw [s0] at this; exact List.eq_nil_of_length_eq_zero this
    obtain ⟨m1, m2, m3, m4, m5, m6, m7, m8⟩ := dfs_m L.days lp lt ls
    refine ⟨_, rfl, d, dx, _, rfl, ob, m2, d, lp, lt, ls, L, rfl, hd, sm, fun H1 e1 => ⟨_, rfl, ?_⟩⟩
    rw [hf]
    refine iteF ⟨_, rfl, d, C, dx, _, _, rfl, e1 _ _ ob, dc.cl, dc.nS, dfs_st _ _ _ _, false, tru_lst (e1 _ _ hls), iteF ?_⟩
    refine ⟨_, rfl, d, C, dx, _, _, rfl, e1 _ _ ob, dc.cl, dc.nT, dfs_ta _ _ _ _, lt, _, rfl, .inl (SqL.of (e1 _ _ hlt)), ?_⟩
    rw [List.length_map, hrt.1]
    refine ⟨rfl, _, rfl, ?_⟩
    rw [int_eq, show decide ((L.prices.length : Int) = 3) = false from decide_eq_false (by omega)]
    refine iteF ⟨_, rfl, lw, _, rfl, .inl (SqL.of (e1 _ _ hw)), rfl, _, rfl, iteF ?_⟩
    refine ⟨_, rfl, lw, _, _, _, rfl, rfl, SqL.of (e1 _ _ hw), rfl, x, rfl, by omega, ?_⟩
    refine ⟨_, rfl, lw, _, _, _, rfl, rfl, SqL.of (e1 _ _ hw), rfl, y, rfl, by omega, ?_⟩
    rw [hx, hy]
    refine ⟨_, _, rfl, _, rfl, d, C, dx, _, _, rfl, e1 _ _ ob, dc.cl, dc.nT, dfs_ta _ _ _ _, _, tru_lst (e1 _ _ hlt), ?_⟩
    refine if_val (V.int (ahd L.prices)) ?_ (fun hc Q' q' => ?_) (fun hc Q' q' => ?_)
    · have lt1 : ahd L.prices < (a : Int) := by
        unfold ahd
        cases hg : L.prices.getLast? with
        | none => show (-1 : Int) < _; omega
        | some p => have := hlast p hg; show (p.1 : Int) < _; omega
      refine ⟨_, rfl, _, rfl, _, _, rfl, rfl, _, rfl, ?_⟩
      rw [show decide (ahd L.prices < (a : Int)) = true from decide_eq_true lt1]
      refine iteT ⟨_, rfl, d, C, dx, _, _, rfl, e1 _ _ ob, dc.cl, dc.nD, dfs_days _ _ _ _, _, _, rfl, rfl, _, rfl, ?_⟩
      rw [show decide ((a : Int) < (L.days : Int)) = true from decide_eq_true (by omega)]
      refine iteF ⟨_, rfl, _, _, rfl, rfl, _, rfl, ?_⟩
      rw [show decide ((0 : Int) ≤ (n : Int)) = true from decide_eq_true (by omega)]
      refine iteT ⟨_, _, rfl, rfl, _, rfl, ?_⟩
      rw [show decide ((n : Int) ≤ (99 : Int)) = true from decide_eq_true (by omega)]
      refine iteF ?_
      refine ⟨_, rfl, d, C, dx, _, _, rfl, e1 _ _ ob, dc.cl, dc.nT, dfs_ta _ _ _ _, .inl ⟨rfl, _, SqL.of (e1 _ _ hlt)⟩, ?_⟩
      refine ⟨_, rfl, _, rfl, (show 2 ≤ sizeLine by decide), fun D nD => ?_⟩
      obtain ⟨hd', fr⟩ := (hd.same e1).pushT (p := (a, n)) (e1 _ _ hlt) (hrt.same e1) nD
      refine ⟨lt, _, _, rfl, rfl, ?_, ?_, q _ (Fr.of e1 fr) hd'⟩
      · rw [upd_ne (ne_of_none (e1 _ _ hlt) nD)]
        exact e1 _ _ hlt
      · rw [List.length_map, hrt.1]
        exact Nat.lt_of_lt_of_le l3 (by decide)
    · rcases List.eq_nil_or_concat L.prices with hz | ⟨ys, p, hz⟩
      · obtain rfl : rt = [] := by have := hrt.1; rw [hz] at this; exact List.eq_nil_of_length_eq_zero this
        cases hc
      · rw [List.concat_eq_append] at hz
        obtain ⟨hle, hat⟩ := id hrt
        rcases List.eq_nil_or_concat rt with hz2 | ⟨rs, r, hz2⟩
        · rw [hz, hz2] at hle
          simp at hle
        rw [List.concat_eq_append] at hz2
        subst hz2
        rw [hz] at hle hat
        have hle' : rs.length = ys.length := by simpa using hle
        have ho := hat rs.length r p (by simp) (by rw [hle']; simp)
        have ev : ahd L.prices = (p.1 : Int) := by
          unfold ahd
          rw [hz, List.getLast?_append]
          rfl
        rw [ev] at q'
        refine ⟨_, rfl, d, C, dx, _, _, rfl, e1 _ _ ob, dc.cl, dc.nT, dfs_ta _ _ _ _, _, rfl, lt, _, _, .ref r, rfl, rfl, SqL.of (e1 _ _ hlt), by rw [List.map_append]; exact atI_last, r, _, _, _, rfl, rfl, SqT.of (e1 _ _ ho), rfl, q'⟩
    · rcases List.eq_nil_or_concat L.prices with hz | ⟨ys, p, hz⟩
      · rw [hz] at q'
        exact ⟨_, rfl, q'⟩
      · have := hrt.1
        rw [hz, List.concat_eq_append, List.length_append, List.length_singleton] at this
        have he : rt ≠ [] := fun z => by rw [z] at this; simp at this
        cases rt with
        | nil => exact absurd rfl he
        | cons _ _ => cases hc
end
end Hs
/-! chains of comparisons, however long -/
namespace Chn
open PySem PySem.Spec PyProof.Rows L2
structure PCh (X : Cx) (ops : List CmpOp) (es : List Expr) (t : V → TT) : Prop where
  run : ∀ (pins : List (Addr × Obj)) (s : Shared) (σ : L2.St) (H : Hp) (Q : Bool → Hp → Prop) (pos : Pos) (x : V) (v : Value), L2.Inv X pins σ H s → L2.RelV x v → t x σ H Q →
    wpAny (model X.prog X.w) X.A (testChain pos v ops (evalEach es X.env)) (TP X pins σ Q) X.xe s
def cLast (r : R2) (tb : TE) : V → TT := fun x σ H Q => tb σ H fun y H2 => r x y H2 fun z H3 => ∃ k, z = .bl k ∧ Q k H3
def cLink (r : R2) (tb : TE) (t : V → TT) : V → TT := fun x σ H Q => tb σ H fun y H2 => r x y H2 fun z H3 => ∃ k, z = .bl k ∧ if k = true then t y σ H3 Q else Q false H3
def tChn (ta : TE) (t : V → TT) : TT := fun σ H Q => ta σ H fun x H1 => t x σ H1 Q
variable {X : Cx}
theorem c_last {op : CmpOp} {b : Expr} {r : R2} {tb : TE} (ho : OpR X (compareOp op) r) (hb : PE X b tb) : PCh X [op] [b] (cLast r tb) := by
  refine ⟨fun pins s σ H Q pos x v I rv q => test_last (thn (hb.run pins s σ H _ I q) ?_)⟩
  rintro u s2 ⟨y, H2, I2, r2, q2⟩
  refine thn (ho pins s2 σ H2 x y v u _ I2 rv r2 q2) ?_
  rintro d s3 ⟨z, H3, I3, r3, k, rfl, q3⟩
  cases r3
  exact wpAny_truthy_bool ⟨H3, I3, q3⟩
theorem c_link {op op' : CmpOp} {ops : List CmpOp} {b b' : Expr} {bs : List Expr} {r : R2} {tb : TE} {t : V → TT} (ho : OpR X (compareOp op) r) (hb : PE X b tb) (h : PCh X (op' :: ops) (b' :: bs) t) : PCh X (op :: op' :: ops) (b :: b' :: bs) (cLink r tb t) := by
  refine ⟨fun pins s σ H Q pos x v I rv q => test_link (thn (hb.run pins s σ H _ I q) ?_)⟩
  rintro u s2 ⟨y, H2, I2, r2, q2⟩
  refine thn (ho pins s2 σ H2 x y v u _ I2 rv r2 q2) ?_
  rintro d s3 ⟨z, H3, I3, r3, k, rfl, q3⟩
  cases r3
  refine wpAny_truthy_bool ?_
  cases k with
  | true => exact ite_tt (h.run pins s3 σ H3 Q pos y u I3 r2 q3)
  | false => exact ite_ff ⟨H3, I3, q3⟩
theorem pt_chn {a b b' : Expr} {bs : List Expr} {op op' : CmpOp} {ops : List CmpOp} {ta : TE} {t : V → TT} {pos : Pos} (ha : PE X a ta) (h : PCh X (op :: op' :: ops) (b :: b' :: bs) t) (hm : lastMarks (op :: op' :: ops) (b :: b' :: bs) = false := by rfl) :
    PT X (a.Compare (op :: op' :: ops) (b :: b' :: bs) pos) (tChn ta t) := by
  refine ⟨fun pins s σ H Q I q => isTrue_chain (thn (ha.run pins s σ H _ I q) ?_) hm⟩
  rintro v s1 ⟨x, H1, I1, r1, q1⟩
  exact h.run pins s1 σ H1 Q pos x v I1 r1 q1
end Chn
namespace Hs
open PySem PySem.Spec PyProof.Rows L2 Am
section
variable {P : Program} {w : World} {K : PySem.W.Frag} {mg : Str → Option Value} {base : Heap} {C : Addr}
theorem scStay : FnScope ["self", "words", "person", "place", "first", "behind"] ["self", "words"] (defScope sDrStay) := ⟨rfl, rfl, rfl, by decide +kernel, rfl, by decide +kernel, by decide +kernel⟩
theorem ok_stay {f : Addr} {fd : FuncData} (F : Fun K "take_stay" "Draft.take_stay" sDrStay f fd) (dc : DC K C) (T : Nm mg) (GD : GotF P w K mg base "decimal" 1 ["word"] spDec) (GN : GotF P w K mg base "is_name" 1 ["value"] spIsName) (GP : GotD P w K mg base C "has_place" 1 ["self", "name"] (spHasP C)) (GFl : GotD P w K mg base C "has_flat" 1 ["self"] (spHasF C)) (GL : GotD P w K mg base C "is_let" 1 ["self", "name", "first", "behind"] (spIsLet C)) :
    FnOk P w K mg base CX0 2 f fd ["self", "words"] (spStay C) := by
  obtain ⟨fD, fdD, GD, bD, mD, kD⟩ := GD
  obtain ⟨fN, fdN, GN, bN, mN, kN⟩ := GN
  obtain ⟨fP, fdP, GP, bP, mP⟩ := GP
  obtain ⟨fL, fdL, GFl, bL, mL⟩ := GFl
  obtain ⟨fI, fdI, GL, bI, mI⟩ := GL
  refine F.ok scStay (fun vs H Q E h => ?_) (fun cdv A outer s H vs Q E hr h => ?_)
  · obtain ⟨d, lp, lt, ls, lw, L, x, y, u, v, a, b, rfl, _⟩ := h
    rfl
  · obtain ⟨d, lp, lt, ls, lw, L, x, y, u, v, a, b, rfl, hd, sm, hw, hf, l8, lx, ly, lu, lv, hx, hy, hu, hv, hab, hb, hlet, q⟩ := h
    refine ⟨_, pss_cons (ps_if (PW.pt (pw_or (pt_not (pt_val (pe_meth0 (pv 0) dc.cl mL GFl hr bL .nil pass0))) (pw_or (pt_cmpR op_eq (pe_callB call_len_seq (by rfl) T.len PySem.boot_len (pa_cons (pe_fld (pv 0) rfl) pa_nil)) pe_int (nomark _)) (pw_or1 (pt_cmpR op_ne (pe_callB call_len_seq (by rfl) T.len PySem.boot_len (pa_cons (pv 1) pa_nil)) pe_int (nomark _)))))) (pss_one (ps_ret pe_bl)) pss_nil)
      (pss_cons (ps_asg (g := gTup K 4 (gCons (gName 2) (gCons (gName 3) (gCons (gName 4) (gCons (gName 5) gNil))))) (pe_tup (pa_cons (pe_ix ix_list (pv 1) pe_int (fun _ _ => rfl)) (pa_cons (pe_ix ix_list (pv 1) pe_int (fun _ _ => rfl)) (pa_cons (pe_call GD hr (by rfl) mD kD bD .nil pass0 (pa_cons (pe_ix ix_list (pv 1) pe_int (fun _ _ => rfl)) pa_nil)) (pa_cons (pe_call GD hr (by rfl) mD kD bD .nil pass0 (pa_cons (pe_ix ix_list (pv 1) pe_int (fun _ _ => rfl)) pa_nil)) pa_nil)))))
        (pg_tup rfl (pgs_cons (pg_name (i := 2) scStay.nd rfl (.inl rfl)) (pgs_cons (pg_name (i := 3) scStay.nd rfl (.inl rfl)) (pgs_cons (pg_name (i := 4) scStay.nd rfl (.inl rfl)) (pgs_cons (pg_name (i := 5) scStay.nd rfl (.inl rfl)) pgs_nil))))))
      (pss_cons (ps_if (PW.pt (pw_or (pt_not (pt_val (pe_call GN hr (by rfl) mN kN bN .nil pass0 (pa_cons (pv 2) pa_nil)))) (pw_or1 (pt_not (pt_val (pe_meth (pv 0) dc.cl mP GP hr bP .nil pass0 (pa_cons (pv 3) pa_nil))))))) (pss_one (ps_ret pe_bl)) pss_nil)
      (pss_cons (ps_if (PW.pt (pw_or (pt_not (Chn.pt_chn pe_int (Chn.c_link op_le (pv 4) (Chn.c_link op_lt (pv 5) (Chn.c_last op_le (pe_fld (pv 0) rfl)))))) (pw_or1 (pt_val (pe_meth (pv 0) dc.cl mI GL hr bI .nil pass0 (pa_cons (pv 3) (pa_cons (pv 4) (pa_cons (pv 5) pa_nil)))))))) (pss_one (ps_ret pe_bl)) pss_nil)
      (pss_cons (ps_expr (pe_bm PySem.F.plainAttrs_list PySem.F.slot_list_append PySem.F.type_list_append mt_append (pe_fld (pv 0) rfl) (pa_cons (pe_tup (pa_cons (pv 2) (pa_cons (pv 3) (pa_cons (pv 4) (pa_cons (pv 5) pa_nil))))) pa_nil)))
      (pss_one (ps_ret pe_bl)))))), ?_⟩
    obtain ⟨dx, ob⟩ := hd.ob
    obtain ⟨rs, hls, hrs⟩ := hd.st
    obtain ⟨m1, m2, m3, m4, m5, m6, m7, m8⟩ := dfs_m L.days lp lt ls
    have lens : L.stays.length ≤ 8 := by omega
    refine ⟨_, rfl, d, dx, _, rfl, ob, m2, d, lp, lt, ls, L, rfl, hd, sm, fun H1 e1 => ⟨_, rfl, ?_⟩⟩
    rw [hf]
    refine iteF ⟨_, rfl, d, C, dx, _, _, rfl, e1 _ _ ob, dc.cl, dc.nS, dfs_st _ _ _ _, ls, _, rfl, .inl (SqL.of (e1 _ _ hls)), ?_⟩
    rw [List.length_map, hrs.1]
    refine ⟨rfl, _, rfl, ?_⟩
    rw [int_eq, show decide ((L.stays.length : Int) = 8) = false from decide_eq_false (by omega)]
    refine iteF ⟨_, rfl, lw, _, rfl, .inl (SqL.of (e1 _ _ hw)), rfl, _, rfl, iteF ?_⟩
    refine ⟨_, rfl, lw, _, _, _, rfl, rfl, SqL.of (e1 _ _ hw), rfl, ?_⟩
    refine ⟨_, rfl, lw, _, _, _, rfl, rfl, SqL.of (e1 _ _ hw), rfl, ?_⟩
    refine ⟨_, rfl, lw, _, _, _, rfl, rfl, SqL.of (e1 _ _ hw), rfl, u, rfl, by omega, ?_⟩
    refine ⟨_, rfl, lw, _, _, _, rfl, rfl, SqL.of (e1 _ _ hw), rfl, v, rfl, by omega, ?_⟩
    rw [hu, hv]
    refine ⟨(show 4 ≤ sizeLine by decide), fun D0 nD0 => ?_⟩
    have e01 := e1.trans (same_upd (o := .tup [.str x, .str y, .int a, .int b]) nD0)
    refine ⟨D0, _, rfl, SqT.of upd_same, rfl, _, _, rfl, _, _, rfl, _, _, rfl, _, _, rfl, rfl, ?_⟩
    refine ⟨_, rfl, x, rfl, by omega, fun H2 e2 => ⟨_, rfl, ?_⟩⟩
    rw [hx]
    have e02 := e01.trans e2
    refine iteF ⟨_, rfl, d, dx, _, rfl, e02 _ _ ob, m1, _, rfl, d, lp, lt, ls, L, y, rfl, hd.same e02, sm, fun H3 e3 => ⟨_, rfl, ?_⟩⟩
    rw [hy]
    have e03 := e02.trans e3
    refine iteF ?_
    refine ⟨_, rfl, _, _, rfl, rfl, _, rfl, ?_⟩
    rw [show decide ((0 : Int) ≤ (a : Int)) = true from decide_eq_true (by omega)]
    refine iteT ⟨_, rfl, _, _, rfl, rfl, _, rfl, ?_⟩
    rw [show decide ((a : Int) < (b : Int)) = true from decide_eq_true (by omega)]
    refine iteT ⟨_, rfl, d, C, dx, _, _, rfl, e03 _ _ ob, dc.cl, dc.nD, dfs_days _ _ _ _, _, _, rfl, rfl, _, rfl, ?_⟩
    rw [show decide ((b : Int) ≤ (L.days : Int)) = true from decide_eq_true (by omega)]
    refine iteF ⟨_, rfl, d, dx, _, rfl, e03 _ _ ob, m3, _, rfl, _, rfl, _, rfl, d, lp, lt, ls, L, y, a, b, rfl, hd.same e03, sm, fun H4 e4 => ⟨_, rfl, ?_⟩⟩
    rw [hlet]
    have e04 := e03.trans e4
    refine iteF ⟨_, rfl, d, C, dx, _, _, rfl, e04 _ _ ob, dc.cl, dc.nS, dfs_st _ _ _ _, .inl ⟨rfl, _, SqL.of (e04 _ _ hls)⟩, ?_⟩
    refine ⟨_, rfl, _, rfl, _, rfl, _, rfl, (show 4 ≤ sizeLine by decide), fun D nD => ?_⟩
    obtain ⟨hd', fr⟩ := (hd.same e04).pushS (p := ⟨x, y, a, b⟩) (e04 _ _ hls) (hrs.same e04) nD
    refine ⟨ls, _, _, rfl, rfl, ?_, ?_, q _ (Fr.of e04 fr) hd'⟩
    · rw [upd_ne (ne_of_none (e04 _ _ hls) nD)]
      exact e04 _ _ hls
    · rw [List.length_map, hrs.1]
      exact Nat.lt_of_lt_of_le l8 (by decide)
end
end Hs
namespace Hs
open PySem PySem.Spec PyProof.Rows L2 Am
/-- a line that may stand behind what is told -/
inductive Step (L : Lore) (ln : Str) : Lore → Prop
  | days {x : Str} {n : Nat} : Txt.split ln " " = [("days" : Str), x] → L.days = 0 → x.length ≤ 600 → Mt.num x.cps.toList = n → (1 ≤ n ∧ n ≤ 14) → Step L ln { L with days := n }
  | place {x r : Str} {n : Nat} {inner : Bool} : Txt.split ln " " = [(if inner then ("flat" : Str) else ("bare" : Str)), x, r] → L.days ≠ 0 → L.prices = [] → L.stays = [] → x.length ≤ 600 → r.length ≤ 600 → nameB x = true → hasP L x = false → Mt.num r.cps.toList = n → (1 ≤ n ∧ n ≤ 9) →
      L.places.length < 4 → (L.places.length = 3 → inner = true ∨ hasF L = true) → Step L ln { L with places := L.places ++ [⟨x, n, inner⟩] }
  | price {x y : Str} {a n : Nat} : Txt.split ln " " = [("price" : Str), x, y] → hasF L = true → L.stays = [] → L.prices.length < 3 → x.length ≤ 600 → y.length ≤ 600 → Mt.num x.cps.toList = a → Mt.num y.cps.toList = n → (∀ p, L.prices.getLast? = some p → p.1 < a) → a < L.days → n ≤ 99 → Step L ln { L with prices := L.prices ++ [(a, n)] }
  | stay {x y u v : Str} {a b : Nat} : Txt.split ln " " = [("lives" : Str), x, y, u, v] → hasF L = true → L.stays.length < 8 → x.length ≤ 600 → y.length ≤ 600 → u.length ≤ 600 → v.length ≤ 600 → nameB x = true → hasP L y = true → Mt.num u.cps.toList = a → Mt.num v.cps.toList = b → a < b → b ≤ L.days → letS L y a b = false → Step L ln { L with stays := L.stays ++ [⟨x, y, a, b⟩] }
theorem Step.small {L L' : Lore} {ln : Str} (h : Step L ln L') (s : Small L) : Small L' := by
  obtain ⟨a, b, c⟩ := s
  cases h with
  | days => exact ⟨a, b, c⟩
  | place => exact ⟨by simp only [List.length_append, List.length_singleton]; omega, b, c⟩
  | price => exact ⟨a, by simp only [List.length_append, List.length_singleton]; omega, c⟩
  | stay => exact ⟨a, b, by simp only [List.length_append, List.length_singleton]; omega⟩
def spTake (C : Addr) : Sp := fun vs H Q _ => ∃ (d lp lt ls : Addr) (L L' : Lore) (ln : Str), vs = [.ref d, .str ln] ∧ DraftAt C H d lp lt ls L ∧ Small L ∧ ln.length ≤ 4000 ∧ Step L ln L' ∧
  ∀ H', Fr [d, lp, lt, ls] H H' → DraftAt C H' d lp lt ls L' → Q (.bl true) H'
section
variable {P : Program} {w : World} {K : PySem.W.Frag} {mg : Str → Option Value} {base : Heap} {C : Addr}
theorem scTake : FnScope ["self", "line", "kind", "words"] ["self", "line"] (defScope sDrTake) := ⟨rfl, rfl, rfl, by decide +kernel, rfl, by decide +kernel, by decide +kernel⟩
theorem ok_take {f : Addr} {fd : FuncData} (F : Fun K "take" "Draft.take" sDrTake f fd) (dc : DC K C) (G1 : GotD P w K mg base C "take_days" 2 ["self", "words"] (spDays C)) (G2 : GotD P w K mg base C "take_place" 2 ["self", "words", "inner"] (spPlace C)) (G3 : GotD P w K mg base C "take_price" 2 ["self", "words"] (spPrice C)) (G4 : GotD P w K mg base C "take_stay" 2 ["self", "words"] (spStay C)) :
    FnOk P w K mg base CX0 3 f fd ["self", "line"] (spTake C) := by
  obtain ⟨f1, fd1, G1, b1, k1⟩ := G1
  obtain ⟨f2, fd2, G2, b2, k2⟩ := G2
  obtain ⟨f3, fd3, G3, b3, k3⟩ := G3
  obtain ⟨f4, fd4, G4, b4, k4⟩ := G4
  refine F.ok scTake (fun vs H Q E h => ?_) (fun cdv A outer s H vs Q E hr h => ?_)
  · obtain ⟨d, lp, lt, ls, L, L', ln, rfl, _⟩ := h
    rfl
  · obtain ⟨d, lp, lt, ls, L, L', ln, rfl, hd, sm, hln, st, q⟩ := h
    refine ⟨_, pss_cons (ps_asg (g := Stt.gStar K (gCons (gName 2) (gCons (gName 3) gNil))) (pe_split (pv 1) pe_str) (Stt.pg_star rfl (pgs_cons (pg_name (i := 2) scTake.nd rfl (.inl rfl)) (Stt.pgs_star (pg_name (i := 3) scTake.nd rfl (.inl rfl))))))
      (pss_cons (ps_if (pt_cmpR op_eq (pv 2) pe_str (nomark _)) (pss_one (ps_ret (pe_meth (pv 0) dc.cl k1 G1 hr b1 .nil pass0 (pa_cons (pv 3) pa_nil)))) pss_nil)
      (pss_cons (ps_if (PW.pt (pw_or (pt_cmpR op_eq (pv 2) pe_str (nomark _)) (pw_or1 (pt_cmpR op_eq (pv 2) pe_str (nomark _))))) (pss_one (ps_ret (pe_meth (pv 0) dc.cl k2 G2 hr b2 .nil pass0 (pa_cons (pv 3) (pa_cons (pe_cmpR op_eq (pv 2) pe_str (nomark _)) pa_nil))))) pss_nil)
      (pss_cons (ps_if (pt_cmpR op_eq (pv 2) pe_str (nomark _)) (pss_one (ps_ret (pe_meth (pv 0) dc.cl k3 G3 hr b3 .nil pass0 (pa_cons (pv 3) pa_nil)))) pss_nil)
      (pss_cons (ps_if (pt_cmpR op_eq (pv 2) pe_str (nomark _)) (pss_one (ps_ret (pe_meth (pv 0) dc.cl k4 G4 hr b4 .nil pass0 (pa_cons (pv 3) pa_nil)))) pss_nil)
      (pss_one (ps_ret pe_bl)))))), ?_⟩
    obtain ⟨dx, ob⟩ := hd.ob
    obtain ⟨m1, m2, m3, m4, m5, m6, m7, m8⟩ := dfs_m L.days lp lt ls
    refine ⟨_, rfl, ⟨_, rfl⟩, _, _, rfl, rfl, by decide +kernel, Nat.le_trans (show ln.length + 2 ≤ 4002 by omega) (by decide), fun D nD => ?_⟩
    have e1 := same_upd (o := .lst ((Txt.split ln " ").map V.str)) nD
    have no : ∀ {u v : Str} {A B : Prop}, ¬ u = v → B → if (decide (V.str u = V.str v)) = true then A else B := fun h b => by
      rw [str_eq, decide_eq_false h]
      exact iteF b
    have big : ∀ {k : Nat}, k ≤ 10 → k ≤ 1000 := fun h => by omega
    cases st with
    | @days x n hs h0 lx hx hn =>
      rw [hs] at e1 ⊢
      refine ⟨D, _, _, rfl, SqL.of upd_same, big (show 1 ≤ 10 by decide), fun D2 nD2 => ?_⟩
      have e2 := e1.trans (same_upd (o := .lst [V.str x]) nD2)
      refine ⟨_, _, rfl, _, _, rfl, rfl, ⟨_, rfl, rfl, _, rfl, iteT ?_⟩⟩
      exact ⟨_, rfl, d, dx, _, rfl, e2 _ _ ob, m4, _, rfl, d, lp, lt, ls, D2, L, x, n, rfl, hd.same e2, upd_same, h0, lx, hx, hn, fun H' fr hd' => q _ (Fr.mono (Fr.of e2 fr) (by simp)) hd'⟩
    | @place x r n inner hs h0 p0 s0 lx lr hx hp hn n19 l4 l3 =>
      rw [hs] at e1 ⊢
      refine ⟨D, _, _, rfl, SqL.of upd_same, big (show 2 ≤ 10 by decide), fun D2 nD2 => ?_⟩
      have e2 := e1.trans (same_upd (o := .lst [V.str x, V.str r]) nD2)
      refine ⟨_, _, rfl, _, _, rfl, rfl, ⟨_, rfl, rfl, _, rfl, no (by cases inner <;> decide +kernel) ?_⟩⟩
      cases inner with
      | true =>
        refine ⟨_, rfl, rfl, _, rfl, iteT (iteT ?_)⟩
        exact ⟨_, rfl, d, dx, _, rfl, e2 _ _ ob, m5, _, rfl, _, rfl, rfl, d, lp, lt, ls, D2, L, x, r, n, true, rfl, hd.same e2, sm, upd_same, h0, p0, s0, lx, lr, hx, hp, hn, n19, l4, l3, fun H' fr hd' => q _ (Fr.mono (Fr.of e2 fr) (by simp)) hd'⟩
      | false =>
        refine ⟨_, rfl, rfl, _, rfl, iteF ⟨_, rfl, rfl, _, rfl, iteT ?_⟩⟩
        exact ⟨_, rfl, d, dx, _, rfl, e2 _ _ ob, m5, _, rfl, _, rfl, rfl, d, lp, lt, ls, D2, L, x, r, n, false, rfl, hd.same e2, sm, upd_same, h0, p0, s0, lx, lr, hx, hp, hn, n19, l4, l3, fun H' fr hd' => q _ (Fr.mono (Fr.of e2 fr) (by simp)) hd'⟩
    | @price x y a n hs hf s0 l3 lx ly hx hy hl ha hn =>
      rw [hs] at e1 ⊢
      refine ⟨D, _, _, rfl, SqL.of upd_same, big (show 2 ≤ 10 by decide), fun D2 nD2 => ?_⟩
      have e2 := e1.trans (same_upd (o := .lst [V.str x, V.str y]) nD2)
      refine ⟨_, _, rfl, _, _, rfl, rfl, ⟨_, rfl, rfl, _, rfl, no (by decide +kernel) ?_⟩⟩
      refine ⟨_, rfl, rfl, _, rfl, no (by decide +kernel) ⟨_, rfl, rfl, _, rfl, no (by decide +kernel) ⟨_, rfl, rfl, _, rfl, iteT ?_⟩⟩⟩
      exact ⟨_, rfl, d, dx, _, rfl, e2 _ _ ob, m6, _, rfl, d, lp, lt, ls, D2, L, x, y, a, n, rfl, hd.same e2, sm, upd_same, hf, s0, l3, lx, ly, hx, hy, hl, ha, hn, fun H' fr hd' => q _ (Fr.mono (Fr.of e2 fr) (by simp)) hd'⟩
    | @stay x y u v a b hs hf l8 lx ly lu lv hx hy hu hv hab hb hl =>
      rw [hs] at e1 ⊢
      refine ⟨D, _, _, rfl, SqL.of upd_same, big (show 4 ≤ 10 by decide), fun D2 nD2 => ?_⟩
      have e2 := e1.trans (same_upd (o := .lst [V.str x, V.str y, V.str u, V.str v]) nD2)
      refine ⟨_, _, rfl, _, _, rfl, rfl, ⟨_, rfl, rfl, _, rfl, no (by decide +kernel) ?_⟩⟩
      refine ⟨_, rfl, rfl, _, rfl, no (by decide +kernel) ⟨_, rfl, rfl, _, rfl, no (by decide +kernel) ⟨_, rfl, rfl, _, rfl, no (by decide +kernel) ⟨_, rfl, rfl, _, rfl, iteT ?_⟩⟩⟩⟩
      exact ⟨_, rfl, d, dx, _, rfl, e2 _ _ ob, m7, _, rfl, d, lp, lt, ls, D2, L, x, y, u, v, a, b, rfl, hd.same e2, sm, upd_same, hf, l8, lx, ly, lu, lv, hx, hy, hu, hv, hab, hb, hl, fun H' fr hd' => q _ (Fr.mono (Fr.of e2 fr) (by simp)) hd'⟩
end
end Hs
/-! for k, x in enumerate(xs, start=..) -/
namespace Enu
open PySem PySem.Spec PyProof.Rows L2
theorem callWith_type_kwB {M : Model} {A : Around} {E : Value → Shared → Prop} {s : Shared} {pos : Pos} {T : String} {first : List Value} {args : List (Bool × Sem Value)} {keywords : List (Option Str × Sem Value)} {Q : Value → Shared → Prop}
    (hplain : (args.any fun x => x.fst) = false) (hkw : (keywords.any fun x => x.fst.isNone) = false)
    (h : wpAny M A (evalArgs (Value.type T) true args keywords) (fun a s₁ => wpAny M A (call (Value.type T) (first ++ a.pos) a.kw) Q E s₁) E s) : wpAny M A (callWith pos (Value.type T) first args keywords) Q E s := by
  unfold callWith
  refine wpAny_bind (wpAny_holding (wpAny_mono h (fun a s₁ h₁ => ?_) fun _ _ z => z))
  refine wpAny_bind (wpAny_standAt ?_)
  simp only [hplain, hkw, Bool.or_false]
  refine wpAny_bind (wpAny_pure ?_)
  refine wpAny_bind (wpAny_mono h₁ (fun r s₂ hr => wpAny_bind (wpAny_holding (wpAny_point (wpAny_pure hr)))) fun _ _ z => z)
def IteF (K : PySem.W.Frag) (a : Addr) (k : Int) : It :=
  { go := fun i H => ∃ xs x, SqL K H a xs ∧ xs[i]? = some x
    yld := fun i H v H' => ∃ T x, v = V.ref T ∧ H T = none ∧ H' = upd H T (HO.tup [V.int (k + i), x]) ∧ ∀ (xs : List V), SqL K H a xs → xs[i]? = some x
    stop := fun i H => ∃ xs, SqL K H a xs ∧ xs.length = i }
theorem turn_enumF {P : Program} {w : World} {K : PySem.W.Frag} {elts : List Expr} {kk : Nat} {tpos : Pos} (a e it : Addr) (k : Int) :
    Turn P w K (Expr.Tuple elts kk tpos) (IteF K a k) [e, it] e fun i h => (∃ old, IsEnum h e it (k + i) old) ∧ h.IsListIter it a i ∧ e ≠ it := by
  refine ⟨by simp, ?_, ?_, ?_, ?_, ?_⟩
  · rintro i h ⟨⟨old, he⟩, ⟨o, ho, hc, hd⟩, ne⟩ b hb
    have e' : b = e ∨ b = it := by simpa using hb
    rcases e' with rfl | rfl
    · exact ⟨_, he, fun v q => nomatch q⟩
    · exact ⟨o, ho, fun v q => by rw [hd] at q; exact nomatch q⟩
  · rintro i h h' ⟨⟨old, he⟩, hi, ne⟩ kp
    exact ⟨⟨old, kp e (by simp) _ he⟩, hi.at fun o q => kp it (by simp) o q, ne⟩
  · rintro X rfl rfl rfl hc i pins s σ H E I hf ⟨⟨old, he⟩, hit, ne⟩ ⟨xs, x, hq, hx⟩
    obtain ⟨its, rv, p, hz⟩ := I.list hq
    obtain ⟨u, hu, ru⟩ := Vals.get rv hx
    have hel := Heap.lt_size he
    have hil : it < s.heap.objs.size := by obtain ⟨w, q, _⟩ := hit; exact Heap.lt_size q
    have hal : s.heap.IsList a its.toArray := p.isList
    have nai : a ≠ it := by
      rintro rfl
      obtain ⟨o1, q1, c1, _⟩ := id hit
      obtain ⟨o2, q2, c2, _⟩ := id hal
      rw [q1] at q2
      cases q2
      rw [c1] at c2
      exact absurd c2 (by decide)
    have nae : a ≠ e := by
      rintro rfl
      obtain ⟨o2, q2, c2, _⟩ := id hal
      have := he.symm.trans q2
      cases this
      exact absurd (show Value.type "enumerate" = Value.type "list" from c2) (by decide)
    have G := GoesN.enumFrom (elts := elts) (x1 := kk) (pos := tpos) k (Draws.list (prog := X.prog) (w := X.w) (A := X.A.in1) (I.ok.hd hc) it a nai its.toArray) e ne (by simp [ne, nae.symm]) (by simp)
    have ilt : i < its.toArray.size := by
      have h1 := (List.getElem?_eq_some_iff.mp hu).1
      simpa using h1
    refine G.goes i s _ E ilt ⟨⟨old, he⟩, hit, hal⟩ ?_
    rintro v h' tk ⟨T, t, y, rfl, hT, hy, hTu⟩ ⟨hen, hit', hal'⟩ kp htk
    have ey : y = u := by
      have h1 : its.toArray[i]? = some u := by rw [List.getElem?_toArray]; exact hu
      exact Option.some.inj (hy.symm.trans h1)
    subst ey
    obtain ⟨oT, qT, cT, nT, dT⟩ := hTu
    refine ⟨.ref T, upd H T (.tup [.int (k + i), x]), Inv.turnedNew (ch := [e, it]) I (fun b o nb z => kp b o nb z) hf hT ?_, rfl, ⟨T, x, rfl, I.hok.fresh hT, rfl, fun ys hys => ?_⟩, ⟨?_, hit', ne⟩, fun b hb => ?_⟩
    · exact ⟨(show 2 ≤ sizeLine by decide), [Value.int (k + i) t, y], .cons ⟨t, rfl⟩ (.cons ru .nil), oT, qT, cT, nT, dT⟩
    · rw [I.list_inj hys hq]
      exact hx
    · exact hen
    · have e' : b = e ∨ b = it := by simpa using hb
      have hlt : b < s.heap.objs.size := by rcases e' with rfl | rfl <;> assumption
      rw [upd_ne (Nat.ne_of_lt (Nat.lt_of_lt_of_le hlt hT))]
      exact (hf b hb).1
  · rintro X rfl rfl rfl hc i pins s σ H E I hf ⟨⟨old, he⟩, hit, ne⟩ ⟨xs, hq, hx⟩
    obtain ⟨its, rv, p, hz⟩ := I.list hq
    have hal : s.heap.IsList a its.toArray := p.isList
    have nai : a ≠ it := by
      rintro rfl
      obtain ⟨o1, q1, c1, _⟩ := id hit
      obtain ⟨o2, q2, c2, _⟩ := id hal
      rw [q1] at q2
      cases q2
      rw [c1] at c2
      exact absurd c2 (by decide)
    have nae : a ≠ e := by
      rintro rfl
      obtain ⟨o2, q2, c2, _⟩ := id hal
      have := he.symm.trans q2
      cases this
      exact absurd (show Value.type "enumerate" = Value.type "list" from c2) (by decide)
    have G := GoesN.enumFrom (elts := elts) (x1 := kk) (pos := tpos) k (Draws.list (prog := X.prog) (w := X.w) (A := X.A.in1) (I.ok.hd hc) it a nai its.toArray) e ne (by simp [ne, nae.symm]) (by simp)
    have en : its.toArray.size = i := by
      rw [← hx, rv.length]
      simp
    rw [← en] at he hit
    refine wpAny_mono (G.stops s (fun s1 => L2.Inv X pins σ H s1) E ⟨⟨old, he⟩, hit, hal⟩ ?_) (fun _ _ z => z) fun _ _ z => z
    intro h' tk kp htk
    exact I.turnedL (ch := [e, it]) (fun b o nb z => kp b o nb z) hf
  · rintro A i s Q E ⟨⟨old, he⟩, _⟩ q
    exact wpAny_pyIter_enum he q
theorem walk_enumF {K : PySem.W.Frag} {a : Addr} {xs : List V} {k : Int} : Walk (IteF K a k) xs.length (fun H => SqL K H a xs) (YPair (fun i => some (V.int (k + i))) fun i => xs[i]?) := by
  refine ⟨fun i H hi g => ⟨xs, xs[i], g, List.getElem?_eq_getElem hi⟩, fun H g => ⟨xs, g, rfl⟩, ?_⟩
  rintro i H x H' hi g ⟨T, y, rfl, nT, rfl, hy⟩
  exact ⟨T, _, y, rfl, nT, rfl, rfl, hy xs g⟩
def iEnumS (K : PySem.W.Frag) (ta tk : TA) : TI := fun σ H R => ta σ H fun vs H1 => tk σ H1 fun zs H2 => ∃ a xs k, vs = [V.ref a] ∧ zs = [V.int k] ∧ -2 ^ 63 ≤ k ∧ k < 2 ^ 63 ∧ SqL K H2 a xs ∧ R (IteF K a k) H2
theorem pi_enumS {X : Cx} {e : Expr} {ta tk : TA} {p pos tpos : Pos} {elts : List Expr} {kk : Nat} {kws : List Keyword} (hg : Gl X "enumerate") (hm : X.mg "enumerate" = none) (ha : PA X [e] ta) (hk : PK X kws tk)
    (he : backTo pos (starEach [e] X.env) = [(false, eval e X.env)] := by rfl)
    (hpl : ((backTo pos (starEach [e] X.env)).any fun x => x.fst) = false := by rfl)
    (hall : ((backToKw pos (keywordEach kws X.env)).all fun x => x.fst.isSome) = true := by rfl)
    (hnone : ((backToKw pos (keywordEach kws X.env)).any fun x => x.fst.isNone) = false := by rfl)
    (hks : List.filterMap (fun x => x.fst) (backToKw pos (keywordEach kws X.env)) = [("start" : Str)] := by rfl) :
    PI X (Expr.Tuple elts kk tpos) ((Expr.Name "enumerate" p).Call [e] kws pos) (iEnumS X.K ta tk) := by
  refine ⟨fun pins s σ H R I h => wpAny_Call_Name_kw (ld_blt I hg hm boot_enumerate (callWith_type_kwB hpl hnone ?_) (by decide +kernel) (by decide +kernel))⟩
  rw [he]
  refine evalArgs_kwB hall ?_
  have h0 := ha.run pos pins s σ H _ I h
  rw [he] at h0
  refine thn h0 ?_
  rintro us s1 ⟨vs, H1, I1, r1, q1⟩
  refine thn (hk.run pos pins s1 σ H1 _ I1 q1) ?_
  rintro ws s2 ⟨zs, H2, I2, r2, a, xs, k, rfl, rfl, k1, k2, hq, q⟩
  rw [hks]
  cases r1 with
  | cons ra rra =>
  cases rra
  cases ra
  cases r2 with
  | cons rk rrk =>
  cases rrk
  obtain ⟨tt, rfl⟩ := rk
  obtain ⟨its, rv, p', hz⟩ := I2.list hq
  refine enum_begins_start (begins_list a its.toArray) p'.isList k1 k2 ?_
  intro h' hen hit hsz hkp
  have I3 := I2.kept (t' := s2.toks) hkp
  refine wpAny_pyIter_enum hen ?_
  refine ⟨s2.heap.objs.size + 1, [s2.heap.objs.size + 1, s2.heap.objs.size], _, IteF X.K a k, H2, rfl, I3, turn_enumF a (s2.heap.objs.size + 1) s2.heap.objs.size k, ⟨⟨Value.none, ?_⟩, ?_, Nat.succ_ne_self _⟩, fun b hb => ?_, q⟩
  · rw [show k + ((0 : Nat) : Int) = k from Int.add_zero k]
    exact hen
  · exact ⟨_, hit, rfl, rfl⟩
  · have e' : b = s2.heap.objs.size + 1 ∨ b = s2.heap.objs.size := by simpa using hb
    have hle : s2.heap.objs.size ≤ b := by
      rcases e' with z | z
      · rw [z]; exact Nat.le_add_right _ 1
      · rw [z]; exact Nat.le_refl _
    exact Inv.fpOk I2 hle (HOk.fresh I2.hok hle)
end Enu
namespace Hs
open PySem PySem.Spec PyProof.Rows L2 Am
def L0 : Lore := ⟨0, [], [], []⟩
inductive Steps : Lore → List Str → Lore → Prop
  | nil {L : Lore} : Steps L [] L
  | cons {L L1 L2 : Lore} {l : Str} {ls : List Str} : Step L l L1 → Steps L1 ls L2 → Steps L (l :: ls) L2
def spInitD (C : Addr) : Sp := fun vs H Q _ => ∃ x dx, vs = [.ref x] ∧ H x = some (.ins C dx []) ∧
  ∀ H' lp lt ls, Fr [x] H H' → DraftAt C H' x lp lt ls L0 → H lp = none → H lt = none → H ls = none → Q .non H'
section
variable {P : Program} {w : World} {K : PySem.W.Frag} {mg : Str → Option Value} {base : Heap} {C : Addr}
theorem scDrInit : FnScope ["self"] ["self"] (defScope sDrInit) := ⟨rfl, rfl, rfl, by decide +kernel, rfl, by decide +kernel, by decide +kernel⟩
theorem LstAt.nil {α : Type} {f : α → HO} {H : Hp} {l : Addr} (h : H l = some (.lst [])) : LstAt f H l [] := ⟨[], h, Refs.nil⟩
theorem none_of {H : Hp} {a b : Addr} {o : HO} (h : upd H a o b = none) : b ≠ a ∧ H b = none := by
  have n : b ≠ a := fun z => by rw [z, upd_same] at h; cases h
  exact ⟨n, by rw [upd_ne n] at h; exact h⟩
theorem ok_drInit {f : Addr} {fd : FuncData} (F : Fun K "__init__" "Draft.__init__" sDrInit f fd) (dc : DC K C) : FnOk P w K mg base CX0 1 f fd ["self"] (spInitD C) := by
  refine F.ok scDrInit (fun vs H Q E h => ?_) (fun cdv A outer s H vs Q E hr h => ?_)
  · obtain ⟨x, dx, rfl, _⟩ := h
    rfl
  · obtain ⟨x, dx, rfl, ob, q⟩ := h
    refine ⟨_, pss_cons (ps_fld (pv 0) pe_int rfl) (pss_cons (ps_fld (pv 0) (pe_lst pa_nil) rfl) (pss_cons (ps_fld (pv 0) (pe_lst pa_nil) rfl) (pss_one (ps_fld (pv 0) (pe_lst pa_nil) rfl)))), ?_⟩
    refine ⟨_, rfl, x, C, dx, _, rfl, ob, dc.cl, dc.nD, by decide, ?_⟩
    refine ⟨by decide, fun lp nlp => ⟨_, rfl, x, C, dx, _, rfl, (by rw [upd_ne (ne_of_none upd_same nlp)]; exact upd_same), dc.cl, dc.nP, by decide +kernel, ?_⟩⟩
    refine ⟨by decide, fun lt nlt => ⟨_, rfl, x, C, dx, _, rfl, (by rw [upd_ne (ne_of_none upd_same nlt)]; exact upd_same), dc.cl, dc.nT, ?_, ?_⟩⟩
    · simp only [putF, if_neg n_dp]
      show 2 < 1000
      decide
    refine ⟨by decide, fun ls nls => ⟨_, rfl, x, C, dx, _, rfl, (by rw [upd_ne (ne_of_none upd_same nls)]; exact upd_same), dc.cl, dc.nS, ?_, ?_⟩⟩
    · simp only [putF, if_neg n_dp, if_neg n_dt, if_neg n_pt]
      show 3 < 1000
      decide
    obtain ⟨p1, p2⟩ := none_of nlp
    obtain ⟨t1, t2⟩ := none_of nlt
    obtain ⟨t3, t4⟩ := none_of t2
    obtain ⟨_, t5⟩ := none_of t4
    obtain ⟨s1, s2⟩ := none_of nls
    obtain ⟨s3, s4⟩ := none_of s2
    obtain ⟨_, s5⟩ := none_of s4
    obtain ⟨s6, s7⟩ := none_of s5
    obtain ⟨_, s8⟩ := none_of s7
    refine q _ lp lt ls (fun b u e nb => ?_) ⟨⟨dx, upd_same⟩, LstAt.nil ?_, LstAt.nil ?_, LstAt.nil ?_, Ne.symm t3, Ne.symm s6, Ne.symm s3⟩ p2 t5 s8
    · have n0 : b ≠ x := fun z => nb (by rw [z]; simp)
      have n1 := ne_of_none e p2
      have n2 := ne_of_none e t5
      have n3 := ne_of_none e s8
      rw [upd_ne n0, upd_ne n3, upd_ne n0, upd_ne n2, upd_ne n0, upd_ne n1, upd_ne n0]
      exact e
    · rw [upd_ne p1, upd_ne (Ne.symm s6), upd_ne p1, upd_ne (Ne.symm t3), upd_ne p1, upd_same]
    · rw [upd_ne t1, upd_ne (Ne.symm s3), upd_ne t1, upd_same]
    · rw [upd_ne s1, upd_same]
end
end Hs
namespace Hs
open PySem PySem.Spec PyProof.Rows L2 Am
/-- a text that tells a house -/
structure Told (x : Str) (L : Lore) : Prop where
  st : Steps L0 (Txt.split x "\n") L
  hf : hasF L = true
  ls : ∀ l ∈ Txt.split x "\n", l.length ≤ 4000
  n : (Txt.split x "\n").length ≤ 1000
  len : x.length ≤ 100000
def spDrafted (C : Addr) : Sp := fun vs H Q _ => ∃ (x : Str) (L : Lore), vs = [.str x] ∧ Told x L ∧
  ∀ H' d lp lt ls, Same H H' → DraftAt C H' d lp lt ls L → H d = none → H lp = none → H lt = none → H ls = none → Small L → Q (.ref d) H'
theorem L0_small : Small L0 := ⟨by decide, by decide, by decide⟩
section
variable {P : Program} {w : World} {K : PySem.W.Frag} {mg : Str → Option Value} {base : Heap} {C : Addr}
theorem scDrafted : FnScope ["text", "draft", "lines", "at", "line"] ["text"] (defScope sDrafted) := ⟨rfl, rfl, rfl, by decide +kernel, rfl, by decide +kernel, by decide +kernel⟩
theorem ok_drafted {f fi : Addr} {fd fdi : FuncData} (F : Fun K "drafted" "drafted" sDrafted f fd) (dc : DC K C) (T : Nm mg) (ns : mg "str" = none) (ne : mg "enumerate" = none)
    (M : Mk K C fi) (GI : FnOk P w K mg base CX0 1 fi fdi ["self"] (spInitD C)) (bI : Binds K fdi ["self"] []) (mC : mg "Draft" = some (.ref C))
    (GT : GotD P w K mg base C "take" 3 ["self", "line"] (spTake C)) (GFl : GotD P w K mg base C "has_flat" 1 ["self"] (spHasF C)) : FnOk P w K mg base CX0 4 f fd ["text"] (spDrafted C) := by
  obtain ⟨f1, fd1, GT, b1, k1⟩ := GT
  obtain ⟨fL, fdL, GFl, bL, mL⟩ := GFl
  refine F.ok scDrafted (fun vs H Q E h => ?_) (fun cdv A outer s H vs Q E hr h => ?_)
  · obtain ⟨x, L, rfl, _⟩ := h
    rfl
  · obtain ⟨x, L, rfl, td, q⟩ := h
    have b_str : bootBuiltins "str" = some (.type "str") := by decide +kernel
    have hr2 : Room 2 _ := hr.mono (by decide)
    have hr1 : Room 1 _ := hr.mono (by decide)
    refine ⟨_, pss_cons (ps_if (pt_not (pt_val (pe_callB call_isi (by rfl) T.isi b_isi (pa_cons (pv 0) (pa_cons (pe_bltn (v := .ty "str") (by rfl) ns b_str rfl) pa_nil))))) (pss_one ps_never) pss_nil)
      (pss_cons (ps_par (by rfl) scDrafted.nd (i := 1) (j := 2) rfl rfl (by decide) rfl rfl (pa_cons (pe_make0 M GI hr2 (by rfl) mC bI .nil pass0) (pa_cons (pe_split (pv 0) pe_str) pa_nil)) (by rfl))
      (pss_cons (ps_for (g := gTup K 2 (gCons (gName 3) (gCons (gName 4) gNil))) PassesOwn.never rfl (Enu.pi_enumS (by rfl) ne (pa_cons (pv 2) pa_nil) (pk_cons pe_int pk_nil))
        (pg_tup rfl (pgs_cons (pg_name (i := 3) scDrafted.nd rfl (.inl rfl)) (pgs_cons (pg_name (i := 4) scDrafted.nd rfl (.inl rfl)) pgs_nil)))
        (pss_one (ps_if (pt_not (pt_val (pe_meth (pv 1) dc.cl k1 GT hr b1 .nil pass0 (pa_cons (pv 4) pa_nil)))) (pss_one ps_never) pss_nil)))
      (pss_cons (ps_if (pt_not (pt_val (pe_meth0 (pv 1) dc.cl mL GFl hr1 bL .nil pass0))) (pss_one ps_never) pss_nil)
      (pss_one (ps_ret (pv 1)))))), ?_⟩
    refine ⟨_, rfl, .str x, .ty "str", .type "str", .type "str", _, rfl, .ty _, .base (Bk.tyOf (.str x)), kstr, _, rfl, iteF ?_⟩
    intro d dx nd ndx ndd
    have e0 : Same H (upd (upd H dx (.own d)) d (.ins C dx [])) := (same_upd ndx).trans (same_upd (by rw [upd_ne (Ne.symm ndd)]; exact nd))
    refine ⟨d, dx, rfl, upd_same, fun H1 lp lt ls fr1 hd z1 z2 z3 => ⟨rfl, ?_⟩⟩
    have e01 : Same H H1 := fun b u e => fr1 b u (e0 b u e) (by simpa using ne_of_none e nd)
    have hlp := (none_of (none_of z1).2).2
    have hlt := (none_of (none_of z2).2).2
    have hls := (none_of (none_of z3).2).2
    refine ⟨_, rfl, ⟨_, rfl⟩, _, _, rfl, rfl, by decide +kernel, Nat.le_trans (show x.length + 2 ≤ 100002 by have := td.len; omega) (by decide), fun l nl => ⟨_, _, rfl, ?_⟩⟩
    have e2 := same_upd (o := .lst ((Txt.split x "\n").map V.str)) nl
    have nld : l ≠ d ∧ l ≠ lp ∧ l ≠ lt ∧ l ≠ ls := by
      obtain ⟨dy, ob⟩ := hd.ob
      obtain ⟨_, a1, _⟩ := hd.pl
      obtain ⟨_, a2, _⟩ := hd.pr
      obtain ⟨_, a3, _⟩ := hd.st
      exact ⟨(ne_of_none ob nl).symm, (ne_of_none a1 nl).symm, (ne_of_none a2 nl).symm, (ne_of_none a3 nl).symm⟩
    have qn := td.n
    have qs := td.st
    have ql := td.ls
    generalize hlines : Txt.split x "\n" = lines at e2 qn qs ql ⊢
    refine ⟨_, rfl, l, _, 1, rfl, rfl, by decide, by decide, SqL.of upd_same, for_it (Enu.walk_enumF (xs := lines.map V.str)) (fun i σ H' => ∃ Li s3 s4, σ = [some (.str x), some (.ref d), some (.ref l), s3, s4] ∧ Steps Li (lines.drop i) L ∧ DraftAt C H' d lp lt ls Li ∧ Small Li ∧ Same H H' ∧ H' l = some (.lst (lines.map V.str))) ?_ ?_ ?_ ?_⟩
    · exact ⟨L0, _, _, rfl, qs, hd.same e2, L0_small, e01.trans e2, upd_same⟩
    · rintro i σ H' _ ⟨_, _, _, _, _, _, _, _, h⟩
      exact SqL.of h
    · rintro i v σ H2 H3 hi ⟨Li, s3, s4, rfl, hst, hdi, smi, esi, hli⟩ ⟨T, v1, v2, rfl, nT, rfl, hv1, hv2⟩
      have hi' : i < lines.length := by simpa using hi
      obtain rfl : v2 = .str lines[i] := by
        replace hv2 : (lines.map V.str)[i]? = some v2 := hv2
        rw [List.getElem?_map, List.getElem?_eq_getElem hi'] at hv2
        exact (Option.some.inj hv2).symm
      rw [List.drop_eq_getElem_cons hi'] at hst
      cases hst with
      | @cons _ L1 _ _ _ st1 st2 =>
      have e3 := same_upd (o := .tup [v1, .str lines[i]]) nT
      obtain ⟨dy, ob⟩ := (hdi.same e3).ob
      obtain ⟨m1, m2, m3, m4, m5, m6, m7, m8⟩ := dfs_m Li.days lp lt ls
      refine ⟨T, _, rfl, SqT.of upd_same, rfl, _, _, rfl, _, _, rfl, rfl, ?_⟩
      refine ⟨_, rfl, d, dy, _, rfl, ob, m8, _, rfl, d, lp, lt, ls, Li, L1, lines[i], rfl, hdi.same e3, smi, ql _ (List.getElem_mem hi'), st1, fun H4 fr4 hd4 => ⟨_, rfl, iteF ?_⟩⟩
      refine ⟨L1, _, _, rfl, st2, hd4, st1.small smi, fun b u e => fr4 b u (e3 b u (esi b u e)) ?_, fr4 _ _ (e3 _ _ hli) (by simp [nld.1, nld.2.1, nld.2.2.1, nld.2.2.2])⟩
      have a0 := ne_of_none e nd
      have a1 := ne_of_none e hlp
      have a2 := ne_of_none e hlt
      have a3 := ne_of_none e hls
      simp [a0, a1, a2, a3]
    · rintro σ H2 ⟨Li, s3, s4, rfl, hst, hdi, smi, esi, hli⟩
      rw [show lines.drop (lines.map V.str).length = [] from by rw [List.length_map]; exact List.drop_length] at hst
      cases hst
      obtain ⟨dy, ob⟩ := hdi.ob
      obtain ⟨m1, m2, m3, m4, m5, m6, m7, m8⟩ := dfs_m L.days lp lt ls
      refine ⟨_, rfl, d, dy, _, rfl, ob, m2, d, lp, lt, ls, L, rfl, hdi, smi, fun H3 e3 => ⟨_, rfl, ?_⟩⟩
      rw [td.hf]
      refine iteF ⟨_, rfl, ?_⟩
      exact q _ d lp lt ls (esi.trans e3) (hdi.same e3) nd hlp hlt hls smi
end
end Hs
/-! who lives where, and what a unit costs, day by day -/
namespace Hs
open PySem PySem.Spec PyProof.Rows L2 Am
def tenD (ss : List St) (x : Str) (k : Nat) : Str := ss.foldl (fun acc s => if s.pl = x ∧ (s.a ≤ k ∧ k < s.b) then s.who else acc) "house"
def priD (ps : List (Nat × Nat)) (k : Nat) : Nat := ps.foldl (fun acc p => if p.1 ≤ k then p.2 else acc) 1
def row {α : Type} (n : Nat) (g : α → V) (f : Nat → α) : List V := (List.range n).map fun k => g (f k)
structure Good (L : Lore) : Prop where
  d : L.days ≤ 14
  st : ∀ s ∈ L.stays, s.a < s.b ∧ s.b ≤ L.days
  pr : ∀ p ∈ L.prices, p.1 < L.days
theorem row_len {α : Type} {n : Nat} {g : α → V} {f : Nat → α} : (row n g f).length = n := by unfold row; simp
theorem row_set {α : Type} {n : Nat} {g : α → V} {f f' : Nat → α} {m : Nat} {v : α} (h : ∀ k, f' k = if k = m then v else f k) : (row n g f).set m (g v) = row n g f' := by
  apply List.ext_getElem?
  intro k
  unfold row
  rw [List.getElem?_set, List.getElem?_map, List.getElem?_map, List.length_map, List.length_range]
  by_cases c : m = k
  · subst c
    by_cases z : m < n
    · rw [if_pos rfl, if_pos z, List.getElem?_range z]
      simp [h]
    · rw [if_pos rfl, if_neg z, List.getElem?_eq_none (by simpa using z)]
      rfl
  · rw [if_neg c]
    cases hk : (List.range n)[k]? with
    | none => rfl
    | some j =>
      have e : j = k := by
        rw [List.getElem?_eq_some_iff] at hk
        obtain ⟨z, hz⟩ := hk
        simp at hz
        exact hz.symm
      subst e
      simp [h, Ne.symm c]
theorem rep_row {α : Type} (n : Nat) (g : α → V) (a : α) : (List.replicate n [g a]).flatten = row n g (fun _ => a) := by
  unfold row
  induction n with
  | zero => rfl
  | succ n ih => rw [List.replicate_succ', List.flatten_append, ih, List.range_succ, List.map_append]; rfl
theorem tenD_step {ss : List St} {x : Str} {k i : Nat} {s : St} (h : ss[i]? = some s) : tenD (ss.take (i + 1)) x k = if s.pl = x ∧ (s.a ≤ k ∧ k < s.b) then s.who else tenD (ss.take i) x k := by
  unfold tenD
  rw [List.take_add_one, h, List.foldl_append]
  rfl
theorem priD_step {ss : List (Nat × Nat)} {k i : Nat} {s : Nat × Nat} (h : ss[i]? = some s) : priD (ss.take (i + 1)) k = if s.1 ≤ k then s.2 else priD (ss.take i) k := by
  unfold priD
  rw [List.take_add_one, h, List.foldl_append]
  rfl
theorem ixN_of {n k : Nat} (h : k < n) : ixN n (k : Int) = some k := by
  unfold ixN
  rw [if_pos (by omega), if_pos (by omega)]
  exact congrArg some (by omega)
def spTen (C : Addr) : Sp := fun vs H Q _ => ∃ (d lp lt ls : Addr) (L : Lore) (x : Str), vs = [.str x, .ref d] ∧ DraftAt C H d lp lt ls L ∧ Small L ∧ Good L ∧
  ∀ H' t, Same H H' → H t = none → H' t = some (.tup (row L.days V.str (tenD L.stays x))) → Q (.ref t) H'
def spPri (C : Addr) : Sp := fun vs H Q _ => ∃ (d lp lt ls : Addr) (L : Lore), vs = [.ref d] ∧ DraftAt C H d lp lt ls L ∧ Small L ∧ Good L ∧
  ∀ H' t, Same H H' → H t = none → H' t = some (.tup (row L.days (fun n : Nat => V.int n) (priD L.prices))) → Q (.ref t) H'
section
variable {P : Program} {w : World} {K : PySem.W.Frag} {mg : Str → Option Value} {base : Heap} {C : Addr}
theorem scTenants : FnScope ["name", "draft", "row", "person", "place", "first", "behind", "day"] ["name", "draft"] (defScope sTenants) := ⟨rfl, rfl, rfl, by decide +kernel, rfl, by decide +kernel, by decide +kernel⟩
theorem ok_tenants {f : Addr} {fd : FuncData} (F : Fun K "tenants" "tenants" sTenants f fd) (dc : DC K C) (T : Nm mg) (nt : mg "tuple" = none) (mN : ∃ t, mg "NOBODY" = some (.str "house" t)) : FnOk P w K mg base CX0 1 f fd ["name", "draft"] (spTen C) := by
  obtain ⟨tN, mN⟩ := mN
  refine F.ok scTenants (fun vs H Q E h => ?_) (fun cdv A outer s H vs Q E hr h => ?_)
  · obtain ⟨d, lp, lt, ls, L, x, rfl, _⟩ := h
    rfl
  · obtain ⟨d, lp, lt, ls, L, x, rfl, hd, sm, gd, q⟩ := h
    refine ⟨_, pss_cons (ps_set (i := 2) scTenants.nd rfl (.inl rfl) (pe_op op_rep (pe_lst (pa_cons (pe_glob (v := .str "house") (by rfl) mN ⟨_, rfl⟩) pa_nil)) (pe_fld (pv 1) rfl)))
      (pss_cons (ps_for (g := gTup K 4 (gCons (gName 3) (gCons (gName 4) (gCons (gName 5) (gCons (gName 6) gNil))))) PassesOwn.never rfl (pi_list (pe_fld (pv 1) rfl))
        (pg_tup rfl (pgs_cons (pg_name (i := 3) scTenants.nd rfl (.inl rfl)) (pgs_cons (pg_name (i := 4) scTenants.nd rfl (.inl rfl)) (pgs_cons (pg_name (i := 5) scTenants.nd rfl (.inl rfl)) (pgs_cons (pg_name (i := 6) scTenants.nd rfl (.inl rfl)) pgs_nil)))))
        (pss_one (ps_if (pt_cmpR op_eq (pv 4) (pv 0) (nomark _)) (pss_one (ps_for PassesOwn.never rfl (pi_range2 (by rfl) T.range (pa_cons (pv 5) (pa_cons (pv 6) pa_nil))) (pg_name (i := 7) scTenants.nd rfl (.inl rfl))
          (pss_one (ps_asg (pv 3) (pg_sub (pv 2) (pv 7) set_list))))) pss_nil)))
      (pss_one (ps_ret (pe_tupleOf (by rfl) nt (pv 2))))), ?_⟩
    obtain ⟨dx, ob⟩ := hd.ob
    obtain ⟨rs, hls, hrs⟩ := hd.st
    refine ⟨by decide, fun D nD => ⟨_, rfl, d, C, dx, _, _, rfl, same_upd nD _ _ ob, dc.cl, dc.nD, dfs_days _ _ _ _, ?_⟩⟩
    have e1 := same_upd (o := .lst [V.str "house"]) nD
    refine ⟨D, (L.days : Int), _, rfl, rfl, upd_same, by omega, by have := gd.d; omega, ?_, fun r nr => ?_⟩
    · have := gd.d
      exact Nat.le_trans (show 1 * L.days ≤ 14 by omega) (by decide)
    rw [show ((L.days : Int)).toNat = L.days from rfl, rep_row L.days V.str ("house" : Str)]
    have nrH : H r = none := (none_of nr).2
    have e2 := e1.trans (same_upd (o := .lst (row L.days V.str fun _ => ("house" : Str))) nr)
    refine ⟨_, rfl, d, C, dx, _, _, rfl, e2 _ _ ob, dc.cl, dc.nS, dfs_st _ _ _ _, ls, rfl, ⟨_, SqL.of (e2 _ _ hls)⟩, ?_⟩
    refine for_it (walk_list (xs := rs.map V.ref)) (fun i σ H' => ∃ s3 s4 s5 s6 s7, σ = [some (.str x), some (.ref d), some (.ref r), s3, s4, s5, s6, s7] ∧ Same H H' ∧ H' r = some (.lst (row L.days V.str (tenD (L.stays.take i) x)))) ?_ ?_ ?_ ?_
    · exact ⟨_, _, _, _, _, rfl, e2, upd_same⟩
    · rintro i σ H' _ ⟨_, _, _, _, _, _, es, _⟩
      exact SqL.of (es _ _ hls)
    · rintro i v σ H1 H2 hi ⟨s3, s4, s5, s6, s7, rfl, es, hr⟩ ⟨rfl, hv⟩
      obtain ⟨p, s, rfl, hp', hs, ho⟩ := hrs.at hv
      obtain ⟨g1, g2⟩ := gd.st s (List.mem_of_getElem? hs)
      have gd14 := gd.d
      refine ⟨p, _, rfl, SqT.of (es _ _ ho), rfl, _, _, rfl, _, _, rfl, _, _, rfl, _, _, rfl, rfl, ?_⟩
      refine ⟨_, rfl, _, rfl, rfl, _, rfl, ?_⟩
      rw [str_eq]
      cases c : decide (s.pl = x) with
      | false =>
        refine iteF ⟨_, _, _, _, _, rfl, es, ?_⟩
        have c' := of_decide_eq_false c
        rw [hr]
        congr 2
        unfold row
        apply List.map_congr_left
        intro k _
        rw [tenD_step hs, if_neg (fun z => c' z.1)]
      | true =>
        have c' := of_decide_eq_true c
        refine iteT ⟨_, rfl, _, rfl, (s.a : Int), (s.b : Int), rfl, ⟨by omega, by omega, by omega, by omega⟩, ?_⟩
        refine for_it walk_range (fun j σ H' => ∃ s7, σ = [some (.str x), some (.ref d), some (.ref r), some (.str s.who), some (.str s.pl), some (.int s.a), some (.int s.b), s7] ∧ Same H H' ∧ H' r = some (.lst (row L.days V.str fun k => if s.a ≤ k ∧ k < s.a + j then s.who else tenD (L.stays.take i) x k))) ?_ (fun _ _ _ _ _ => trivial) ?_ ?_
        · refine ⟨_, rfl, es, ?_⟩
          rw [hr]
          congr 2
          unfold row
          apply List.map_congr_left
          intro k _
          show V.str _ = V.str (if s.a ≤ k ∧ k < s.a + 0 then s.who else tenD (List.take i L.stays) x k)
          rw [if_neg (by omega)]
        · rintro j v σ H3 H4 hj ⟨s7, rfl, es3, hr3⟩ ⟨rfl, rfl⟩
          have hj' : s.a + j < L.days := by omega
          refine ⟨_, rfl, _, rfl, _, rfl, r, _, _, s.a + j, rfl, rfl, hr3, ?_, ?_⟩
          · rw [row_len, show (s.a : Int) + (j : Int) = ((s.a + j : Nat) : Int) by omega]
            exact ixN_of hj'
          · refine ⟨_, rfl, fun b u e => ?_, ?_⟩
            · rw [upd_ne (ne_of_none e nrH)]
              exact es3 _ _ e
            · rw [upd_same]
              congr 2
              refine row_set fun k => ?_
              by_cases c1 : k = s.a + j
              · rw [if_pos c1, if_pos (by omega)]
              · rw [if_neg c1]
                by_cases c2 : s.a ≤ k ∧ k < s.a + j
                · rw [if_pos c2, if_pos (by omega)]
                · rw [if_neg c2, if_neg (by omega)]
        · rintro σ H3 ⟨s7, rfl, es3, hr3⟩
          refine ⟨_, _, _, _, _, rfl, es3, ?_⟩
          rw [hr3]
          congr 2
          unfold row
          apply List.map_congr_left
          intro k _
          show V.str (if s.a ≤ k ∧ k < s.a + ((s.b : Int) - (s.a : Int)).toNat then s.who else tenD (List.take i L.stays) x k) = _
          rw [tenD_step hs, show s.a + ((s.b : Int) - (s.a : Int)).toNat = s.b by omega]
          by_cases c2 : s.a ≤ k ∧ k < s.b
          · rw [if_pos c2, if_pos ⟨c', c2⟩]
          · rw [if_neg c2, if_neg (fun z => c2 z.2)]
    · rintro σ H1 ⟨s3, s4, s5, s6, s7, rfl, es, hr⟩
      rw [show L.stays.take (rs.map V.ref).length = L.stays from by rw [List.length_map, hrs.1]; exact List.take_length] at hr
      refine ⟨_, rfl, .inl ⟨r, _, rfl, SqL.of hr, fun t nt => ?_⟩⟩
      refine q _ t (es.trans (same_upd nt)) ?_ upd_same
      cases ht : H t with
      | none => rfl
      | some u => rw [es _ _ ht] at nt; cases nt
end
end Hs
namespace Hs
open PySem PySem.Spec PyProof.Rows L2 Am
section
variable {P : Program} {w : World} {K : PySem.W.Frag} {mg : Str → Option Value} {base : Heap} {C : Addr}
theorem scPrices : FnScope ["draft", "row", "first", "number", "day"] ["draft"] (defScope sPricesOf) := ⟨rfl, rfl, rfl, by decide +kernel, rfl, by decide +kernel, by decide +kernel⟩
theorem ok_prices {f : Addr} {fd : FuncData} (F : Fun K "prices" "prices" sPricesOf f fd) (dc : DC K C) (T : Nm mg) (nt : mg "tuple" = none) (mF : ∃ i t, mg "FIRST_PRICE" = some (.int i t) ∧ i = 1) : FnOk P w K mg base CX0 1 f fd ["draft"] (spPri C) := by
  obtain ⟨_, tF, mF, rfl⟩ := mF
  refine F.ok scPrices (fun vs H Q E h => ?_) (fun cdv A outer s H vs Q E hr h => ?_)
  · obtain ⟨d, lp, lt, ls, L, rfl, _⟩ := h
    rfl
  · obtain ⟨d, lp, lt, ls, L, rfl, hd, sm, gd, q⟩ := h
    refine ⟨_, pss_cons (ps_set (i := 1) scPrices.nd rfl (.inl rfl) (pe_op op_rep (pe_lst (pa_cons (pe_glob (v := .int 1) (by rfl) mF ⟨_, rfl⟩) pa_nil)) (pe_fld (pv 0) rfl)))
      (pss_cons (ps_for (g := gTup K 2 (gCons (gName 2) (gCons (gName 3) gNil))) PassesOwn.never rfl (pi_list (pe_fld (pv 0) rfl))
        (pg_tup rfl (pgs_cons (pg_name (i := 2) scPrices.nd rfl (.inl rfl)) (pgs_cons (pg_name (i := 3) scPrices.nd rfl (.inl rfl)) pgs_nil)))
        (pss_one (ps_for PassesOwn.never rfl (pi_range2 (by rfl) T.range (pa_cons (pv 2) (pa_cons (pe_fld (pv 0) rfl) pa_nil))) (pg_name (i := 4) scPrices.nd rfl (.inl rfl))
          (pss_one (ps_asg (pv 3) (pg_sub (pv 1) (pv 4) set_list))))))
      (pss_one (ps_ret (pe_tupleOf (by rfl) nt (pv 1))))), ?_⟩
    obtain ⟨dx, ob⟩ := hd.ob
    obtain ⟨rs, hls, hrs⟩ := hd.pr
    refine ⟨by decide, fun D nD => ⟨_, rfl, d, C, dx, _, _, rfl, same_upd nD _ _ ob, dc.cl, dc.nD, dfs_days _ _ _ _, ?_⟩⟩
    have e1 := same_upd (o := .lst [V.int 1]) nD
    refine ⟨D, (L.days : Int), _, rfl, rfl, upd_same, by omega, by have := gd.d; omega, ?_, fun r nr => ?_⟩
    · have := gd.d
      exact Nat.le_trans (show 1 * L.days ≤ 14 by omega) (by decide)
    rw [show ((L.days : Int)).toNat = L.days from rfl, show (V.int 1) = (fun n : Nat => V.int n) 1 from rfl, rep_row L.days (fun n : Nat => V.int n) 1]
    have nrH : H r = none := (none_of nr).2
    have e2 := e1.trans (same_upd (o := .lst (row L.days (fun n : Nat => V.int n) fun _ => 1)) nr)
    refine ⟨_, rfl, d, C, dx, _, _, rfl, e2 _ _ ob, dc.cl, dc.nT, dfs_ta _ _ _ _, lt, rfl, ⟨_, SqL.of (e2 _ _ hls)⟩, ?_⟩
    refine for_it (walk_list (xs := rs.map V.ref)) (fun i σ H' => ∃ s3 s4 s5, σ = [some (.ref d), some (.ref r), s3, s4, s5] ∧ Same H H' ∧ H' r = some (.lst (row L.days (fun n : Nat => V.int n) (priD (L.prices.take i))))) ?_ ?_ ?_ ?_
    · exact ⟨_, _, _, rfl, e2, upd_same⟩
    · rintro i σ H' _ ⟨_, _, _, _, es, _⟩
      exact SqL.of (es _ _ hls)
    · rintro i v σ H1 H2 hi ⟨s3, s4, s5, rfl, es, hr⟩ ⟨rfl, hv⟩
      obtain ⟨p, s, rfl, hp', hs, ho⟩ := hrs.at hv
      have g1 := gd.pr s (List.mem_of_getElem? hs)
      have gd14 := gd.d
      refine ⟨p, _, rfl, SqT.of (es _ _ ho), rfl, _, _, rfl, _, _, rfl, rfl, ?_⟩
      refine ⟨_, rfl, _, rfl, d, C, dx, _, _, rfl, es _ _ ob, dc.cl, dc.nD, dfs_days _ _ _ _, (s.1 : Int), (L.days : Int), rfl, ⟨by omega, by omega, by omega, by omega⟩, ?_⟩
      refine for_it walk_range (fun j σ H' => ∃ s5, σ = [some (.ref d), some (.ref r), some (.int s.1), some (.int s.2), s5] ∧ Same H H' ∧ H' r = some (.lst (row L.days (fun n : Nat => V.int n) fun k => if s.1 ≤ k ∧ k < s.1 + j then s.2 else priD (L.prices.take i) k))) ?_ (fun _ _ _ _ _ => trivial) ?_ ?_
      · refine ⟨_, rfl, es, ?_⟩
        rw [hr]
        congr 2
        unfold row
        apply List.map_congr_left
        intro k _
        show V.int _ = V.int ((if s.1 ≤ k ∧ k < s.1 + 0 then s.2 else priD (L.prices.take i) k : Nat) : Int)
        rw [if_neg (by omega)]
      · rintro j v σ H3 H4 hj ⟨s5, rfl, es3, hr3⟩ ⟨rfl, rfl⟩
        have hj' : s.1 + j < L.days := by omega
        refine ⟨_, rfl, _, rfl, _, rfl, r, _, _, s.1 + j, rfl, rfl, hr3, ?_, ?_⟩
        · rw [row_len, show (s.1 : Int) + (j : Int) = ((s.1 + j : Nat) : Int) by omega]
          exact ixN_of hj'
        · refine ⟨_, rfl, fun b u e => ?_, ?_⟩
          · rw [upd_ne (ne_of_none e nrH)]
            exact es3 _ _ e
          · rw [upd_same]
            congr 2
            refine row_set (g := fun n : Nat => V.int n) fun k => ?_
            by_cases c1 : k = s.1 + j
            · rw [if_pos c1, if_pos (by omega)]
            · rw [if_neg c1]
              by_cases c2 : s.1 ≤ k ∧ k < s.1 + j
              · rw [if_pos c2, if_pos (by omega)]
              · rw [if_neg c2, if_neg (by omega)]
      · rintro σ H3 ⟨s5, rfl, es3, hr3⟩
        refine ⟨_, _, _, rfl, es3, ?_⟩
        rw [hr3]
        congr 2
        unfold row
        apply List.map_congr_left
        intro k hk
        have hk' : k < L.days := by simpa using hk
        show V.int ((if s.1 ≤ k ∧ k < s.1 + ((L.days : Int) - (s.1 : Int)).toNat then s.2 else priD (L.prices.take i) k : Nat) : Int) = V.int ((priD (L.prices.take (i + 1)) k : Nat) : Int)
        rw [priD_step hs, show s.1 + ((L.days : Int) - (s.1 : Int)).toNat = L.days by omega]
        by_cases c2 : s.1 ≤ k
        · rw [if_pos ⟨c2, hk'⟩, if_pos c2]
        · rw [if_neg (fun z => c2 z.1), if_neg c2]
    · rintro σ H1 ⟨s3, s4, s5, rfl, es, hr⟩
      rw [show L.prices.take (rs.map V.ref).length = L.prices from by rw [List.length_map, hrs.1]; exact List.take_length] at hr
      refine ⟨_, rfl, .inl ⟨r, _, rfl, SqL.of hr, fun t nt => ?_⟩⟩
      refine q _ t (es.trans (same_upd nt)) ?_ upd_same
      cases ht : H t with
      | none => rfl
      | some u => rw [es _ _ ht] at nt; cases nt
end
end Hs
/-! {k: v for x in ..} by a walk -/
namespace DCi
open PySem PySem.Spec PyProof.Rows L2
theorem dc_it {J : It} {n : Nat} {G : Hp → Prop} {Y : Nat → Hp → V → Hp → Prop} (hw : Walk J n G Y) {g : TG} {tt : TT} {tk tv : TE} {vs : List Nat} {σ : L2.St} {H1 : Hp} {D : Addr} {Qd : Hp → Prop} (Pv : Nat → Hp → Prop)
    (h0 : Pv 0 (upd H1 D (HO.dK []))) (hG : ∀ (i : Nat) (H : Hp), i ≤ n → Pv i H → G H)
    (hs : ∀ (i : Nat) (x : V) (H H' : Hp), i < n → Pv i H → Y i H x H' →
      g x (wipe σ vs) H' fun σ2 H2 => wipe σ2 vs = wipe σ vs ∧ tt σ2 H2 fun b H3 =>
        if b = true then tk σ2 H3 fun y H4 => tv σ2 H4 fun z H5 => ∃ kvs k, y = kV k ∧ H5 D = some (HO.dK kvs) ∧ kvs.length < sizeLine ∧ Pv (i + 1) (upd H5 D (HO.dK (putK kvs k z))) else Pv (i + 1) H3)
    (hq : ∀ (H : Hp), Pv n H → Qd H) :
    ∃ W : Nat → Nat → Hp → Prop, (∃ m, W 0 m (upd H1 D (HO.dK []))) ∧ ∀ (i m : Nat) (H : Hp), W i m H → (J.stop i H ∧ Qd H) ∨ (J.go i H ∧ ∃ Nx : Hp → Prop, (∀ (H' : Hp), Nx H' → ∃ m', m' < m ∧ W (i + 1) m' H') ∧
      ∀ (x : V) (H' : Hp), J.yld i H x H' → g x (wipe σ vs) H' fun σ2 H2 => wipe σ2 vs = wipe σ vs ∧ tt σ2 H2 fun b H3 =>
        if b = true then tk σ2 H3 fun y H4 => tv σ2 H4 fun z H5 => ∃ kvs k, y = kV k ∧ H5 D = some (HO.dK kvs) ∧ kvs.length < sizeLine ∧ Nx (upd H5 D (HO.dK (putK kvs k z))) else Nx H3) := by
  refine ⟨fun i m H => i ≤ n ∧ m = n - i ∧ Pv i H, ⟨_, Nat.zero_le _, rfl, h0⟩, ?_⟩
  rintro i m H ⟨hi, rfl, hp⟩
  by_cases c : i = n
  · subst c
    exact .inl ⟨hw.stops H (hG _ _ hi hp), hq H hp⟩
  · have lt : i < n := by omega
    refine .inr ⟨hw.goes i H lt (hG _ _ hi hp), Pv (i + 1), fun H' h => ⟨_, by omega, by omega, rfl, h⟩, fun x H' hy => hs i x H H' lt hp (hw.yields i H x H' lt (hG _ _ hi hp) hy)⟩
theorem ps_setDc {X : Cx} {i : Nat} {y : Str} {py : Pos} {kx vx tg iter : Expr} {ifs : List Expr} {scope : Scope} {own : List (Str × Nat)} {pos spos : Pos} {wi : TI} {g : TG} {tt : TT} {tk tv : TE}
    (hc : X.calm = true) (hN : X.N.Nodup) (hy : X.N[i]? = some y) (hyl : X.env.scope.names.lookup y = some .local)
    (hsw : swapsWith (kx.DictComp vx [{ target := tg, iter := iter, ifs := ifs, is_async := 0 }] scope pos) (some (Expr.Name y py)) spos.line X.env = pure true)
    (hi : PI X tg iter wi) (ok : BlkOk X.N X.env.scope scope own)
    (hg : ∀ (s : Shared) (H : Hp) (C : Addr) (cl : List (Str × Addr)) (fp : List Addr), PG (X.blk s H scope (compEnvC scope cl C X.env) fp) tg g)
    (ht : ∀ (s : Shared) (H : Hp) (C : Addr) (cl : List (Str × Addr)) (fp : List Addr), PTs (X.blk s H scope (compEnvC scope cl C X.env) fp) ifs tt)
    (hk : ∀ (s : Shared) (H : Hp) (C : Addr) (cl : List (Str × Addr)) (fp : List Addr), PE (X.blk s H scope (compEnvC scope cl C X.env) fp) kx tk)
    (he : ∀ (s : Shared) (H : Hp) (C : Addr) (cl : List (Str × Addr)) (fp : List Addr), PE (X.blk s H scope (compEnvC scope cl C X.env) fp) vx tv)
    (hs : ∀ (x : Value), foldedSetIterable iter X.env x = pure x := by intro _; rfl) :
    PS X (Stmt.Assign [Expr.Name y py] (kx.DictComp vx [{ target := tg, iter := iter, ifs := ifs, is_async := 0 }] scope pos) spos) (tAsg (tDc wi g tt tk tv (List.map (fun x => x.snd) own)) (gName i)) := by
  refine ⟨fun pins s σ H D I h => ?_⟩
  rw [exec_Assign_Name_used y py _ spos hsw]
  refine wpAny_bind (wpAny_standAt (wpAny_bind ?_))
  refine wpAny_bind (thn (dc_core hc hN I hi ok hg ht hk he hs h ?_) fun x s' hq => wpAny_pure (wpAny_pure hq))
  intro L C s' m H' I' q hn f
  show wpAny _ _ _ _ _ _
  refine wpAny_assign_Name (store_ok2 (v := V.ref L) I' hN hy (Or.inl hyl) rfl (fun s2 I2 x => ?_) (Or.inr hyl))
  obtain ⟨a, sb, ha⟩ := x
  obtain ⟨f0, f1, f2, f3, f4, f5⟩ := f
  have haC : C ≠ a := by
    rcases ha with z | z
    · rw [z]; exact f1
    · exact fun e => f4 y a z e.symm
  exact ⟨m, hn.sameBut sb haC, fun h3 sb3 => ⟨List.set σ i (some (V.ref L)), H', I2.turned (fun b o hb e => (sb3.right b hb).trans e) f0 f1 f3 f4 f5, q⟩⟩
end DCi
/-! texts, ascending, each once -/
namespace Hs
open PySem PySem.Spec PyProof.Rows L2 Am
def ltS (a b : Str) : Prop := a.cps.toList < b.cps.toList
theorem ltS_trans {a b c : Str} (h : ltS a b) (k : ltS b c) : ltS a c := List.lt_trans h k
theorem ltS_irrefl (a : Str) : ¬ ltS a a := List.lt_irrefl _
theorem ltS_of {a b : Str} (h : ¬ ltS b a) (n : a ≠ b) : ltS a b := by
  by_cases c : ltS a b
  · exact c
  · exact absurd (SL.ext (List.le_antisymm (List.not_lt.mp h) (List.not_lt.mp c))) n
theorem rising_pw : ∀ (r : List Str) (x : Str), risingS x r = true → (x :: r).Nodup → (x :: r).Pairwise ltS
  | [], x, _, _ => by simp
  | y :: r, x, h, n => by
    have h' : (!(ltCps y.cps.toList x.cps.toList) && risingS y r) = true := h
    rw [Bool.and_eq_true] at h'
    obtain ⟨a, b⟩ := h'
    rw [List.nodup_cons] at n
    have ih := rising_pw r y b n.2
    have lt : ltS x y := by
      refine ltS_of (fun z => ?_) (fun z => n.1 (by rw [z]; simp))
      rw [ltCps_eq] at a
      have : decide (y.cps.toList < x.cps.toList) = true := decide_eq_true z
      rw [this] at a
      cases a
    refine List.pairwise_cons.mpr ⟨fun z hz => ?_, ih⟩
    rcases List.mem_cons.mp hz with rfl | hz
    · exact lt
    · exact ltS_trans lt ((List.pairwise_cons.mp ih).1 z hz)
theorem sorted_pw {ys : List Str} (h : sortedS ys = true) (n : ys.Nodup) : ys.Pairwise ltS := by
  cases ys with
  | nil => simp
  | cons x r => exact rising_pw r x h n
/-- xs, ascending, each once -/
structure AscOf (xs ys : List Str) : Prop where
  pw : ys.Pairwise ltS
  mem : ∀ n, n ∈ ys ↔ n ∈ xs
theorem asc_unique : ∀ {ys zs : List Str}, ys.Pairwise ltS → zs.Pairwise ltS → (∀ n, n ∈ ys ↔ n ∈ zs) → ys = zs
  | [], [], _, _, _ => rfl
  | [], z :: zs, _, _, h => absurd ((h z).mpr (by simp)) (by simp)
  | y :: ys, [], _, _, h => absurd ((h y).mp (by simp)) (by simp)
  | y :: ys, z :: zs, p, q, h => by
    obtain ⟨p1, p2⟩ := List.pairwise_cons.mp p
    obtain ⟨q1, q2⟩ := List.pairwise_cons.mp q
    have e : y = z := by
      rcases List.mem_cons.mp ((h y).mp (by simp)) with a | a
      · exact a
      · rcases List.mem_cons.mp ((h z).mpr (by simp)) with b | b
        · exact b.symm
        · exact absurd (ltS_trans (q1 y a) (p1 z b)) (ltS_irrefl _)
    subst e
    refine congrArg (y :: ·) (asc_unique p2 q2 fun n => ⟨fun hn => ?_, fun hn => ?_⟩)
    · rcases List.mem_cons.mp ((h n).mp (by simp [hn])) with a | a
      · exact absurd (by rw [a] at hn; exact p1 y hn) (ltS_irrefl _)
      · exact a
    · rcases List.mem_cons.mp ((h n).mpr (by simp [hn])) with a | a
      · exact absurd (by rw [a] at hn; exact q1 y hn) (ltS_irrefl _)
      · exact a
theorem AscOf.unique {xs ys zs : List Str} (a : AscOf xs ys) (b : AscOf xs zs) : ys = zs := asc_unique a.pw b.pw fun n => (a.mem n).trans (b.mem n).symm
/-- the keys, in the sequence of their first -/
def keysOf (xs : List Str) : List Str := xs.foldl (fun acc x => if x ∈ acc then acc else acc ++ [x]) []
theorem keys_snoc (xs : List Str) (x : Str) : keysOf (xs ++ [x]) = if x ∈ keysOf xs then keysOf xs else keysOf xs ++ [x] := by
  unfold keysOf
  rw [List.foldl_append]
  rfl
theorem keys_all : ∀ (k : Nat) (xs : List Str), xs.length = k → (keysOf xs).Nodup ∧ (keysOf xs).length ≤ xs.length ∧ ∀ n, n ∈ keysOf xs ↔ n ∈ xs := by
  intro k
  induction k with
  | zero => intro xs h; rw [List.eq_nil_of_length_eq_zero h]; exact ⟨by simp [keysOf], by simp [keysOf], fun n => Iff.rfl⟩
  | succ k ih =>
    intro xs h
    rcases List.eq_nil_or_concat xs with rfl | ⟨ys, y, rfl⟩
    · exact ⟨by simp [keysOf], by simp [keysOf], fun n => Iff.rfl⟩
    rw [List.concat_eq_append] at h ⊢
    have h' : ys.length = k := by simpa using h
    rw [keys_snoc]
    obtain ⟨i1, i2, i3⟩ := ih ys h'
    by_cases c : y ∈ keysOf ys
    · rw [if_pos c]
      refine ⟨i1, by simp; omega, fun n => ?_⟩
      rw [i3, List.mem_append, List.mem_singleton]
      exact ⟨.inl, fun z => z.elim id fun e => by rw [e]; exact (i3 y).mp c⟩
    · rw [if_neg c]
      refine ⟨?_, by simp; omega, fun n => ?_⟩
      · rw [List.nodup_append]
        refine ⟨i1, by simp, fun a ha b hb e => ?_⟩
        rw [List.mem_singleton.mp hb] at e
        exact c (e ▸ ha)
      · rw [List.mem_append, List.mem_append, i3]
def kd (ks : List Str) : List (Key × V) := ks.map fun k => (.inr k, .bl true)
theorem putK_kd (ks : List Str) (x : Str) : putK (kd ks) (.inr x : Key) (.bl true) = kd (if x ∈ ks then ks else ks ++ [x]) := by
  unfold putK
  have e : ((kd ks).any fun kv => decide (kv.1 = (.inr x : Key))) = decide (x ∈ ks) := by
    unfold kd
    rw [List.any_map]
    rw [Bool.eq_iff_iff, List.any_eq_true, decide_eq_true_iff]
    constructor
    · rintro ⟨y, hy, h⟩
      have := of_decide_eq_true h
      cases this
      exact hy
    · intro h
      exact ⟨x, h, decide_eq_true rfl⟩
  rw [e]
  by_cases c : x ∈ ks
  · rw [decide_eq_true c, if_pos rfl, if_pos c]
    unfold kd
    rw [List.map_map]
    apply List.map_congr_left
    intro k _
    show (if (Sum.inr k : Key) = Sum.inr x then _ else _) = _
    by_cases z : (Sum.inr k : Key) = Sum.inr x
    · rw [if_pos z]
    · rw [if_neg z]
  · rw [decide_eq_false c, if_neg (by decide), if_neg c]
    unfold kd
    rw [List.map_append]
    rfl
def spAsc : Sp := fun vs H Q _ => ∃ (a : Addr) (xs : List Str), vs = [.ref a] ∧ H a = some (.lst (xs.map V.str)) ∧ xs.length ≤ 60 ∧
  ∀ H' t ys, Same H H' → H t = none → H' t = some (.tup (ys.map V.str)) → AscOf xs ys → Q (.ref t) H'
section
variable {P : Program} {w : World} {K : PySem.W.Frag} {mg : Str → Option Value} {base : Heap} {C : Addr}
theorem scAsc : FnScope ["words", "kept", "word"] ["words"] (defScope sAsc) := ⟨rfl, rfl, rfl, by decide +kernel, rfl, by decide +kernel, by decide +kernel⟩
theorem ok_asc {f : Addr} {fd : FuncData} (F : Fun K "ascending" "ascending" sAsc f fd) (nt : mg "tuple" = none) (ns : mg "sorted" = none) (nst : mg "str" = none) : FnOk P w K mg base CX0 1 f fd ["words"] spAsc := by
  refine F.ok scAsc (fun vs H Q E h => ?_) (fun cdv A outer s H vs Q E hr h => ?_)
  · obtain ⟨a, xs, rfl, _⟩ := h
    rfl
  · obtain ⟨a, xs, rfl, ha, hl, q⟩ := h
    have b_str : bootBuiltins "str" = some (.type "str") := by decide +kernel
    have b_sorted : bootBuiltins "sorted" = some (.builtin "sorted") := by decide +kernel
    refine ⟨_, pss_cons (DCi.ps_setDc (i := 1) (own := [("word", 2)]) (g := gName 2) (tt := tYes) rfl scAsc.nd rfl rfl rfl (pi_list (pv 0)) (blkOk_by (N := ["words", "kept", "word"]) (sc := defScope sAsc) (by decide +kernel))
        (fun _ _ _ _ _ => pg_name (i := 2) scAsc.nd rfl (Or.inl rfl)) (fun _ _ _ _ _ => pts_nil) (fun _ _ _ _ _ => pv 2) (fun _ _ _ _ _ => pe_bl))
      (pss_one (ps_ret (pe_tupleOf (by rfl) nt (pe_callB cr_sortedS (by rfl) ns b_sorted (pa_cons (pe_lock (pe_lc (own := [("word", 2)]) (g := gName 2) (tt := tYes) rfl scAsc.nd (pi_keys (pv 1)) (blkOk_by (N := ["words", "kept", "word"]) (sc := defScope sAsc) (by decide +kernel))
        (fun _ _ _ _ _ => pg_name (i := 2) scAsc.nd rfl (Or.inl rfl)) (fun _ _ _ _ _ => pts_nil) (fun _ _ _ _ _ => pe_callTy SkE.call_str_str (by rfl) nst b_str (pa_cons (pv 2) pa_nil)))) pa_nil))))), ?_⟩
    refine ⟨_, rfl, a, rfl, ⟨_, SqL.of ha⟩, fun D nD => ?_⟩
    refine DCi.dc_it (walk_list (xs := xs.map V.str)) (fun i H' => Same H H' ∧ H' D = some (.dK (kd (keysOf (xs.take i))))) ?_ (fun i H' _ h => SqL.of (h.1 _ _ ha)) ?_ ?_
    · exact ⟨same_upd nD, by rw [upd_same]; rfl⟩
    · rintro i v H1 H2 hi ⟨es, hD⟩ ⟨rfl, hv⟩
      have hi' : i < xs.length := by simpa using hi
      rw [List.getElem?_map, List.getElem?_eq_getElem hi'] at hv
      obtain rfl : V.str xs[i] = v := Option.some.inj hv
      refine ⟨rfl, ?_⟩
      unfold tYes
      refine iteT ⟨_, rfl, _, .inr xs[i], rfl, hD, ?_, ?_, ?_⟩
      · have := (keys_all _ (xs.take i) rfl).2.1
        rw [List.length_take] at this
        unfold kd
        rw [List.length_map]
        exact Nat.lt_of_le_of_lt (Nat.le_trans this (Nat.le_trans (Nat.min_le_right _ _) hl)) (by decide)
      · intro b u e
        rw [upd_ne (ne_of_none e nD)]
        exact es _ _ e
      · rw [upd_same, putK_kd, List.take_add_one, List.getElem?_eq_getElem hi', show (some xs[i]).toList = [xs[i]] from rfl, keys_snoc]
    · rintro H1 ⟨es, hD⟩
      rw [show xs.take (xs.map V.str).length = xs from by rw [List.length_map]; exact List.take_length] at hD
      obtain ⟨kn, klen, kmem⟩ := keys_all _ xs rfl
      refine ⟨D, _, hD, trivial, fun od => ?_⟩
      have nDH : H D = none := nD
      have e1 : Same H (upd H1 D (.frz od (.dK (kd (keysOf xs))))) := fun b u e => by
        rw [upd_ne (ne_of_none e nDH)]
        exact es _ _ e
      refine ⟨_, rfl, D, od, rfl, .inl ⟨_, upd_same, fun D2 nD2 => ?_⟩⟩
      refine lc_it walk_keys (Pv := Tk (upd H1 D (.frz od (.dK (kd (keysOf xs))))) D2 ((keysOf xs).map V.str)) (Tk.start nD2) (fun i H' _ h => h.1 _ _ upd_same) ?_ ?_
      · rintro i v H2 H3 hi hk ⟨rfl, k, vv, hkv, rfl⟩
        have hi' : i < (keysOf xs).length := by unfold kd at hi; simpa using hi
        unfold kd at hkv
        rw [List.getElem?_map, List.getElem?_eq_getElem hi'] at hkv
        cases hkv
        refine ⟨rfl, ?_⟩
        unfold tYes
        refine iteT ⟨_, rfl, _, rfl, ?_⟩
        exact hk.step nD2 (Same.refl _) (by rw [List.getElem?_map, List.getElem?_eq_getElem hi']; rfl) (by rw [List.length_map]; omega)
      · rintro H2 hk
        have hD2 := hk.done (by unfold kd; rw [List.length_map, List.length_map])
        have nDD : D2 ≠ D := fun z => by rw [z, upd_same] at nD2; cases nD2
        refine ⟨hk.1 _ _ upd_same, D2, keysOf xs, rfl, SqL.of (by rw [upd_ne nDD]; exact hD2), by omega, fun ys p hp hs np => .inl ⟨p, _, rfl, SqL.of upd_same, fun t nt => ?_⟩⟩
        have e2 : Same H (upd H2 D (.dK (kd (keysOf xs)))) := fun b u e => by
          rw [upd_ne (ne_of_none e nDH)]
          exact hk.1 _ _ (e1 _ _ e)
        have e3 := e2.trans (same_upd (o := .lst (ys.map V.str)) np)
        have e4 := e3.trans (same_upd (o := .tup (ys.map V.str)) nt)
        refine q _ t ys e4 ?_ upd_same ⟨sorted_pw hs (hp.nodup_iff.mpr kn), fun n => (hp.mem_iff).trans (kmem n)⟩
        cases ht : H t with
        | none => rfl
        | some u => rw [e3 _ _ ht] at nt; cases nt
end
end Hs
/-! the house -/
namespace Hs
open PySem PySem.Spec PyProof.Rows L2 Am
structure Sound (L : Lore) : Prop where
  z : L.days = 0 → L.places = [] ∧ L.prices = [] ∧ L.stays = []
  g : Good L
  n : (L.places.map (·.name)).Nodup
  s : Small L
theorem hasP_mem {L : Lore} {x : Str} : hasP L x = true ↔ x ∈ L.places.map (·.name) := by
  unfold hasP
  rw [List.any_eq_true, List.mem_map]
  exact ⟨fun ⟨p, a, b⟩ => ⟨p, a, of_decide_eq_true b⟩, fun ⟨p, a, b⟩ => ⟨p, a, decide_eq_true b⟩⟩
theorem hasF_ne {L : Lore} (h : hasF L = true) : L.places ≠ [] := fun z => by
  unfold hasF at h
  rw [z] at h
  cases h
theorem Step.sound {L L' : Lore} {ln : Str} (h : Step L ln L') (s : Sound L) : Sound L' := by
  have sm := h.small s.s
  obtain ⟨z, ⟨g1, g2, g3⟩, n, _⟩ := s
  cases h with
  | days _ h0 _ _ hn =>
    obtain ⟨a, b, c⟩ := z h0
    refine ⟨fun e => ⟨a, b, c⟩, ⟨hn.2, fun s hs => ?_, fun p hp => ?_⟩, n, sm⟩
    · rw [show L.stays = [] from c] at hs; cases hs
    · rw [show L.prices = [] from b] at hp; cases hp
  | @place x r m inner _ h0 p0 s0 _ _ _ hp _ _ _ _ =>
    refine ⟨fun e => absurd e h0, ⟨g1, g2, g3⟩, ?_, sm⟩
    rw [List.map_append, List.nodup_append]
    refine ⟨n, by simp, fun a ha b hb e => ?_⟩
    simp at hb
    rw [← e] at hb
    have : hasP L x = true := hasP_mem.mpr (hb ▸ ha)
    rw [hp] at this
    cases this
  | @price x y a m _ hf s0 _ _ _ _ _ hl ha hn =>
    refine ⟨fun e => absurd (z e).1 (hasF_ne hf), ⟨g1, g2, fun p hp => ?_⟩, n, sm⟩
    rcases List.mem_append.mp hp with hp | hp
    · exact g3 p hp
    · rw [List.mem_singleton.mp hp]
      exact ha
  | @stay x y u v a b _ hf l8 _ _ _ _ _ _ _ _ hab hb _ =>
    refine ⟨fun e => absurd (z e).1 (hasF_ne hf), ⟨g1, fun s hs => ?_, g3⟩, n, sm⟩
    rcases List.mem_append.mp hs with hs | hs
    · exact g2 s hs
    · rw [List.mem_singleton.mp hs]
      exact ⟨hab, hb⟩
theorem L0_sound : Sound L0 := ⟨fun _ => ⟨rfl, rfl, rfl⟩, ⟨by decide, fun _ h => absurd h List.not_mem_nil, fun _ h => absurd h List.not_mem_nil⟩, by decide, L0_small⟩
theorem Steps.sound {L L' : Lore} {ls : List Str} (h : Steps L ls L') : Sound L → Sound L' := by
  induction h with
  | nil => exact id
  | cons s _ ih => exact fun h => ih (s.sound h)
theorem Told.sound {x : Str} {L : Lore} (h : Told x L) : Sound L := h.st.sound L0_sound
def metersOf (L : Lore) : List Str := "main" :: (L.places.filter (·.inner)).map (·.name)
def hfs (x : Str) (n : Nat) (a b c r t p : Addr) : List (Str × V) := putF "_prices" (.ref p) (putF "_tenants" (.ref t) (putF "_rooms" (.ref r) (putF "people" (.ref c) (putF "meters" (.ref b) (putF "flats" (.ref a) (putF "days" (.int n) (putF "_text" (.str x) [])))))))
theorem hfs_none {f : Str} (x : Str) (n : Nat) (a b c r t p : Addr) (h : f ∉ [("_prices" : Str), "_tenants", "_rooms", "people", "meters", "flats", "days", "_text"]) : (hfs x n a b c r t p).lookup f = none := by
  simp only [List.mem_cons, not_or] at h
  obtain ⟨h1, h2, h3, h4, h5, h6, h7, h8, _⟩ := h
  unfold hfs
  simp only [lookup_putF, if_neg h1, if_neg h2, if_neg h3, if_neg h4, if_neg h5, if_neg h6, if_neg h7, if_neg h8]
  rfl
section
variable (x : Str) (n : Nat) (a b c r t p : Addr)
theorem hfs_pr : (hfs x n a b c r t p).lookup ("_prices" : Str) = some (.ref p) := by unfold hfs; rw [lookup_putF, if_pos rfl]
theorem hfs_te : (hfs x n a b c r t p).lookup ("_tenants" : Str) = some (.ref t) := by unfold hfs; rw [lookup_putF, if_neg (by decide +kernel), lookup_putF, if_pos rfl]
theorem hfs_ro : (hfs x n a b c r t p).lookup ("_rooms" : Str) = some (.ref r) := by unfold hfs; rw [lookup_putF, if_neg (by decide +kernel), lookup_putF, if_neg (by decide +kernel), lookup_putF, if_pos rfl]
theorem hfs_pe : (hfs x n a b c r t p).lookup ("people" : Str) = some (.ref c) := by unfold hfs; rw [lookup_putF, if_neg (by decide +kernel), lookup_putF, if_neg (by decide +kernel), lookup_putF, if_neg (by decide +kernel), lookup_putF, if_pos rfl]
theorem hfs_me : (hfs x n a b c r t p).lookup ("meters" : Str) = some (.ref b) := by unfold hfs; rw [lookup_putF, if_neg (by decide +kernel), lookup_putF, if_neg (by decide +kernel), lookup_putF, if_neg (by decide +kernel), lookup_putF, if_neg (by decide +kernel), lookup_putF, if_pos rfl]
theorem hfs_fl : (hfs x n a b c r t p).lookup ("flats" : Str) = some (.ref a) := by unfold hfs; rw [lookup_putF, if_neg (by decide +kernel), lookup_putF, if_neg (by decide +kernel), lookup_putF, if_neg (by decide +kernel), lookup_putF, if_neg (by decide +kernel), lookup_putF, if_neg (by decide +kernel), lookup_putF, if_pos rfl]
theorem hfs_da : (hfs x n a b c r t p).lookup ("days" : Str) = some (.int n) := by unfold hfs; rw [lookup_putF, if_neg (by decide +kernel), lookup_putF, if_neg (by decide +kernel), lookup_putF, if_neg (by decide +kernel), lookup_putF, if_neg (by decide +kernel), lookup_putF, if_neg (by decide +kernel), lookup_putF, if_neg (by decide +kernel), lookup_putF, if_pos rfl]
theorem hfs_tx : (hfs x n a b c r t p).lookup ("_text" : Str) = some (.str x) := by unfold hfs; rw [lookup_putF, if_neg (by decide +kernel), lookup_putF, if_neg (by decide +kernel), lookup_putF, if_neg (by decide +kernel), lookup_putF, if_neg (by decide +kernel), lookup_putF, if_neg (by decide +kernel), lookup_putF, if_neg (by decide +kernel), lookup_putF, if_neg (by decide +kernel), lookup_putF, if_pos rfl]
end
/-- a house, and all that hangs on it -/
def HouseAt (C : Addr) (H : Hp) (h : Addr) (x : Str) (L : Lore) : Prop := ∃ (dx a b c r t p : Addr) (rs ts : List Addr) (ys : List Str), H h = some (.ins C dx (hfs x L.days a b c r t p)) ∧
  H a = some (.tup (rs.map V.ref)) ∧ Refs plO H rs L.places ∧ H b = some (.tup ((metersOf L).map V.str)) ∧ H c = some (.tup (ys.map V.str)) ∧ AscOf ("house" :: L.stays.map (·.who)) ys ∧
  H r = some (.dK (L.places.map fun q => (.inr q.name, .int q.room))) ∧ H t = some (.dK ((L.places.zip ts).map fun q => ((.inr q.1.name : Key), V.ref q.2))) ∧ Refs (fun q : Pl => .tup (row L.days V.str (tenD L.stays q.name))) H ts L.places ∧
  H p = some (.tup (row L.days (fun n : Nat => V.int n) (priD L.prices)))
theorem HouseAt.same {C : Addr} {H H' : Hp} {h : Addr} {x : Str} {L : Lore} (k : HouseAt C H h x L) (e : Same H H') : HouseAt C H' h x L := by
  obtain ⟨dx, a, b, c, r, t, p, rs, ts, ys, h1, h2, h3, h4, h5, h6, h7, h8, h9, h10⟩ := k
  exact ⟨dx, a, b, c, r, t, p, rs, ts, ys, e _ _ h1, e _ _ h2, h3.same e, e _ _ h4, e _ _ h5, h6, e _ _ h7, e _ _ h8, h9.same e, e _ _ h10⟩
/-- what the class House must have -/
structure HoC (K : PySem.W.Frag) (C : Addr) : Prop where
  cl : Cls K C
  n1 : NoAttr K C "_text"
  n2 : NoAttr K C "days"
  n3 : NoAttr K C "flats"
  n4 : NoAttr K C "meters"
  n5 : NoAttr K C "people"
  n6 : NoAttr K C "_rooms"
  n7 : NoAttr K C "_tenants"
  n8 : NoAttr K C "_prices"
end Hs
namespace Hs
open PySem PySem.Spec PyProof.Rows L2 Am
section
variable {P : Program} {w : World} {K : PySem.W.Frag} {mg : Str → Option Value} {base : Heap} {C CD : Addr}
theorem putF_len (k : Str) (v : V) : ∀ fs : List (Str × V), (putF k v fs).length ≤ fs.length + 1
  | [] => by simp [putF]
  | (a, b) :: r => by
    have := putF_len k v r
    simp only [putF]
    by_cases c : a = k
    · rw [if_pos c]; simp
    · rw [if_neg c]; simp; omega
theorem past_ob {H H' : Hp} {h b C dx : Addr} {fs : List (Str × V)} {o : HO} (ob : H h = some (.ins C dx fs)) (fr : Fr [h] H H') (e : H b = some o) (ho : ∀ C dx fs, o ≠ .ins C dx fs) : H' b = some o :=
  fr _ _ e (fun z => by rw [List.mem_singleton.mp z, ob] at e; exact ho _ _ _ (Option.some.inj e).symm)
theorem past_refs {α : Type} {f : α → HO} {H H' : Hp} {h C dx : Addr} {fs : List (Str × V)} {rs : List Addr} {xs : List α} (ob : H h = some (.ins C dx fs)) (fr : Fr [h] H H') (k : Refs f H rs xs) (ho : ∀ x C dx fs, f x ≠ .ins C dx fs) : Refs f H' rs xs :=
  ⟨k.1, fun i r y a b => past_ob ob fr (k.2 i r y a b) (ho y)⟩
theorem past_draft {H H' : Hp} {h C dx d lp lt ls : Addr} {fs : List (Str × V)} {L : Lore} (ob : H h = some (.ins C dx fs)) (fr : Fr [h] H H') (nd : d ≠ h) (k : DraftAt CD H d lp lt ls L) : DraftAt CD H' d lp lt ls L := by
  obtain ⟨⟨dy, a⟩, ⟨r1, b1, b2⟩, ⟨r2, c1, c2⟩, ⟨r3, d1, d2⟩, n1, n2, n3⟩ := k
  refine ⟨⟨dy, fr _ _ a (by simpa using nd)⟩, ⟨r1, past_ob ob fr b1 (fun _ _ _ z => by cases z), past_refs ob fr b2 (fun x _ _ _ z => by unfold plO at z; cases z)⟩,
    ⟨r2, past_ob ob fr c1 (fun _ _ _ z => by cases z), past_refs ob fr c2 (fun x _ _ _ z => by unfold prO at z; cases z)⟩,
    ⟨r3, past_ob ob fr d1 (fun _ _ _ z => by cases z), past_refs ob fr d2 (fun x _ _ _ z => by unfold stO at z; cases z)⟩, n1, n2, n3⟩
theorem Fr.tr {ms : List Addr} {H H1 H2 : Hp} (a : Fr ms H H1) (b : Same H1 H2) : Fr ms H H2 := fun c u e n => b c u (a c u e n)
theorem putK_new {kvs : List (Key × V)} {k : Key} {v : V} (h : ∀ kv ∈ kvs, kv.1 ≠ k) : putK kvs k v = kvs ++ [(k, v)] := by
  unfold putK
  rw [if_neg]
  rw [List.any_eq_true]
  rintro ⟨kv, a, b⟩
  exact h kv a (of_decide_eq_true b)
theorem lock_draft {H H' : Hp} {r d lp lt ls : Addr} {kvs : List (Key × V)} {L : Lore} (hr : H r = some (.dK kvs)) (fr : Fr [r] H H') (k : DraftAt CD H d lp lt ls L) : DraftAt CD H' d lp lt ls L := by
  have no : ∀ {b : Addr} {o : HO}, H b = some o → (∀ kvs, o ≠ .dK kvs) → H' b = some o := fun e ho => fr _ _ e (fun z => by rw [List.mem_singleton.mp z, hr] at e; exact ho _ (Option.some.inj e).symm)
  obtain ⟨⟨dy, a⟩, ⟨r1, b1, b2⟩, ⟨r2, c1, c2⟩, ⟨r3, d1, d2⟩, n1, n2, n3⟩ := k
  exact ⟨⟨dy, no a (fun _ z => by cases z)⟩, ⟨r1, no b1 (fun _ z => by cases z), b2.1, fun i r y u v => no (b2.2 i r y u v) (fun _ z => by unfold plO at z; cases z)⟩,
    ⟨r2, no c1 (fun _ z => by cases z), c2.1, fun i r y u v => no (c2.2 i r y u v) (fun _ z => by unfold prO at z; cases z)⟩,
    ⟨r3, no d1 (fun _ z => by cases z), d2.1, fun i r y u v => no (d2.2 i r y u v) (fun _ z => by unfold stO at z; cases z)⟩, n1, n2, n3⟩
def spHInit (C : Addr) : Sp := fun vs H Q _ => ∃ (h dx : Addr) (x : Str) (L : Lore), vs = [.ref h, .str x] ∧ H h = some (.ins C dx []) ∧ Told x L ∧ ∀ H', Fr [h] H H' → HouseAt C H' h x L → Q .non H'
theorem scHInit : FnScope ["self", "text", "draft", "name", "room", "inner", "person", "place", "first", "behind"] ["self", "text"] (defScope sHInit) := ⟨rfl, rfl, rfl, by decide +kernel, rfl, by decide +kernel, by decide +kernel⟩
theorem ok_hInit {f : Addr} {fd : FuncData} (F : Fun K "__init__" "House.__init__" sHInit f fd) (hc : HoC K C) (dc : DC K CD) (T : Nm mg) (nt : mg "tuple" = none) (mN : ∃ t, mg "NOBODY" = some (.str "house" t))
    (GD : GotF P w K mg base "drafted" 4 ["text"] (spDrafted CD)) (GA : GotF P w K mg base "ascending" 1 ["words"] spAsc) (GT : GotF P w K mg base "tenants" 1 ["name", "draft"] (spTen CD)) (GP : GotF P w K mg base "prices" 1 ["draft"] (spPri CD)) :
    FnOk P w K mg base CX0 5 f fd ["self", "text"] (spHInit C) := by
  obtain ⟨tN, mN⟩ := mN
  obtain ⟨fD, fdD, GD, bD, mD, kD⟩ := GD
  obtain ⟨fA, fdA, GA, bA, mA, kA⟩ := GA
  obtain ⟨fT, fdT, GT, bT, mT, kT⟩ := GT
  obtain ⟨fP, fdP, GP, bP, mP, kP⟩ := GP
  refine F.ok scHInit (fun vs H Q E h => ?_) (fun cdv A outer s H vs Q E hr h => ?_)
  · obtain ⟨h, dx, x, L, rfl, _⟩ := h
    rfl
  · obtain ⟨h, dx, x, L, rfl, ob, td, q⟩ := h
    have hr1 : Room 1 _ := hr.mono (by decide)
    refine ⟨_, pss_cons (ps_set (i := 2) scHInit.nd rfl (.inr rfl) (pe_call GD hr (by rfl) mD kD bD .nil pass0 (pa_cons (pv 1) pa_nil)))
      (pss_cons (ps_fld (pv 0) (pv 1) rfl)
      (pss_cons (ps_fld (pv 0) (pe_fld (pv 2) rfl) rfl)
      (pss_cons (ps_fld (pv 0) (pe_tupleOf (by rfl) nt (pe_fld (pv 2) rfl)) rfl)
      (pss_cons (ps_fld (pv 0) (pe_tupleOf (by rfl) nt (pe_op op_cat (pe_lst (pa_cons pe_str pa_nil)) (pe_lc (own := [("name", 3), ("room", 4), ("inner", 5)]) (g := gTup K 3 (gCons (gName 3) (gCons (gName 4) (gCons (gName 5) gNil)))) rfl scHInit.nd (pi_list (pe_fld (pv 2) rfl))
        (blkOk_by (N := ["self", "text", "draft", "name", "room", "inner", "person", "place", "first", "behind"]) (sc := defScope sHInit) (by decide +kernel))
        (fun _ _ _ _ _ => pg_tup rfl (pgs_cons (pg_name (i := 3) scHInit.nd rfl (.inl rfl)) (pgs_cons (pg_name (i := 4) scHInit.nd rfl (.inl rfl)) (pgs_cons (pg_name (i := 5) scHInit.nd rfl (.inl rfl)) pgs_nil)))) (fun _ _ _ _ _ => pts_one (pt_val (pv 5)))
        (fun _ _ _ _ _ => pv 3)))) rfl)
      (pss_cons (ps_fld (pv 0) (pe_call GA hr1 (by rfl) mA kA bA .nil pass0 (pa_cons (pe_op op_cat (pe_lst (pa_cons (pe_glob (v := .str "house") (by rfl) mN ⟨_, rfl⟩) pa_nil)) (pe_lc (own := [("person", 6), ("place", 7), ("first", 8), ("behind", 9)]) (g := gTup K 4 (gCons (gName 6) (gCons (gName 7) (gCons (gName 8) (gCons (gName 9) gNil))))) (tt := tYes) rfl scHInit.nd (pi_list (pe_fld (pv 2) rfl))
        (blkOk_by (N := ["self", "text", "draft", "name", "room", "inner", "person", "place", "first", "behind"]) (sc := defScope sHInit) (by decide +kernel))
        (fun _ _ _ _ _ => pg_tup rfl (pgs_cons (pg_name (i := 6) scHInit.nd rfl (.inl rfl)) (pgs_cons (pg_name (i := 7) scHInit.nd rfl (.inl rfl)) (pgs_cons (pg_name (i := 8) scHInit.nd rfl (.inl rfl)) (pgs_cons (pg_name (i := 9) scHInit.nd rfl (.inl rfl)) pgs_nil))))) (fun _ _ _ _ _ => pts_nil)
        (fun _ _ _ _ _ => pv 6))) pa_nil)) rfl)
      (pss_cons (ps_fld (pv 0) (pe_dc (own := [("name", 3), ("room", 4), ("inner", 5)]) (g := gTup K 3 (gCons (gName 3) (gCons (gName 4) (gCons (gName 5) gNil)))) (tt := tYes) rfl scHInit.nd (pi_list (pe_fld (pv 2) rfl))
        (blkOk_by (N := ["self", "text", "draft", "name", "room", "inner", "person", "place", "first", "behind"]) (sc := defScope sHInit) (by decide +kernel))
        (fun _ _ _ _ _ => pg_tup rfl (pgs_cons (pg_name (i := 3) scHInit.nd rfl (.inl rfl)) (pgs_cons (pg_name (i := 4) scHInit.nd rfl (.inl rfl)) (pgs_cons (pg_name (i := 5) scHInit.nd rfl (.inl rfl)) pgs_nil)))) (fun _ _ _ _ _ => pts_nil)
        (fun _ _ _ _ _ => pv 3) (fun _ _ _ _ _ => pv 4)) rfl)
      (pss_cons (ps_fld (pv 0) (pe_lock (pe_dc (own := [("name", 3)]) (g := gName 3) (tt := tYes) rfl scHInit.nd (pi_keys (pe_fld (pv 0) rfl))
        (blkOk_by (N := ["self", "text", "draft", "name", "room", "inner", "person", "place", "first", "behind"]) (sc := defScope sHInit) (by decide +kernel))
        (fun _ _ _ _ _ => pg_name (i := 3) scHInit.nd rfl (.inl rfl)) (fun _ _ _ _ _ => pts_nil)
        (fun _ _ _ _ _ => pv 3) (fun _ _ _ _ _ => pe_call GT hr1 (by rfl) mT kT bT .nil pass0 (pa_cons (pv 3) (pa_cons (pv 2) pa_nil))))) rfl)
      (pss_one (ps_fld (pv 0) (pe_call GP hr1 (by rfl) mP kP bP .nil pass0 (pa_cons (pv 2) pa_nil)) rfl))))))))), ?_⟩
    have hs := td.sound
    have sm := hs.s
    refine ⟨_, rfl, x, L, rfl, td, fun H1 d lp lt ls e1 hd nd n1 n2 n3 _ => ?_⟩
    have ndh : d ≠ h := fun z => by rw [z, ob] at nd; cases nd
    have fr1 : Fr [h] H H1 := Fr.same e1
    have ob1 := e1 _ _ ob
    refine ⟨_, rfl, _, rfl, h, C, dx, _, rfl, ob1, hc.cl, hc.n1, by decide, ?_⟩
    generalize hG : upd H1 h (.ins C dx (putF "_text" (.str x) [])) = H2
    have ob2 : H2 h = some (.ins C dx (putF "_text" (.str x) [])) := by rw [← hG]; exact upd_same
    have fr2 : Fr [h] H1 H2 := by rw [← hG]; exact Fr.upd (by simp)
    clear hG
    replace hd := past_draft ob1 fr2 ndh hd
    replace fr2 := fr1.trans fr2
    clear fr1 ob1 e1
    obtain ⟨dy, od⟩ := hd.ob
    refine ⟨_, rfl, d, CD, dy, _, _, rfl, od, dc.cl, dc.nD, dfs_days _ _ _ _, _, rfl, h, C, dx, _, rfl, ob2, hc.cl, hc.n2, Nat.lt_of_le_of_lt (putF_len _ _ _) (by decide), ?_⟩
    generalize hG : upd H2 h (.ins C dx (putF "days" (.int L.days) (putF "_text" (.str x) []))) = H3
    have ob3 : H3 h = some (.ins C dx (putF "days" (.int L.days) (putF "_text" (.str x) []))) := by rw [← hG]; exact upd_same
    have fr3 : Fr [h] H2 H3 := by rw [← hG]; exact Fr.upd (by simp)
    clear hG
    replace hd := past_draft ob2 fr3 ndh hd
    replace fr3 := fr2.trans fr3
    clear fr2 ob2 od
    obtain ⟨dy, od⟩ := hd.ob
    obtain ⟨rs, hlp, hrp⟩ := hd.pl
    refine ⟨_, rfl, d, CD, dy, _, _, rfl, od, dc.cl, dc.nP, dfs_pl _ _ _ _, .inl ⟨lp, _, rfl, SqL.of hlp, fun a na => ?_⟩⟩
    refine ⟨_, rfl, h, C, dx, _, rfl, same_upd na _ _ ob3, hc.cl, hc.n3, Nat.lt_of_le_of_lt (putF_len _ _ _) (Nat.lt_of_le_of_lt (Nat.succ_le_succ (putF_len _ _ _)) (by decide)), ?_⟩
    have eA := same_upd (o := .tup (rs.map V.ref)) na
    replace hd := hd.same eA
    have ra := hrp.same eA
    have fa : upd H3 a (.tup (rs.map V.ref)) a = _ := upd_same
    have obA := eA _ _ ob3
    replace fr3 := fr3.tr eA
    clear hlp hrp od ob3
    generalize upd H3 a (.tup (rs.map V.ref)) = HA at *
    clear eA na
    generalize hf3 : putF "flats" (V.ref a) (putF "days" (.int L.days) (putF "_text" (.str x) [])) = f3
    have lf3 : f3.length ≤ 3 := by
      rw [← hf3]
      exact Nat.le_trans (putF_len _ _ _) (Nat.succ_le_succ (Nat.le_trans (putF_len _ _ _) (Nat.succ_le_succ (putF_len _ _ _))))
    generalize hG : upd HA h (.ins C dx f3) = H4
    have ob4 : H4 h = some (.ins C dx f3) := by rw [← hG]; exact upd_same
    have fr4 : Fr [h] HA H4 := by rw [← hG]; exact Fr.upd (by simp)
    clear hG
    replace hd := past_draft obA fr4 ndh hd
    replace ra := past_refs obA fr4 ra (fun x _ _ _ z => by unfold plO at z; cases z)
    replace fa := past_ob obA fr4 fa (fun _ _ _ z => by cases z)
    replace fr4 := fr3.trans fr4
    clear fr3 obA dy
    obtain ⟨dy, od⟩ := hd.ob
    obtain ⟨rp, hlp, hrp⟩ := hd.pl
    refine ⟨by decide, fun l1 nl1 => ?_⟩
    have e5 := same_upd (o := .lst [V.str "main"]) nl1
    refine ⟨_, rfl, d, CD, dy, _, _, rfl, e5 _ _ od, dc.cl, dc.nP, dfs_pl _ _ _ _, lp, rfl, ⟨_, SqL.of (e5 _ _ hlp)⟩, fun D nD => ?_⟩
    refine lc_it (walk_list (xs := rp.map V.ref)) (Pv := fun i H' => Same (upd H4 l1 (.lst [V.str "main"])) H' ∧ H' D = some (.lst ((((L.places.take i).filter (·.inner)).map (·.name)).map V.str))) ⟨same_upd nD, by rw [upd_same]; rfl⟩ (fun i H' _ hh => SqL.of (hh.1 _ _ (e5 _ _ hlp))) ?_ ?_
    · rintro i v G1 G2 hi ⟨es, hD⟩ ⟨rfl, hv⟩
      obtain ⟨q1, pp, rfl, _, hp, ho⟩ := (hrp.same e5).at hv
      refine ⟨q1, _, rfl, SqT.of (es _ _ ho), rfl, _, _, rfl, _, _, rfl, _, _, rfl, rfl, rfl, ?_⟩
      refine ⟨_, rfl, _, rfl, ?_⟩
      have et : L.places.take (i + 1) = L.places.take i ++ [pp] := by rw [List.take_add_one, hp]; rfl
      cases ci : pp.inner with
      | false =>
        refine iteF ⟨es, ?_⟩
        rw [et, List.filter_append]
        simp only [List.filter_cons, ci, List.filter_nil]
        rw [if_neg (by decide), List.append_nil]
        exact hD
      | true =>
        refine iteT ⟨_, rfl, _, hD, ?_, fun b u e => ?_, ?_⟩
        · rw [List.length_map, List.length_map]
          exact Nat.lt_of_le_of_lt (Nat.le_trans (List.length_filter_le _ _) (Nat.le_trans (by rw [List.length_take]; exact Nat.min_le_right _ _) sm.1)) (show 4 < sizeLine by decide)
        · rw [upd_ne (ne_of_none e nD)]
          exact es _ _ e
        · rw [upd_same, et, List.filter_append]
          simp [ci]
    · rintro G1 ⟨es, hD⟩
      rw [show L.places.take (rp.map V.ref).length = L.places from by rw [List.length_map, hrp.1]; exact List.take_length] at hD
      have e6 := e5.trans es
      refine ⟨l1, D, _, _, rfl, rfl, es _ _ upd_same, hD, ?_, fun l2 nl2 => .inl ⟨l2, _, rfl, SqL.of upd_same, fun b nb => ?_⟩⟩
      · rw [List.length_map, List.length_map]
        exact Nat.le_trans (Nat.add_le_add_left (Nat.le_trans (List.length_filter_le _ _) sm.1) 1) (by decide)
      have e7 := (e6.trans (same_upd (o := .lst ([V.str "main"] ++ ((L.places.filter (·.inner)).map (·.name)).map V.str)) nl2)).trans (same_upd (o := .tup ([V.str "main"] ++ ((L.places.filter (·.inner)).map (·.name)).map V.str)) nb)
      refine ⟨_, rfl, h, C, dx, _, rfl, e7 _ _ ob4, hc.cl, hc.n4, by omega, ?_⟩
      replace hd := hd.same e7
      replace ra := ra.same e7
      replace fa := e7 _ _ fa
      have obB := e7 _ _ ob4
      have fb : upd (upd G1 l2 (.lst ([V.str "main"] ++ ((L.places.filter (·.inner)).map (·.name)).map V.str))) b (.tup ([V.str "main"] ++ ((L.places.filter (·.inner)).map (·.name)).map V.str)) b = some (.tup ((metersOf L).map V.str)) := upd_same
      have fr5 := fr4.tr e7
      generalize upd (upd G1 l2 (.lst ([V.str "main"] ++ ((L.places.filter (·.inner)).map (·.name)).map V.str))) b (.tup ([V.str "main"] ++ ((L.places.filter (·.inner)).map (·.name)).map V.str)) = HB at *
      clear e7 e6 nl2 nb hD es e5 hlp hrp od nl1 nD
      generalize hf4 : putF "meters" (V.ref b) f3 = f4
      have lf4 : f4.length ≤ 4 := by
        rw [← hf4]
        exact Nat.le_trans (putF_len _ _ _) (Nat.succ_le_succ lf3)
      generalize hG : upd HB h (.ins C dx f4) = H5
      have ob5 : H5 h = some (.ins C dx f4) := by rw [← hG]; exact upd_same
      have fr6 : Fr [h] HB H5 := by rw [← hG]; exact Fr.upd (by simp)
      clear hG
      replace hd := past_draft obB fr6 ndh hd
      replace ra := past_refs obB fr6 ra (fun x _ _ _ z => by unfold plO at z; cases z)
      replace fa := past_ob obB fr6 fa (fun _ _ _ z => by cases z)
      replace fb := past_ob obB fr6 fb (fun _ _ _ z => by cases z)
      replace fr6 := fr5.trans fr6
      clear fr5 fr4 obB ob4 dy
      obtain ⟨dy, od⟩ := hd.ob
      obtain ⟨rp, hls, hrs⟩ := hd.st
      refine ⟨by decide, fun l1 nl1 => ?_⟩
      have e5 := same_upd (o := .lst [V.str "house"]) nl1
      refine ⟨_, rfl, d, CD, dy, _, _, rfl, e5 _ _ od, dc.cl, dc.nS, dfs_st _ _ _ _, ls, rfl, ⟨_, SqL.of (e5 _ _ hls)⟩, fun D nD => ?_⟩
      refine lc_it (walk_list (xs := rp.map V.ref)) (Pv := Tk (upd H5 l1 (.lst [V.str "house"])) D (L.stays.map fun s => V.str s.who)) (Tk.start nD) (fun i H' _ hh => SqL.of (hh.1 _ _ (e5 _ _ hls))) ?_ ?_
      · rintro i v G1 G2 hi hk ⟨rfl, hv⟩
        obtain ⟨q1, pp, rfl, _, hp, ho⟩ := (hrs.same e5).at hv
        refine ⟨q1, _, rfl, SqT.of (hk.1 _ _ ho), rfl, _, _, rfl, _, _, rfl, _, _, rfl, _, _, rfl, rfl, rfl, ?_⟩
        unfold tYes
        refine iteT ⟨_, rfl, ?_⟩
        exact hk.step nD (Same.refl _) (by rw [List.getElem?_map, hp]; rfl) (by rw [List.length_map]; have := sm.2.2; omega)
      · rintro G1 hk
        have hD := hk.done (by simp [hrs.1])
        have e6 := e5.trans hk.1
        refine ⟨l1, D, _, _, rfl, rfl, hk.1 _ _ upd_same, hD, ?_, fun l2 nl2 => ?_⟩
        · rw [List.length_map]
          exact Nat.le_trans (Nat.add_le_add_left sm.2.2 1) (by decide)
        have e7 := e6.trans (same_upd (o := .lst ([V.str "house"] ++ (L.stays.map fun s => V.str s.who))) nl2)
        refine ⟨l2, "house" :: L.stays.map (·.who), rfl, ?_, ?_, fun HC c ys ec nc fc asc => ?_⟩
        · rw [upd_same]
          simp
        · have := sm.2.2
          simp
          omega
        replace e7 := e7.trans ec
        refine ⟨_, rfl, h, C, dx, _, rfl, e7 _ _ ob5, hc.cl, hc.n5, by omega, ?_⟩
        replace hd := hd.same e7
        replace ra := ra.same e7
        replace fa := e7 _ _ fa
        replace fb := e7 _ _ fb
        have obC := e7 _ _ ob5
        have fr7 := fr6.tr e7
        clear e7 e6 nl2 hD hk e5 hls hrs od nl1 nD ec nc fr6 ob5 dy
        generalize hf5 : putF "people" (V.ref c) f4 = f5
        have lf5 : f5.length ≤ 5 := by
          rw [← hf5]
          exact Nat.le_trans (putF_len _ _ _) (Nat.succ_le_succ lf4)
        generalize hG : upd HC h (.ins C dx f5) = H6
        have ob6 : H6 h = some (.ins C dx f5) := by rw [← hG]; exact upd_same
        have fr8 : Fr [h] HC H6 := by rw [← hG]; exact Fr.upd (by simp)
        clear hG
        replace hd := past_draft obC fr8 ndh hd
        replace ra := past_refs obC fr8 ra (fun x _ _ _ z => by unfold plO at z; cases z)
        replace fa := past_ob obC fr8 fa (fun _ _ _ z => by cases z)
        replace fb := past_ob obC fr8 fb (fun _ _ _ z => by cases z)
        replace fc := past_ob obC fr8 fc (fun _ _ _ z => by cases z)
        replace fr8 := fr7.trans fr8
        clear fr7 obC
        obtain ⟨dy, od⟩ := hd.ob
        obtain ⟨rp, hlp, hrp⟩ := hd.pl
        refine ⟨_, rfl, d, CD, dy, _, _, rfl, od, dc.cl, dc.nP, dfs_pl _ _ _ _, lp, rfl, ⟨_, SqL.of hlp⟩, fun r nr => ?_⟩
        refine DCi.dc_it (walk_list (xs := rp.map V.ref)) (fun i H' => Same H6 H' ∧ H' r = some (.dK ((L.places.take i).map fun q => (.inr q.name, .int q.room)))) ⟨same_upd nr, by rw [upd_same]; rfl⟩ (fun i H' _ hh => SqL.of (hh.1 _ _ hlp)) ?_ ?_
        · rintro i v G3 G2 hi ⟨es, hD⟩ ⟨rfl, hv⟩
          obtain ⟨q1, pp, rfl, _, hp, ho⟩ := hrp.at hv
          refine ⟨q1, _, rfl, SqT.of (es _ _ ho), rfl, _, _, rfl, _, _, rfl, _, _, rfl, rfl, rfl, ?_⟩
          unfold tYes
          refine iteT ⟨_, rfl, _, rfl, _, .inr pp.name, rfl, hD, ?_, fun b u e => ?_, ?_⟩
          · rw [List.length_map]
            exact Nat.lt_of_le_of_lt (Nat.le_trans (by rw [List.length_take]; exact Nat.min_le_right _ _) sm.1) (show 4 < sizeLine by decide)
          · rw [upd_ne (ne_of_none e nr)]
            exact es _ _ e
          · have et : L.places.take (i + 1) = L.places.take i ++ [pp] := by rw [List.take_add_one, hp]; rfl
            rw [upd_same, et, List.map_append, putK_new]
            · rfl
            · intro kv hkv ek
              obtain ⟨q', hq', rfl⟩ := List.mem_map.mp hkv
              have nn := hs.n
              have e0 := List.take_append_drop (i + 1) L.places
              rw [et] at e0
              rw [← e0, List.map_append, List.map_append, List.nodup_append] at nn
              have nn1 := nn.1
              rw [List.nodup_append] at nn1
              exact nn1.2.2 q'.name (List.mem_map_of_mem hq') pp.name (by simp) (Sum.inr.inj ek)
        · rintro G3 ⟨es, hD⟩
          rw [show L.places.take (rp.map V.ref).length = L.places from by rw [List.length_map, hrp.1]; exact List.take_length] at hD
          refine ⟨_, rfl, h, C, dx, _, rfl, es _ _ ob6, hc.cl, hc.n6, by omega, ?_⟩
          replace hd := hd.same es
          replace ra := ra.same es
          replace fa := es _ _ fa
          replace fb := es _ _ fb
          replace fc := es _ _ fc
          have obD := es _ _ ob6
          have fr9 := fr8.tr es
          clear es hlp hrp od fr8 ob6 dy
          generalize hf6 : putF "_rooms" (V.ref r) f5 = f6
          have lf6 : f6.length ≤ 6 := by
            rw [← hf6]
            exact Nat.le_trans (putF_len _ _ _) (Nat.succ_le_succ lf5)
          have lk6 : f6.lookup ("_rooms" : Str) = some (.ref r) := by rw [← hf6, lookup_putF, if_pos rfl]
          generalize hG : upd G3 h (.ins C dx f6) = H7
          have ob7 : H7 h = some (.ins C dx f6) := by rw [← hG]; exact upd_same
          have fr10 : Fr [h] G3 H7 := by rw [← hG]; exact Fr.upd (by simp)
          clear hG
          replace hd := past_draft obD fr10 ndh hd
          replace ra := past_refs obD fr10 ra (fun x _ _ _ z => by unfold plO at z; cases z)
          replace fa := past_ob obD fr10 fa (fun _ _ _ z => by cases z)
          replace fb := past_ob obD fr10 fb (fun _ _ _ z => by cases z)
          replace fc := past_ob obD fr10 fc (fun _ _ _ z => by cases z)
          have fd' := past_ob obD fr10 hD (fun _ _ _ z => by cases z)
          replace fr10 := fr9.trans fr10
          clear fr9 obD hD
          refine ⟨r, _, fd', trivial, fun ol => ?_⟩
          generalize hrooms : (L.places.map fun q : Pl => ((.inr q.name : Key), V.int q.room)) = rooms at *
          have rlen : rooms.length = L.places.length := by rw [← hrooms, List.length_map]
          have rat : ∀ (i : Nat) (k : Key) (v : V), rooms[i]? = some (k, v) → ∃ q : Pl, L.places[i]? = some q ∧ k = Sum.inr q.name := by
            intro i k v e
            rw [← hrooms, List.getElem?_map] at e
            cases hq : L.places[i]? with
            | none => rw [hq] at e; cases e
            | some q => rw [hq] at e; cases e; exact ⟨q, rfl, rfl⟩
          have frL : Fr [r] H7 (upd H7 r (.frz ol (.dK rooms))) := Fr.upd (by simp)
          have hdL := lock_draft fd' frL hd
          have hL : upd H7 r (.frz ol (.dK rooms)) r = some (.frz ol (.dK rooms)) := upd_same
          have nhr : h ≠ r := ne_of ob7 fd' (by intro z; cases z)
          have obL := frL _ _ ob7 (by simpa using nhr)
          generalize upd H7 r (.frz ol (.dK rooms)) = HL at *
          refine ⟨_, rfl, h, C, dx, _, _, rfl, obL, hc.cl, hc.n6, lk6, r, ol, rfl, .inl ⟨_, hL, fun t nt => ?_⟩⟩
          refine DCi.dc_it walk_keys (fun i H' => Same HL H' ∧ ∃ ts, H' t = some (.dK (((L.places.take i).zip ts).map fun q => ((.inr q.1.name : Key), V.ref q.2))) ∧ Refs (fun q : Pl => .tup (row L.days V.str (tenD L.stays q.name))) H' ts (L.places.take i)) ⟨same_upd nt, [], by rw [upd_same]; rfl, Refs.nil⟩ (fun i H' _ hh => hh.1 _ _ hL) ?_ ?_
          · rintro i v G4 G5 hi ⟨es, ts, hT, hts⟩ ⟨rfl, k, vv, hkv, rfl⟩
            obtain ⟨pp, hp, rfl⟩ := rat i k vv hkv
            refine ⟨rfl, ?_⟩
            unfold tYes
            refine iteT ⟨_, rfl, _, rfl, _, rfl, d, lp, lt, ls, L, pp.name, rfl, hdL.same es, sm, hs.g, fun G6 t1 e6 nt1 ht1 => ?_⟩
            have et : L.places.take (i + 1) = L.places.take i ++ [pp] := by rw [List.take_add_one, hp]; rfl
            have tsl : ts.length = (L.places.take i).length := hts.1
            refine ⟨_, .inr pp.name, rfl, e6 _ _ hT, ?_, fun b u e => ?_, ts ++ [t1], ?_, ?_⟩
            · rw [List.length_map, List.length_zip, tsl, Nat.min_self, List.length_take]
              exact Nat.lt_of_le_of_lt (Nat.le_trans (Nat.min_le_right _ _) sm.1) (show 4 < sizeLine by decide)
            · rw [upd_ne (ne_of_none e nt)]
              exact e6 _ _ (es _ _ e)
            · rw [upd_same, et, putK_new]
              · rw [List.zip_append (by rw [tsl]), List.map_append]
                rfl
              · intro kv hkv ek
                obtain ⟨q', hq', rfl⟩ := List.mem_map.mp hkv
                have nn := hs.n
                have e0 := List.take_append_drop (i + 1) L.places
                rw [et] at e0
                rw [← e0, List.map_append, List.map_append, List.nodup_append] at nn
                have nn1 := nn.1
                rw [List.nodup_append] at nn1
                exact nn1.2.2 q'.1.name (List.mem_map_of_mem (List.of_mem_zip hq').1) pp.name (by simp) (Sum.inr.inj ek)
            · rw [et]
              have nt1t : t1 ≠ t := (ne_of_none hT nt1).symm
              have kp : Refs (fun q : Pl => .tup (row L.days V.str (tenD L.stays q.name))) G6 ts (L.places.take i) := hts.same e6
              refine Refs.snoc ⟨kp.1, fun j r' y u' w' => ?_⟩ ?_
              · have e8 := kp.2 j r' y u' w'
                have e9 := e6 _ _ hT
                rw [upd_ne (ne_of e8 e9 (by intro z; cases z))]
                exact e8
              · rw [upd_ne nt1t]
                exact ht1
          · rintro G4 ⟨es, ts, hT, hts⟩
            rw [rlen, List.take_length] at hT hts
            refine ⟨es _ _ hL, ?_⟩
            have hr4 := es _ _ hL
            have e10 : Same H7 (upd G4 r (.dK rooms)) := fun b u e => by
              by_cases z : b = r
              · rw [z] at e ⊢
                rw [upd_same]
                exact fd'.symm.trans e
              · rw [upd_ne z]
                exact es _ _ (frL _ _ e (by simpa using z))
            have ft : upd G4 r (.dK rooms) t = some (.dK ((L.places.zip ts).map fun q => ((.inr q.1.name : Key), V.ref q.2))) := by
              rw [upd_ne (ne_of_none hL nt).symm]
              exact hT
            have fts : Refs (fun q : Pl => .tup (row L.days V.str (tenD L.stays q.name))) (upd G4 r (.dK rooms)) ts L.places := ⟨hts.1, fun j r' y u' w' => by
              have e8 := hts.2 j r' y u' w'
              rw [upd_ne (ne_of e8 hr4 (by intro z; cases z))]
              exact e8⟩
            replace hd := hd.same e10
            replace ra := ra.same e10
            replace fa := e10 _ _ fa
            replace fb := e10 _ _ fb
            replace fc := e10 _ _ fc
            replace fd' := e10 _ _ fd'
            replace ob7 := e10 _ _ ob7
            replace fr10 := fr10.tr e10
            clear e10 es hT hts hr4 frL hdL hL obL nt
            generalize upd G4 r (.dK rooms) = G7 at *
            refine ⟨_, rfl, h, C, dx, _, rfl, ob7, hc.cl, hc.n7, by omega, ?_⟩
            generalize hf7 : putF "_tenants" (V.ref t) f6 = f7
            have lf7 : f7.length ≤ 7 := by
              rw [← hf7]
              exact Nat.le_trans (putF_len _ _ _) (Nat.succ_le_succ lf6)
            generalize hG : upd G7 h (.ins C dx f7) = H8
            have ob8 : H8 h = some (.ins C dx f7) := by rw [← hG]; exact upd_same
            have fr11 : Fr [h] G7 H8 := by rw [← hG]; exact Fr.upd (by simp)
            clear hG
            replace hd := past_draft ob7 fr11 ndh hd
            replace ra := past_refs ob7 fr11 ra (fun x _ _ _ z => by unfold plO at z; cases z)
            replace fa := past_ob ob7 fr11 fa (fun _ _ _ z => by cases z)
            replace fb := past_ob ob7 fr11 fb (fun _ _ _ z => by cases z)
            replace fc := past_ob ob7 fr11 fc (fun _ _ _ z => by cases z)
            replace fd' := past_ob ob7 fr11 fd' (fun _ _ _ z => by cases z)
            replace ft := past_ob ob7 fr11 ft (fun _ _ _ z => by cases z)
            replace fts := past_refs ob7 fr11 fts (fun x _ _ _ z => by cases z)
            replace fr11 := fr10.trans fr11
            clear fr10 ob7
            refine ⟨_, rfl, d, lp, lt, ls, L, rfl, hd, sm, hs.g, fun H9 p e9 np fp => ?_⟩
            replace ra := ra.same e9
            replace fa := e9 _ _ fa
            replace fb := e9 _ _ fb
            replace fc := e9 _ _ fc
            replace fd' := e9 _ _ fd'
            replace ft := e9 _ _ ft
            replace fts := fts.same e9
            replace fr11 := fr11.tr e9
            have ob9 := e9 _ _ ob8
            refine ⟨_, rfl, h, C, dx, _, rfl, ob9, hc.cl, hc.n8, by omega, ?_⟩
            have fr12 : Fr [h] H9 (upd H9 h (.ins C dx (putF "_prices" (V.ref p) f7))) := Fr.upd (by simp)
            refine q _ (fr11.trans fr12) ⟨dx, a, b, c, r, t, p, rs, ts, ys, ?_, past_ob ob9 fr12 fa (fun _ _ _ z => by cases z), past_refs ob9 fr12 ra (fun x _ _ _ z => by unfold plO at z; cases z), past_ob ob9 fr12 fb (fun _ _ _ z => by cases z), past_ob ob9 fr12 fc (fun _ _ _ z => by cases z), asc, ?_, past_ob ob9 fr12 ft (fun _ _ _ z => by cases z), past_refs ob9 fr12 fts (fun x _ _ _ z => by cases z), past_ob ob9 fr12 fp (fun _ _ _ z => by cases z)⟩
            · rw [upd_same, ← hf7, ← hf6, ← hf5, ← hf4, ← hf3]
              rfl
            · rw [hrooms]
              exact past_ob ob9 fr12 fd' (fun _ _ _ z => by cases z)
end
end Hs
/-! int op x, x an instance with the turned operator -/
namespace AmL
open PySem PySem.SeqAt PySem.Calls PyProof.Rows
open AutoSeq1 (wpAny_loadPart')
open MeetsSeq
section
variable {prog : Program} {w : World} {A : Around} {E : Value → Shared → Prop} {s : Shared} {K : PySem.W.Frag} {C : Addr}
theorem dec_int_add {a : Addr} (b : Int) (u : Tok) (C : Addr) : Meets (Builtin.«int.__add__» ⟨[.int b u, .ref a], []⟩) (fun _ R s => PlainAt s a C ∧ R (.ok (.ret .notImplemented)) s) :=
  .of_wp fun prog w A R s h => by obtain ⟨hp, g, d, tk, os⟩ := s; obtain ⟨⟨dd, sl, hl⟩, h⟩ := h; wp_walk using wpAny_loadPart' hl, wpAny_load hl; exact ⟨_, rfl, h⟩
theorem dec_int_sub {a : Addr} (b : Int) (u : Tok) (C : Addr) : Meets (Builtin.«int.__sub__» ⟨[.int b u, .ref a], []⟩) (fun _ R s => PlainAt s a C ∧ R (.ok (.ret .notImplemented)) s) :=
  .of_wp fun prog w A R s h => by obtain ⟨hp, g, d, tk, os⟩ := s; obtain ⟨⟨dd, sl, hl⟩, h⟩ := h; wp_walk using wpAny_loadPart' hl, wpAny_load hl; exact ⟨_, rfl, h⟩
theorem dec_int_mul {a : Addr} (b : Int) (u : Tok) (C : Addr) : Meets (Builtin.«int.__mul__» ⟨[.int b u, .ref a], []⟩) (fun _ R s => PlainAt s a C ∧ R (.ok (.ret .notImplemented)) s) :=
  .of_wp fun prog w A R s h => by obtain ⟨hp, g, d, tk, os⟩ := s; obtain ⟨⟨dd, sl, hl⟩, h⟩ := h; wp_walk using wpAny_loadPart' hl, wpAny_load hl; exact ⟨_, rfl, h⟩
theorem dec_int_fdiv {a : Addr} (b : Int) (u : Tok) (C : Addr) : Meets (Builtin.«int.__floordiv__» ⟨[.int b u, .ref a], []⟩) (fun _ R s => PlainAt s a C ∧ R (.ok (.ret .notImplemented)) s) :=
  .of_wp fun prog w A R s h => by obtain ⟨hp, g, d, tk, os⟩ := s; obtain ⟨⟨dd, sl, hl⟩, h⟩ := h; wp_walk using wpAny_loadPart' hl, wpAny_load hl; exact ⟨_, rfl, h⟩

/-- a method of a built-in type that declines -/
theorem tryM_declines {v o : Value} {T : String} {name : Str} {id : String} {Q : Option Value → Shared → Prop} (hT : s.TypeIs v T)
    (slot : Slot T name id) (told : wpAny (model prog w) A (call (.builtin id) [v, o]) (fun r z => r = .notImplemented ∧ Q none z) E s) : wpAny (model prog w) A (tryMethod v name o) Q E s := by
  have asked : wpAny (model prog w) A (callSpecial? v name [o]) (fun r z => r = some .notImplemented ∧ Q none z) E s :=
    wpAny_callSpecial?_slot hT slot (wpAny_mono told (fun _ _ y => ⟨congrArg some y.1, y.2⟩) fun _ _ y => y)
  unfold tryMethod
  refine wpAny_bind (wpAny_mono asked (fun r z y => ?_) fun _ _ y => y)
  obtain ⟨rfl, q⟩ := y
  exact wpAny_pure q
open PySem.W in
/-- v op x: v of a built-in type that declines, x an instance with an own turned operator -/
theorem refl_bin {x f g : Addr} {v : Value} {T id : String} {op : Operator} {ox : Obj} {od : Option Obj} {fo ro : Option Value} {Q : Value → Shared → Prop}
    (X : K.In s.heap) (I : InstAt s.heap x ox C od) (hb : typeOf v = pure (.type T)) (hT : s.TypeIs v T) (hc : selfFirst K C = true)
    (hs : findIn K (.ref C) (PySem.dunder op.info.2) = some (some (.ref f))) (hr : findIn K (.ref C) (dunderR op.info.2) = some (some (.ref g))) (hg : isFn K (.ref g) = true)
    (h1 : findIn K (.type T) (PySem.dunder op.info.2) = some fo) (h2 : findIn K (.type T) (dunderR op.info.2) = some ro) (hsub : subIn K (.ref C) (.type T) = some false)
    (slot : Slot T (PySem.dunder op.info.2) id) (dec : ∀ Q' : Value → Shared → Prop, Q' .notImplemented s → wpAny (model prog w) A (call (.builtin id) [v, .ref x]) Q' E s)
    (h : wpAny (model prog w) A (call (.ref g) [.ref x, v]) (PySem.W.CmpBack Q) E s) : wpAny (model prog w) A (binaryOp op v (.ref x)) Q E s := by
  rcases ksp_first hc with ⟨cd, more, isC, first⟩
  rcases sg : op.info with ⟨sign, word⟩
  simp only [sg] at hs hr h1 h2 slot
  have turned := ksp_try X I hr hg h
  have declined : ∀ {R : Option Value → Shared → Prop}, R none s → wpAny (model prog w) A (tryMethod v (PySem.dunder word) (.ref x)) R E s := fun q => tryM_declines hT slot (dec _ ⟨rfl, q⟩)
  rcases s with ⟨hh, gg, dr, tk, oo⟩
  have typeX := I.type (M := model prog w)
  have typeV : Looks (model prog w) hh (typeOf v) (.type T) := .of_pure hb
  have fillsX := fills_K (M := model prog w) X isC first hs
  have fillsV := ksp_fillsT (M := model prog w) X h1 h2
  have apart := looks_subIn (M := model prog w) X hsub
  have notPy : Looks (model prog w) hh (numberSlotInPython (.type T) word) false := .of_pure rfl
  have differ : (Value.type T == Value.ref C) = false := beq_eq_false_iff_ne.mpr fun q => by cases q
  generalize (fo.isSome && !isSeqSlot fo || ro.isSome && !isSeqSlot ro) = some? at fillsV
  unfold binaryOp binaryOp1
  simp only [sg]
  refine wpAny_holding (wpAny_bind (wpAny_bind (typeV.at (wpAny_bind (typeX.at (wpAny_bind (fillsV.at ?_)))))))
  simp only [differ, Bool.false_eq_true, if_false]
  have fin : ∀ {R : Option Value → Shared → Prop}, (∀ u z, Q u z → R (some u) z) → wpAny (model prog w) A (tryMethod (.ref x) (dunderR word) v) R E ⟨hh, gg, dr, tk, oo⟩ := fun k => wpAny_mono turned (fun r z y => by
    obtain ⟨u, rfl, q⟩ := y
    exact k u z q) fun _ _ y => y
  cases some? with
  | false =>
    ksp_lk
    refine fin fun u z q => ?_
    ksp_lk
    exact q
  | true =>
    ksp_lk
    refine declined ?_
    ksp_lk
    refine fin fun u z q => ?_
    ksp_lk
    exact q
end
end AmL
/-! operators of an own class, turned ones too, that may raise -/
namespace Am
open PySem PySem.Spec PyProof.Rows L2
/-- a two-place operation whose wish may speak of the slots -/
def OpS (X : Cx) (f : Value → Value → Sem Value) (r : L2.St → R2) : Prop :=
  ∀ (pins : List (Addr × Obj)) (s : Shared) (σ : L2.St) (H : Hp) (x y : V) (v u : Value) (Q : VK), Inv X pins σ H s → RelV x v → RelV y u → r σ x y H Q →
    wpAny (model X.prog X.w) X.A (f v u) (EP X pins σ Q) X.xe s
def tOpS (r : L2.St → R2) (ta tb : TE) : TE := fun σ H Q => ta σ H fun x H1 => tb σ H1 fun y H2 => r σ x y H2 Q
section
variable {X : Cx} {a b : Expr} {ta tb : TE} {pos : Pos}
theorem pe_opS {op : Operator} {r : L2.St → R2} (ho : OpS X (binaryOp op) r) (ha : PE X a ta) (hb : PE X b tb) : PE X (.BinOp a op b pos) (tOpS r ta tb) := by
  refine ⟨fun pins s σ H Q I h => ?_⟩
  exact wpAny_BinOp (binT ha hb I h fun v u z x y G J rx ry q => ho pins z σ G x y v u Q J rx ry q)
end
structure DecB (X : Cx) (op : Operator) : Prop where
  run : ∀ (pins : List (Addr × Obj)) (σ : L2.St) (H : Hp) (s : Shared) (C a dx : Addr) (fs : List (Str × V)) (i : Int) (t : Tok), Inv X pins σ H s → H a = some (.ins C dx fs) →
    ∃ id, Slot "int" (PySem.dunder op.info.2) id ∧ ∀ (E : Value → Shared → Prop) (Q' : Value → Shared → Prop), Q' .notImplemented s → wpAny (model X.prog X.w) X.A (call (.builtin id) [.int i t, .ref a]) Q' E s
theorem decB_add {X : Cx} : DecB X .Add := ⟨fun pins σ H s C a dx fs i t I ha => ⟨_, PySem.F.slot_int_add, fun E Q' q => meets_call PySem.F.slot_int_add (typeIs_int s i t) PySem.F.entry_int_add (PySem.F.args_int_add_2 _ _) (AmL.dec_int_add i t C) (plain_of I ha) Q' q⟩⟩
theorem decB_sub {X : Cx} : DecB X .Sub := ⟨fun pins σ H s C a dx fs i t I ha => ⟨_, PySem.F.slot_int_sub, fun E Q' q => meets_call PySem.F.slot_int_sub (typeIs_int s i t) PySem.F.entry_int_sub (PySem.F.args_int_sub_2 _ _) (AmL.dec_int_sub i t C) (plain_of I ha) Q' q⟩⟩
theorem decB_mul {X : Cx} : DecB X .Mult := ⟨fun pins σ H s C a dx fs i t I ha => ⟨_, PySem.F.slot_int_mul, fun E Q' q => meets_call PySem.F.slot_int_mul (typeIs_int s i t) PySem.F.entry_int_mul (PySem.F.args_int_mul_2 _ _) (AmL.dec_int_mul i t C) (plain_of I ha) Q' q⟩⟩
theorem decB_fdiv {X : Cx} : DecB X .FloorDiv := ⟨fun pins σ H s C a dx fs i t I ha => ⟨_, PySem.F.slot_int_floordiv, fun E Q' q => meets_call PySem.F.slot_int_floordiv (typeIs_int s i t) PySem.F.entry_int_floordiv (PySem.F.args_int_floordiv_2 _ _) (AmL.dec_int_fdiv i t C) (plain_of I ha) Q' q⟩⟩
/-- what x op y asks: x an instance (sp), or a whole number and y an instance (spr) -/
def rBinS (C : Addr) (sp spr : Sp) (E : L2.St → XK) : L2.St → R2 := fun σ x y H Q =>
  ((∃ a dx fs, x = .ref a ∧ H a = some (.ins C dx fs)) ∧ OrI C H y ∧ sp [x, y] H Q (E σ)) ∨ ((∃ i, x = .int i) ∧ (∃ a dx fs, y = .ref a ∧ H a = some (.ins C dx fs)) ∧ spr [y, x] H Q (E σ))
/-- the methods behind an operator -/
structure BinM (X : Cx) (C : Addr) (nm : String) (CX : CXT) (k : Nat) (sp spr : Sp) : Prop where
  fo : ∃ (f : Addr) (fd : FuncData) (ps : List Str), Om X C (PySem.dunder nm) f ∧ FnOk X.prog X.w X.K X.mg X.base CX k f fd ps sp ∧ Binds X.K fd ps []
  ba : ∃ (f : Addr) (fd : FuncData) (ps : List Str), Om X C (PySem.dunderR nm) f ∧ FnOk X.prog X.w X.K X.mg X.base CX k f fd ps spr ∧ Binds X.K fd ps []
  h1 : ∃ fo, PySem.W.findIn X.K (.type "int") (PySem.dunder nm) = some fo
  h2 : ∃ ro, PySem.W.findIn X.K (.type "int") (PySem.dunderR nm) = some ro
section
variable {X : Cx} {C : Addr} {k : Nat} {sp spr : Sp} {CX : CXT} {E : L2.St → XK}
theorem opS_bin {op : Operator} (c : OpC X.K C) (d : DecB X op) (m : BinM X C op.info.2 CX k sp spr) (hr : Room k X.A) (hx : ∀ σ, PassesAt CX X σ (E σ)) : OpS X (binaryOp op) (rBinS C sp spr E) := by
  intro pins s σ H x y v u Q I rx ry h
  obtain ⟨f, fd, ps, mf, F, hb⟩ := m.fo
  obtain ⟨g, gd, qs, mg, G, hg⟩ := m.ba
  obtain ⟨fo, h1⟩ := m.h1
  obtain ⟨ro, h2⟩ := m.h2
  obtain ⟨mm, hF⟩ := I.fr
  rcases h with ⟨⟨a, dx, fs, rfl, ha⟩, hy, q⟩ | ⟨⟨i, rfl⟩, ⟨a, dx, fs, rfl, ha⟩, q⟩
  · cases (show v = Value.ref a from rx)
    obtain ⟨od, J⟩ := inst_of I ha
    have fin : wpAny (model X.prog X.w) X.A (call (.ref f) [.ref a, u]) (PySem.W.CmpBack (EP X pins σ Q)) X.xe s := by
      refine wpAny_mono (run_fnS (us := [.ref a, u]) (vs := [.ref a, y]) F hr hb (hx σ) I (.cons rfl (.cons ry .nil)) q) (fun w s' z => ?_) fun _ _ x => x
      obtain ⟨z', H', I', rz, qz⟩ := z
      exact SlX.cmpback rz ⟨z', H', I', rz, qz⟩
    rcases hy with ⟨b, dy, gs, rfl, hb'⟩ | ⟨i, rfl⟩
    · cases (show u = Value.ref b from ry)
      obtain ⟨od', J'⟩ := inst_of I hb'
      exact PySem.W.binop_K hF I.ok.mod.kin J J'.type c.sf mf.hs mf.hf fin
    · obtain ⟨t, rfl⟩ := (show ∃ t, u = Value.int i t from ry)
      exact PySem.W.ksp_binT hF I.ok.mod.kin J rfl c.sf mf.hs mf.hf mg.hs (.inr ⟨g, rfl⟩) h1 h2 c.r1 fin
  · cases (show u = Value.ref a from ry)
    obtain ⟨t, rfl⟩ := (show ∃ t, v = Value.int i t from rx)
    obtain ⟨od, J⟩ := inst_of I ha
    obtain ⟨id, slot, dec⟩ := d.run pins σ H s C a dx fs i t I ha
    refine AmL.refl_bin (op := op) I.kIn J rfl (typeIs_int s i t) c.sf mf.hs mg.hs mg.hf h1 h2 c.s1 slot (fun Q' q' => dec _ Q' q') ?_
    refine wpAny_mono (run_fnS (us := [.ref a, .int i t]) (vs := [.ref a, .int i]) G hr hg (hx σ) I (.cons rfl (.cons rx .nil)) q) (fun w s' z => ?_) fun _ _ x => x
    obtain ⟨z', H', I', rz, qz⟩ := z
    exact SlX.cmpback rz ⟨z', H', I', rz, qz⟩
theorem passS0 : ∀ σ, PassesAt CX0 X σ (E σ) := fun _ _ _ _ _ _ _ h => h.elim
end
end Am
namespace Am
open PySem PySem.Spec PyProof.Rows L2
section
variable {X : Cx} {C g : Addr} {k : Nat} {fd : FuncData} {ps : List Str} {sp : Sp}
/-- abs(x), x an instance with an own __abs__ -/
theorem call_absC (m : Om X C "__abs__" g) (F : FnOk X.prog X.w X.K X.mg X.base CX0 k g fd ps sp) (hr : Room (k + 1) X.A) (hb : Binds X.K fd ps []) :
    CallR X (.builtin "abs") (fun xs H Q => ∃ x, xs = [x] ∧ (∃ a dx fs, x = .ref a ∧ H a = some (.ins C dx fs)) ∧ sp [x] H Q E0) := by
  intro pins s σ H xs us Q I r h
  obtain ⟨x, rfl, ⟨a, dx, fs, rfl, ha⟩, q⟩ := h
  obtain ⟨u, rfl, ru⟩ := vals1 r
  cases (show u = Value.ref a from ru)
  obtain ⟨od, J⟩ := inst_of I ha
  refine Calls.call_function_entry kind_abs plain_abs entry_abs (args_abs _) ?_
  unfold Builtin.«abs»
  refine wpAny_bind (m := oneArg "abs" _) (wpAny_pure ?_)
  refine wpAny_bind (m := callSpecial? (.ref a) (Str.ofString "__abs__")) (PySem.W.special_fn I.kIn J m.hs (beq_iff_eq.mp m.hf) (wpAny_mono (run_in1 (us := [.ref a]) (vs := [.ref a]) F hr hb pass0 I (.cons rfl .nil) q) (fun v s' z => ?_) fun _ _ y => y))
  exact wpAny_pure ⟨_, rfl, z⟩
theorem CallR.either {f : Value} {r r' : List V → Hp → VK → Prop} (h : CallR X f r) (h' : CallR X f r') : CallR X f (fun xs H Q => r xs H Q ∨ r' xs H Q) := by
  intro pins s σ H xs us Q I rr q
  rcases q with q | q
  · exact h pins s σ H xs us Q I rr q
  · exact h' pins s σ H xs us Q I rr q
end
end Am
/-! try .. except X as n: .. kept = n: the caught object stands on behind the suite -/
namespace Kt
open PySem PySem.Spec PyProof.Rows L2
/-- an exception object that was raised and caught: its class, its dict -/
def EO (a : Addr) (cls : Value) (d : Option Addr) : HO := .ext fun h => ∃ (oe : Obj) (vs : Array Value), h.get? a = some oe ∧ Zc cls d oe ∧ oe.data = .fields vs
theorem eo_ok {P : Program} {w : World} {H : Hp} {h : Heap} {a : Addr} {cls : Value} {d : Option Addr} {oe : Obj} {vs : Array Value} (e : h.get? a = some oe) (z : Zc cls d oe) (f : oe.data = .fields vs) : ObjOk P w H h a (EO a cls d) :=
  ⟨⟨oe, vs, e, z, f⟩, ⟨oe, e⟩, fun _ _ ⟨o, v, q, r⟩ k => ⟨o, v, k o q, r⟩⟩
theorem eo_at {P : Program} {w : World} {H : Hp} {h : Heap} {a : Addr} {cls : Value} {d : Option Addr} (ok : HOk P w H h) (e : H a = some (EO a cls d)) : ∃ oe vs, h.get? a = some oe ∧ Zc cls d oe ∧ oe.data = .fields vs := by
  obtain ⟨p, _, _⟩ := ok a _ e
  exact p
section
variable {X : Cx} {pins : List (Addr × Obj)} {τ : L2.St} {G : Hp} {z : Shared} {a : Addr} {o : HO}
/-- an object that is new since the entry becomes known -/
theorem track (I : Inv X pins τ G z) (na : G a = none) (n0 : X.s_0.heap.get? a = none) (nL : a ≠ X.env.locals) (np : ∀ p ∈ X.pn ++ pins, p.1 ≠ a) (nc : ∀ v, ¬ z.heap.IsCell a v)
    (new : ObjOk X.prog X.w (upd G a o) z.heap a o) : Inv X pins τ (upd G a o) z := by
  have elder : ∀ {b u}, X.s_0.heap.get? b = some u → b ≠ a := fun e y => by subst y; rw [n0] at e; cases e
  have same : ∀ {b u}, G b = some u → upd G a o b = some u := fun e => (upd_ne (ne_of_none e na)).trans e
  constructor
  case ok => exact I.ok
  case os => exact I.os
  case bare => exact I.bare
  case loc => exact I.loc
  case cell => exact I.cell
  case len => exact I.len
  case free => exact (upd_ne (Ne.symm nL)).trans I.free
  case freeC =>
    intro y c hc
    refine (upd_ne fun y' => ?_).trans (I.freeC y c hc)
    obtain ⟨v, hv⟩ := I.cell y c hc
    exact nc v (y' ▸ hv)
  case pin =>
    intro p hp
    have q := I.pin p hp
    exact ⟨q.1, (upd_ne (np p hp)).trans q.2.1, q.2.2⟩
  case base =>
    exact { I.base with
      free := fun b u e n x => (upd_ne (elder e)).trans (I.base.free b u e n x)
      tups := fun b xs e => same (I.base.tups b xs e)
      frzs := fun b w u e => same (I.base.frzs b w u e)
      tbls := fun b ps e => (I.base.tbls b ps e).imp fun _ => same }
  case hok =>
    intro b u e
    by_cases c : b = a
    · subst c
      obtain rfl : o = u := Option.some.inj (upd_same.symm.trans e)
      exact new
    · exact (I.hok b u ((upd_ne c).symm.trans e)).stay (fun _ _ _ y => y) (fun _ => same) fun _ _ => same
/-- into an except suite that pins nothing of its own, and out of it -/
theorem toSuite (I : Inv X pins τ G z) (a : Addr) : Inv (X.suite a (X.pn ++ pins)) [] τ G z :=
  { ok := I.ok.suite _ _, os := I.os, bare := I.bare, base := I.base, loc := I.loc, cell := I.cell, free := I.free, freeC := I.freeC, hok := I.hok, len := I.len, pin := fun p hp => I.pin p ((List.append_nil (X.pn ++ pins)) ▸ hp) }
theorem ofSuite {more : List (Addr × Obj)} (I : Inv (X.suite a (X.pn ++ pins)) more τ G z) (ok : X.Ok) : Inv X pins τ G z :=
  { ok := ok, os := I.os, bare := I.bare, base := I.base, loc := I.loc, cell := I.cell, free := I.free, freeC := I.freeC, hok := I.hok, len := I.len, pin := fun p hp => I.pin p (List.mem_append.mpr (.inl hp)) }
end
/-- the wish -/
def wKeep (K : PySem.W.Frag) (c : Value) (i : Nat) (ts : TS) (Wout : WX) (D : Ends) : WX := fun cls d σ H =>
  ∃ b, PySem.W.exmOne K cls c = some b ∧ (b = true → ∀ a, H a = none → ts { nx := fun σ' H' => D.nx (σ'.set i none) H', rt := D.rt, bk := fun σ' H' => D.bk (σ'.set i none) H', ct := fun σ' H' => D.ct (σ'.set i none) H' } (σ.set i (some (.ref a))) (upd H a (EO a cls d))) ∧
    (b = false → Wout cls d σ H)
section
variable {X : Cx} {x n : Str} {c : Value} {i : Nat} {body suite : List Stmt} {b₀ : Stmt} {np pos pos' : Pos} {tb : WX → TS} {ts : TS} {Wout : WX} {pins : List (Addr × Obj)} {τ : L2.St} {G : Hp} {D : Ends}
/-- what is to be done with an exception of a try's body -/
abbrev Fate (X : Cx) (hds : List ExceptHandler) (pins : List (Addr × Obj)) (D : Ends) (e : Value) (z : Shared) : Prop :=
  wpAny (model X.prog X.w) X.A (noteFrame e X.env) (fun _ z1 => wpAny (model X.prog X.w) X.A (setFlight e none) (fun _ z2 => wpAny (model X.prog X.w) X.A (handleBy e X.env hds) (SP X pins D) X.xe z2) X.xe z1) X.xe z
/-- the clause's test names the class c -/
theorem names_eval (hc : Names X x c) {a : Addr} {oe : Obj} {h3 : Heap} {z : Shared} (S : Inv (X.suite a ((a, oe) :: (X.pn ++ pins))) [] τ G { z with heap := h3 }) {Q E : Value → Shared → Prop} (q : Q c { z with heap := h3 }) :
    wpAny (model X.prog X.w) (X.A.mark (some (.ref a))) (eval (.Name x np) X.env) Q E { z with heap := h3 } := by
  rcases hc with ⟨g, nd, own | ⟨no, boot, nn⟩⟩
  · exact L2.ld_glob (X := X.suite a ((a, oe) :: (X.pn ++ pins))) S g own q nd
  · exact L2.ld_blt (X := X.suite a ((a, oe) :: (X.pn ++ pins))) S g no boot q nn nd
/-- the suite, run with the caught object known -/
theorem keep_suite (hN : X.N.Nodup) (hi : X.N[i]? = some n) (hln : X.env.kindOf n = some .local) (hsu : ∀ (a : Addr) (pn : List (Addr × Obj)), PSs (X.suite a pn) (b₀ :: suite) ts) {a : Addr} {z : Shared}
    (I : Inv X pins τ G z) (want : ts { nx := fun σ' H' => D.nx (σ'.set i none) H', rt := D.rt, bk := fun σ' H' => D.bk (σ'.set i none) H', ct := fun σ' H' => D.ct (σ'.set i none) H' } (τ.set i (some (.ref a))) G) {E1 E2 : Value → Shared → Prop} :
    wpAny (model X.prog X.w) (X.A.mark (some (.ref a))) (storeName X.env n (.ref a)) (fun _ z1 => wpAny (model X.prog X.w) (X.A.mark (some (.ref a))) (execs (b₀ :: suite) X.env) (fun fl z2 => wpAny (model X.prog X.w) X.A (do bindName X.env n .none; unbindBehindTheSuite X.env n pos') (fun _ z3 => SP X pins D fl z3) X.xe z2) E1 z1) E2 z := by
  refine L2.store_ok (X := X.suite a (X.pn ++ pins)) (v := .ref a) (toSuite I a) hN hi (.inl hln) rfl (fun z1 J => ?_) (.inr hln)
  have run := (hsu a (X.pn ++ pins)).run [] z1 _ _ _ J want
  have behind : ∀ {τ2 : L2.St} {G2 : Hp} {z2 : Shared} {Q : Shared → Prop}, Inv (X.suite a (X.pn ++ pins)) [] τ2 G2 z2 → (∀ z3, Inv X pins (τ2.set i none) G2 z3 → Q z3) →
      wpAny (model X.prog X.w) X.A (do bindName X.env n .none; unbindBehindTheSuite X.env n pos') (fun _ z3 => Q z3) X.xe z2 := fun J2 k => L2.gone_ok (ofSuite J2 I.ok) hN hi hln k
  refine wpAny_mono run (fun fl z2 r => ?_) fun _ _ no => no.elim
  match fl, r with
  | .next, ⟨_, _, J2, q⟩ => exact behind J2 fun _ J3 => ⟨_, _, J3, q⟩
  | .brk, ⟨_, _, J2, q⟩ => exact behind J2 fun _ J3 => ⟨_, _, J3, q⟩
  | .cont, ⟨_, _, J2, q⟩ => exact behind J2 fun _ J3 => ⟨_, _, J3, q⟩
  | .ret _, ⟨_, _, _, J2, rel, q⟩ => exact behind J2 fun _ J3 => ⟨_, _, _, J3, rel, q⟩
/-- an exception of the body meets the clause -/
theorem keep_fate (hx : X.ex = []) (hs : X.stack = X.env :: X.outer) (hf : X.env.frame = some X.env.locals) (hN : X.N.Nodup) (hi : X.N[i]? = some n) (hln : X.env.kindOf n = some .local) (hc : Names X x c) (tk : Takes X Wout) (ok : X.Ok)
    (hsu : ∀ (a : Addr) (pn : List (Addr × Obj)), PSs (X.suite a pn) (b₀ :: suite) ts) {u : Value} {z : Shared} {xe : Value → Shared → Prop} (air : XE (X.tr (X.pn ++ pins) xe) (wKeep X.K c i ts Wout D) u z) :
    Fate X [.ExceptHandler (some (.Name x np)) (some n) (b₀ :: suite) pos'] pins D u z := by
  obtain ⟨a, B, g, pins', τ, G, cls, d, rfl, J0, ground, up, sky, na, os, ag, b, meets, yes, no⟩ := air
  have J : Inv X pins τ G g := L2.Inv.ofTry J0 ok
  have sky1 : Sky B (X.env :: X.outer) a (Zc cls d) X.env.locals z.heap := hs ▸ sky
  refine Sky.land Zc.steady (ok.frames.trans (congrArg some hs)) hf sky1 fun k fl upk => ?_
  obtain ⟨oe, vs, at_, zc, rec⟩ := fl.there
  -- the object is no frame's, and new since the entry
  have noframe : a ∉ frs (X.env :: X.outer) := fun m => by
    obtain ⟨_, o', e', nr⟩ := fl.2.2.1.mem m
    obtain rfl : oe = o' := Option.some.inj (at_.symm.trans e')
    exact nr _ rec
  have nL : a ≠ X.env.locals := fun y => noframe (List.mem_filterMap.mpr ⟨_, .head _, hf.trans (congrArg some y.symm)⟩)
  have nF : a ∉ X.fs := fun m => noframe (by
    obtain ⟨e, me, q⟩ := List.mem_filterMap.mp m
    exact List.mem_filterMap.mpr ⟨e, .tail _ me, q⟩)
  have nG : g.heap.get? a = none := Option.eq_none_iff_forall_ne_some.mpr fun o e => by
    have q := ground a o e (hs ▸ noframe)
    rw [fl.2.1] at q
    cases q
  have n0 : X.s_0.heap.get? a = none := Option.eq_none_iff_forall_ne_some.mpr fun o e => by
    obtain ⟨o', q⟩ := J.base.there a o e (hx ▸ List.not_mem_nil)
    exact Option.some_ne_none _ (q.symm.trans nG)
  have npin : ∀ p ∈ X.pn ++ pins, p.1 ≠ a := fun p hp y => Option.some_ne_none _ ((J.pin p hp).1.symm.trans ((congrArg g.heap.get? y).trans nG))
  have K1 : Inv X pins τ G { z with heap := k } := L2.Inv.landed J ground fl.1 (up.trans upk) os ag
  have S1 := L2.Inv.suite K1 at_ rec na nL nF
  have isCls : PySem.W.Looks (model X.prog X.w) k (typeOf (.ref a)) cls := fun _ _ _ _ keep q => wpAny_typeOf_ref (keep _ _ at_) (zc.1.symm ▸ q)
  refine wpAny_handleBy_cons (codeAny_handlers_test (names_eval hc S1 ((PySem.W.exm_one (M := model X.prog X.w) K1.kIn isCls meets).here ?_))) (fun q => nomatch q)
  cases b with
  | true =>
    refine codeAny_handlers_suite_as (HandSPX.lands_againZ fl fun k2 fl2 up2 => ?_)
    obtain ⟨oe2, vs2, at2, zc2, rec2⟩ := fl2.there
    have K2 : Inv X pins τ G { z with heap := k2 } := L2.Inv.landed J ground fl2.1 ((up.trans upk).trans up2) os ag
    have K3 : Inv X pins τ (upd G a (EO a cls d)) { z with heap := k2 } := track K2 na n0 nL npin (fun v ⟨o, e, dv⟩ => by
      obtain rfl : oe2 = o := Option.some.inj (at2.symm.trans e)
      exact Data.noConfusion (rec2.symm.trans dv)) (eo_ok at2 zc2 rec2)
    exact keep_suite hN hi hln hsu K3 (yes rfl a na)
  | false =>
    refine wpAny_handleBy_nil ?_
    obtain ⟨_, _, _, oe', vs', T, _, _, e1, _, e2, e3, _⟩ := id fl
    have on : wpAny (model X.prog X.w) X.A (setFlight (.ref a) X.env.frame) (fun _ z1 => wpAny (model X.prog X.w) X.A (throw (.ref a) : Sem Flow) (SP X pins D) X.xe z1) X.xe { z with heap := k } := by
      rw [hf]
      refine HandSPX.setFlight_upZ fl fun k2 held up2 => wpAny_throw (tk _ _ ?_)
      refine ⟨a, B, g, pins, τ, G, cls, d, rfl, J, ground, (up.trans upk).trans up2, ?_, na, os, ag, no rfl⟩
      exact .inr (.inr (hs.symm ▸ held))
    unfold PySem.passOn
    refine wpAny_bind (wpAny_field e1 e2 e3 ?_)
    rw [if_neg (fun y => by simp at y)]
    first | exact wpAny_bind on | exact wpAny_bind (wpAny_pure (wpAny_bind on))
/-- try: body / except x as n: suite, the caught object known from then on -/
theorem ps_try_keep (hx : X.ex = []) (hs : X.stack = X.env :: X.outer) (hf : X.env.frame = some X.env.locals) (hN : X.N.Nodup) (hi : X.N[i]? = some n) (hln : X.env.kindOf n = some .local) (hc : Names X x c) (tk : Takes X Wout)
    (hb : ∀ (W : WX) (pn : List (Addr × Obj)) (xe : Value → Shared → Prop), Takes (X.tr pn xe) W → PassesOwn (model X.prog X.w) X.A X.env xe → PSs (X.tr pn xe) body (tb W))
    (hsu : ∀ (a : Addr) (pn : List (Addr × Obj)), PSs (X.suite a pn) (b₀ :: suite) ts) :
    PS X (.Try body [.ExceptHandler (some (.Name x np)) (some n) (b₀ :: suite) pos'] [] [] pos) (fun D σ H => tb (wKeep X.K c i ts Wout D) D σ H) := by
  constructor
  intro pins z τ G D I want
  have inner := hb (wKeep X.K c i ts Wout D) (X.pn ++ pins) (Fate X [.ExceptHandler (some (.Name x np)) (some n) (b₀ :: suite) pos'] pins D)
    (fun _ _ air => keep_fate hx hs hf hN hi hln hc tk I.ok hsu air) PassesOwn.looking
  refine wpAny_Try_except (wpAny_mono (inner.run [] z τ G D (L2.Inv.toTry I _) want) (fun fl z1 r => ?_) fun _ _ y => y)
  match fl, r with
  | .next, ⟨_, _, J, q⟩ => exact wpAny_execs_nil ⟨_, _, L2.Inv.ofTry J I.ok, q⟩
  | .brk, ⟨_, _, J, q⟩ => exact ⟨_, _, L2.Inv.ofTry J I.ok, q⟩
  | .cont, ⟨_, _, J, q⟩ => exact ⟨_, _, L2.Inv.ofTry J I.ok, q⟩
  | .ret _, ⟨_, _, _, J, rel, q⟩ => exact ⟨_, _, _, L2.Inv.ofTry J I.ok, rel, q⟩
/-- kept.f, kept a caught exception with an own dict -/
def tEf (C : Addr) (f : Str) (te : TE) : TE := fun σ H Q => te σ H fun x H1 => ∃ (a dd : Addr) (fs : List (Str × V)) (v : V), x = .ref a ∧ H1 a = some (EO a (.ref C) (some dd)) ∧ H1 dd = some (.xd fs) ∧ fs.lookup f = some v ∧ Q v H1
theorem pe_ef {C : Addr} {e : Expr} {te : TE} {pos : Pos} {n : Str} (T : XfC X.K C) (hno : PySem.W.findIn X.K (.ref C) n = some none)
    (he : PE X e te) (hb : attributeBase e n X.env (eval e X.env) = eval e X.env := by rfl) : PE X (.Attribute e n pos) (tEf C n te) := by
  refine ⟨fun pins z τ G Q I want => attr_of hb (thn (he.run pins z τ G _ I want) fun u z1 got => ?_)⟩
  obtain ⟨_, G1, J, rel, a, dd, fs, v, rfl, ea, ed, look, q⟩ := got
  cases (show u = Value.ref a from rel)
  obtain ⟨oe, vs, at_, zc, rec⟩ := eo_at J.hok ea
  obtain ⟨m, space, fits⟩ := (show ObjOk X.prog X.w G1 z1.heap dd (.xd fs) from J.hok dd _ ed)
  obtain ⟨od, od_at, od_look⟩ := lookIn_ns space
  have fit := fits n
  rw [look] at fit
  obtain ⟨w, w_is, w_rel⟩ := RelO.some_of fit
  have inst : PySem.W.InstAt z1.heap a oe C (some od) := by
    refine ⟨at_, zc.1, ?_, ?_⟩
    · unfold PySem.W.notCls
      rw [rec] <;> rfl
    · rw [zc.2]
      exact od_at
  have found := PySem.W.findObj_own (K := X.K) (C := C) (name := n) T.hdC hno rfl ((od_look n).trans (congrArg some w_is))
  exact HandSPX.exc_get J.kIn inst T.ga T.gg T.exC found (handed_of w_rel) ⟨v, G1, J.tok _, w_rel, q⟩
end
end Kt
namespace Am
open PySem PySem.Spec PyProof.Rows L2
def spInitE (K : PySem.W.Frag) : Sp := fun vs H Q _ => ∃ (a D : Addr) (v : V), vs = [.ref a, v] ∧ OexC K D ∧ PySem.W.findIn K (.ref D) "value" = some none ∧ H a = some (exo a D none) ∧ ∀ dx, H dx = none → dx ≠ a → Q .non (upd (upd H dx (exd dx [("value", v)])) a (exo a D (some dx)))
/-- an error class of the text -/
structure Err (K : PySem.W.Frag) (mg : Str → Option Value) (x : Str) (D fI : Addr) : Prop where
  oex : OexC K D
  iC : PySem.W.findIn K (.ref D) "__init__" = some (some (.ref fI))
  tI : PySem.W.typeIn K (.ref fI) = some (.type "function")
  gD : mg x = some (.ref D)
  nv : PySem.W.findIn K (.ref D) "value" = some none
  xf : XfC K D
  te : PySem.W.exmOne K (.ref D) (.ref D) = some true
def GotX (P : Program) (w : World) (K : PySem.W.Frag) (mg : Str → Option Value) (base : Heap) (x : Str) (k : Nat) (ps : List Str) (sp : Sp) : Prop :=
  ∃ (f : Addr) (fd : FuncData), FnOk P w K mg base (L2.CX P w) k f fd ps sp ∧ Binds K fd ps [] ∧ mg x = some (.ref f) ∧ PySem.W.keepIn K (.ref f) = true
section
variable {P : Program} {w : World} {K : PySem.W.Frag} {mg : Str → Option Value} {base : Heap} {C D : Addr}
theorem scInitE : FnScope ["self", "value"] ["self", "value"] (defScope sInitE) := ⟨rfl, rfl, rfl, by decide +kernel, rfl, by decide +kernel, by decide +kernel⟩
theorem ok_initE {f : Addr} {fd : FuncData} (F : Fun K "__init__" "MeterError.__init__" sInitE f fd) : FnOk P w K mg base CX0 1 f fd ["self", "value"] (spInitE K) := by
  refine F.ok scInitE (fun vs H Q E h => ?_) (fun cdv A outer s H vs Q E hr h => ?_)
  · obtain ⟨a, D, v, rfl, _⟩ := h
    rfl
  · obtain ⟨a, D, v, rfl, T, nv, ha, q⟩ := h
    exact ⟨_, pss_one (ps_ost (pv 0) (pv 1)), _, rfl, _, rfl, a, D, rfl, T, nv, .inl ⟨ha, fun dx hd ne => q dx hd ne⟩⟩
/-- a made error, told -/
theorem err_read {fI : Addr} {x : Str} (T : Err K mg x D fI) {H : Hp} {v : V} {Q : XK} (q : ∀ d H', Same H H' → H' d = some (.xd [("value", v)]) → Q (.ref D) (some d) H') :
    ∀ a, H a = none → spInitE K (.ref a :: ([v] ++ [])) (upd H a (exo a D none)) (fun r H2 => r = .non ∧ ∃ (d : Addr) (fs : List (Str × V)), H2 a = some (exo a D (some d)) ∧ H2 d = some (exd d fs) ∧ H d = none ∧ Q (.ref D) (some d) (upd (del H2 a) d (.xd fs))) (fun _ _ _ => False) := by
  intro a na
  refine ⟨a, D, v, rfl, T.oex, T.nv, upd_same, fun dx nd ne => ⟨rfl, dx, [("value", v)], upd_same, ?_, ?_, ?_⟩⟩
  · rw [upd_ne ne]; exact upd_same
  · rw [upd_ne ne] at nd; exact nd
  · refine q dx _ (fun b o e => ?_) upd_same
    have hd : H dx = none := by rw [upd_ne ne] at nd; exact nd
    have n1 : b ≠ dx := ne_of_none e hd
    have n2 : b ≠ a := ne_of_none e na
    rw [upd_ne n1, del_ne n2, upd_ne n2, upd_ne n1, upd_ne n2]
    exact e
end
end Am
/-! values of any kind as data: their repr, and whether a list of texts holds them; no list of theirs stands at p -/
namespace Rv
open PySem PySem.Spec PyProof.Rows L2
mutual
inductive Dj (p : Addr) (H : Hp) : V → PyData → Prop
  | non : Dj p H .non .none
  | bl (b : Bool) : Dj p H (.bl b) (.bool b)
  | int (i : Int) : Dj p H (.int i) (.int i)
  | str (z : Str) : Dj p H (.str z) (.str z)
  | lst {a : Addr} {xs : List V} {ds : List PyData} (h : H a = some (.lst xs)) (n : a ≠ p) (all : DjAll p H xs ds) : Dj p H (.ref a) (.list ds)
  | tup {a : Addr} {xs : List V} {ds : List PyData} (h : H a = some (.tup xs)) (all : DjAll p H xs ds) : Dj p H (.ref a) (.tuple ds)
  | dic {a : Addr} (h : H a = some (.dK [])) : Dj p H (.ref a) (.dict [])
inductive DjAll (p : Addr) (H : Hp) : List V → List PyData → Prop
  | nil : DjAll p H [] []
  | cons {v : V} {vs : List V} {d : PyData} {ds : List PyData} (h : Dj p H v d) (all : DjAll p H vs ds) : DjAll p H (v :: vs) (d :: ds)
end
mutual
theorem Dj.keep {p : Addr} {H H' : Hp} (f : ∀ b o, H b = some o → b ≠ p → (∀ ps, o ≠ .tbl ps) → H' b = some o) (hp : ∀ o, H p = some o → ∃ xs, o = .lst xs) : ∀ {v : V} {d : PyData}, Dj p H v d → Dj p H' v d
  | _, _, .non => .non
  | _, _, .bl b => .bl b
  | _, _, .int i => .int i
  | _, _, .str z => .str z
  | _, _, .lst h n all => .lst (f _ _ h n (fun _ z => by cases z)) n (DjAll.keep f hp all)
  | _, _, .tup h all => .tup (f _ _ h (fun e => by obtain ⟨_, z⟩ := hp _ (e ▸ h); cases z) (fun _ z => by cases z)) (DjAll.keep f hp all)
  | _, _, .dic h => .dic (f _ _ h (fun e => by obtain ⟨_, z⟩ := hp _ (e ▸ h); cases z) (fun _ z => by cases z))
theorem DjAll.keep {p : Addr} {H H' : Hp} (f : ∀ b o, H b = some o → b ≠ p → (∀ ps, o ≠ .tbl ps) → H' b = some o) (hp : ∀ o, H p = some o → ∃ xs, o = .lst xs) : ∀ {vs : List V} {ds : List PyData}, DjAll p H vs ds → DjAll p H' vs ds
  | _, _, .nil => .nil
  | _, _, .cons h all => .cons (Dj.keep f hp h) (DjAll.keep f hp all)
end
mutual
theorem Dj.reads {X : Cx} {pins : List (Addr × Obj)} {σ : L2.St} {p : Addr} {H : Hp} {s : Shared} (I : Inv X pins σ H s) : ∀ {v : V} {u : Value} {d : PyData}, Dj p H v d → RelV v u → ∃ as, Reads s.heap u d as
  | _, _, _, .non, r => by cases r; exact ⟨_, Reads.none⟩
  | _, _, _, .bl b, r => by cases r; exact ⟨_, Reads.bool b⟩
  | _, _, _, .int i, r => by obtain ⟨t, rfl⟩ := r; exact ⟨_, Reads.int i t⟩
  | _, _, _, .str z, r => by obtain ⟨t, rfl⟩ := r; exact ⟨_, Reads.str z t⟩
  | _, _, _, .lst h n all, r => by
    cases r
    obtain ⟨its, rv, ⟨o, n, ho, hc, _, hd⟩, _⟩ := I.list (SqL.of h)
    obtain ⟨as, hr⟩ := DjAll.reads I all rv
    exact ⟨_, Reads.list ho hc hd hr⟩
  | _, _, _, .tup h all, r => by
    cases r
    obtain ⟨its, rv, ⟨o, ho, hc, n, hd⟩, _⟩ := I.tuple (SqT.of h)
    obtain ⟨as, hr⟩ := DjAll.reads I all rv
    exact ⟨_, Reads.tuple ho hc hd hr⟩
  | _, _, _, .dic h, r => by
    cases r
    obtain ⟨_, hs, vs, kv, o, es, ep, h1, h2, h3, h4, h5, h6⟩ := I.hok _ _ h
    have e0 : vs = [] := by cases kv; rfl
    subst e0
    have e1 : es.toList = [] := by
      have z := h5
      generalize es.toList = l at z
      cases z
      rfl
    have e2 : es = #[] := by cases es; simp at e1; rw [e1]
    subst e2
    exact ⟨_, Reads.dict (kvs := []) h1 h2.1 h3 .nil .nil⟩
theorem DjAll.reads {X : Cx} {pins : List (Addr × Obj)} {σ : L2.St} {p : Addr} {H : Hp} {s : Shared} (I : Inv X pins σ H s) : ∀ {vs : List V} {us : List Value} {ds : List PyData}, DjAll p H vs ds → Vals vs us → ∃ as, ReadsAll s.heap us ds as
  | _, _, _, .nil, r => by cases r; exact ⟨_, ReadsAll.nil⟩
  | _, _, _, .cons h all, r => by
    cases r with
    | cons r1 r2 =>
      obtain ⟨as, q1⟩ := Dj.reads I h r1
      obtain ⟨bs, q2⟩ := DjAll.reads I all r2
      exact ⟨_, ReadsAll.cons q1 q2⟩
end
/-- repr of such a value -/
def rRepV : List V → Hp → VK → Prop := fun xs H Q => ∃ (p : Addr) (v : V) (d : PyData), xs = [v] ∧ Dj p H v d ∧ (d.hasDict = false ∨ d = .dict []) ∧ d.showable = true ∧ d.depth ≤ 60 ∧ d.shown.length ≤ sizeLine ∧ (∀ i, d = .int i → i.natAbs.log2 < 1920) ∧ Q (.str d.shown) H
theorem call_repV {X : Cx} (free : X.A.guards = some []) (hu : X.A.units + 64 < cLine) : CallR X (.builtin "repr") rRepV := by
  intro pins s σ H xs us Q I rel want
  obtain ⟨p, v, d, rfl, hv, hd, sh, dp, sz, hi, q⟩ := want
  obtain ⟨u, rfl, ru⟩ := vals1 rel
  have ref : ∀ a, v = .ref a → wpAny (model X.prog X.w) X.A (call (.builtin "repr") [u]) (fun u s' => ∃ v H', Inv X pins σ H' s' ∧ RelV v u ∧ Q v H') X.xe s := by
    rintro a rfl
    cases (show u = Value.ref a from ru)
    obtain ⟨as, r, hs⟩ : ∃ as, Reads s.heap (.ref a) d as ∧ (d.hasDict = true → sysModules ∉ as) := by
      rcases hd with hd | rfl
      · obtain ⟨as, r⟩ := hv.reads I ru
        exact ⟨as, r, fun z => by rw [hd] at z; cases z⟩
      · cases hv with
        | dic h =>
          obtain ⟨_, hs, vs, kv, o, es, ep, h1, h2, h3, h4, h5, h6⟩ := I.hok _ _ h
          have e0 : vs = [] := by cases kv; rfl
          subst e0
          have e1 : es.toList = [] := by
            have z := h5
            generalize es.toList = l at z
            cases z
            rfl
          have e2 : es = #[] := by cases es; simp at e1; rw [e1]
          subst e2
          refine ⟨_, Reads.dict (kvs := []) h1 h2.1 h3 .nil .nil, fun _ z => ?_⟩
          simp only [List.append_nil, List.mem_singleton] at z
          rw [← z] at hs
          simp at hs
    refine repr_of_reads' r sh hs free (by omega) (fun _ _ z => z) ?_ sz
    intro h' t tk kp
    exact ⟨.str d.shown, H, I.kept kp, ⟨t, rfl⟩, q⟩
  cases hv with
  | non =>
    obtain rfl := (show u = Value.none from ru)
    simp only [PyData.shown] at q
    exact PySem.P.repr_of_none ⟨.str _, H, I.tok _, ⟨_, rfl⟩, q⟩
  | bl b =>
    obtain rfl := (show u = Value.bool b from ru)
    simp only [PyData.shown] at q
    exact PySem.P.repr_of_bool ⟨.str _, H, I.tok _, ⟨_, rfl⟩, q⟩
  | int i =>
    obtain ⟨t, rfl⟩ := ru
    simp only [PyData.shown] at q
    exact PySem.P.repr_of_int (hi i rfl) ⟨.str _, H, I.tok _, ⟨_, rfl⟩, q⟩
  | str z =>
    obtain ⟨t, rfl⟩ := ru
    simp only [PyData.shown] at q sz
    exact PySem.P.repr_of_str ⟨.str _, H, I.tok _, ⟨_, rfl⟩, q⟩ sz
  | lst h n all => exact ref _ rfl
  | tup h all => exact ref _ rfl
  | dic h => exact ref _ rfl
/-! ### a dict among texts -/
theorem dict_eq_str (l : Addr) (es : Array DictEntry) (ep : Nat) (b : Str) (u : Tok) :
    Meets (Builtin.«dict.__eq__» ⟨[.ref l, .str b u], []⟩) (fun _ R s => s.heap.get? l = some { cls := .type "dict", dict := none, data := .dict es ep, slots := #[] } ∧ R (.ok (.ret .notImplemented)) s) :=
  .of_wp fun prog w A R s h => by obtain ⟨hp, g, d, tk, os⟩ := s; obtain ⟨hl, h⟩ := h; have f1 := F.sub_str_dict; wp_walk using wpAny_loadPart' hl; exact ⟨_, rfl, h⟩
theorem str_eq_dict (b : Str) (u : Tok) (l : Addr) (es : Array DictEntry) (ep : Nat) :
    Meets (Builtin.«str.__eq__» ⟨[.str b u, .ref l], []⟩) (fun _ R s => s.heap.get? l = some { cls := .type "dict", dict := none, data := .dict es ep, slots := #[] } ∧ R (.ok (.ret .notImplemented)) s) :=
  .of_wp fun prog w A R s h => by obtain ⟨hp, g, d, tk, os⟩ := s; obtain ⟨hl, h⟩ := h; wp_walk using wpAny_loadPart' hl, wpAny_load hl; exact ⟨_, rfl, h⟩
section
variable {A : Around} {s : Shared} {l : Addr} {es : Array DictEntry} {ep : Nat}
theorem rc_str_dict (b : Str) (u : Tok) (ho : s.heap.get? l = some { cls := .type "dict", dict := none, data := .dict es ep, slots := #[] }) (hu : A.units < cLine) : SeqAt.RcAt A s (.str b u) (.ref l) false := fun prog w E Q h =>
  SeqAt.rc_eq_decline_or (k := false) (typeIs_str s b u) ⟨_, ho, rfl⟩ (by decide) F.sub_dict_str F.slot_str_eq F.slot_dict_eq_refl
    (fun _ hq => call_meets F.slot_str_eq (typeIs_str s b u) F.entry_str_eq (F.args_str_eq_2 _ _) (str_eq_dict b u l es ep) ⟨ho, hq⟩)
    (fun _ hq => call_meets F.slot_dict_eq_refl ⟨_, ho, rfl⟩ F.entry_dict_eq (F.args_dict_eq_2 _ _) (dict_eq_str l es ep b u) ⟨ho, hq⟩)
    (fun _ hq => wpAny_of_eq (rfl : isSame (.str b u) (.ref l) = pure false) hq) (.inr hu) h
theorem eq_str_dict (b : Str) (u : Tok) (ho : s.heap.get? l = some { cls := .type "dict", dict := none, data := .dict es ep, slots := #[] }) (hu : A.units < cLine) : SeqAt.EqAt A s (.str b u) (.ref l) false := fun prog w E Q h => by
  unfold eqBool
  refine wpAny_holding ?_
  refine wpAny_ite_split (fun hab => absurd (eq_of_beq hab) nofun) (fun _ => ?_)
  exact wpAny_bind (rc_str_dict b u ho hu prog w E _ (wpAny_truthy_bool h))
end
/-- a value is not among texts -/
def inS (ws : List Str) : PyData → Bool
  | .str z => decide (z ∈ ws)
  | _ => false
theorem inS_eqv (ws : List Str) (d : PyData) : ((ws.map PyData.str).any fun y => PyData.eqv y d) = inS ws d := by
  rw [List.any_map]
  cases d <;> first | (simp only [inS]; exact List.any_eq_false.mpr fun x _ => by simp [Function.comp, PyData.eqv]) | skip
  rename_i z
  rw [Bool.eq_iff_iff, List.any_eq_true]
  simp only [inS, decide_eq_true_eq, Function.comp, PyData.eqv]
  constructor
  · rintro ⟨x, hx, e⟩
    rw [← eq_of_beq e]
    exact hx
  · intro h
    exact ⟨z, h, beq_self_eq_true z⟩
theorem dps {K : PySem.W.Frag} {H : Hp} : ∀ ws : List Str, DpAll K H (ws.map V.str) (ws.map PyData.str)
  | [] => .nil
  | w :: ws => .cons (.str w) (dps ws)
theorem lay_strs : ∀ ws : List Str, (∀ w ∈ ws, PyData.strOk w = true) → PyData.canLayAll0 (ws.map PyData.str) = true
  | [], _ => rfl
  | w :: ws, h => by simp only [List.map, PyData.canLayAll0, PyData.canLay0, lay_strs ws (fun x hx => h x (by simp [hx])), h w (by simp), Bool.and_self]
theorem strs_mem : ∀ {zs : List Str} {its : List Value} {w : Value}, Vals (zs.map V.str) its → w ∈ its → ∃ b t, w = Value.str b t
  | [], _, _, rv, hw => by cases rv; cases hw
  | z :: zs, _, _, rv, hw => by
    cases rv with
    | cons r rv =>
      rcases List.mem_cons.mp hw with rfl | hw
      · obtain ⟨t, e⟩ := r
        exact ⟨_, t, e⟩
      · exact strs_mem rv hw
def rNotInS (K : PySem.W.Frag) : R2 := fun x y H Q => ∃ (p l : Addr) (ws : List Str) (d : PyData), y = .ref l ∧ SqL K H l (ws.map V.str) ∧ (∀ w ∈ ws, PyData.strOk w = true) ∧ Dj p H x d ∧ (SeqAt.shaped d = true ∨ d = .dict []) ∧ Q (.bl (!inS ws d)) H
theorem op_notInS {X : Cx} (hu : X.A.units + 65 < cLine) : OpR X (compareOp .NotIn) (rNotInS X.K) := by
  intro pins s σ H x y v u Q I rx ry want
  obtain ⟨p, l, ws, d, rfl, hl, hw0, hx, sd, q⟩ := want
  rcases sd with sd | rfl
  · obtain ⟨as, r1⟩ := hx.reads I rx
    obtain ⟨bs, r2⟩ := Dp.reads I (.list (ws.map PyData.str)) _ u (.lst hl (dps ws)) ry
    refine SeqAt.notIn_list_reads r2 r1 (lay_strs ws hw0) (SeqAt.canLay_of_shaped sd) (room_in_shaped sd hu) ⟨.bl _, H, I, rfl, ?_⟩
    rw [inS_eqv]
    exact q
  · cases hx with
    | dic h =>
      cases (show v = Value.ref _ from rx)
      cases ry
      obtain ⟨_, hs, vs, kv, ⟨cls, dd, data, sl⟩, es, ep, h1, ⟨h21, h22, h23⟩, h3, h4, h5, h6⟩ := I.hok _ _ h
      simp only at h21 h22 h23 h3
      subst h21 h22 h23 h3
      obtain ⟨its, rv, pl, hz⟩ := I.list hl
      refine SeqAt.notIn_listAt (fun _ => false) pl.isList (fun w hw => ?_) ⟨.bl _, H, I, rfl, ?_⟩
      · obtain ⟨b, t, rfl⟩ : ∃ b t, w = Value.str b t := by
          have hw : w ∈ its := by simpa using hw
          clear hl hz pl q hw0
          generalize ws = zs at rv
          exact strs_mem rv hw
        exact eq_str_dict b t h1 (by show X.A.units + 1 < cLine; omega)
      · have : its.toArray.any (fun _ => false) = false := by simp
        rw [this]
        exact q
end Rv
/-! what a value of any kind is an instance of -/
namespace Rv
open PySem PySem.Spec PyProof.Rows L2 Am
inductive T4
  | tup
  | bl
  | int
  | str
def T4.nm : T4 → String
  | .tup => "tuple"
  | .bl => "bool"
  | .int => "int"
  | .str => "str"
def isD : T4 → PyData → Bool
  | .tup, .tuple _ => true
  | .bl, .bool _ => true
  | .int, .int _ => true
  | .int, .bool _ => true
  | .str, .str _ => true
  | _, _ => false
theorem Dj.isi {K : PySem.W.Frag} {p : Addr} {H : Hp} {v : V} {d : PyData} (h : Dj p H v d) (T : T4) : ∃ ty, TyX K H v ty ∧ PySem.W.kitOne K ty (.type T.nm) = some (isD T d) := by
  cases h with
  | non => cases T <;> exact ⟨_, .base (Bk.tyOf .non), kit_ty (show kitB "NoneType" _ = some false by decide +kernel)⟩
  | bl b =>
    cases T with
    | tup => exact ⟨_, .base (Bk.tyOf (.bl b)), kit_ty (show kitB "bool" "tuple" = some false by decide +kernel)⟩
    | bl => exact ⟨_, .base (Bk.tyOf (.bl b)), kit_ty (show kitB "bool" "bool" = some true by decide +kernel)⟩
    | int => exact ⟨_, .base (Bk.tyOf (.bl b)), kit_ty (show kitB "bool" "int" = some true by decide +kernel)⟩
    | str => exact ⟨_, .base (Bk.tyOf (.bl b)), kit_ty (show kitB "bool" "str" = some false by decide +kernel)⟩
  | int i =>
    cases T with
    | tup => exact ⟨_, .base (Bk.tyOf (.int i)), kit_ty (show kitB "int" "tuple" = some false by decide +kernel)⟩
    | bl => exact ⟨_, .base (Bk.tyOf (.int i)), kit_ty (show kitB "int" "bool" = some false by decide +kernel)⟩
    | int => exact ⟨_, .base (Bk.tyOf (.int i)), kit_ty (show kitB "int" "int" = some true by decide +kernel)⟩
    | str => exact ⟨_, .base (Bk.tyOf (.int i)), kit_ty (show kitB "int" "str" = some false by decide +kernel)⟩
  | str z =>
    cases T with
    | tup => exact ⟨_, .base (Bk.tyOf (.str z)), kit_ty (show kitB "str" "tuple" = some false by decide +kernel)⟩
    | bl => exact ⟨_, .base (Bk.tyOf (.str z)), kit_ty (show kitB "str" "bool" = some false by decide +kernel)⟩
    | int => exact ⟨_, .base (Bk.tyOf (.str z)), kit_ty (show kitB "str" "int" = some false by decide +kernel)⟩
    | str => exact ⟨_, .base (Bk.tyOf (.str z)), kit_ty (show kitB "str" "str" = some true by decide +kernel)⟩
  | tup ho all =>
    cases T with
    | tup => exact ⟨_, .base (Bk.tyOf (.tup ho)), kit_ty (show kitB "tuple" "tuple" = some true by decide +kernel)⟩
    | bl => exact ⟨_, .base (Bk.tyOf (.tup ho)), kit_ty (show kitB "tuple" "bool" = some false by decide +kernel)⟩
    | int => exact ⟨_, .base (Bk.tyOf (.tup ho)), kit_ty (show kitB "tuple" "int" = some false by decide +kernel)⟩
    | str => exact ⟨_, .base (Bk.tyOf (.tup ho)), kit_ty (show kitB "tuple" "str" = some false by decide +kernel)⟩
  | lst ho n => cases T <;> exact ⟨_, .base (Bk.tyOf (.lst ho)), kit_ty (show kitB "list" _ = some false by decide +kernel)⟩
  | dic ho => cases T <;> exact ⟨_, .base (Bk.tyOf (.dK ho)), kit_ty (show kitB "dict" _ = some false by decide +kernel)⟩
/-- data whose repr can be asked, and that can be looked for among texts -/
def isE : PyData → Bool
  | .dict [] => true
  | _ => false
def smallI : PyData → Bool
  | .int i => decide (i.natAbs < 2 ^ 100)
  | _ => true
def rokB (d : PyData) : Bool := (!d.hasDict || isE d) && (d.showable && (decide (d.depth ≤ 60) && (decide (d.shown.length ≤ 1000) && (smallI d && (SeqAt.shaped d || isE d)))))
structure Rok (d : PyData) : Prop where
  dic : d.hasDict = false ∨ d = .dict []
  sh : d.showable = true
  dp : d.depth ≤ 60
  len : d.shown.length ≤ sizeLine
  int : ∀ i, d = .int i → i.natAbs.log2 < 1920
  lay : SeqAt.shaped d = true ∨ d = .dict []
theorem isE_of {d : PyData} (h : isE d = true) : d = .dict [] := by
  unfold isE at h
  split at h
  · rfl
  · cases h
theorem rok_of {d : PyData} (h : rokB d = true) : Rok d := by
  unfold rokB at h
  simp only [Bool.and_eq_true, Bool.or_eq_true, Bool.not_eq_true', decide_eq_true_eq] at h
  obtain ⟨h1, h2, h3, h4, h5, h6⟩ := h
  refine ⟨h1.imp id isE_of, h2, h3, Nat.le_trans h4 (by decide), fun i e => ?_, h6.imp id isE_of⟩
  subst e
  have h5 := of_decide_eq_true h5
  by_cases z : i.natAbs = 0
  · rw [z]; decide
  · exact Nat.lt_of_lt_of_le ((Nat.log2_lt z).mpr h5) (by decide)
/-- repr of an int or a text, wherever it is asked -/
def rRepSc : List V → Hp → VK → Prop := fun xs H Q => ∃ (v : V) (t : Str), xs = [v] ∧ ((∃ i : Int, v = .int i ∧ i.natAbs.log2 < 1920 ∧ t = (toString i : Str)) ∨ (∃ z : Str, v = .str z ∧ (reprText z).length ≤ sizeLine ∧ t = reprText z)) ∧ Q (.str t) H
theorem call_repSc {X : Cx} : CallR X (.builtin "repr") rRepSc := by
  intro pins s σ H xs us Q I rel want
  obtain ⟨v, t, rfl, hv, q⟩ := want
  obtain ⟨u, rfl, ru⟩ := vals1 rel
  rcases hv with ⟨i, rfl, hi, rfl⟩ | ⟨z, rfl, hz, rfl⟩
  · obtain ⟨t, rfl⟩ := ru
    exact PySem.P.repr_of_int hi ⟨.str _, H, I.tok _, ⟨_, rfl⟩, q⟩
  · obtain ⟨t, rfl⟩ := ru
    exact PySem.P.repr_of_str ⟨.str _, H, I.tok _, ⟨_, rfl⟩, q⟩ hz
end Rv
/-! a house asked: who lives where, rooms, prices; what is refused -/
namespace Hs
open PySem PySem.Spec PyProof.Rows L2 Am Rv
def isPl (L : Lore) : PyData → Bool
  | .str z => decide (z ∈ L.places.map (·.name))
  | _ => false
def isInt : PyData → Bool
  | .int _ => true
  | _ => false
def isDy (L : Lore) : PyData → Bool
  | .int i => decide (0 ≤ i) && decide (i < L.days)
  | _ => false
theorem pl_of {L : Lore} {d : PyData} (h : isPl L d = true) : ∃ i, ∃ hi : i < L.places.length, d = .str L.places[i].name := by
  cases d <;> first | cases h | skip
  rename_i z
  have h := of_decide_eq_true h
  obtain ⟨i, hi, e⟩ := List.mem_iff_getElem.mp h
  exact ⟨i, by simpa using hi, by rw [← e]; simp⟩
theorem dy_of {L : Lore} {d : PyData} (h : isDy L d = true) : ∃ k : Nat, k < L.days ∧ d = .int k := by
  cases d <;> first | cases h | skip
  rename_i i
  unfold isDy at h
  rw [Bool.and_eq_true] at h
  have h1 := of_decide_eq_true h.1
  have h2 := of_decide_eq_true h.2
  exact ⟨i.toNat, by omega, by rw [Int.toNat_of_nonneg h1]⟩
theorem room_val {L : Lore} (nd : (L.places.map (·.name)).Nodup) {i : Nat} (hi : i < L.places.length) : valV (L.places.map fun q => ((.inr q.name : Key), V.int q.room)) (.inr L.places[i].name : Key) = some (.int L.places[i].room) := by
  generalize L.places = l at *
  induction l generalizing i with
  | nil => simp at hi
  | cons q l ih =>
    unfold valV
    rw [List.map_cons, List.find?_cons]
    cases i with
    | zero =>
      rw [decide_eq_true (by rfl)]
      rfl
    | succ i =>
      rw [List.map_cons, List.nodup_cons] at nd
      have hi' : i < l.length := by simpa using hi
      rw [decide_eq_false]
      · exact ih nd.2 hi'
      · intro z
        have z : q.name = l[i].name := Sum.inr.inj z
        exact nd.1 (z ▸ List.mem_map.mpr ⟨_, List.getElem_mem hi', rfl⟩)
theorem room_none {L : Lore} {z : Str} (h : z ∉ L.places.map (·.name)) : valV (L.places.map fun q => ((.inr q.name : Key), V.int q.room)) (.inr z : Key) = none := by
  generalize L.places = l at *
  induction l with
  | nil => rfl
  | cons q l ih =>
    rw [List.map_cons, List.mem_cons, not_or] at h
    unfold valV
    rw [List.map_cons, List.find?_cons, decide_eq_false (fun e => h.1 (Sum.inr.inj e).symm)]
    exact ih h.2
theorem ten_val {L : Lore} (nd : (L.places.map (·.name)).Nodup) : ∀ {ts : List Addr}, ts.length = L.places.length → ∀ {i : Nat} (hi : i < L.places.length) (ht : i < ts.length), valV ((L.places.zip ts).map fun q => ((.inr q.1.name : Key), V.ref q.2)) (.inr L.places[i].name : Key) = some (.ref ts[i]) := by
  generalize L.places = l at *
  induction l with
  | nil => intro ts _ i hi; simp at hi
  | cons q l ih =>
    intro ts e i hi ht
    cases ts with
    | nil => simp at ht
    | cons t ts =>
      unfold valV
      rw [List.zip_cons_cons, List.map_cons, List.find?_cons]
      cases i with
      | zero =>
        rw [decide_eq_true (by rfl)]
        rfl
      | succ i =>
        rw [List.map_cons, List.nodup_cons] at nd
        have hi' : i < l.length := by simpa using hi
        rw [decide_eq_false]
        · exact ih nd.2 (by simpa using e) hi' (by simpa using ht)
        · intro z
          have z : q.name = l[i].name := Sum.inr.inj z
          exact nd.1 (z ▸ List.mem_map.mpr ⟨_, List.getElem_mem hi', rfl⟩)
theorem HouseAt.ins {C : Addr} {H : Hp} {h : Addr} {x : Str} {L : Lore} (k : HouseAt C H h x L) : ∃ dx a b c r t p, H h = some (.ins C dx (hfs x L.days a b c r t p)) := by
  obtain ⟨dx, a, b, c, r, t, p, _, _, _, h1, _⟩ := k
  exact ⟨dx, a, b, c, r, t, p, h1⟩
def spWholeD (p : Addr) : Sp := fun vs H Q _ => ∃ (v : V) (d : PyData), vs = [v] ∧ Dj p H v d ∧ Q (.bl (isInt d)) H
def spIsP (CH p : Addr) : Sp := fun vs H Q _ => ∃ (h : Addr) (x : Str) (L : Lore) (v : V) (d : PyData), vs = [.ref h, v] ∧ HouseAt CH H h x L ∧ Dj p H v d ∧ (L.places.map (·.name)).Nodup ∧ Q (.bl (isPl L d)) H
def spIsDy (CH p : Addr) : Sp := fun vs H Q _ => ∃ (h : Addr) (x : Str) (L : Lore) (v : V) (d : PyData), vs = [.ref h, v] ∧ HouseAt CH H h x L ∧ Dj p H v d ∧ Q (.bl (isDy L d)) H
/-- raised with this value -/
def Rs (E : XK) (H : Hp) (D : Addr) (v : V) : Prop := ∀ d H', Same H H' → H' d = some (.xd [("value", v)]) → E (.ref D) (some d) H'
def spHLives (CH DF DB p : Addr) : Sp := fun vs H Q E => ∃ (h : Addr) (x : Str) (L : Lore) (v w : V) (d e : PyData), vs = [.ref h, v, w] ∧ HouseAt CH H h x L ∧ (L.places.map (·.name)).Nodup ∧ Dj p H v d ∧ Dj p H w e ∧
  (isPl L d = false → Rs E H DF v) ∧ (isPl L d = true → isDy L e = false → Rs E H DB w) ∧ (∀ (i k : Nat) (hi : i < L.places.length), k < L.days → d = .str L.places[i].name → e = .int k → Q (.str (tenD L.stays L.places[i].name k)) H)
def spHRoom (CH DF p : Addr) : Sp := fun vs H Q E => ∃ (h : Addr) (x : Str) (L : Lore) (v : V) (d : PyData), vs = [.ref h, v] ∧ HouseAt CH H h x L ∧ (L.places.map (·.name)).Nodup ∧ Dj p H v d ∧
  (isPl L d = false → Rs E H DF v) ∧ (∀ (i : Nat) (hi : i < L.places.length), d = .str L.places[i].name → Q (.int L.places[i].room) H)
def spHPrice (CH DB p : Addr) : Sp := fun vs H Q E => ∃ (h : Addr) (x : Str) (L : Lore) (w : V) (e : PyData), vs = [.ref h, w] ∧ HouseAt CH H h x L ∧ Dj p H w e ∧
  (isDy L e = false → Rs E H DB w) ∧ (∀ (k : Nat), k < L.days → e = .int k → Q (.int (priD L.prices k)) H)
section
variable {P : Program} {w : World} {K : PySem.W.Frag} {mg : Str → Option Value} {base : Heap} {CH DF DB p : Addr}
theorem scWholeD : FnScope ["value"] ["value"] (defScope sWhole) := ⟨rfl, rfl, rfl, by decide +kernel, rfl, by decide +kernel, by decide +kernel⟩
theorem ok_wholeD {f : Addr} {fd : FuncData} (F : Fun K "is_whole" "is_whole" sWhole f fd) (T : Nm mg) (nint : mg "int" = none) (nbool : mg "bool" = none) : FnOk P w K mg base CX0 1 f fd ["value"] (spWholeD p) := by
  refine F.ok scWholeD (fun vs H Q E h => ?_) (fun cdv A outer s H vs Q E hr h => ?_)
  · obtain ⟨v, d, rfl, _⟩ := h
    rfl
  · obtain ⟨v, d, rfl, hv, q⟩ := h
    have b_int_ : bootBuiltins "int" = some (.type "int") := by decide +kernel
    have b_bool_ : bootBuiltins "bool" = some (.type "bool") := by decide +kernel
    refine ⟨_, pss_one (ps_ret (pe_and (pe_callB call_isi (by rfl) T.isi b_isi (pa_cons (pv 0) (pa_cons (pe_bltn (v := .ty "int") (by rfl) nint b_int_ rfl) pa_nil))) (pe_one (pe_not (pe_callB call_isi (by rfl) T.isi b_isi (pa_cons (pv 0) (pa_cons (pe_bltn (v := .ty "bool") (by rfl) nbool b_bool_ rfl) pa_nil))))))), ?_⟩
    obtain ⟨ty_bl, hty_bl, hk_bl⟩ := hv.isi (K := K) .bl
    obtain ⟨ty_int, hty_int, hk_int⟩ := hv.isi (K := K) .int
    refine ⟨_, rfl, v, .ty "int", ty_int, .type "int", _, rfl, .ty _, hty_int, hk_int, _, rfl, ?_⟩
    by_cases h1 : isD .int d = true
    · rw [h1]
      refine iteT ⟨_, rfl, v, .ty "bool", ty_bl, .type "bool", _, rfl, .ty _, hty_bl, hk_bl, _, rfl, ?_⟩
      have e : isInt d = !isD .bl d := by
        cases d <;> first | rfl | cases h1
      rw [e] at q
      exact q
    · rw [show isD .int d = false by simpa using h1]
      have e : isInt d = false := by
        cases d <;> first | rfl | exact absurd rfl h1
      rw [e] at q
      exact iteF q
theorem scIsP : FnScope ["self", "value"] ["self", "value"] (defScope sHIsPlace) := ⟨rfl, rfl, rfl, by decide +kernel, rfl, by decide +kernel, by decide +kernel⟩
theorem ok_isP {f : Addr} {fd : FuncData} (F : Fun K "_is_place" "House._is_place" sHIsPlace f fd) (T : Nm mg) (ho : HoC K CH) (nstr : mg "str" = none) : FnOk P w K mg base CX0 1 f fd ["self", "value"] (spIsP CH p) := by
  refine F.ok scIsP (fun vs H Q E h => ?_) (fun cdv A outer s H vs Q E hr h => ?_)
  · obtain ⟨h, x, L, v, d, rfl, _⟩ := h
    rfl
  · obtain ⟨h, x, L, v, d, rfl, hh, hv, nd, q⟩ := h
    have hu := hu_of hr
    have b_str_ : bootBuiltins "str" = some (.type "str") := by decide +kernel
    refine ⟨_, pss_one (ps_ret (pe_and (pe_callB call_isi (by rfl) T.isi b_isi (pa_cons (pv 1) (pa_cons (pe_bltn (v := .ty "str") (by rfl) nstr b_str_ rfl) pa_nil))) (pe_one (pe_cmp (pc_din hu (pv 1) (pe_fld (pv 0) rfl)) rfl)))), ?_⟩
    obtain ⟨ty, hty, hk⟩ := hv.isi (K := K) .str
    obtain ⟨dx, a, b, c, r, t, pp, rs, ts, ys, h1, h2, h3, h4, h5, h6, h7, h8, h9, h10⟩ := hh
    refine ⟨_, rfl, v, .ty "str", ty, .type "str", _, rfl, .ty _, hty, hk, _, rfl, ?_⟩
    by_cases e1 : isD .str d = true
    · rw [e1]
      obtain ⟨z, rfl⟩ : ∃ z, d = .str z := by
        cases d <;> first | exact ⟨_, rfl⟩ | cases e1
      cases hv
      refine iteT ⟨_, rfl, _, rfl, h, CH, dx, _, _, rfl, h1, ho.cl, ho.n6, hfs_ro _ _ _ _ _ _ _ _, r, _, rfl, DGet.k (k := Sum.inr z) h7, ?_⟩
      by_cases c : z ∈ L.places.map (·.name)
      · obtain ⟨i, hi, e⟩ := List.mem_iff_getElem.mp c
        have hi' : i < L.places.length := by simpa using hi
        obtain rfl : L.places[i].name = z := by rw [← e]; simp
        rw [room_val nd hi']
        rw [show isPl L (.str L.places[i].name) = true from decide_eq_true c] at q
        exact q
      · rw [room_none c]
        rw [show isPl L (.str z) = false from decide_eq_false c] at q
        exact q
    · rw [show isD .str d = false by simpa using e1]
      have e : isPl L d = false := by
        cases d <;> first | rfl | exact absurd rfl e1
      rw [e] at q
      exact iteF q
theorem scIsDy : FnScope ["self", "value"] ["self", "value"] (defScope sHIsDay) := ⟨rfl, rfl, rfl, by decide +kernel, rfl, by decide +kernel, by decide +kernel⟩
theorem ok_isDy {f : Addr} {fd : FuncData} (F : Fun K "_is_day" "House._is_day" sHIsDay f fd) (ho : HoC K CH) (GW : GotF P w K mg base "is_whole" 1 ["value"] (spWholeD p)) : FnOk P w K mg base CX0 2 f fd ["self", "value"] (spIsDy CH p) := by
  obtain ⟨fW, dW, GW, bW, mW, kW⟩ := GW
  refine F.ok scIsDy (fun vs H Q E h => ?_) (fun cdv A outer s H vs Q E hr h => ?_)
  · obtain ⟨h, x, L, v, d, rfl, _⟩ := h
    rfl
  · obtain ⟨h, x, L, v, d, rfl, hh, hv, q⟩ := h
    refine ⟨_, pss_one (ps_ret (pe_and (pe_call GW hr (by rfl) mW kW bW .nil pass0 (pa_cons (pv 1) pa_nil)) (pe_one (pe_chain op_le op_lt pe_int (pv 1) (pe_fld (pv 0) rfl))))), ?_⟩
    obtain ⟨dx, a, b, c, r, t, pp, rs, ts, ys, h1, _⟩ := hh
    refine ⟨_, rfl, v, d, rfl, hv, _, rfl, ?_⟩
    by_cases e1 : isInt d = true
    · rw [e1]
      obtain ⟨i, rfl⟩ : ∃ i, d = .int i := by
        cases d <;> first | exact ⟨_, rfl⟩ | cases e1
      cases hv
      refine iteT ⟨_, rfl, _, _, rfl, rfl, _, rfl, ?_⟩
      have e : isDy L (.int i) = (decide (0 ≤ i) && decide (i < (L.days : Int))) := rfl
      rw [e] at q
      cases c3 : decide (0 ≤ i) with
      | true =>
        rw [c3] at q
        exact iteT ⟨_, rfl, h, CH, dx, _, _, rfl, h1, ho.cl, ho.n2, hfs_da _ _ _ _ _ _ _ _, _, _, rfl, rfl, q⟩
      | false =>
        rw [c3] at q
        exact iteF q
    · rw [show isInt d = false by simpa using e1]
      have e : isDy L d = false := by
        cases d <;> first | rfl | exact absurd rfl e1
      rw [e] at q
      exact iteF q
theorem scHLives : FnScope ["self", "flat", "day"] ["self", "flat", "day"] (defScope sHLives) := ⟨rfl, rfl, rfl, by decide +kernel, rfl, by decide +kernel, by decide +kernel⟩
theorem ok_hLives {f fE fE2 : Addr} {fd fdE fdE2 : FuncData} (F : Fun K "lives" "House.lives" sHLives f fd) (ho : HoC K CH) (TF : Err K mg "NoFlat" DF fE) (TB : Err K mg "BadDay" DB fE2) (GE : FnOk P w K mg base CX0 1 fE fdE ["self", "value"] (spInitE K)) (bE : Binds K fdE ["self", "value"] []) (GE2 : FnOk P w K mg base CX0 1 fE2 fdE2 ["self", "value"] (spInitE K)) (bE2 : Binds K fdE2 ["self", "value"] [])
    (GP : GotD P w K mg base CH "_is_place" 1 ["self", "value"] (spIsP CH p)) (GD : GotD P w K mg base CH "_is_day" 2 ["self", "value"] (spIsDy CH p)) : FnOk P w K mg base (L2.CX P w) 3 f fd ["self", "flat", "day"] (spHLives CH DF DB p) := by
  obtain ⟨fP, dP, GP, bP, mP⟩ := GP
  obtain ⟨fD, dD, GD, bD, mD⟩ := GD
  refine F.okX scHLives (fun vs H Q E h => ?_) (fun cdv A outer s H vs Q E hr h => ?_)
  · obtain ⟨h, x, L, v, w, d, e, rfl, _⟩ := h
    rfl
  · obtain ⟨h, x, L, v, w, d, e, rfl, hh, nd, hv, hw, q1, q2, q3⟩ := h
    have hu := hu_of hr
    have hr1 : Room 1 _ := hr.mono (by decide)
    have hr2 : Room 2 _ := hr.mono (by decide)
    refine ⟨_, (pss_cons (ps_if (pt_not (pt_val (pe_meth (pv 0) ho.cl mP GP hr1 bP .nil pass0 (pa_cons (pv 1) pa_nil)))) (pss_one (ps_raise rfl (takes_of rfl rfl rfl rfl) (pmk_oex TF.oex TF.iC TF.tI GE hr2 bE .nil pass0 (by rfl) TF.gD (pa_cons (pv 1) pa_nil)))) pss_nil)
      (pss_cons (ps_if (pt_not (pt_val (pe_meth (pv 0) ho.cl mD GD hr2 bD .nil pass0 (pa_cons (pv 2) pa_nil)))) (pss_one (ps_raise rfl (takes_of rfl rfl rfl rfl) (pmk_oex TB.oex TB.iC TB.tI GE2 hr2 bE2 .nil pass0 (by rfl) TB.gD (pa_cons (pv 2) pa_nil)))) pss_nil)
      (pss_one (ps_ret (pe_ix ix_tup (pe_dget hu (pe_fld (pv 0) rfl) (pv 1) (fun _ _ => rfl)) (pv 2) (fun _ _ => rfl)))))), ?_⟩
    obtain ⟨dx, a, b, c, r, t, pp, rs, ts, ys, h1, h2, h3, h4, h5, h6, h7, h8, h9, h10⟩ := id hh
    refine ⟨_, rfl, h, dx, _, rfl, h1, hfs_none _ _ _ _ _ _ _ _ (by decide +kernel), _, rfl, h, x, L, v, d, rfl, hh, hv, nd, _, rfl, ?_⟩
    by_cases c1 : isPl L d = true
    · rw [c1]
      refine iteF ⟨_, rfl, h, dx, _, rfl, h1, hfs_none _ _ _ _ _ _ _ _ (by decide +kernel), _, rfl, h, x, L, w, e, rfl, hh, hw, _, rfl, ?_⟩
      by_cases c2 : isDy L e = true
      · rw [c2]
        obtain ⟨i, hi, rfl⟩ := pl_of c1
        obtain ⟨k, hk, rfl⟩ := dy_of c2
        cases hv
        cases hw
        have q := q3 i k hi hk rfl rfl
        have ht : i < ts.length := by have := h9.1; omega
        have hrow := h9.2 i ts[i] L.places[i] (List.getElem?_eq_getElem ht) (List.getElem?_eq_getElem hi)
        refine iteF ⟨_, rfl, h, CH, dx, _, _, rfl, h1, ho.cl, ho.n7, hfs_te _ _ _ _ _ _ _ _, _, rfl, t, .ref ts[i], rfl, ?_, ?_⟩
        · rw [← ten_val nd h9.1 hi ht]
          exact DGet.k (k := Sum.inr _) h8
        · refine ⟨_, rfl, ts[i], _, _, _, rfl, rfl, SqT.of hrow, ?_, q⟩
          unfold row
          rw [atI_nat (v := V.str (tenD L.stays L.places[i].name k))]
          rw [List.getElem?_map, List.getElem?_range hk]
          rfl
      · rw [show isDy L e = false by simpa using c2]
        refine iteT ⟨_, rfl, (show 1 ≤ 1000 by decide), err_read TB (q2 c1 (by simpa using c2))⟩
    · rw [show isPl L d = false by simpa using c1]
      refine iteT ⟨_, rfl, (show 1 ≤ 1000 by decide), err_read TF (q1 (by simpa using c1))⟩
theorem scHRoom : FnScope ["self", "flat"] ["self", "flat"] (defScope sHRoom) := ⟨rfl, rfl, rfl, by decide +kernel, rfl, by decide +kernel, by decide +kernel⟩
theorem ok_hRoom {f fE : Addr} {fd fdE : FuncData} (F : Fun K "room" "House.room" sHRoom f fd) (ho : HoC K CH) (TF : Err K mg "NoFlat" DF fE) (GE : FnOk P w K mg base CX0 1 fE fdE ["self", "value"] (spInitE K)) (bE : Binds K fdE ["self", "value"] [])
    (GP : GotD P w K mg base CH "_is_place" 1 ["self", "value"] (spIsP CH p)) : FnOk P w K mg base (L2.CX P w) 3 f fd ["self", "flat"] (spHRoom CH DF p) := by
  obtain ⟨fP, dP, GP, bP, mP⟩ := GP
  refine F.okX scHRoom (fun vs H Q E h => ?_) (fun cdv A outer s H vs Q E hr h => ?_)
  · obtain ⟨h, x, L, v, d, rfl, _⟩ := h
    rfl
  · obtain ⟨h, x, L, v, d, rfl, hh, nd, hv, q1, q3⟩ := h
    have hu := hu_of hr
    have hr1 : Room 1 _ := hr.mono (by decide)
    have hr2 : Room 2 _ := hr.mono (by decide)
    refine ⟨_, (pss_cons (ps_if (pt_not (pt_val (pe_meth (pv 0) ho.cl mP GP hr1 bP .nil pass0 (pa_cons (pv 1) pa_nil)))) (pss_one (ps_raise rfl (takes_of rfl rfl rfl rfl) (pmk_oex TF.oex TF.iC TF.tI GE hr2 bE .nil pass0 (by rfl) TF.gD (pa_cons (pv 1) pa_nil)))) pss_nil)
      (pss_one (ps_ret (pe_dget hu (pe_fld (pv 0) rfl) (pv 1) (fun _ _ => rfl))))), ?_⟩
    obtain ⟨dx, a, b, c, r, t, pp, rs, ts, ys, h1, h2, h3, h4, h5, h6, h7, h8, h9, h10⟩ := id hh
    refine ⟨_, rfl, h, dx, _, rfl, h1, hfs_none _ _ _ _ _ _ _ _ (by decide +kernel), _, rfl, h, x, L, v, d, rfl, hh, hv, nd, _, rfl, ?_⟩
    by_cases c1 : isPl L d = true
    · rw [c1]
      obtain ⟨i, hi, rfl⟩ := pl_of c1
      cases hv
      refine iteF ⟨_, rfl, h, CH, dx, _, _, rfl, h1, ho.cl, ho.n6, hfs_ro _ _ _ _ _ _ _ _, _, rfl, r, .int L.places[i].room, rfl, ?_, q3 i hi rfl⟩
      rw [← room_val nd hi]
      exact DGet.k (k := Sum.inr _) h7
    · rw [show isPl L d = false by simpa using c1]
      refine iteT ⟨_, rfl, (show 1 ≤ 1000 by decide), err_read TF (q1 (by simpa using c1))⟩
theorem scHPrice : FnScope ["self", "day"] ["self", "day"] (defScope sHPrice) := ⟨rfl, rfl, rfl, by decide +kernel, rfl, by decide +kernel, by decide +kernel⟩
theorem ok_hPrice {f fE : Addr} {fd fdE : FuncData} (F : Fun K "price" "House.price" sHPrice f fd) (ho : HoC K CH) (TB : Err K mg "BadDay" DB fE) (GE : FnOk P w K mg base CX0 1 fE fdE ["self", "value"] (spInitE K)) (bE : Binds K fdE ["self", "value"] [])
    (GD : GotD P w K mg base CH "_is_day" 2 ["self", "value"] (spIsDy CH p)) : FnOk P w K mg base (L2.CX P w) 3 f fd ["self", "day"] (spHPrice CH DB p) := by
  obtain ⟨fD, dD, GD, bD, mD⟩ := GD
  refine F.okX scHPrice (fun vs H Q E h => ?_) (fun cdv A outer s H vs Q E hr h => ?_)
  · obtain ⟨h, x, L, w, e, rfl, _⟩ := h
    rfl
  · obtain ⟨h, x, L, w, e, rfl, hh, hw, q2, q3⟩ := h
    have hr2 : Room 2 _ := hr.mono (by decide)
    refine ⟨_, (pss_cons (ps_if (pt_not (pt_val (pe_meth (pv 0) ho.cl mD GD hr2 bD .nil pass0 (pa_cons (pv 1) pa_nil)))) (pss_one (ps_raise rfl (takes_of rfl rfl rfl rfl) (pmk_oex TB.oex TB.iC TB.tI GE hr2 bE .nil pass0 (by rfl) TB.gD (pa_cons (pv 1) pa_nil)))) pss_nil)
      (pss_one (ps_ret (pe_ix ix_tup (pe_fld (pv 0) rfl) (pv 1) (fun _ _ => rfl))))), ?_⟩
    obtain ⟨dx, a, b, c, r, t, pp, rs, ts, ys, h1, h2, h3, h4, h5, h6, h7, h8, h9, h10⟩ := id hh
    refine ⟨_, rfl, h, dx, _, rfl, h1, hfs_none _ _ _ _ _ _ _ _ (by decide +kernel), _, rfl, h, x, L, w, e, rfl, hh, hw, _, rfl, ?_⟩
    by_cases c2 : isDy L e = true
    · rw [c2]
      obtain ⟨k, hk, rfl⟩ := dy_of c2
      cases hw
      refine iteF ⟨_, rfl, h, CH, dx, _, _, rfl, h1, ho.cl, ho.n8, hfs_pr _ _ _ _ _ _ _ _, _, rfl, pp, _, _, _, rfl, rfl, SqT.of h10, ?_, q3 k hk rfl⟩
      unfold row
      rw [atI_nat (v := V.int (priD L.prices k))]
      rw [List.getElem?_map, List.getElem?_range hk]
      rfl
    · rw [show isDy L e = false by simpa using c2]
      refine iteT ⟨_, rfl, (show 1 ≤ 1000 by decide), err_read TB (q2 (by simpa using c2))⟩
end
end Hs
/-! the law: names -/
namespace Hs
open PySem PySem.Spec PyProof.Rows L2 Am
def pool : List Str := ["a", "flat", "ab", "lives", "z", "days", "bare", "price", "b", "mainz", "restored", "houses"]
theorem pool_ok : ∀ x ∈ pool, nameB x = true := by decide +kernel
theorem pool_nd : pool.Nodup := by decide +kernel
def spTitles : Sp := fun vs H Q _ => ∃ (p : Addr) (m : Nat) (N : Int), vs = [.ref p, .int m] ∧ m ≤ 4 ∧ JarAt H p N ∧ N ≤ 9000 ∧
  ∀ (H' : Hp) (t : Addr) (ws : List Str), ws.length = m → ws.Nodup → (∀ x ∈ ws, x ∈ pool) → Chg p H H' → H t = none → JarAt H' p (N + m) → H' t = some (.lst (ws.map V.str)) → Q (.ref t) H'
theorem er_map {α β : Type} (f : α → β) (xs : List α) (k : Nat) : (xs.map f).eraseIdx k = (xs.eraseIdx k).map f := by
  rw [List.eraseIdx_eq_take_drop_succ, List.eraseIdx_eq_take_drop_succ, List.map_append, List.map_take, List.map_drop]
theorem er_perm {α : Type} {xs : List α} {k : Nat} (h : k < xs.length) : (xs[k] :: xs.eraseIdx k).Perm xs := by
  rw [List.eraseIdx_eq_take_drop_succ]
  refine List.perm_middle.symm.trans ?_
  rw [← List.drop_eq_getElem_cons h, List.take_append_drop]
section
variable {P : Program} {w : World} {K : PySem.W.Frag} {mg : Str → Option Value} {base : Heap}
theorem scTitles : FnScope ["_law_jar_here", "_law_many", "_law_pool", "_law_found", "_law_lap"] ["_law_jar_here", "_law_many"] (defScope sL_titles) := ⟨rfl, rfl, rfl, by decide +kernel, rfl, by decide +kernel, by decide +kernel⟩
theorem ok_titles {f : Addr} {fd : FuncData} (F : Fun K "_law_titles" "_law_titles" sL_titles f fd) (T : Nm mg) (GT : GotF P w K mg base "_law_take" 1 ["_law_jar_here", "_law_upto"] Am.spTake) : FnOk P w K mg base CX0 2 f fd ["_law_jar_here", "_law_many"] spTitles := by
  obtain ⟨fT, fdT, GT, bT, mT, kT⟩ := GT
  refine F.ok scTitles (fun vs H Q E h => ?_) (fun cdv A outer s H vs Q E hr h => ?_)
  · obtain ⟨p, m, N, rfl, _⟩ := h
    rfl
  · obtain ⟨p, m, N, rfl, hm, hj, hN, q⟩ := h
    refine ⟨_, pss_cons (ps_par (by rfl) scTitles.nd (i := 2) (j := 3) rfl rfl (by decide) rfl rfl (pa_cons (pe_lst (pa_cons pe_str (pa_cons pe_str (pa_cons pe_str (pa_cons pe_str (pa_cons pe_str (pa_cons pe_str (pa_cons pe_str (pa_cons pe_str (pa_cons pe_str (pa_cons pe_str (pa_cons pe_str (pa_cons pe_str pa_nil))))))))))))) (pa_cons (pe_lst pa_nil) pa_nil)) (by rfl))
      (pss_cons (ps_for PassesOwn.never rfl (pi_range1 (by rfl) T.range (pa_cons (pv 1) pa_nil)) (pg_name (i := 4) scTitles.nd rfl (.inl rfl))
        (pss_one (ps_expr (pe_bm PySem.F.plainAttrs_list PySem.F.slot_list_append PySem.F.type_list_append mt_append (pv 3)
          (pa_cons (pe_bm PySem.F.plainAttrs_list PySem.F.slot_list_pop PySem.F.type_list_pop mt_popAt (pv 2) (pa_cons (pe_call GT hr (by rfl) mT kT bT .nil pass0 (pa_cons (pv 0) (pa_cons (pe_callB call_len_seq (by rfl) T.len PySem.boot_len (pa_cons (pv 2) pa_nil)) pa_nil))) pa_nil)) pa_nil)))))
      (pss_one (ps_ret (pv 3)))), ?_⟩
    refine ⟨(show 12 ≤ sizeLine by decide), fun lp nlp => ⟨by decide, fun lf nlf => ⟨_, _, rfl, ?_⟩⟩⟩
    have nlpH : H lp = none := nlp
    have nlfH := (none_of nlf).2
    have nff := (none_of nlf).1
    have e2 : Same H _ := (same_upd (o := .lst (pool.map V.str)) nlp).trans (same_upd (o := .lst []) nlf)
    have ef : (upd (upd H lp (.lst (pool.map V.str))) lf (.lst [])) lf = some (.lst []) := upd_same
    have ep : (upd (upd H lp (.lst (pool.map V.str))) lf (.lst [])) lp = some (.lst (pool.map V.str)) := by
      rw [upd_ne (Ne.symm nff)]
      exact upd_same
    obtain ⟨jo, jm, jc, hp, _⟩ := id hj
    have npl : lp ≠ p := fun z => by rw [z, hp] at nlpH; cases nlpH
    have npf : lf ≠ p := fun z => by rw [z, hp] at nlfH; cases nlfH
    refine ⟨_, rfl, (m : Int), rfl, by omega, by omega, ?_⟩
    refine for_it (walk_range (n := (m : Int).toNat)) (fun i σ H' => ∃ (xs ws : List Str) (s4 : Option V), σ = [some (.ref p), some (.int m), some (.ref lp), some (.ref lf), s4] ∧ (∀ b u, H b = some u → b ≠ p → H' b = some u) ∧ JarAt H' p (N + i) ∧
      H' lp = some (.lst (xs.map V.str)) ∧ H' lf = some (.lst (ws.map V.str)) ∧ ws.length = i ∧ xs.length + i = 12 ∧ (xs ++ ws).Nodup ∧ ∀ x ∈ xs ++ ws, x ∈ pool) ?_ (fun _ _ _ _ _ => trivial) ?_ ?_
    · refine ⟨pool, [], _, rfl, fun b u e _ => e2 _ _ e, ?_, ep, ef, rfl, rfl, ?_, fun x hx => ?_⟩
      · rw [show N + ((0 : Nat) : Int) = N by omega]
        exact hj.same e2
      · rw [List.append_nil]; exact pool_nd
      · rw [List.append_nil] at hx; exact hx
    · rintro i v σ H1 H2 hi ⟨xs, ws, s4, rfl, es, hji, h1, h2, l1, l2, nd, sub⟩ ⟨rfl, rfl⟩
      have hi' : i < m := by omega
      refine ⟨_, rfl, .inl ⟨rfl, _, SqL.of h2⟩, _, rfl, .inl ⟨rfl, _, SqL.of h1⟩, _, rfl, _, rfl, lp, _, rfl, .inl (SqL.of h1), ?_⟩
      rw [List.length_map]
      refine ⟨p, (xs.length : Int), N + i, rfl, ⟨by omega, by omega⟩, hji, by omega, fun d H3 hd c3 j3 => ?_⟩
      have hd' : d.toNat < xs.length := by omega
      have h1' := c3 _ _ h1 npl
      have h2' := c3 _ _ h2 npf
      refine ⟨lp, _, d, d.toNat, .str xs[d.toNat], rfl, rfl, h1', by omega, by omega, ?_, ?_, ?_⟩
      · unfold seqIndex?
        rw [List.length_map]
        simp only [if_neg (show ¬ d < 0 by omega)]
        rw [if_pos]
        simp
        omega
      · rw [List.getElem?_map, List.getElem?_eq_getElem hd']
        rfl
      have nlf2 : lf ≠ lp := nff
      refine ⟨lf, _, _, rfl, rfl, (upd_ne nlf2).trans h2', ?_, ?_⟩
      · rw [List.length_map, l1]
        exact Nat.lt_of_lt_of_le (show i < 4 by omega) (by decide)
      refine ⟨xs.eraseIdx d.toNat, ws ++ [xs[d.toNat]], _, rfl, fun b u e nb => ?_, ?_, ?_, ?_, by simp [l1], ?_, ?_, ?_⟩
      · rw [upd_ne (ne_of_none e nlfH), upd_ne (ne_of_none e nlpH)]
        exact c3 _ _ (es _ _ e nb) nb
      · have : JarAt H3 p (N + i + 1) := j3
        obtain ⟨o, mm, c, hpp, r⟩ := this
        refine ⟨o, mm, c, ?_, ?_⟩
        · rw [upd_ne npf.symm, upd_ne npl.symm]
          exact hpp
        · obtain ⟨r1, r2, r3, r4⟩ := r
          exact ⟨r1, r2, r3, by omega⟩
      · rw [upd_ne nlf2.symm, upd_same, er_map]
      · rw [upd_same, List.map_append]
        rfl
      · rw [List.length_eraseIdx_of_lt hd']
        omega
      · have pm : (xs.eraseIdx d.toNat ++ (ws ++ [xs[d.toNat]])).Perm (xs ++ ws) := by
          refine List.Perm.trans ?_ (List.Perm.append_right ws (er_perm hd'))
          rw [← List.append_assoc]
          exact List.perm_append_comm.trans (by simp)
        exact pm.nodup_iff.mpr nd
      · intro x hx
        refine sub x ?_
        rcases List.mem_append.mp hx with hx | hx
        · exact List.mem_append_left _ (List.mem_of_mem_eraseIdx hx)
        · rcases List.mem_append.mp hx with hx | hx
          · exact List.mem_append_right _ hx
          · rw [List.mem_singleton.mp hx]
            exact List.mem_append_left _ (List.getElem_mem hd')
    · rintro σ H1 ⟨xs, ws, s4, rfl, es, hji, h1, h2, l1, l2, nd, sub⟩
      refine ⟨_, rfl, q _ lf ws (by omega) (List.nodup_append.mp nd).2.1 (fun x hx => sub x (List.mem_append_right _ hx)) (fun b u e nb => es _ _ e nb) nlfH ?_ h2⟩
      rw [show N + (m : Int) = N + (((m : Int).toNat : Nat) : Int) by omega]
      exact hji
end
end Hs
/-! the law: prices -/
namespace Hs
open PySem PySem.Spec PyProof.Rows L2 Am
structure PrOk (n : Nat) (ps : List (Nat × Nat)) : Prop where
  l : ps.length ≤ 3
  up : ps.Pairwise fun a b => a.1 < b.1
  ok : ∀ x ∈ ps, x.1 < n ∧ x.2 ≤ 99
theorem PrOk.mono {n m : Nat} {ps : List (Nat × Nat)} (h : PrOk n ps) (l : n ≤ m) : PrOk m ps := ⟨h.l, h.up, fun x hx => ⟨Nat.lt_of_lt_of_le (h.ok x hx).1 l, (h.ok x hx).2⟩⟩
theorem PrOk.snoc {n k : Nat} {ps : List (Nat × Nat)} (h : PrOk n ps) (l : ps.length < 3) (hk : k ≤ 99) : PrOk (n + 1) (ps ++ [(n, k)]) := by
  refine ⟨by rw [List.length_append]; exact l, ?_, ?_⟩
  · rw [List.pairwise_append]
    refine ⟨h.up, by simp, fun a ha b hb => ?_⟩
    rw [List.mem_singleton.mp hb]
    exact (h.ok a ha).1
  · intro x hx
    rcases List.mem_append.mp hx with hx | hx
    · exact ⟨by have := (h.ok x hx).1; omega, (h.ok x hx).2⟩
    · rw [List.mem_singleton.mp hx]
      exact ⟨by show n < n + 1; omega, hk⟩
theorem Chg.fr {p : Addr} {H H' : Hp} (h : Chg p H H') : Fr [p] H H' := fun b u e n => h b u e (by simpa using n)
theorem Fr.chg {p : Addr} {H H' : Hp} (h : Fr [p] H H') : Chg p H H' := fun b u e n => h b u e (by simpa using n)
/-- a list of tuples while the jar is taken from -/
theorem LstAt.jar {α : Type} {f : α → HO} {H H' : Hp} {l p : Addr} {xs : List α} {N : Int} (h : LstAt f H l xs) (j : JarAt H p N) (nl : l ≠ p) (e : Chg p H H') (hf : ∀ x ys, f x ≠ .lst ys) : LstAt f H' l xs := by
  obtain ⟨o, m, c, hp, _⟩ := j
  exact h.keep (Chg.fr e) (by simpa using nl) (at_nl hp hf)
theorem walk_range0 {n : Nat} : Walk (Itr 0 n) n (fun _ => True) (YFn fun i => V.int (i : Int)) := by
  have e : (fun i : Nat => V.int (i : Int)) = fun i : Nat => V.int (0 + (i : Int)) := funext fun i => by rw [Int.zero_add]
  rw [e]
  exact walk_range
def spLPrices : Sp := fun vs H Q _ => ∃ (p : Addr) (n : Nat) (N : Int), vs = [.ref p, .int n] ∧ n ≤ 14 ∧ JarAt H p N ∧ N ≤ 9000 ∧
  ∀ (H' : Hp) (t : Addr) (ps : List (Nat × Nat)), Chg p H H' → H t = none → JarAt H' p (N + 2 * n) → LstAt prO H' t ps → PrOk n ps → Q (.ref t) H'
section
variable {P : Program} {w : World} {K : PySem.W.Frag} {mg : Str → Option Value} {base : Heap}
theorem scLPrices : FnScope ["_law_jar_here", "_law_days", "_law_found", "_law_day"] ["_law_jar_here", "_law_days"] (defScope sL_prices) := ⟨rfl, rfl, rfl, by decide +kernel, rfl, by decide +kernel, by decide +kernel⟩
theorem ok_lPrices {f : Addr} {fd : FuncData} (F : Fun K "_law_prices" "_law_prices" sL_prices f fd) (T : Nm mg) (GT : GotF P w K mg base "_law_take" 1 ["_law_jar_here", "_law_upto"] Am.spTake) (GO : GotF P w K mg base "_law_of" 2 ["_law_jar_here", "_law_some"] spOf) : FnOk P w K mg base CX0 3 f fd ["_law_jar_here", "_law_days"] spLPrices := by
  obtain ⟨fT, fdT, GT, bT, mT, kT⟩ := GT
  obtain ⟨fO, fdO, GO, bO, mO, kO⟩ := GO
  refine F.ok scLPrices (fun vs H Q E h => ?_) (fun cdv A outer s H vs Q E hr h => ?_)
  · obtain ⟨p, n, N, rfl, _⟩ := h
    rfl
  · obtain ⟨p, n, N, rfl, hn, hj, hN, q⟩ := h
    have hr1 : Room 1 _ := hr.mono (by decide)
    refine ⟨_, pss_cons (ps_set (i := 2) scLPrices.nd rfl (.inl rfl) (pe_lst pa_nil))
      (pss_cons (ps_for PassesOwn.never rfl (pi_range1 (by rfl) T.range (pa_cons (pv 1) pa_nil)) (pg_name (i := 3) scLPrices.nd rfl (.inl rfl))
        (pss_one (ps_if (PW.pt (pw_and (pt_cmpR op_lt (pe_callB call_len_seq (by rfl) T.len PySem.boot_len (pa_cons (pv 2) pa_nil)) pe_int (nomark _)) (pw_and1 (pt_cmpR op_eq (pe_call GT hr1 (by rfl) mT kT bT .nil pass0 (pa_cons (pv 0) (pa_cons pe_int pa_nil))) pe_int (nomark _)))))
          (pss_one (ps_expr (pe_bm PySem.F.plainAttrs_list PySem.F.slot_list_append PySem.F.type_list_append mt_append (pv 2)
            (pa_cons (pe_tup (pa_cons (pv 3) (pa_cons (pe_call GO hr (by rfl) mO kO bO .nil pass0 (pa_cons (pv 0) (pa_cons (pe_lst (pa_cons pe_int (pa_cons pe_int (pa_cons pe_int (pa_cons pe_int (pa_cons pe_int pa_nil)))))) pa_nil))) pa_nil))) pa_nil)))) pss_nil)))
      (pss_one (ps_ret (pv 2)))), ?_⟩
    refine ⟨by decide, fun t nt => ?_⟩
    have e1 := same_upd (o := .lst []) nt
    obtain ⟨jo, jm, jc, hp, _⟩ := id hj
    have npt : t ≠ p := fun z => by rw [z, hp] at nt; cases nt
    refine ⟨_, rfl, (n : Int), rfl, by omega, by omega, ?_⟩
    refine for_it (walk_range0 (n := (n : Int).toNat)) (fun i σ H' => ∃ (ps : List (Nat × Nat)) (s3 : Option V), σ = [some (.ref p), some (.int n), some (.ref t), s3] ∧ (∀ b u, H b = some u → b ≠ p → H' b = some u) ∧ JarAt H' p (N + 2 * i) ∧ LstAt prO H' t ps ∧ PrOk i ps) ?_ (fun _ _ _ _ _ => trivial) ?_ ?_
    · refine ⟨[], _, rfl, fun b u e _ => e1 _ _ e, (hj.same e1).mono (by omega), LstAt.nil upd_same, ⟨by decide, by simp, fun x hx => absurd hx List.not_mem_nil⟩⟩
    · rintro i v σ H1 H2 hi ⟨ps, s3, rfl, es, hji, hl, ok⟩ ⟨rfl, rfl⟩
      obtain ⟨rs, hlt, hrs⟩ := id hl
      refine ⟨_, rfl, t, _, rfl, .inl (SqL.of hlt), ?_⟩
      rw [List.length_map, hrs.1]
      refine ⟨_, _, rfl, rfl, _, rfl, ?_⟩
      have fin : ∀ H3, (∀ b u, H b = some u → b ≠ p → H3 b = some u) → JarAt H3 p (N + 2 * i + 1) → LstAt prO H3 t ps → _ := fun H3 a b c => (⟨ps, _, rfl, a, b.mono (by omega), c, ok.mono (by omega)⟩ : ∃ (ps : List (Nat × Nat)) (s3 : Option V), [some (V.ref p), some (.int n), some (.ref t), some (.int i)] = [some (.ref p), some (.int n), some (.ref t), s3] ∧ (∀ b u, H b = some u → b ≠ p → H3 b = some u) ∧ JarAt H3 p (N + 2 * ((i + 1 : Nat) : Int)) ∧ LstAt prO H3 t ps ∧ PrOk (i + 1) ps)
      cases c : decide ((ps.length : Int) < 3) with
      | false => exact iteF (iteF (fin H2 es (hji.mono (by omega)) hl))
      | true =>
        have l3 : ps.length < 3 := by have := of_decide_eq_true c; omega
        refine iteT ⟨_, rfl, p, 4, N + 2 * i, rfl, ⟨by decide, by decide⟩, hji, by omega, fun d H3 hd c3 j3 => ?_⟩
        have hl3 := hl.jar hji npt c3 prO_nl
        have es3 : ∀ b u, H b = some u → b ≠ p → H3 b = some u := fun b u e nb => c3 _ _ (es _ _ e nb) nb
        refine ⟨rfl, _, rfl, ?_⟩
        cases c2 : decide (V.int d = V.int 0) with
        | false => exact iteF (fin H3 es3 j3 hl3)
        | true =>
          obtain ⟨rs3, hlt3, hrs3⟩ := id hl3
          refine iteT ⟨_, rfl, .inl ⟨rfl, _, SqL.of hlt3⟩, _, rfl, _, rfl, by decide, fun q1 nq1 => ?_⟩
          have e4 := same_upd (o := .lst [V.int 0, .int 1, .int 2, .int 3, .int 99]) nq1
          have nq1p : q1 ≠ p := by
            obtain ⟨_, _, _, hp3, _⟩ := id j3
            intro z
            rw [z, hp3] at nq1
            cases nq1
          refine ⟨p, q1, _, N + 2 * i + 1, rfl, upd_same, nq1p, ⟨by decide, by decide⟩, j3.same e4, by omega, fun v H5 hv c5 j5 => ?_⟩
          have hl5 := (hl3.same e4).jar (j3.same e4) npt c5 prO_nl
          have es5 : ∀ b u, H b = some u → b ≠ p → H5 b = some u := fun b u e nb => c5 _ _ (e4 _ _ (es3 _ _ e nb)) nb
          obtain ⟨k, rfl, hk⟩ : ∃ k : Nat, v = .int k ∧ k ≤ 99 := by
            simp only [List.mem_cons, List.not_mem_nil, or_false] at hv
            rcases hv with rfl | rfl | rfl | rfl | rfl
            · exact ⟨0, rfl, by decide⟩
            · exact ⟨1, rfl, by decide⟩
            · exact ⟨2, rfl, by decide⟩
            · exact ⟨3, rfl, by decide⟩
            · exact ⟨99, rfl, by decide⟩
          refine ⟨(show 2 ≤ sizeLine by decide), fun D nD => ?_⟩
          obtain ⟨rs5, hlt5, hrs5⟩ := hl5
          obtain ⟨g1, g2⟩ := LstAt.grow (x := (i, k)) hlt5 hrs5 nD prO_nl
          refine ⟨t, rs5.map V.ref, _, rfl, rfl, (upd_ne (ne_of_none hlt5 nD)).trans hlt5, ?_, ?_⟩
          · rw [List.length_map, hrs5.1]
            exact Nat.lt_trans l3 (by decide)
          · refine ⟨_, _, rfl, fun b u e nb => ?_, ?_, g1, ok.snoc l3 hk⟩
            · refine g2 _ _ (es5 _ _ e nb) (by simpa using ne_of_none e nt)
            · obtain ⟨o, mm, cc, hp5, r⟩ := j5.mono (M := N + 2 * ((i + 1 : Nat) : Int)) (by omega)
              exact ⟨o, mm, cc, g2 _ _ hp5 (by simpa using npt.symm), r⟩
    · rintro σ H1 ⟨ps, s3, rfl, es, hji, hl, ok⟩
      exact ⟨_, rfl, q _ t ps (fun b u e nb => es _ _ e nb) nt (hji.mono (by omega)) hl (ok.mono (by omega))⟩
end
end Hs
/-! the law: stays -/
namespace Hs
open PySem PySem.Spec PyProof.Rows L2 Am
def apart (s t : St) : Prop := s.pl = t.pl → s.b ≤ t.a ∨ t.b ≤ s.a
structure StOk (n : Nat) (names ppl : List Str) (ss : List St) : Prop where
  l : ss.length ≤ 8
  ok : ∀ s ∈ ss, s.a < s.b ∧ s.b ≤ n ∧ s.who ∈ ppl ∧ s.pl ∈ names
  ap : ss.Pairwise apart
theorem apart_symm {s t : St} (h : apart s t) : apart t s := fun e => (h e.symm).symm
theorem StOk.rev {n : Nat} {names ppl : List Str} {ss : List St} (h : StOk n names ppl ss) : StOk n names ppl ss.reverse :=
  ⟨by rw [List.length_reverse]; exact h.l, fun s hs => h.ok s (List.mem_reverse.mp hs), by rw [List.pairwise_reverse]; exact h.ap.imp apart_symm⟩
theorem Refs.rev {α : Type} {f : α → HO} {H : Hp} {rs : List Addr} {xs : List α} (h : Refs f H rs xs) : Refs f H rs.reverse xs.reverse := by
  refine ⟨by simp [h.1], fun i r x a b => ?_⟩
  have hi : i < rs.length := by
    have := (List.getElem?_eq_some_iff.mp a).1
    simpa using this
  rw [List.getElem?_reverse hi] at a
  rw [List.getElem?_reverse (by rw [← h.1]; exact hi), ← h.1] at b
  exact h.2 _ r x a b
def muS (σ : L2.St) (_ : Hp) : Nat := match σ[1]?, σ[8]? with
  | some (some (V.int n)), some (some (V.int a)) => (n - a).toNat
  | _, _ => 0
def spStays : Sp := fun vs H Q _ => ∃ (p l : Addr) (n : Nat) (N : Int) (pls : List Pl), vs = [.ref p, .int n, .ref l] ∧ (1 ≤ n ∧ n ≤ 14) ∧ JarAt H p N ∧ N ≤ 9000 ∧ LstAt plO H l pls ∧ l ≠ p ∧ pls.length ≤ 4 ∧ (pls.map (·.name)).Nodup ∧
  ∀ (H' : Hp) (t : Addr) (ppl : List Str) (ss : List Hs.St), Chg p H H' → H t = none → JarAt H' p (N + 60) → LstAt stO H' t ss → (∀ x ∈ ppl, x ∈ pool) → StOk n (pls.map (·.name)) ppl ss → Q (.ref t) H'
section
variable {P : Program} {w : World} {K : PySem.W.Frag} {mg : Str → Option Value} {base : Heap}
theorem scStays : FnScope ["_law_jar_here", "_law_days", "_law_places", "_law_people", "_law_found", "_law_name", "_law_room", "_law_is_metered", "_law_at", "_law_behind"] ["_law_jar_here", "_law_days", "_law_places"] (defScope sL_stays) := ⟨rfl, rfl, rfl, by decide +kernel, rfl, by decide +kernel, by decide +kernel⟩
theorem ok_stays {f : Addr} {fd : FuncData} (F : Fun K "_law_stays" "_law_stays" sL_stays f fd) (T : Nm mg) (GT : GotF P w K mg base "_law_take" 1 ["_law_jar_here", "_law_upto"] Am.spTake) (GO : GotF P w K mg base "_law_of" 2 ["_law_jar_here", "_law_some"] spOf) (GN : GotF P w K mg base "_law_titles" 2 ["_law_jar_here", "_law_many"] spTitles) : FnOk P w K mg base CX0 3 f fd ["_law_jar_here", "_law_days", "_law_places"] spStays := by
  obtain ⟨fT, fdT, GT, bT, mT, kT⟩ := GT
  obtain ⟨fO, fdO, GO, bO, mO, kO⟩ := GO
  obtain ⟨fN, fdN, GN, bN, mN, kN⟩ := GN
  refine F.ok scStays (fun vs H Q E h => ?_) (fun cdv A outer s H vs Q E hr h => ?_)
  · obtain ⟨p, l, n, N, pls, rfl, _⟩ := h
    rfl
  · obtain ⟨p, l, n, N, pls, rfl, ⟨n1, n14⟩, hj, hN, hl, nlp, l4, nd, q⟩ := h
    have hr1 : Room 1 _ := hr.mono (by decide)
    refine ⟨_, pss_cons (ps_par (by rfl) scStays.nd (i := 3) (j := 4) rfl rfl (by decide) rfl rfl (pa_cons (pe_call GN hr (by rfl) mN kN bN .nil pass0 (pa_cons (pv 0) (pa_cons pe_int pa_nil))) (pa_cons (pe_lst pa_nil) pa_nil)) (by rfl))
      (pss_cons (ps_for (g := gTup K 3 (gCons (gName 5) (gCons (gName 6) (gCons (gName 7) gNil)))) PassesOwn.never rfl (pi_list (pv 2))
        (pg_tup rfl (pgs_cons (pg_name (i := 5) scStays.nd rfl (.inl rfl)) (pgs_cons (pg_name (i := 6) scStays.nd rfl (.inl rfl)) (pgs_cons (pg_name (i := 7) scStays.nd rfl (.inl rfl)) pgs_nil))))
        (pss_cons (ps_set (i := 8) scStays.nd rfl (.inl rfl) (pe_call GO hr (by rfl) mO kO bO .nil pass0 (pa_cons (pv 0) (pa_cons (pe_lst (pa_cons pe_int (pa_cons pe_int (pa_cons (pe_call GT hr1 (by rfl) mT kT bT .nil pass0 (pa_cons (pv 0) (pa_cons (pv 1) pa_nil))) pa_nil)))) pa_nil))))
        (pss_one (ps_while PassesOwn.never (PW.pt (pw_and (pt_cmpR op_lt (pv 8) (pv 1) (nomark _)) (pw_and (pt_cmpR op_lt (pe_callB call_len_seq (by rfl) T.len PySem.boot_len (pa_cons (pv 4) pa_nil)) pe_int (nomark _)) (pw_and1 (pt_cmpR op_gt (pe_call GT hr1 (by rfl) mT kT bT .nil pass0 (pa_cons (pv 0) (pa_cons pe_int pa_nil))) pe_int (nomark _))))))
          (pss_cons (ps_set (i := 9) scStays.nd rfl (.inl rfl) (pe_op op_add (pe_op op_add (pv 8) pe_int) (pe_call GT hr1 (by rfl) mT kT bT .nil pass0 (pa_cons (pv 0) (pa_cons (pe_op op_sub (pv 1) (pv 8)) pa_nil)))))
          (pss_cons (ps_expr (pe_bm PySem.F.plainAttrs_list PySem.F.slot_list_append PySem.F.type_list_append mt_append (pv 4)
            (pa_cons (pe_tup (pa_cons (pe_call GO hr (by rfl) mO kO bO .nil pass0 (pa_cons (pv 0) (pa_cons (pv 3) pa_nil))) (pa_cons (pv 5) (pa_cons (pv 8) (pa_cons (pv 9) pa_nil))))) pa_nil)))
          (pss_one (ps_set (i := 8) scStays.nd rfl (.inl rfl) (pe_op op_add (pv 9) (pe_call GO hr (by rfl) mO kO bO .nil pass0 (pa_cons (pv 0) (pa_cons (pe_lst (pa_cons pe_int (pa_cons pe_int (pa_cons pe_int pa_nil)))) pa_nil))))))))))))
      (pss_one (ps_ret (pe_ifExp (pt_cmpR op_eq (pe_call GT hr1 (by rfl) mT kT bT .nil pass0 (pa_cons (pv 0) (pa_cons pe_int pa_nil))) pe_int (nomark _)) (pv 4) (pe_revL (pv 4)))))), ?_⟩
    refine ⟨_, rfl, p, 3, N, rfl, by decide, hj, hN, fun H1 lpe ppl pl3 pnd psub c1 nlpe j1 hpe => ?_⟩
    refine ⟨by decide, fun lf nlf => ⟨_, _, rfl, ?_⟩⟩
    obtain ⟨jo, jm, jc, hp, _⟩ := id hj
    obtain ⟨_, _, _, hp1, _⟩ := id j1
    have nlpep : lpe ≠ p := fun z => by rw [z, hp] at nlpe; cases nlpe
    have nlfp : lf ≠ p := fun z => by rw [z, hp1] at nlf; cases nlf
    have nlfH : H lf = none := by
      cases e : H lf with
      | none => rfl
      | some u => rw [c1 _ _ e nlfp] at nlf; cases nlf
    have e2 := same_upd (o := .lst []) nlf
    have hl1 := (hl.jar hj nlp c1 plO_nl).same e2
    obtain ⟨rs, hlr, hrs⟩ := id hl1
    have hj2 := j1.same e2
    have hpe2 := e2 _ _ hpe
    have c2 : Chg p H (upd H1 lf (.lst [])) := c1.trans (Chg.of e2)
    have hf2 : LstAt stO (upd H1 lf (.lst [])) lf [] := LstAt.nil upd_same
    have nllf : l ≠ lf := fun z => by
      obtain ⟨_, a, _⟩ := hl
      rw [z, nlfH] at a
      cases a
    have nlpelf : lpe ≠ lf := fun z => by rw [z, nlf] at hpe; cases hpe
    generalize upd H1 lf (.lst []) = H2 at *
    have cf : ∀ {A B : Hp}, Chg p A B → Fr [p, lf] A B := fun h => (Chg.fr h).mono (by simp)
    have toH : ∀ {A : Hp}, Fr [p, lf] H2 A → Chg p H A := fun h b u e nb => h b u (c2 _ _ e nb) (by
      have := ne_of_none e nlfH
      simp [nb, this])
    refine ⟨_, rfl, l, rfl, ⟨_, SqL.of hlr⟩, ?_⟩
    refine for_it (walk_list (xs := rs.map V.ref)) (fun i σ H' => ∃ (ss : List Hs.St) (s5 s6 s7 s8 s9 : Option V), σ = [some (.ref p), some (.int n), some (.ref l), some (.ref lpe), some (.ref lf), s5, s6, s7, s8, s9] ∧ Fr [p, lf] H2 H' ∧
      JarAt H' p (N + 3 + 3 * i + 4 * ss.length) ∧ LstAt stO H' lf ss ∧ StOk n ((pls.take i).map (·.name)) ppl ss) ?_ ?_ ?_ ?_
    · exact ⟨[], _, _, _, _, _, rfl, Fr.same (Same.refl _), hj2.mono (by simp), hf2, ⟨by decide, fun s hs => absurd hs List.not_mem_nil, by simp⟩⟩
    · rintro i σ H' _ ⟨_, _, _, _, _, _, _, c, _⟩
      exact SqL.of (c _ _ hlr (by simp [nlp, nllf]))
    · rintro i v σ H3 H4 hi ⟨ss, s5, s6, s7, s8, s9, rfl, c3, j3, hf3, ok⟩ ⟨rfl, hv⟩
      obtain ⟨q1, pp, rfl, _, hpp, ho⟩ := hrs.at hv
      have i4 : i < 4 := by
        rw [List.length_map, hrs.1] at hi
        omega
      have ho3 := c3 _ _ ho (by
        obtain ⟨_, _, _, hpz, _⟩ := id hj2
        obtain ⟨_, hfz, _⟩ := id hf2
        have a1 := ne_of ho hpz (by intro z; unfold plO at z; cases z)
        have a2 := ne_of ho hfz (by intro z; unfold plO at z; cases z)
        simp [a1, a2])
      refine ⟨q1, _, rfl, SqT.of ho3, rfl, _, _, rfl, _, _, rfl, _, _, rfl, rfl, ?_⟩
      refine ⟨_, rfl, _, rfl, _, rfl, p, (n : Int), _, rfl, ⟨by omega, by omega⟩, j3, by have := ok.l; omega, fun d H5 hd c5 j5 => ?_⟩
      have hf5 := hf3.jar j3 nlfp c5 stO_nl
      refine ⟨(show 3 ≤ sizeLine by decide), fun q2 nq2 => ?_⟩
      obtain ⟨_, _, _, hp5, _⟩ := id j5
      have nq2p : q2 ≠ p := fun z => by rw [z, hp5] at nq2; cases nq2
      have e6 := same_upd (o := .lst [V.int 0, .int 0, .int d]) nq2
      refine ⟨p, q2, _, _, rfl, upd_same, nq2p, ⟨show 0 < 3 by decide, show 3 ≤ 1000 by decide⟩, j5.same e6, by have := ok.l; omega, fun v H7 hv7 c7 j7 => ?_⟩
      have hf7 := (hf5.same e6).jar (j5.same e6) nlfp c7 stO_nl
      obtain ⟨at0, rfl⟩ : ∃ a : Nat, v = .int a := by
        simp only [List.mem_cons, List.not_mem_nil, or_false] at hv7
        rcases hv7 with rfl | rfl | rfl
        · exact ⟨0, rfl⟩
        · exact ⟨0, rfl⟩
        · exact ⟨d.toNat, by congr 1; omega⟩
      have c27 : Fr [p, lf] H2 H7 := (c3.trans (cf c5)).trans ((Fr.same e6).trans (cf c7))
      have et : pls.take (i + 1) = pls.take i ++ [pp] := by rw [List.take_add_one, hpp]; rfl
      have nin : pp.name ∉ (pls.take i).map (·.name) := by
        have e0 := List.take_append_drop (i + 1) pls
        rw [et] at e0
        rw [← e0, List.map_append, List.map_append, List.nodup_append] at nd
        have nn1 := nd.1
        rw [List.nodup_append] at nn1
        exact fun z => nn1.2.2 _ z pp.name (by simp) rfl
      refine ⟨fun m σ H => (∃ (at' : Nat) (ss : List Hs.St) (s9 : Option V), σ = [some (.ref p), some (.int n), some (.ref l), some (.ref lpe), some (.ref lf), some (.str pp.name), some (.int pp.room), some (.bl pp.inner), some (.int at'), s9] ∧ Fr [p, lf] H2 H ∧
        JarAt H p (N + 3 + 3 * i + 2 + 4 * ss.length) ∧ LstAt stO H lf ss ∧ StOk n ((pls.take (i + 1)).map (·.name)) ppl ss ∧ ∀ s ∈ ss, s.pl = pp.name → s.b ≤ at') ∧ m = muS σ H, ⟨_, ⟨at0, ss, _, rfl, c27, j7.mono (by omega), hf7, ⟨ok.l, fun s hs => ?_, ok.ap⟩, fun s hs e => ?_⟩, rfl⟩, ?_⟩
      · obtain ⟨a, b, c, d⟩ := ok.ok s hs
        refine ⟨a, b, c, ?_⟩
        rw [et, List.map_append]
        exact List.mem_append_left _ d
      · exact absurd (e ▸ (ok.ok s hs).2.2.2) nin
      rintro _ σ' H8 ⟨⟨at', ss', s9', rfl, c8, j8, hf8, ok8, be8⟩, rfl⟩
      refine ⟨_, rfl, _, rfl, _, _, rfl, rfl, _, rfl, ?_⟩
      have fin : ∀ H9, Fr [p, lf] H2 H9 → JarAt H9 p (N + 3 + 3 * i + 2 + 4 * ss'.length + 1) → LstAt stO H9 lf ss' → ∃ (ss : List Hs.St) (s5 s6 s7 s8 s9 : Option V), [some (V.ref p), some (.int n), some (.ref l), some (.ref lpe), some (.ref lf), some (.str pp.name), some (.int pp.room), some (.bl pp.inner), some (.int at'), s9'] = [some (.ref p), some (.int n), some (.ref l), some (.ref lpe), some (.ref lf), s5, s6, s7, s8, s9] ∧ Fr [p, lf] H2 H9 ∧
          JarAt H9 p (N + 3 + 3 * ((i + 1 : Nat) : Int) + 4 * ss.length) ∧ LstAt stO H9 lf ss ∧ StOk n ((pls.take (i + 1)).map (·.name)) ppl ss := fun H9 a b c => ⟨ss', _, _, _, _, _, rfl, a, b.mono (by omega), c, ok8⟩
      have l8 := ok8.l
      cases ca : decide ((at' : Int) < (n : Int)) with
      | false => exact iteF (iteF (fin H8 c8 (j8.mono (by omega)) hf8))
      | true =>
        have atn : at' < n := by have := of_decide_eq_true ca; omega
        obtain ⟨rs8, hlf8, hrs8⟩ := id hf8
        refine iteT ⟨_, rfl, lf, _, rfl, .inl (SqL.of hlf8), ?_⟩
        rw [List.length_map, hrs8.1]
        refine ⟨_, _, rfl, rfl, _, rfl, ?_⟩
        cases cb : decide ((ss'.length : Int) < 8) with
        | false => exact iteF (iteF (fin H8 c8 (j8.mono (by omega)) hf8))
        | true =>
          have l7 : ss'.length < 8 := by have := of_decide_eq_true cb; omega
          refine iteT ⟨_, rfl, p, 5, _, rfl, ⟨by decide, by decide⟩, j8, by omega, fun d9 H9 hd9 c9 j9 => ?_⟩
          have hf9 := hf8.jar j8 nlfp c9 stO_nl
          have c29 := c8.trans (cf c9)
          refine ⟨_, _, rfl, rfl, _, rfl, ?_⟩
          cases cd : decide (d9 > 0) with
          | false => exact iteF (fin H9 c29 j9 hf9)
          | true =>
            refine iteT ⟨fun σ' H' => (∃ (at' : Nat) (ss : List Hs.St) (s9 : Option V), σ' = [some (.ref p), some (.int n), some (.ref l), some (.ref lpe), some (.ref lf), some (.str pp.name), some (.int pp.room), some (.bl pp.inner), some (.int at'), s9] ∧ Fr [p, lf] H2 H' ∧
        JarAt H' p (N + 3 + 3 * i + 2 + 4 * ss.length) ∧ LstAt stO H' lf ss ∧ StOk n ((pls.take (i + 1)).map (·.name)) ppl ss ∧ ∀ s ∈ ss, s.pl = pp.name → s.b ≤ at') ∧ muS σ' H' < n - at', fun σ' H' hn => ⟨_, ?_, hn.1, rfl⟩, ?_⟩
            · have e0 : muS [some (V.ref p), some (.int n), some (.ref l), some (.ref lpe), some (.ref lf), some (.str pp.name), some (.int pp.room), some (.bl pp.inner), some (.int at'), s9'] H8 = n - at' := by
                show ((n : Int) - (at' : Int)).toNat = n - at'
                omega
              rw [e0]
              exact hn.2
            refine ⟨_, rfl, _, _, rfl, rfl, _, rfl, _, rfl, _, rfl, _, _, rfl, rfl, p, (n : Int) - (at' : Int), _, rfl, ⟨by omega, by omega⟩, j9, by omega, fun d10 H10 hd10 c10 j10 => ⟨_, _, rfl, rfl, ?_⟩⟩
            have hf10 := hf9.jar j9 nlfp c10 stO_nl
            have c210 := c29.trans (cf c10)
            obtain ⟨bb, hbb⟩ : ∃ b : Nat, (at' : Int) + 1 + d10 = (b : Int) := ⟨at' + 1 + d10.toNat, by omega⟩
            simp only [hbb]
            refine ⟨_, rfl, .inl ⟨rfl, _, SqL.of hf10.choose_spec.1⟩, _, rfl, _, rfl, p, lpe, _, _, rfl, c210 _ _ hpe2 (by simp [nlpep, nlpelf]), nlpep, ?_, j10, by omega, fun v11 H11 hv11 c11 j11 => ?_⟩
            · rw [List.length_map, pl3]
              decide
            have hf11 := hf10.jar j10 nlfp c11 stO_nl
            have c211 := c210.trans (cf c11)
            obtain ⟨wh, hwh, rfl⟩ := List.mem_map.mp hv11
            refine ⟨_, rfl, _, rfl, _, rfl, (show 4 ≤ sizeLine by decide), fun D nD => ?_⟩
            obtain ⟨rs11, hlf11, hrs11⟩ := id hf11
            obtain ⟨g1, g2⟩ := LstAt.grow (x := (⟨wh, pp.name, at', bb⟩ : Hs.St)) hlf11 hrs11 nD stO_nl
            refine ⟨lf, rs11.map V.ref, _, rfl, rfl, (upd_ne (ne_of_none hlf11 nD)).trans hlf11, ?_, ?_⟩
            · rw [List.length_map, hrs11.1]
              exact Nat.lt_trans l7 (by decide)
            have fr12 := g2
            have hf12 := g1
            have j12 : JarAt (upd (upd H11 D (stO ⟨wh, pp.name, at', bb⟩)) lf (.lst (rs11.map V.ref ++ [.ref D]))) p (N + 3 + 3 * i + 2 + 4 * ss'.length + 1 + 1 + 1) := by
              obtain ⟨o, mm, cc, hp5, r⟩ := j11
              exact ⟨o, mm, cc, g2 _ _ hp5 (by simpa using nlfp.symm), r⟩
            have c212 : Fr [p, lf] H2 (upd (upd H11 D (stO ⟨wh, pp.name, at', bb⟩)) lf (.lst (rs11.map V.ref ++ [.ref D]))) := c211.trans (g2.mono (by simp))
            refine ⟨_, rfl, _, rfl, (show 3 ≤ sizeLine by decide), fun q3 nq3 => ?_⟩
            have e13 := same_upd (o := .lst [V.int 0, .int 0, .int 1]) nq3
            obtain ⟨_, _, _, hp12, _⟩ := id j12
            have nq3p : q3 ≠ p := fun z => by subst z; exact absurd (hp12.symm.trans nq3) (by intro z; cases z)
            refine ⟨p, q3, _, _, rfl, upd_same, nq3p, ⟨show 0 < 3 by decide, show 3 ≤ 1000 by decide⟩, j12.same e13, by omega, fun v14 H14 hv14 c14 j14 => ?_⟩
            have hf14 := (hf12.same e13).jar (j12.same e13) nlfp c14 stO_nl
            have c214 := (c212.trans (Fr.same e13)).trans (cf c14)
            obtain ⟨dd, rfl, hdd⟩ : ∃ a : Nat, v14 = .int a ∧ a ≤ 1 := by
              simp only [List.mem_cons, List.not_mem_nil, or_false] at hv14
              rcases hv14 with rfl | rfl | rfl
              · exact ⟨0, rfl, by decide⟩
              · exact ⟨0, rfl, by decide⟩
              · exact ⟨1, rfl, by decide⟩
            refine ⟨_, _, rfl, rfl, ?_⟩
            refine ⟨⟨bb + dd, ss' ++ [⟨wh, pp.name, at', bb⟩], _, rfl, c214, ?_, hf14, ⟨?_, ?_, ?_⟩, ?_⟩, ?_⟩
            · rw [List.length_append, List.length_singleton]
              exact j14.mono (by omega)
            · rw [List.length_append, List.length_singleton]
              omega
            · intro s hs
              rcases List.mem_append.mp hs with hs | hs
              · exact ok8.ok s hs
              · rw [List.mem_singleton.mp hs]
                refine ⟨by show at' < bb; omega, by show bb ≤ n; omega, hwh, ?_⟩
                rw [et, List.map_append]
                exact List.mem_append_right _ (by simp)
            · rw [List.pairwise_append]
              refine ⟨ok8.ap, by simp, fun s hs t ht e => ?_⟩
              rw [List.mem_singleton.mp ht] at e ⊢
              exact .inl (be8 s hs e)
            · intro s hs e
              rcases List.mem_append.mp hs with hs | hs
              · have := be8 s hs e
                omega
              · rw [List.mem_singleton.mp hs]
                show bb ≤ bb + dd
                omega
            · show ((n : Int) - ((bb : Int) + (dd : Int))).toNat < n - at'
              omega
    · rintro σ H3 ⟨ss, s5, s6, s7, s8, s9, rfl, c3, j3, hf3, ok⟩
      rw [show pls.take (rs.map V.ref).length = pls from by rw [List.length_map, hrs.1]; exact List.take_length] at ok
      have l8 := ok.l
      have len4 : (rs.map V.ref).length ≤ 4 := by rw [List.length_map, hrs.1]; exact l4
      refine ⟨_, rfl, p, 2, _, rfl, ⟨by decide, by decide⟩, j3, by omega, fun d H4 hd c4 j4 => ⟨rfl, _, rfl, ?_⟩⟩
      have hf4 := hf3.jar j3 nlfp c4 stO_nl
      have c24 := (toH c3).trans c4
      cases decide (V.int d = V.int 0) with
      | true => exact iteT ⟨_, rfl, q _ lf ppl ss c24 nlfH (j4.mono (by omega)) hf4 psub ok⟩
      | false =>
        obtain ⟨rs4, hlf4, hrs4⟩ := hf4
        refine iteF ⟨_, rfl, lf, _, rfl, SqL.of hlf4, fun t nt => ?_⟩
        have e5 := same_upd (o := .lst (rs4.map V.ref).reverse) nt
        have nntp : H t = none := by
          cases e : H t with
          | none => rfl
          | some u =>
            by_cases z : t = p
            · obtain ⟨_, _, _, hp4, _⟩ := id j4
              rw [z, hp4] at nt
              cases nt
            · rw [c24 _ _ e z] at nt
              cases nt
        refine q _ t ppl ss.reverse (c24.trans (Chg.of e5)) nntp ((j4.same e5).mono (by omega)) ⟨rs4.reverse, ?_, (hrs4.same e5).rev⟩ psub ok.rev
        rw [upd_same, List.map_reverse]
end
end Hs
/-! joined texts, and their parts again -/
namespace SL
open PySem PySem.StrLaws PySem.Builtin PySem.Builtin.Str
theorem fold_list (g : Array Nat) : ∀ (l : List Str) (acc : Array Nat), (l.foldl (fun acc p => acc ++ g ++ p.cps) acc).toList = acc.toList ++ l.flatMap fun p => g.toList ++ p.cps.toList
  | [], acc => by simp
  | p :: l, acc => by
    rw [List.foldl_cons, fold_list g l, List.flatMap_cons]
    simp
theorem join_list (g a : Str) (l : List Str) : (Txt.join g (a :: l)).cps.toList = a.cps.toList ++ l.flatMap fun p => g.cps.toList ++ p.cps.toList := by
  show (List.foldl (fun acc p => acc ++ g.cps ++ p.cps) (List.headD (a :: l) Str.empty).cps (List.drop 1 (a :: l))).toList = _
  exact fold_list g.cps l a.cps
theorem cut_join (c : Nat) : ∀ (l : List Str) (a : Str), c ∉ a.cps.toList → (∀ p ∈ l, c ∉ p.cps.toList) → cutAt c (a.cps.toList ++ l.flatMap fun p => [c] ++ p.cps.toList) = a.cps.toList :: l.map fun p => p.cps.toList
  | [], a, h, _ => by rw [List.flatMap_nil, List.append_nil]; exact cut_none h
  | p :: l, a, h, k => by
    rw [List.flatMap_cons]
    show cutAt c (a.cps.toList ++ (c :: (p.cps.toList ++ _))) = _
    rw [cut_app h, cut_join c l p (k p (by simp)) (fun q hq => k q (by simp [hq]))]
    rfl
theorem split_join (c : Nat) (a : Str) (l : List Str) (h : ∀ p ∈ a :: l, c ∉ p.cps.toList) (h0 : ∀ x : Str, Builtin.Str.strKind x ≥ Builtin.Str.strKind ⟨#[c]⟩) : Txt.split (Txt.join ⟨#[c]⟩ (a :: l)) ⟨#[c]⟩ = a :: l := by
  rw [split_sign _ _ (fun _ => h0 _), join_list]
  have e : (⟨#[c]⟩ : Str).cps.toList = [c] := rfl
  rw [e, cut_join c l a (h a (by simp)) (fun p hp => h p (by simp [hp])), List.map_cons, List.map_map, ofL_toList]
  congr 1
  rw [show (ofL ∘ fun p : Str => p.cps.toList) = _root_.id from funext fun p => ofL_toList p, List.map_id]
theorem join_len (g a : Str) (l : List Str) : (Txt.join g (a :: l)).length = a.length + (l.map fun p => g.length + p.length).sum := by
  rw [← len_toList, join_list, List.length_append, len_toList, List.length_flatMap]
  congr 2
  apply List.map_congr_left
  intro p _
  rw [List.length_append, len_toList, len_toList]
theorem kind_ge {c : Nat} (hc : c < 256) (x : Str) : Builtin.Str.strKind x ≥ Builtin.Str.strKind ⟨#[c]⟩ := by
  have e : Builtin.Str.strKind ⟨#[c]⟩ = 1 := by
    unfold Builtin.Str.strKind
    rw [if_pos (by simp [hc])]
  rw [e]
  unfold Builtin.Str.strKind
  split
  · exact Nat.le_refl _
  · split <;> decide
end SL
/-! the law: the page of a house -/
namespace Hs
open PySem PySem.Spec PyProof.Rows L2 Am
abbrev si (n : Nat) : Str := Str.ofString (toString (n : Int))
def dayL (n : Nat) : Str := ("days " : Str) ++ si n
def plL (p : Pl) : Str := (if p.inner then ("flat " : Str) else "bare ") ++ p.name ++ " " ++ si p.room
def prL (p : Nat × Nat) : Str := ("price " : Str) ++ si p.1 ++ " " ++ si p.2
def stL (s : St) : Str := Txt.join " " ["lives", s.who, s.pl, si s.a, si s.b]
def linesOf (L : Lore) : List Str := dayL L.days :: (L.places.map plL ++ (L.prices.map prL ++ L.stays.map stL))
def pageOf (L : Lore) : Str := Txt.join "\n" (linesOf L)
def lkv (n : Nat) (lp ls lt : Addr) : List (Key × V) := [(.inr "days", .int n), (.inr "places", .ref lp), (.inr "stays", .ref ls), (.inr "prices", .ref lt)]
def LoreAt (H : Hp) (d : Addr) (L : Lore) : Prop := ∃ lp ls lt, H d = some (.dK (lkv L.days lp ls lt)) ∧ LstAt plO H lp L.places ∧ LstAt stO H ls L.stays ∧ LstAt prO H lt L.prices
theorem LoreAt.same {H H' : Hp} {d : Addr} {L : Lore} (h : LoreAt H d L) (e : Same H H') : LoreAt H' d L := by
  obtain ⟨lp, ls, lt, a, b, c, f⟩ := h
  exact ⟨lp, ls, lt, e _ _ a, b.same e, c.same e, f.same e⟩
/-- small enough to be written -/
structure Fit (L : Lore) : Prop where
  d : L.days ≤ 14
  sm : Small L
  pl : ∀ p ∈ L.places, p.name.length ≤ 8 ∧ p.room ≤ 9
  pr : ∀ p ∈ L.prices, p.1 ≤ 14 ∧ p.2 ≤ 99
  st : ∀ s ∈ L.stays, s.who.length ≤ 8 ∧ s.pl.length ≤ 8 ∧ s.a ≤ 14 ∧ s.b ≤ 14
theorem si_len {n : Nat} (h : n ≤ 99) : (si n).length ≤ 2 := by
  have : ∀ k : Fin 100, (si k.val).length ≤ 2 := by decide +kernel
  exact this ⟨n, by omega⟩
theorem lg {n : Nat} (h : n ≤ 99) : ((n : Int).natAbs).log2 < 1920 := log2_lt (by decide) (Nat.lt_of_le_of_lt (show (n : Int).natAbs ≤ 99 by omega) (by decide))
theorem big {k : Nat} (h : k ≤ 4000) : k ≤ sizeLine := Nat.le_trans h (by decide)
section
variable (n : Nat) (lp ls lt : Addr)
theorem lk_d : some (V.int n) = valV (lkv n lp ls lt) (.inr "days") := by
  unfold lkv valV
  simp only [List.find?, show decide ((Sum.inr ("days" : Str) : Key) = Sum.inr ("days" : Str)) = true from by decide +kernel]
  rfl
theorem lk_p : some (V.ref lp) = valV (lkv n lp ls lt) (.inr "places") := by
  unfold lkv valV
  simp only [List.find?, show decide ((Sum.inr ("days" : Str) : Key) = Sum.inr ("places" : Str)) = false from by decide +kernel, show decide ((Sum.inr ("places" : Str) : Key) = Sum.inr ("places" : Str)) = true from by decide +kernel]
  rfl
theorem lk_s : some (V.ref ls) = valV (lkv n lp ls lt) (.inr "stays") := by
  unfold lkv valV
  simp only [List.find?, show decide ((Sum.inr ("days" : Str) : Key) = Sum.inr ("stays" : Str)) = false from by decide +kernel, show decide ((Sum.inr ("places" : Str) : Key) = Sum.inr ("stays" : Str)) = false from by decide +kernel, show decide ((Sum.inr ("stays" : Str) : Key) = Sum.inr ("stays" : Str)) = true from by decide +kernel]
  rfl
theorem lk_t : some (V.ref lt) = valV (lkv n lp ls lt) (.inr "prices") := by
  unfold lkv valV
  simp only [List.find?, show decide ((Sum.inr ("days" : Str) : Key) = Sum.inr ("prices" : Str)) = false from by decide +kernel, show decide ((Sum.inr ("places" : Str) : Key) = Sum.inr ("prices" : Str)) = false from by decide +kernel, show decide ((Sum.inr ("stays" : Str) : Key) = Sum.inr ("prices" : Str)) = false from by decide +kernel, show decide ((Sum.inr ("prices" : Str) : Key) = Sum.inr ("prices" : Str)) = true from by decide +kernel]
  rfl
end
theorem sum_le {α : Type} (f : α → Nat) (k : Nat) : ∀ xs : List α, (∀ x ∈ xs, f x ≤ k) → (xs.map f).sum ≤ xs.length * k
  | [], _ => by simp
  | x :: xs, h => by
    have := sum_le f k xs fun y hy => h y (by simp [hy])
    have h0 := h x (by simp)
    rw [List.map_cons, List.sum_cons, List.length_cons, Nat.succ_mul]
    omega
theorem lines_len {L : Lore} (fit : Fit L) (l : Str) (h : l ∈ linesOf L) : l.length ≤ 40 := by
  unfold linesOf at h
  rcases List.mem_cons.mp h with rfl | h
  · have := si_len (n := L.days) (by have := fit.d; omega)
    unfold dayL
    rw [strLen_append]
    exact Nat.le_trans (Nat.add_le_add (show ("days " : Str).length ≤ 5 by decide) this) (by decide)
  rcases List.mem_append.mp h with h | h
  · obtain ⟨p, hp, rfl⟩ := List.mem_map.mp h
    obtain ⟨a, b⟩ := fit.pl p hp
    have sl := si_len (n := p.room) (by omega)
    have l5 : (if p.inner then ("flat " : Str) else ("bare " : Str)).length = 5 := by cases p.inner <;> rfl
    unfold plL
    rw [strLen_append, strLen_append, strLen_append, l5]
    exact Nat.le_trans (Nat.add_le_add (Nat.add_le_add (Nat.add_le_add_left a 5) (show (" " : Str).length ≤ 1 by decide)) sl) (by decide)
  rcases List.mem_append.mp h with h | h
  · obtain ⟨p, hp, rfl⟩ := List.mem_map.mp h
    obtain ⟨a, b⟩ := fit.pr p hp
    have sl1 := si_len (n := p.1) (by omega)
    have sl2 := si_len (n := p.2) (by omega)
    unfold prL
    rw [strLen_append, strLen_append, strLen_append]
    exact Nat.le_trans (Nat.add_le_add (Nat.add_le_add (Nat.add_le_add (show ("price " : Str).length ≤ 6 by decide) sl1) (show (" " : Str).length ≤ 1 by decide)) sl2) (by decide)
  · obtain ⟨s, hs, rfl⟩ := List.mem_map.mp h
    obtain ⟨a, b, c, d⟩ := fit.st s hs
    have sl1 := si_len (n := s.a) (by omega)
    have sl2 := si_len (n := s.b) (by omega)
    unfold stL
    rw [SL.join_len]
    show 5 + ((1 + s.who.length) + ((1 + s.pl.length) + ((1 + (si s.a).length) + ((1 + (si s.b).length) + 0)))) ≤ 40
    omega
def spPage : Sp := fun vs H Q _ => ∃ (d : Addr) (L : Lore), vs = [.ref d] ∧ LoreAt H d L ∧ Fit L ∧ ∀ H', Same H H' → Q (.str (pageOf L)) H'
section
variable {P : Program} {w : World} {K : PySem.W.Frag} {mg : Str → Option Value} {base : Heap}
theorem scPage : FnScope ["_law_lore", "_law_found", "_law_name", "_law_room", "_law_is_metered", "_law_person", "_law_place", "_law_first", "_law_behind", "_law_day", "_law_number"] ["_law_lore"] (defScope sL_page) := ⟨rfl, rfl, rfl, by decide +kernel, rfl, by decide +kernel, by decide +kernel⟩
theorem ok_page {f : Addr} {fd : FuncData} (F : Fun K "_law_page" "_law_page" sL_page f fd) (nst : mg "str" = none) : FnOk P w K mg base CX0 1 f fd ["_law_lore"] spPage := by
  refine F.ok scPage (fun vs H Q E h => ?_) (fun cdv A outer s H vs Q E hr h => ?_)
  · obtain ⟨d, L, rfl, _⟩ := h
    rfl
  · obtain ⟨d, L, rfl, hd, fit, q⟩ := h
    have hu := hu_of hr
    have b_str : bootBuiltins "str" = some (.type "str") := by decide +kernel
    refine ⟨_, pss_cons (ps_set (i := 1) scPage.nd rfl (.inl rfl) (pe_lst (pa_cons (pe_op op_add_str pe_str (pe_callTy call_str_int (by rfl) nst b_str (pa_cons (pe_dget hu (pv 0) pe_str (fun _ _ => rfl)) pa_nil))) pa_nil)))
      (pss_cons (ps_for (g := gTup K 3 (gCons (gName 2) (gCons (gName 3) (gCons (gName 4) gNil)))) PassesOwn.never rfl (pi_list (pe_dget hu (pv 0) pe_str (fun _ _ => rfl)))
        (pg_tup rfl (pgs_cons (pg_name (i := 2) scPage.nd rfl (.inl rfl)) (pgs_cons (pg_name (i := 3) scPage.nd rfl (.inl rfl)) (pgs_cons (pg_name (i := 4) scPage.nd rfl (.inl rfl)) pgs_nil))))
        (pss_one (ps_expr (pe_bm PySem.F.plainAttrs_list PySem.F.slot_list_append PySem.F.type_list_append mt_append (pv 1)
          (pa_cons (pe_op op_add_str (pe_op op_add_str (pe_op op_add_str (pe_ifExp (pt_val (pv 4)) pe_str pe_str) (pv 2)) pe_str) (pe_callTy call_str_int (by rfl) nst b_str (pa_cons (pv 3) pa_nil))) pa_nil)))))
      (pss_cons (ps_expr (pe_bm PySem.F.plainAttrs_list PySem.F.slot_list_extend PySem.F.type_list_extend mt_extend (pv 1)
        (pa_cons (pe_lc (own := [("_law_day", 9), ("_law_number", 10)]) (g := gTup K 2 (gCons (gName 9) (gCons (gName 10) gNil))) (tt := tYes) rfl scPage.nd (pi_list (pe_dget hu (pv 0) pe_str (fun _ _ => rfl)))
          (blkOk_by (N := ["_law_lore", "_law_found", "_law_name", "_law_room", "_law_is_metered", "_law_person", "_law_place", "_law_first", "_law_behind", "_law_day", "_law_number"]) (sc := defScope sL_page) (by decide +kernel))
          (fun _ _ _ _ _ => pg_tup rfl (pgs_cons (pg_name (i := 9) scPage.nd rfl (.inl rfl)) (pgs_cons (pg_name (i := 10) scPage.nd rfl (.inl rfl)) pgs_nil))) (fun _ _ _ _ _ => pts_nil)
          (fun _ _ _ _ _ => pe_op op_add_str (pe_op op_add_str (pe_op op_add_str pe_str (pe_callTy call_str_int (by rfl) nst b_str (pa_cons (pv 9) pa_nil))) pe_str) (pe_callTy call_str_int (by rfl) nst b_str (pa_cons (pv 10) pa_nil)))) pa_nil)))
      (pss_cons (ps_for (g := gTup K 4 (gCons (gName 5) (gCons (gName 6) (gCons (gName 7) (gCons (gName 8) gNil))))) PassesOwn.never rfl (pi_list (pe_dget hu (pv 0) pe_str (fun _ _ => rfl)))
        (pg_tup rfl (pgs_cons (pg_name (i := 5) scPage.nd rfl (.inl rfl)) (pgs_cons (pg_name (i := 6) scPage.nd rfl (.inl rfl)) (pgs_cons (pg_name (i := 7) scPage.nd rfl (.inl rfl)) (pgs_cons (pg_name (i := 8) scPage.nd rfl (.inl rfl)) pgs_nil)))))
        (pss_one (ps_expr (pe_bm PySem.F.plainAttrs_list PySem.F.slot_list_append PySem.F.type_list_append mt_append (pv 1)
          (pa_cons (pe_join pe_str (pe_lst (pa_cons pe_str (pa_cons (pv 5) (pa_cons (pv 6) (pa_cons (pe_callTy call_str_int (by rfl) nst b_str (pa_cons (pv 7) pa_nil)) (pa_cons (pe_callTy call_str_int (by rfl) nst b_str (pa_cons (pv 8) pa_nil)) pa_nil))))))) pa_nil)))))
      (pss_one (ps_ret (pe_join pe_str (pv 1))))))), ?_⟩
    obtain ⟨lp, ls, lt, hdd, hlp, hls, hlt⟩ := hd
    obtain ⟨rp, hp, hrp⟩ := hlp
    obtain ⟨rs, hs', hrs⟩ := hls
    obtain ⟨rt, ht, hrt⟩ := hlt
    obtain ⟨s1, s2, s3⟩ := fit.sm
    refine ⟨_, rfl, d, _, rfl, .inl ⟨_, .inr "days", .inl hdd, rfl, lk_d _ _ _ _⟩, (L.days : Int), rfl, lg (by have := fit.d; omega), _, _, rfl, rfl, ?_, (show 1 ≤ sizeLine by decide), fun lf nlf => ?_⟩
    · have := si_len (n := L.days) (by have := fit.d; omega)
      exact big (Nat.le_trans (Nat.add_le_add_left this 5) (by decide))
    have e1 := same_upd (o := .lst [V.str (dayL L.days)]) nlf
    refine ⟨_, rfl, d, _, rfl, .inl ⟨_, .inr "places", .inl (e1 _ _ hdd), rfl, lk_p _ _ _ _⟩, lp, rfl, ⟨_, SqL.of (e1 _ _ hp)⟩, ?_⟩
    refine for_it (walk_list (xs := rp.map V.ref)) (fun i σ H' => ∃ (s2 s3 s4 : Option V), σ = [some (.ref d), some (.ref lf), s2, s3, s4, none, none, none, none, none, none] ∧ Same H H' ∧ H' lf = some (.lst ((dayL L.days :: (L.places.take i).map plL).map V.str))) ?_ ?_ ?_ ?_
    · exact ⟨_, _, _, rfl, e1, upd_same⟩
    · rintro i σ H' _ ⟨_, _, _, _, es, _⟩
      exact SqL.of (es _ _ hp)
    · rintro i v σ H1 H2 hi ⟨s2, s3, s4, rfl, es, hl⟩ ⟨rfl, hv⟩
      obtain ⟨q1, pp, rfl, _, hpp, ho⟩ := hrp.at hv
      obtain ⟨f1, f2⟩ := fit.pl pp (List.mem_of_getElem? hpp)
      have sl := si_len (n := pp.room) (by omega)
      refine ⟨q1, _, rfl, SqT.of (es _ _ ho), rfl, _, _, rfl, _, _, rfl, _, _, rfl, rfl, ?_⟩
      refine ⟨_, rfl, .inl ⟨rfl, _, SqL.of hl⟩, _, rfl, pp.inner, rfl, if_val (.str (if pp.inner then ("flat " : Str) else "bare ")) ?_ (fun e Q' h => by rw [e] at h; exact h) (fun e Q' h => by rw [e] at h; exact h)⟩
      have l5 : (if pp.inner then ("flat " : Str) else ("bare " : Str)).length = 5 := by cases pp.inner <;> rfl
      refine ⟨_, rfl, _, _, rfl, rfl, big (by omega), _, _, rfl, rfl, ?_, _, rfl, (pp.room : Int), rfl, lg (by omega), _, _, rfl, rfl, ?_, ?_⟩
      · rw [strLen_append, l5]
        exact big (Nat.le_trans (Nat.add_le_add_left (show (" " : Str).length ≤ 1 by decide) _) (by omega))
      · rw [strLen_append, strLen_append, l5]
        exact big (Nat.le_trans (Nat.add_le_add (Nat.add_le_add_left (show (" " : Str).length ≤ 1 by decide) _) sl) (by omega))
      refine ⟨lf, _, _, rfl, rfl, hl, ?_, ?_⟩
      · rw [List.length_map, List.length_cons, List.length_map, List.length_take]
        exact Nat.lt_of_le_of_lt (show _ ≤ 5 by omega) (by decide)
      refine ⟨_, _, _, rfl, fun b u e => ?_, ?_⟩
      · rw [upd_ne (ne_of_none e nlf)]
        exact es _ _ e
      · rw [upd_same, List.take_add_one, hpp]
        rw [show (some pp).toList = [pp] from rfl, List.map_append, ← List.cons_append, List.map_append]
        rfl
    · rintro σ H1 ⟨s2, s3, s4, rfl, es, hl⟩
      rw [show L.places.take (rp.map V.ref).length = L.places from by rw [List.length_map, hrp.1]; exact List.take_length] at hl
      generalize hbase : (dayL L.days :: L.places.map plL) = pre at *
      have prl : pre.length ≤ 5 := by rw [← hbase, List.length_cons, List.length_map]; omega
      refine ⟨_, rfl, .inl ⟨rfl, _, SqL.of hl⟩, _, rfl, d, _, rfl, .inl ⟨_, .inr "prices", .inl (es _ _ hdd), rfl, lk_t _ _ _ _⟩, lt, rfl, ⟨_, SqL.of (es _ _ ht)⟩, fun D nD => ?_⟩
      refine lc_it (walk_list (xs := rt.map V.ref)) (Pv := Tk H1 D (L.prices.map fun x => V.str (prL x))) (Tk.start nD) (fun i H' _ hh => SqL.of (hh.1 _ _ (es _ _ ht))) ?_ ?_
      · rintro i v G1 G2 hi hk ⟨rfl, hv⟩
        obtain ⟨q1, pp, rfl, _, hpp, ho⟩ := (hrt.same es).at hv
        obtain ⟨f1, f2⟩ := fit.pr pp (List.mem_of_getElem? hpp)
        have sl1 := si_len (n := pp.1) (by omega)
        have sl2 := si_len (n := pp.2) (by omega)
        refine ⟨q1, _, rfl, SqT.of (hk.1 _ _ ho), rfl, _, _, rfl, _, _, rfl, rfl, rfl, ?_⟩
        unfold tYes
        refine iteT ⟨_, rfl, (pp.1 : Int), rfl, lg (by omega), _, _, rfl, rfl, ?_, _, _, rfl, rfl, ?_, _, rfl, (pp.2 : Int), rfl, lg (by omega), _, _, rfl, rfl, ?_, ?_⟩
        · exact big (Nat.le_trans (Nat.add_le_add (show ("price " : Str).length ≤ 6 by decide) sl1) (by decide))
        · rw [strLen_append]
          exact big (Nat.le_trans (Nat.add_le_add (Nat.add_le_add (show ("price " : Str).length ≤ 6 by decide) sl1) (show (" " : Str).length ≤ 1 by decide)) (by decide))
        · rw [strLen_append, strLen_append]
          exact big (Nat.le_trans (Nat.add_le_add (Nat.add_le_add (Nat.add_le_add (show ("price " : Str).length ≤ 6 by decide) sl1) (show (" " : Str).length ≤ 1 by decide)) sl2) (by decide))
        · exact hk.step nD (Same.refl _) (by rw [List.getElem?_map, hpp]; rfl) (by rw [List.length_map]; omega)
      · rintro G1 hk
        have hD := hk.done (by simp [hrt.1])
        refine ⟨lf, D, _, _, rfl, rfl, hk.1 _ _ hl, hD, ?_, ?_⟩
        · rw [List.length_map, List.length_map]
          exact big (by omega)
        have e3 : Same H (upd G1 lf (.lst (pre.map V.str ++ L.prices.map fun x => V.str (prL x)))) := fun b u e => by
          rw [upd_ne (ne_of_none e nlf)]
          exact hk.1 _ _ (es _ _ e)
        have hl3 : (upd G1 lf (.lst (pre.map V.str ++ L.prices.map fun x => V.str (prL x)))) lf = some (.lst ((pre ++ L.prices.map prL).map V.str)) := by
          rw [upd_same, List.map_append, List.map_map]
          rfl
        generalize upd G1 lf (.lst (pre.map V.str ++ L.prices.map fun x => V.str (prL x))) = G3 at *
        refine ⟨_, rfl, d, _, rfl, .inl ⟨_, .inr "stays", .inl (e3 _ _ hdd), rfl, lk_s _ _ _ _⟩, ls, rfl, ⟨_, SqL.of (e3 _ _ hs')⟩, ?_⟩
        refine for_it (walk_list (xs := rs.map V.ref)) (fun i σ H' => ∃ (s2 s3 s4 s5 s6 s7 s8 : Option V), σ = [some (.ref d), some (.ref lf), s2, s3, s4, s5, s6, s7, s8, none, none] ∧ Same H H' ∧ H' lf = some (.lst ((pre ++ (L.prices.map prL ++ (L.stays.take i).map stL)).map V.str))) ?_ ?_ ?_ ?_
        · refine ⟨_, _, _, _, _, _, _, rfl, e3, ?_⟩
          rw [hl3]
          simp
        · rintro i σ H' _ ⟨_, _, _, _, _, _, _, _, es', _⟩
          exact SqL.of (es' _ _ hs')
        · rintro i v σ H4 H2 hi ⟨s2, s3, s4, s5, s6, s7, s8, rfl, es4, hl4⟩ ⟨rfl, hv⟩
          obtain ⟨q1, pp, rfl, _, hpp, ho⟩ := hrs.at hv
          obtain ⟨f1, f2, f3, f4⟩ := fit.st pp (List.mem_of_getElem? hpp)
          have sl1 := si_len (n := pp.a) (by omega)
          have sl2 := si_len (n := pp.b) (by omega)
          refine ⟨q1, _, rfl, SqT.of (es4 _ _ ho), rfl, _, _, rfl, _, _, rfl, _, _, rfl, _, _, rfl, rfl, ?_⟩
          refine ⟨_, rfl, .inl ⟨rfl, _, SqL.of hl4⟩, ⟨_, rfl⟩, _, rfl, _, rfl, _, rfl, (pp.a : Int), rfl, lg (by omega), _, rfl, (pp.b : Int), rfl, lg (by omega), (show 5 ≤ sizeLine by decide), fun q2 nq2 => ?_⟩
          refine ⟨_, q2, [("lives" : Str), pp.who, pp.pl, si pp.a, si pp.b], rfl, rfl, .inl (SqL.of upd_same), ?_, ?_⟩
          · show ((5 : Nat) + (pp.who.length + (pp.pl.length + ((si pp.a).length + ((si pp.b).length + 0))))) + 5 * 1 ≤ 16777216
            omega
          have e5 := same_upd (o := .lst [V.str "lives", .str pp.who, .str pp.pl, .str (si pp.a), .str (si pp.b)]) nq2
          refine ⟨lf, _, _, rfl, rfl, e5 _ _ hl4, ?_, ?_⟩
          · rw [List.length_map, List.length_append, List.length_append, List.length_map, List.length_map, List.length_take]
            exact Nat.lt_of_le_of_lt (show _ ≤ 40 by omega) (by decide)
          refine ⟨_, _, _, _, _, _, _, rfl, fun b u e => ?_, ?_⟩
          · rw [upd_ne (ne_of_none e nlf)]
            exact e5 _ _ (es4 _ _ e)
          · rw [upd_same, List.take_add_one, hpp, show (some pp).toList = [pp] from rfl]
            simp only [List.map_append, List.append_assoc]
            rfl
        · rintro σ H4 ⟨s2, s3, s4, s5, s6, s7, s8, rfl, es4, hl4⟩
          rw [show L.stays.take (rs.map V.ref).length = L.stays from by rw [List.length_map, hrs.1]; exact List.take_length, ← hbase] at hl4
          refine ⟨⟨_, rfl⟩, _, rfl, _, lf, linesOf L, rfl, rfl, .inl (SqL.of hl4), ?_, q H4 es4⟩
          have b1 : ((linesOf L).map (·.length)).sum ≤ (linesOf L).length * 40 := sum_le _ _ _ fun l hl => lines_len fit l hl
          have b2 : (linesOf L).length ≤ 16 := by
            unfold linesOf
            rw [List.length_cons, List.length_append, List.length_append, List.length_map, List.length_map, List.length_map]
            omega
          have b3 : (linesOf L).length * ("\n" : Str).length ≤ 16 * 1 := Nat.mul_le_mul b2 (by decide)
          have b4 : (linesOf L).length * 40 ≤ 16 * 40 := Nat.mul_le_mul b2 (by decide)
          omega
end
end Hs
/-! the page of a sound lore tells it -/
namespace Hs
open PySem PySem.Spec PyProof.Rows L2 Am
structure Valid (L : Lore) : Prop where
  d : 1 ≤ L.days ∧ L.days ≤ 14
  l4 : L.places.length ≤ 4
  nd : (L.places.map (·.name)).Nodup
  ok : ∀ p ∈ L.places, p.name ∈ pool ∧ 1 ≤ p.room ∧ p.room ≤ 9
  fl : hasF L = true
  pr : PrOk L.days L.prices
  st : ∃ ppl : List Str, (∀ x ∈ ppl, x ∈ pool) ∧ StOk L.days (L.places.map (·.name)) ppl L.stays
theorem pool_len : ∀ x ∈ pool, x.length ≤ 8 := by decide +kernel
theorem Valid.who {L : Lore} (v : Valid L) {s : St} (h : s ∈ L.stays) : s.a < s.b ∧ s.b ≤ L.days ∧ s.who ∈ pool ∧ s.pl ∈ L.places.map (·.name) ∧ s.pl ∈ pool := by
  obtain ⟨ppl, a, b⟩ := v.st
  obtain ⟨c, d, e, f⟩ := b.ok s h
  refine ⟨c, d, a _ e, f, ?_⟩
  obtain ⟨p, hp, hn⟩ := List.mem_map.mp f
  rw [← hn]
  exact (v.ok p hp).1
theorem Valid.small {L : Lore} (v : Valid L) : Small L := ⟨v.l4, v.pr.l, by obtain ⟨_, _, b⟩ := v.st; exact b.l⟩
theorem Valid.fit {L : Lore} (v : Valid L) : Fit L := by
  have d := v.d
  refine ⟨d.2, v.small, fun p hp => ⟨pool_len _ (v.ok p hp).1, (v.ok p hp).2.2⟩, fun p hp => ⟨by have := (v.pr.ok p hp).1; omega, (v.pr.ok p hp).2⟩, fun s hs => ?_⟩
  obtain ⟨a, b, c, _, e⟩ := v.who hs
  exact ⟨pool_len _ c, pool_len _ e, by omega, by omega⟩
/-- no blank, no end of a line -/
def Pure (x : Str) : Prop := 32 ∉ x.cps.toList ∧ 10 ∉ x.cps.toList
theorem pool_pure : ∀ x ∈ pool, Pure x := by unfold Pure; decide +kernel
theorem si_pure {n : Nat} (h : n ≤ 99) : Pure (si n) := by
  have : ∀ k : Fin 100, Pure (si k.val) := by unfold Pure; decide +kernel
  exact this ⟨n, by omega⟩
theorem si_num {n : Nat} (h : n ≤ 99) : Mt.num (si n).cps.toList = n := by
  have : ∀ k : Fin 100, Mt.num (si k.val).cps.toList = ((k.val : Nat) : Int) := by decide +kernel
  exact this ⟨n, by omega⟩
theorem split_bl (a : Str) (l : List Str) (h : ∀ p ∈ a :: l, Pure p) : Txt.split (Txt.join " " (a :: l)) " " = a :: l :=
  SL.split_join 32 a l (fun p hp => (h p hp).1) (SL.kind_ge (by decide))
theorem nl_join (a : Str) (l : List Str) (h : ∀ p ∈ a :: l, Pure p) : 10 ∉ (Txt.join " " (a :: l)).cps.toList := by
  rw [SL.join_list]
  intro z
  rcases List.mem_append.mp z with z | z
  · exact (h a (by simp)).2 z
  · obtain ⟨p, hp, z⟩ := List.mem_flatMap.mp z
    rcases List.mem_append.mp z with z | z
    · exact absurd z (by decide +kernel)
    · exact (h p (by simp [hp])).2 z
theorem app_list (a b : Str) : (a ++ b).cps.toList = a.cps.toList ++ b.cps.toList := by rw [Str.cps_append, Array.toList_append]
theorem dayL_join (n : Nat) : dayL n = Txt.join " " ["days", si n] := by
  apply SL.ext
  rw [SL.join_list]
  unfold dayL
  rw [app_list, show ("days " : Str).cps.toList = ("days" : Str).cps.toList ++ (" " : Str).cps.toList from by decide +kernel]
  simp only [List.flatMap_cons, List.flatMap_nil, List.append_nil, List.append_assoc]
theorem plL_join (p : Pl) : plL p = Txt.join " " [if p.inner then ("flat" : Str) else "bare", p.name, si p.room] := by
  apply SL.ext
  rw [SL.join_list]
  unfold plL
  rw [app_list, app_list, app_list]
  have e : (if p.inner then ("flat " : Str) else ("bare " : Str)).cps.toList = (if p.inner then ("flat" : Str) else ("bare" : Str)).cps.toList ++ (" " : Str).cps.toList := by cases p.inner <;> decide +kernel
  rw [e]
  simp only [List.flatMap_cons, List.flatMap_nil, List.append_nil, List.append_assoc]
theorem prL_join (p : Nat × Nat) : prL p = Txt.join " " ["price", si p.1, si p.2] := by
  apply SL.ext
  rw [SL.join_list]
  unfold prL
  rw [app_list, app_list, app_list, show ("price " : Str).cps.toList = ("price" : Str).cps.toList ++ (" " : Str).cps.toList from by decide +kernel]
  simp only [List.flatMap_cons, List.flatMap_nil, List.append_nil, List.append_assoc]
theorem kinds_pure : Pure ("days" : Str) ∧ Pure ("flat" : Str) ∧ Pure ("bare" : Str) ∧ Pure ("price" : Str) ∧ Pure ("lives" : Str) := by unfold Pure; decide +kernel
theorem Steps.app {L1 L2 L3 : Lore} {xs ys : List Str} (h : Steps L1 xs L2) (k : Steps L2 ys L3) : Steps L1 (xs ++ ys) L3 := by
  induction h with
  | nil => exact k
  | cons s _ ih => exact .cons s (ih k)
theorem Steps.one {L1 L2 : Lore} {x : Str} (h : Step L1 x L2) : Steps L1 [x] L2 := .cons h .nil
theorem places_steps {n : Nat} (hn : n ≠ 0) : ∀ (ps ps0 : List Pl), (ps0 ++ ps).length ≤ 4 → ((ps0 ++ ps).map (·.name)).Nodup → (∀ p ∈ ps, p.name ∈ pool ∧ 1 ≤ p.room ∧ p.room ≤ 9) → ((ps0 ++ ps).any fun p => p.inner) = true →
    Steps ⟨n, ps0, [], []⟩ (ps.map plL) ⟨n, ps0 ++ ps, [], []⟩
  | [], ps0, _, _, _, _ => by rw [List.append_nil]; exact .nil
  | p :: ps, ps0, h4, nd, ok, fl => by
    have e : ps0 ++ p :: ps = (ps0 ++ [p]) ++ ps := by simp
    obtain ⟨o1, o2, o3⟩ := ok p (by simp)
    have ih := places_steps hn ps (ps0 ++ [p]) (by rw [← e]; exact h4) (by rw [← e]; exact nd) (fun q hq => ok q (by simp [hq])) (by rw [← e]; exact fl)
    rw [e]
    rw [List.map_cons]
    have pl := pool_len _ o1
    have sl := si_len (n := p.room) (by omega)
    have l4 : ps0.length < 4 := by rw [List.length_append, List.length_cons] at h4; omega
    refine .cons (L1 := ⟨n, ps0 ++ [p], [], []⟩) ?_ ih
    refine Step.place (L := ⟨n, ps0, [], []⟩) (x := p.name) (r := si p.room) (n := p.room) (inner := p.inner) ?_ hn rfl rfl (by omega) (by omega) (pool_ok _ o1) ?_ (si_num (by omega)) ⟨o2, o3⟩ l4 (fun h3 => ?_)
    · rw [plL_join]
      refine split_bl _ _ fun q hq => ?_
      simp only [List.mem_cons, List.not_mem_nil, or_false] at hq
      rcases hq with rfl | rfl | rfl
      · cases p.inner
        · exact kinds_pure.2.2.1
        · exact kinds_pure.2.1
      · exact pool_pure _ o1
      · exact si_pure (by omega)
    · cases hh : hasP ⟨n, ps0, [], []⟩ p.name with
      | false => rfl
      | true =>
        have := hasP_mem.mp hh
        rw [List.map_append, List.nodup_append] at nd
        exact absurd rfl (nd.2.2 _ this p.name (by simp))
    · have h3' : ps0.length = 3 := h3
      have : ps = [] := by
        rw [List.length_append, List.length_cons] at h4
        exact List.eq_nil_of_length_eq_zero (by omega)
      rw [this, List.any_append, Bool.or_eq_true] at fl
      rcases fl with fl | fl
      · exact .inr fl
      · refine .inl ?_
        simpa using fl
theorem prices_steps {n : Nat} {P : List Pl} (hf : hasF ⟨n, P, [], []⟩ = true) (hn : n ≤ 14) : ∀ (qs q0 : List (Nat × Nat)), PrOk n (q0 ++ qs) → Steps ⟨n, P, q0, []⟩ (qs.map prL) ⟨n, P, q0 ++ qs, []⟩
  | [], q0, _ => by rw [List.append_nil]; exact .nil
  | q :: qs, q0, ok => by
    have e : q0 ++ q :: qs = (q0 ++ [q]) ++ qs := by simp
    have ih := prices_steps hf hn qs (q0 ++ [q]) (by rw [← e]; exact ok)
    obtain ⟨o1, o2⟩ := ok.ok q (by simp)
    have l3 := ok.l
    rw [List.length_append, List.length_cons] at l3
    have sl1 := si_len (n := q.1) (by omega)
    have sl2 := si_len (n := q.2) (by omega)
    rw [e, List.map_cons]
    refine .cons (L1 := ⟨n, P, q0 ++ [q], []⟩) ?_ ih
    refine Step.price (L := ⟨n, P, q0, []⟩) (x := si q.1) (y := si q.2) (a := q.1) (n := q.2) ?_ hf rfl (by show q0.length < 3; omega) (by omega) (by omega) (si_num (by omega)) (si_num (by omega)) (fun r hr => ?_) o1 o2
    · rw [prL_join]
      refine split_bl _ _ fun x hx => ?_
      simp only [List.mem_cons, List.not_mem_nil, or_false] at hx
      rcases hx with rfl | rfl | rfl
      · exact kinds_pure.2.2.2.1
      · exact si_pure (by omega)
      · exact si_pure (by omega)
    · have up := ok.up
      rw [List.pairwise_append] at up
      exact up.2.2 r (List.mem_of_getLast? hr) q (by simp)
theorem stays_steps {n : Nat} {P : List Pl} {Qs : List (Nat × Nat)} {ppl : List Str} (hf : hasF ⟨n, P, Qs, []⟩ = true) (hn : n ≤ 14) (pp : ∀ x ∈ ppl, x ∈ pool) (np : ∀ x ∈ P.map (·.name), x ∈ pool) : ∀ (ss s0 : List St), StOk n (P.map (·.name)) ppl (s0 ++ ss) → Steps ⟨n, P, Qs, s0⟩ (ss.map stL) ⟨n, P, Qs, s0 ++ ss⟩
  | [], s0, _ => by rw [List.append_nil]; exact .nil
  | s :: ss, s0, ok => by
    have e : s0 ++ s :: ss = (s0 ++ [s]) ++ ss := by simp
    have ih := stays_steps hf hn pp np ss (s0 ++ [s]) (by rw [← e]; exact ok)
    obtain ⟨o1, o2, o3, o4⟩ := ok.ok s (by simp)
    have l8 := ok.l
    rw [List.length_append, List.length_cons] at l8
    have sl1 := si_len (n := s.a) (by omega)
    have sl2 := si_len (n := s.b) (by omega)
    have w1 := pool_len _ (pp _ o3)
    have w2 := pool_len _ (np _ o4)
    rw [e, List.map_cons]
    refine .cons (L1 := ⟨n, P, Qs, s0 ++ [s]⟩) ?_ ih
    refine Step.stay (L := ⟨n, P, Qs, s0⟩) (x := s.who) (y := s.pl) (u := si s.a) (v := si s.b) (a := s.a) (b := s.b) ?_ hf (by show s0.length < 8; omega) (by omega) (by omega) (by omega) (by omega) (pool_ok _ (pp _ o3)) (hasP_mem.mpr o4) (si_num (by omega)) (si_num (by omega)) o1 o2 ?_
    · refine split_bl _ _ fun x hx => ?_
      simp only [List.mem_cons, List.not_mem_nil, or_false] at hx
      rcases hx with rfl | rfl | rfl | rfl | rfl
      · exact kinds_pure.2.2.2.2
      · exact pool_pure _ (pp _ o3)
      · exact pool_pure _ (np _ o4)
      · exact si_pure (by omega)
      · exact si_pure (by omega)
    · cases hh : letS ⟨n, P, Qs, s0⟩ s.pl s.a s.b with
      | false => rfl
      | true =>
        unfold letS at hh
        obtain ⟨t, ht, hb⟩ := List.any_eq_true.mp hh
        rw [Bool.and_eq_true, Bool.and_eq_true] at hb
        have ap := ok.ap
        rw [List.pairwise_append] at ap
        have := ap.2.2 t ht s (by simp) (of_decide_eq_true hb.1)
        have h1 := of_decide_eq_true hb.2.1
        have h2 := of_decide_eq_true hb.2.2
        omega
theorem Valid.steps {L : Lore} (v : Valid L) : Steps L0 (linesOf L) L := by
  obtain ⟨n, P, Qs, S⟩ := L
  obtain ⟨⟨d1, d14⟩, l4, nd, ok, fl, pr, ppl, hp, st⟩ := v
  have d1' : 1 ≤ n := d1
  have d14' : n ≤ 14 := d14
  unfold linesOf
  refine .cons (L1 := ⟨n, [], [], []⟩) ?_ (Steps.app (L2 := ⟨n, P, [], []⟩) (places_steps (by omega) P [] l4 nd ok fl) (Steps.app (L2 := ⟨n, P, Qs, []⟩) (prices_steps fl d14 Qs [] pr) (stays_steps fl d14 hp (fun x hx => ?_) S [] st)))
  · have sl := si_len (n := n) (by omega)
    refine Step.days (L := L0) (x := si n) (n := n) ?_ rfl (by omega) (si_num (by omega)) ⟨d1, d14⟩
    rw [dayL_join]
    refine split_bl _ _ fun q hq => ?_
    simp only [List.mem_cons, List.not_mem_nil, or_false] at hq
    rcases hq with rfl | rfl
    · exact kinds_pure.1
    · exact si_pure (by omega)
  · obtain ⟨p, hp', rfl⟩ := List.mem_map.mp hx
    exact (ok p hp').1
end Hs
namespace Hs
open PySem PySem.Spec PyProof.Rows L2 Am
theorem Valid.nl {L : Lore} (v : Valid L) : ∀ l ∈ linesOf L, 10 ∉ l.cps.toList := by
  have fit := v.fit
  have d := v.d
  intro l h
  unfold linesOf at h
  rcases List.mem_cons.mp h with rfl | h
  · rw [dayL_join]
    refine nl_join _ _ fun q hq => ?_
    simp only [List.mem_cons, List.not_mem_nil, or_false] at hq
    rcases hq with rfl | rfl
    · exact kinds_pure.1
    · exact si_pure (by omega)
  rcases List.mem_append.mp h with h | h
  · obtain ⟨p, hp, rfl⟩ := List.mem_map.mp h
    obtain ⟨o1, o2, o3⟩ := v.ok p hp
    rw [plL_join]
    refine nl_join _ _ fun q hq => ?_
    simp only [List.mem_cons, List.not_mem_nil, or_false] at hq
    rcases hq with rfl | rfl | rfl
    · cases p.inner
      · exact kinds_pure.2.2.1
      · exact kinds_pure.2.1
    · exact pool_pure _ o1
    · exact si_pure (by omega)
  rcases List.mem_append.mp h with h | h
  · obtain ⟨p, hp, rfl⟩ := List.mem_map.mp h
    obtain ⟨a, b⟩ := v.pr.ok p hp
    rw [prL_join]
    refine nl_join _ _ fun q hq => ?_
    simp only [List.mem_cons, List.not_mem_nil, or_false] at hq
    rcases hq with rfl | rfl | rfl
    · exact kinds_pure.2.2.2.1
    · exact si_pure (by omega)
    · exact si_pure (by omega)
  · obtain ⟨s, hs, rfl⟩ := List.mem_map.mp h
    obtain ⟨a, b, c, _, e⟩ := v.who hs
    refine nl_join _ _ fun q hq => ?_
    simp only [List.mem_cons, List.not_mem_nil, or_false] at hq
    rcases hq with rfl | rfl | rfl | rfl | rfl
    · exact kinds_pure.2.2.2.2
    · exact pool_pure _ c
    · exact pool_pure _ e
    · exact si_pure (by omega)
    · exact si_pure (by omega)
theorem Valid.split {L : Lore} (v : Valid L) : Txt.split (pageOf L) "\n" = linesOf L :=
  SL.split_join 10 _ _ v.nl (SL.kind_ge (by decide))
theorem Valid.many {L : Lore} (v : Valid L) : (linesOf L).length ≤ 16 := by
  obtain ⟨a, b, c⟩ := v.small
  unfold linesOf
  rw [List.length_cons, List.length_append, List.length_append, List.length_map, List.length_map, List.length_map]
  omega
theorem Valid.told {L : Lore} (v : Valid L) : Told (pageOf L) L := by
  refine ⟨by rw [v.split]; exact v.steps, v.fl, fun l hl => ?_, ?_, ?_⟩
  · rw [v.split] at hl
    exact Nat.le_trans (lines_len v.fit l hl) (by decide)
  · rw [v.split]
    exact Nat.le_trans v.many (by decide)
  · have h1 := lines_len v.fit
    have h2 := v.many
    unfold pageOf
    unfold linesOf at h1 h2 ⊢
    rw [SL.join_len]
    rw [List.length_cons] at h2
    have a1 := h1 _ (List.mem_cons_self)
    have a2 := sum_le (fun p : Str => ("\n" : Str).length + p.length) 41 (L.places.map plL ++ (L.prices.map prL ++ L.stays.map stL)) (fun x hx => by
      have := h1 x (List.mem_cons_of_mem _ hx)
      exact Nat.le_trans (Nat.add_le_add (show ("\n" : Str).length ≤ 1 by decide) this) (by decide))
    have a3 : (L.places.map plL ++ (L.prices.map prL ++ L.stays.map stL)).length * 41 ≤ 16 * 41 := Nat.mul_le_mul_right _ (by omega)
    omega
theorem Valid.revP {L : Lore} (v : Valid L) : Valid { L with places := L.places.reverse } := by
  obtain ⟨d, l4, nd, ok, fl, pr, ppl, hp, st⟩ := v
  refine ⟨d, by rw [List.length_reverse]; exact l4, by show (L.places.reverse.map (·.name)).Nodup; rw [List.map_reverse]; exact (List.reverse_perm _).nodup_iff.mpr nd, fun p h => ok p (List.mem_reverse.mp h), ?_, pr, ppl, hp, st.l, fun s hs => ?_, st.ap⟩
  · unfold hasF
    rw [List.any_reverse]
    exact fl
  · obtain ⟨a, b, c, e⟩ := st.ok s hs
    exact ⟨a, b, c, by show s.pl ∈ L.places.reverse.map (·.name); rw [List.map_reverse]; exact List.mem_reverse.mpr e⟩
theorem Valid.tailS {L : Lore} (v : Valid L) : Valid { L with stays := L.stays.drop 1 } := by
  obtain ⟨d, l4, nd, ok, fl, pr, ppl, hp, st⟩ := v
  refine ⟨d, l4, nd, ok, fl, pr, ppl, hp, by rw [List.length_drop]; have := st.l; omega, fun s hs => st.ok s (List.mem_of_mem_drop hs), st.ap.sublist (List.drop_sublist 1 _)⟩
theorem Valid.revS {L : Lore} (v : Valid L) : Valid { L with stays := L.stays.reverse } := by
  obtain ⟨d, l4, nd, ok, fl, pr, ppl, hp, st⟩ := v
  exact ⟨d, l4, nd, ok, fl, pr, ppl, hp, st.rev⟩
theorem Valid.initP {L : Lore} (v : Valid L) : Valid { L with prices := L.prices.dropLast } := by
  obtain ⟨d, l4, nd, ok, fl, pr, ppl, hp, st⟩ := v
  exact ⟨d, l4, nd, ok, fl, ⟨by rw [List.length_dropLast]; have := pr.l; omega, pr.up.sublist (List.dropLast_sublist _), fun x hx => pr.ok x ((List.dropLast_sublist _).mem hx)⟩, ppl, hp, st⟩
end Hs
/-! the law: a drawn house -/
namespace Hs
open PySem PySem.Spec PyProof.Rows L2 Am
def spWide : Sp := fun vs H Q _ => ∃ (p : Addr) (N : Int), vs = [.ref p] ∧ JarAt H p N ∧ N ≤ 8000 ∧
  ∀ (H' : Hp) (d : Addr) (L : Lore), Chg p H H' → H d = none → JarAt H' p (N + 120) → LoreAt H' d L → Valid L → Q (.ref d) H'
def kv2 (n : Nat) (lp : Addr) : List (Key × V) := [(.inr ("days" : Str), .int n), (.inr ("places" : Str), .ref lp)]
theorem merge2 (n : Nat) (lp : Addr) : mergeK [] (kv2 n lp) = kv2 n lp := by
  show putK (putK [] (.inr ("days" : Str) : Key) (.int n)) (.inr ("places" : Str) : Key) (.ref lp) = _
  rw [putK_new (kvs := []) (fun kv h => absurd h List.not_mem_nil), putK_new]
  · rfl
  · intro kv h
    simp at h
    rw [h]
    show ¬ (Sum.inr ("days" : Str) : Key) = Sum.inr ("places" : Str)
    decide +kernel
def kv3 (n : Nat) (lp ls : Addr) : List (Key × V) := [(.inr ("days" : Str), .int n), (.inr ("places" : Str), .ref lp), (.inr ("stays" : Str), .ref ls)]
theorem put3 (n : Nat) (lp ls : Addr) : putK (kv2 n lp) (.inr ("stays" : Str) : Key) (.ref ls) = kv3 n lp ls := by
  rw [putK_new]
  · rfl
  · intro kv h
    unfold kv2 at h
    simp only [List.mem_cons, List.not_mem_nil, or_false] at h
    rcases h with rfl | rfl
    · show ¬ (Sum.inr ("days" : Str) : Key) = Sum.inr ("stays" : Str); decide +kernel
    · show ¬ (Sum.inr ("places" : Str) : Key) = Sum.inr ("stays" : Str); decide +kernel
theorem put4 (n : Nat) (lp ls lt : Addr) : putK (kv3 n lp ls) (.inr ("prices" : Str) : Key) (.ref lt) = lkv n lp ls lt := by
  rw [putK_new]
  · rfl
  · intro kv h
    unfold kv3 at h
    simp only [List.mem_cons, List.not_mem_nil, or_false] at h
    rcases h with rfl | rfl | rfl
    · show ¬ (Sum.inr ("days" : Str) : Key) = Sum.inr ("prices" : Str); decide +kernel
    · show ¬ (Sum.inr ("places" : Str) : Key) = Sum.inr ("prices" : Str); decide +kernel
    · show ¬ (Sum.inr ("stays" : Str) : Key) = Sum.inr ("prices" : Str); decide +kernel
section
variable {P : Program} {w : World} {K : PySem.W.Frag} {mg : Str → Option Value} {base : Heap}
theorem scWide : FnScope ["_law_jar_here", "_law_lore", "_law_names", "_law_metered", "_law_at", "_law_name"] ["_law_jar_here"] (defScope sL_wide) := ⟨rfl, rfl, rfl, by decide +kernel, rfl, by decide +kernel, by decide +kernel⟩
theorem ok_wide {f : Addr} {fd : FuncData} (F : Fun K "_law_wide" "_law_wide" sL_wide f fd) (T : Nm mg) (ne : mg "enumerate" = none) (GT : GotF P w K mg base "_law_take" 1 ["_law_jar_here", "_law_upto"] Am.spTake) (GO : GotF P w K mg base "_law_of" 2 ["_law_jar_here", "_law_some"] spOf) (GN : GotF P w K mg base "_law_titles" 2 ["_law_jar_here", "_law_many"] spTitles)
    (GS : GotF P w K mg base "_law_stays" 3 ["_law_jar_here", "_law_days", "_law_places"] spStays) (GP : GotF P w K mg base "_law_prices" 3 ["_law_jar_here", "_law_days"] spLPrices) : FnOk P w K mg base CX0 4 f fd ["_law_jar_here"] spWide := by
  obtain ⟨fT, fdT, GT, bT, mT, kT⟩ := GT
  obtain ⟨fO, fdO, GO, bO, mO, kO⟩ := GO
  obtain ⟨fN, fdN, GN, bN, mN, kN⟩ := GN
  obtain ⟨fS, fdS, GS, bS, mS, kS⟩ := GS
  obtain ⟨fP, fdP, GP, bP, mP, kP⟩ := GP
  refine F.ok scWide (fun vs H Q E h => ?_) (fun cdv A outer s H vs Q E hr h => ?_)
  · obtain ⟨p, N, rfl, _⟩ := h
    rfl
  · obtain ⟨p, N, rfl, hj, hN, q⟩ := h
    have hr2 : Room 2 _ := hr.mono (by decide)
    have hr1 : Room 1 _ := hr.mono (by decide)
    have hu := hu_of hr
    refine ⟨_, pss_cons (ps_set (i := 1) scWide.nd rfl (.inl rfl) (pe_disp (pps_cons pe_str (pe_call GO hr2 (by rfl) mO kO bO .nil pass0 (pa_cons (pv 0) (pa_cons (pe_lst (pa_cons pe_int (pa_cons pe_int (pa_cons pe_int (pa_cons (pe_op op_add pe_int (pe_call GT hr1 (by rfl) mT kT bT .nil pass0 (pa_cons (pv 0) (pa_cons pe_int pa_nil)))) pa_nil))))) pa_nil))) (pps_cons pe_str (pe_lst pa_nil) pps_nil)) rfl rfl (by intro z; cases z) (by decide)))
      (pss_cons (ps_set (i := 2) scWide.nd rfl (.inl rfl) (pe_call GN hr2 (by rfl) mN kN bN .nil pass0 (pa_cons (pv 0) (pa_cons (pe_op op_add pe_int (pe_call GT hr1 (by rfl) mT kT bT .nil pass0 (pa_cons (pv 0) (pa_cons pe_int pa_nil)))) pa_nil))))
      (pss_cons (ps_set (i := 3) scWide.nd rfl (.inl rfl) (pe_call GT hr1 (by rfl) mT kT bT .nil pass0 (pa_cons (pv 0) (pa_cons (pe_callB call_len_seq (by rfl) T.len PySem.boot_len (pa_cons (pv 2) pa_nil)) pa_nil))))
      (pss_cons (ps_for (g := gTup K 2 (gCons (gName 4) (gCons (gName 5) gNil))) PassesOwn.never rfl (pi_enum (by rfl) ne (pa_cons (pv 2) pa_nil))
        (pg_tup rfl (pgs_cons (pg_name (i := 4) scWide.nd rfl (.inl rfl)) (pgs_cons (pg_name (i := 5) scWide.nd rfl (.inl rfl)) pgs_nil)))
        (pss_one (ps_expr (pe_bm PySem.F.plainAttrs_list PySem.F.slot_list_append PySem.F.type_list_append mt_append (pe_dget hu (pv 1) pe_str (fun _ _ => rfl))
          (pa_cons (pe_tup (pa_cons (pv 5) (pa_cons (pe_op op_add pe_int (pe_call GT hr1 (by rfl) mT kT bT .nil pass0 (pa_cons (pv 0) (pa_cons pe_int pa_nil)))) (pa_cons (pe_or (pe_cmpR op_eq (pv 4) (pv 3) (nomark _)) (pe_one (pe_cmpR op_eq (pe_call GT hr1 (by rfl) mT kT bT .nil pass0 (pa_cons (pv 0) (pa_cons pe_int pa_nil))) pe_int (nomark _)))) pa_nil)))) pa_nil)))))
      (pss_cons (ps_dput hu (pv 1) pe_str (pe_call GS hr (by rfl) mS kS bS .nil pass0 (pa_cons (pv 0) (pa_cons (pe_dget hu (pv 1) pe_str (fun _ _ => rfl)) (pa_cons (pe_dget hu (pv 1) pe_str (fun _ _ => rfl)) pa_nil)))) rfl)
      (pss_cons (ps_dput hu (pv 1) pe_str (pe_call GP hr (by rfl) mP kP bP .nil pass0 (pa_cons (pv 0) (pa_cons (pe_dget hu (pv 1) pe_str (fun _ _ => rfl)) pa_nil))) rfl)
      (pss_one (ps_ret (pv 1)))))))), ?_⟩
    intro dd ndd
    have e0 := same_upd (o := .dK []) ndd
    obtain ⟨_, _, _, hp, _⟩ := id hj
    have nddp : dd ≠ p := fun z => by rw [z, hp] at ndd; cases ndd
    refine ⟨_, rfl, _, rfl, p, 14, N, rfl, ⟨by decide, by decide⟩, hj.same e0, by omega, fun d1 H1 hd1 c1 j1 => ⟨_, _, rfl, rfl, (show 4 ≤ sizeLine by decide), fun q1 nq1 => ?_⟩⟩
    have e1 := same_upd (o := .lst [V.int 1, .int 2, .int 14, .int (1 + d1)]) nq1
    obtain ⟨_, _, _, hp1, _⟩ := id j1
    have nq1p : q1 ≠ p := fun z => by rw [z, hp1] at nq1; cases nq1
    refine ⟨p, q1, _, N + 1, rfl, upd_same, nq1p, ⟨show 0 < 4 by decide, show 4 ≤ 1000 by decide⟩, j1.same e1, by omega, fun v H3 hv c3 j3 => ?_⟩
    obtain ⟨n, rfl, n1, n14⟩ : ∃ k : Nat, v = .int k ∧ 1 ≤ k ∧ k ≤ 14 := by
      simp only [List.mem_cons, List.not_mem_nil, or_false] at hv
      rcases hv with rfl | rfl | rfl | rfl
      · exact ⟨1, rfl, by decide⟩
      · exact ⟨2, rfl, by decide⟩
      · exact ⟨14, rfl, by decide⟩
      · exact ⟨(1 + d1).toNat, by congr 1; omega, by omega, by omega⟩
    have c03 : Chg p (upd H dd (.dK [])) H3 := (c1.trans (Chg.of e1)).trans c3
    have hdd3 := c03 _ _ upd_same nddp
    refine ⟨by decide, fun lp nlp => ?_⟩
    have e4 := same_upd (o := .lst []) nlp
    refine ⟨e4 _ _ hdd3, kv2 n lp, rfl, show 2 ≤ 15 by decide, ?_⟩
    rw [merge2]
    have nlpdd : lp ≠ dd := fun z => by rw [z, hdd3] at nlp; cases nlp
    obtain ⟨_, _, _, hp3, _⟩ := id j3
    have nlpp : lp ≠ p := fun z => by rw [z, hp3] at nlp; cases nlp
    have nlpH : H lp = none := by
      cases e : H lp with
      | none => rfl
      | some u => rw [c03 _ _ (e0 _ _ e) nlpp] at nlp; cases nlp
    have c05 : ∀ b u, H b = some u → b ≠ p → (upd (upd H3 lp (.lst [])) dd (.dK (kv2 n lp))) b = some u := fun b u e nb => by
      rw [upd_ne (ne_of_none e ndd)]
      exact e4 _ _ (c03 _ _ (e0 _ _ e) nb)
    have hd5 : (upd (upd H3 lp (.lst [])) dd (.dK (kv2 n lp))) dd = some (.dK (kv2 n lp)) := upd_same
    have hl5 : LstAt plO (upd (upd H3 lp (.lst [])) dd (.dK (kv2 n lp))) lp [] := LstAt.nil (by rw [upd_ne nlpdd]; exact upd_same)
    have j5 : JarAt (upd (upd H3 lp (.lst [])) dd (.dK (kv2 n lp))) p (N + 1 + 1) := by
      obtain ⟨o, mm, c, hpp, r⟩ := j3
      refine ⟨o, mm, c, ?_, r⟩
      rw [upd_ne nddp.symm]
      exact e4 _ _ hpp
    generalize upd (upd H3 lp (.lst [])) dd (.dK (kv2 n lp)) = H5 at *
    clear c03 hdd3 e4 nlp hp3 j3 c3 hv hp1 nq1p e1 nq1 j1 c1 hd1 e0
    refine ⟨_, rfl, _, rfl, p, 4, _, rfl, ⟨by decide, by decide⟩, j5, by omega, fun d6 H6 hd6 c6 j6 => ⟨_, _, rfl, rfl, ?_⟩⟩
    obtain ⟨m, hm, m1, m4⟩ : ∃ m : Nat, (1 : Int) + d6 = m ∧ 1 ≤ m ∧ m ≤ 4 := ⟨(1 + d6).toNat, by omega, by omega, by omega⟩
    have hm' : V.int (1 + d6) = V.int (m : Int) := by rw [hm]
    refine ⟨p, m, N + 3, by show [V.ref p, V.int (1 + d6)] = [V.ref p, V.int (m : Int)]; rw [hm], m4, j6.mono (by omega), by omega, fun H7 ln ws hws wnd wsub c7 nln j7 hln => ?_⟩
    have nlnp : ln ≠ p := fun z => by
      obtain ⟨_, _, _, hp6, _⟩ := id j6
      rw [z, hp6] at nln
      cases nln
    have nlnlp : ln ≠ lp := fun z => by
      obtain ⟨_, a, _⟩ := hl5.jar j5 nlpp c6 plO_nl
      rw [z, a] at nln
      cases nln
    have hd7 := c7 _ _ (c6 _ _ hd5 nddp) nddp
    have hl7 := (hl5.jar j5 nlpp c6 plO_nl).jar j6 nlpp c7 plO_nl
    have c07 : ∀ b u, H b = some u → b ≠ p → H7 b = some u := fun b u e nb => c7 _ _ (c6 _ _ (c05 _ _ e nb) nb) nb
    have nlnH : H ln = none := by
      cases e : H ln with
      | none => rfl
      | some u => rw [c6 _ _ (c05 _ _ e nlnp) nlnp] at nln; cases nln
    refine ⟨_, rfl, _, rfl, ln, _, rfl, .inl (SqL.of hln), ?_⟩
    rw [List.length_map, hws]
    refine ⟨p, (m : Int), _, rfl, ⟨by omega, by omega⟩, j7, by omega, fun me H8 hme c8 j8 => ?_⟩
    have hd8 := c8 _ _ hd7 nddp
    have hl8 := hl7.jar j7 nlpp c8 plO_nl
    have hln8 := c8 _ _ hln nlnp
    have c08 : ∀ b u, H b = some u → b ≠ p → H8 b = some u := fun b u e nb => c8 _ _ (c07 _ _ e nb) nb
    refine ⟨_, rfl, ln, _, rfl, SqL.of hln8, ?_⟩
    refine for_it (walk_enum (xs := ws.map V.str)) (fun i σ H' => ∃ (pls : List Pl) (s4 s5 : Option V), σ = [some (.ref p), some (.ref dd), some (.ref ln), some (.int me), s4, s5] ∧ (∀ b u, H b = some u → b ≠ p → H' b = some u) ∧
      JarAt H' p (N + 8 + 2 * i) ∧ H' dd = some (.dK (kv2 n lp)) ∧ LstAt plO H' lp pls ∧ H' ln = some (.lst (ws.map V.str)) ∧ pls.map (·.name) = ws.take i ∧ (∀ x ∈ pls, 1 ≤ x.room ∧ x.room ≤ 9) ∧ (me < i → (pls.any fun x => x.inner) = true)) ?_ ?_ ?_ ?_
    · exact ⟨[], _, _, rfl, c08, j8.mono (by omega), hd8, hl8, hln8, rfl, fun x hx => absurd hx List.not_mem_nil, fun z => by omega⟩
    · rintro i σ H' _ ⟨_, _, _, _, _, _, _, _, h, _⟩
      exact SqL.of h
    · rintro i v σ H9 H10 hi ⟨pls, s4, s5, rfl, c9, j9, hd9, hl9, hln9, hnm, hrm, hme9⟩ ⟨T1, v1, v2, rfl, nT, rfl, hv1, hv2⟩
      have hi' : i < ws.length := by simpa using hi
      have i4 : i < 4 := by omega
      obtain rfl : V.int (i : Int) = v1 := Option.some.inj hv1
      obtain rfl : v2 = .str ws[i] := by
        replace hv2 : (ws.map V.str)[i]? = some v2 := hv2
        rw [List.getElem?_map, List.getElem?_eq_getElem hi'] at hv2
        exact (Option.some.inj hv2).symm
      have e10 := same_upd (o := .tup [V.int (i : Int), .str ws[i]]) nT
      have hl10 := hl9.same e10
      have j10 := j9.same e10
      refine ⟨T1, _, rfl, SqT.of upd_same, rfl, _, _, rfl, _, _, rfl, rfl, ?_⟩
      obtain ⟨rs10, hlp10, hrs10⟩ := id hl10
      refine ⟨_, rfl, dd, _, rfl, .inl ⟨_, .inr "places", .inl (e10 _ _ hd9), rfl, rfl⟩, .inl ⟨rfl, _, SqL.of hlp10⟩, _, rfl, ?_⟩
      refine ⟨_, rfl, p, 9, _, rfl, ⟨by decide, by decide⟩, j10, by omega, fun d11 H11 hd11 c11 j11 => ⟨_, _, rfl, rfl, ?_⟩⟩
      obtain ⟨rm, hrm0, rm1, rm9⟩ : ∃ m : Nat, (1 : Int) + d11 = m ∧ 1 ≤ m ∧ m ≤ 9 := ⟨(1 + d11).toNat, by omega, by omega, by omega⟩
      simp only [hrm0]
      have hl11 := hl10.jar j10 nlpp c11 plO_nl
      have hd11' := c11 _ _ (e10 _ _ hd9) nddp
      have hln11 := c11 _ _ (e10 _ _ hln9) nlnp
      have c011 : ∀ b u, H b = some u → b ≠ p → H11 b = some u := fun b u e nb => c11 _ _ (e10 _ _ (c9 _ _ e nb)) nb
      have fin : ∀ (G : Hp) (inn : Bool), (∀ b u, H b = some u → b ≠ p → G b = some u) → JarAt G p (N + 8 + 2 * i + 1 + 1) → G dd = some (.dK (kv2 n lp)) → LstAt plO G lp pls → G ln = some (.lst (ws.map V.str)) → (((i : Int) = me) → inn = true) →
          ∀ D, G D = none → ∃ l xs y, V.ref lp = V.ref l ∧ [V.ref D] = [y] ∧ (upd G D (plO ⟨ws[i], rm, inn⟩)) l = some (.lst xs) ∧ xs.length < sizeLine ∧ ∃ (pls : List Pl) (s4 s5 : Option V), [some (V.ref p), some (.ref dd), some (.ref ln), some (.int me), some (.int i), some (.str ws[i])] = [some (.ref p), some (.ref dd), some (.ref ln), some (.int me), s4, s5] ∧ (∀ b u, H b = some u → b ≠ p → (upd (upd G D (plO ⟨ws[i], rm, inn⟩)) l (.lst (xs ++ [y]))) b = some u) ∧
      JarAt (upd (upd G D (plO ⟨ws[i], rm, inn⟩)) l (.lst (xs ++ [y]))) p (N + 8 + 2 * ((i + 1 : Nat) : Int)) ∧ (upd (upd G D (plO ⟨ws[i], rm, inn⟩)) l (.lst (xs ++ [y]))) dd = some (.dK (kv2 n lp)) ∧ LstAt plO (upd (upd G D (plO ⟨ws[i], rm, inn⟩)) l (.lst (xs ++ [y]))) lp pls ∧ (upd (upd G D (plO ⟨ws[i], rm, inn⟩)) l (.lst (xs ++ [y]))) ln = some (.lst (ws.map V.str)) ∧ pls.map (·.name) = ws.take (i + 1) ∧ (∀ x ∈ pls, 1 ≤ x.room ∧ x.room ≤ 9) ∧ (me < ((i + 1 : Nat) : Int) → (pls.any fun x => x.inner) = true) := by
        intro G inn k1 k2 k3 k4 k5 k6 D nD
        obtain ⟨rsG, hlG, hrsG⟩ := k4
        obtain ⟨g1, g2⟩ := LstAt.grow (x := (⟨ws[i], rm, inn⟩ : Pl)) hlG hrsG nD plO_nl
        refine ⟨lp, rsG.map V.ref, _, rfl, rfl, (upd_ne (ne_of_none hlG nD)).trans hlG, ?_, pls ++ [⟨ws[i], rm, inn⟩], _, _, rfl, fun b u e nb => g2 _ _ (k1 _ _ e nb) (by simpa using ne_of_none e nlpH), ?_, g2 _ _ k3 (by simpa using nlpdd.symm), g1, g2 _ _ k5 ?_, ?_, ?_, ?_⟩
        · rw [List.length_map, hrsG.1, ← List.length_map (f := fun x : Pl => x.name), hnm, List.length_take]
          exact Nat.lt_of_le_of_lt (show _ ≤ 4 by omega) (by decide)
        · obtain ⟨o, mm, cc, hpp, r⟩ := k2.mono (M := N + 8 + 2 * ((i + 1 : Nat) : Int)) (by omega)
          exact ⟨o, mm, cc, g2 _ _ hpp (by simpa using nlpp.symm), r⟩
        · simpa using nlnlp
        · rw [List.map_append, hnm, List.take_add_one, List.getElem?_eq_getElem hi']
          rfl
        · intro x hx
          rcases List.mem_append.mp hx with hx | hx
          · exact hrm x hx
          · rw [List.mem_singleton.mp hx]
            exact ⟨rm1, rm9⟩
        · intro z
          rw [List.any_append, Bool.or_eq_true]
          by_cases zz : me < i
          · exact .inl (hme9 zz)
          · refine .inr ?_
            have : inn = true := k6 (by omega)
            simp [this]
      refine ⟨_, rfl, _, rfl, rfl, _, rfl, ?_⟩
      rw [int_eq]
      cases cc : decide ((i : Int) = me) with
      | true => exact iteT ⟨(show 3 ≤ sizeLine by decide), fin H11 true c011 (j11.mono (by omega)) hd11' hl11 hln11 (fun _ => rfl)⟩
      | false =>
        refine iteF ⟨_, rfl, p, 2, _, rfl, ⟨by decide, by decide⟩, j11, by omega, fun d12 H12 hd12 c12 j12 => ⟨rfl, (show 3 ≤ sizeLine by decide), ?_⟩⟩
        exact fin H12 _ (fun b u e nb => c12 _ _ (c011 _ _ e nb) nb) j12 (c12 _ _ hd11' nddp) (hl11.jar j11 nlpp c12 plO_nl) (c12 _ _ hln11 nlnp) (fun z => absurd z (of_decide_eq_false cc))
    · rintro σ H9 ⟨pls, s4, s5, rfl, c9, j9, hd9, hl9, hln9, hnm, hrm, hme9⟩
      have ewl : (ws.map V.str).length = m := by rw [List.length_map, hws]
      rw [ewl] at j9 hnm hme9
      rw [show ws.take m = ws from by rw [← hws]; exact List.take_length] at hnm
      have pl4 : pls.length ≤ 4 := by rw [← List.length_map (f := fun x : Pl => x.name), hnm, hws]; exact m4
      refine ⟨_, rfl, _, rfl, dd, _, rfl, .inl ⟨_, .inr "days", .inl hd9, rfl, rfl⟩, _, rfl, dd, _, rfl, .inl ⟨_, .inr "places", .inl hd9, rfl, rfl⟩, ?_⟩
      refine ⟨p, lp, n, _, pls, rfl, ⟨n1, n14⟩, j9, by omega, hl9, nlpp, pl4, by rw [hnm]; exact wnd, fun H10 ls ppl ss c10 nls j10 hls psub sok => ?_⟩
      have hd10 := c10 _ _ hd9 nddp
      have hl10 := hl9.jar j9 nlpp c10 plO_nl
      have nlsdd : dd ≠ ls := fun z => by rw [← z, hd9] at nls; cases nls
      have nlsp : ls ≠ p := fun z => by
        obtain ⟨_, _, _, hp9, _⟩ := id j9
        rw [z, hp9] at nls
        cases nls
      refine ⟨_, rfl, dd, _, rfl, .inl ⟨_, .inr "stays", hd10, rfl, show 2 < sizeLine by decide, rfl⟩, ?_⟩
      rw [put3]
      have frd : Fr [dd] H10 (upd H10 dd (.dK (kv3 n lp ls))) := Fr.upd (by simp)
      have nodk : ∀ {α : Type} {f : α → HO} {G : Hp} {kvs : List (Key × V)} (hf : ∀ x kvs, f x ≠ .dK kvs) (hg : G dd = some (.dK kvs)) (r : Addr) (x : α), G r = some (f x) → r ∉ [dd] := by
        intro α f G kvs hf hg r x e z
        rw [List.mem_singleton.mp z, hg] at e
        exact hf _ _ (Option.some.inj e).symm
      have nlpdd' : lp ∉ [dd] := by simpa using nlpdd
      have hl11 := hl10.keep frd nlpdd' (nodk (fun x _ z => by unfold plO at z; cases z) hd10)
      have hs11 := hls.keep frd (by simpa using nlsdd.symm) (nodk (fun x _ z => by unfold stO at z; cases z) hd10)
      have hd11 : (upd H10 dd (.dK (kv3 n lp ls))) dd = some (.dK (kv3 n lp ls)) := upd_same
      have c11 : ∀ b u, H b = some u → b ≠ p → (upd H10 dd (.dK (kv3 n lp ls))) b = some u := fun b u e nb => frd _ _ (c10 _ _ (c9 _ _ e nb) nb) (by simpa using ne_of_none e ndd)
      have j11 : JarAt (upd H10 dd (.dK (kv3 n lp ls))) p (N + 8 + 2 * (m : Int) + 60) := by
        obtain ⟨o, mm, c, hpp, r⟩ := j10
        exact ⟨o, mm, c, frd _ _ hpp (by simpa using nddp.symm), r⟩
      generalize upd H10 dd (.dK (kv3 n lp ls)) = H11 at *
      refine ⟨_, rfl, _, rfl, dd, _, rfl, .inl ⟨_, .inr "days", .inl hd11, rfl, rfl⟩, p, n, _, rfl, n14, j11, by omega, fun H12 lt qs c12 nlt j12 hlt qok => ?_⟩
      have hd12 := c12 _ _ hd11 nddp
      have hl12 := hl11.jar j11 nlpp c12 plO_nl
      have hs12 := hs11.jar j11 nlsp c12 stO_nl
      have nltdd : dd ≠ lt := fun z => by rw [← z, hd11] at nlt; cases nlt
      refine ⟨_, rfl, dd, _, rfl, .inl ⟨_, .inr "prices", hd12, rfl, show 3 < sizeLine by decide, rfl⟩, ?_⟩
      rw [put4]
      have frd2 : Fr [dd] H12 (upd H12 dd (.dK (lkv n lp ls lt))) := Fr.upd (by simp)
      refine ⟨_, rfl, q _ dd ⟨n, pls, qs, ss⟩ (fun b u e nb => frd2 _ _ (c12 _ _ (c11 _ _ e nb) nb) (by simpa using ne_of_none e ndd)) ndd ?_ ⟨lp, ls, lt, upd_same, hl12.keep frd2 nlpdd' (nodk (fun x _ z => by unfold plO at z; cases z) hd12), hs12.keep frd2 (by simpa using nlsdd.symm) (nodk (fun x _ z => by unfold stO at z; cases z) hd12), hlt.keep frd2 (by simpa using nltdd.symm) (nodk (fun x _ z => by unfold prO at z; cases z) hd12)⟩ ?_⟩
      · obtain ⟨o, mm, c, hpp, r⟩ := j12.mono (M := N + 120) (by omega)
        exact ⟨o, mm, c, frd2 _ _ hpp (by simpa using nddp.symm), r⟩
      · exact ⟨⟨n1, n14⟩, pl4, by show (pls.map (·.name)).Nodup; rw [hnm]; exact wnd, fun x hx => ⟨wsub _ (by rw [← hnm]; exact List.mem_map_of_mem hx), hrm x hx⟩, hme9 (by omega), qok, ppl, psub, sok⟩
end
end Hs
/-! the law: who lives where, what a unit costs, told right -/
namespace Hs
open PySem PySem.Spec PyProof.Rows L2 Am Rv
def spWho : Sp := fun vs H Q _ => ∃ (d : Addr) (L : Lore) (z : Str) (k : Nat), vs = [.ref d, .str z, .int k] ∧ LoreAt H d L ∧ Q (.str (tenD L.stays z k)) H
def spLPr : Sp := fun vs H Q _ => ∃ (d : Addr) (L : Lore) (k : Nat), vs = [.ref d, .int k] ∧ LoreAt H d L ∧ Q (.int (priD L.prices k)) H
def spTold (CH : Addr) : Sp := fun vs H Q _ => ∃ (h d : Addr) (x : Str) (L : Lore), vs = [.ref h, .ref d] ∧ HouseAt CH H h x L ∧ LoreAt H d L ∧ Valid L ∧ ∀ H', Same H H' → Q (.bl true) H'
theorem pool_rep : ∀ z ∈ ("house" : Str) :: pool, (reprText z).length ≤ 40 := by decide +kernel
theorem ten_in {L : Lore} (va : Valid L) (z : Str) (k : Nat) : tenD L.stays z k ∈ ("house" : Str) :: pool := by
  have key : ∀ (ss : List St) (acc : Str), (∀ s ∈ ss, s.who ∈ pool) → acc ∈ ("house" : Str) :: pool → ss.foldl (fun acc s => if s.pl = z ∧ (s.a ≤ k ∧ k < s.b) then s.who else acc) acc ∈ ("house" : Str) :: pool := by
    intro ss
    induction ss with
    | nil => intro acc _ h; exact h
    | cons s ss ih =>
      intro acc h0 h
      rw [List.foldl_cons]
      refine ih _ (fun s hs => h0 s (List.mem_cons_of_mem _ hs)) ?_
      split
      · exact List.mem_cons_of_mem _ (h0 s List.mem_cons_self)
      · exact h
  exact key _ _ (fun s hs => (va.who hs).2.2.1) List.mem_cons_self
theorem pri_le {L : Lore} (va : Valid L) (k : Nat) : priD L.prices k ≤ 99 := by
  have key : ∀ (ss : List (Nat × Nat)) (acc : Nat), (∀ s ∈ ss, s.2 ≤ 99) → acc ≤ 99 → ss.foldl (fun acc p => if p.1 ≤ k then p.2 else acc) acc ≤ 99 := by
    intro ss
    induction ss with
    | nil => intro acc _ h; exact h
    | cons s ss ih =>
      intro acc h0 h
      rw [List.foldl_cons]
      refine ih _ (fun s hs => h0 s (List.mem_cons_of_mem _ hs)) ?_
      split
      · exact h0 s List.mem_cons_self
      · exact h
  exact key _ _ (fun s hs => (va.pr.ok s hs).2) (by decide)
theorem lg99 {n : Nat} (h : n ≤ 99) : (n : Int).natAbs.log2 < 1920 := by
  have : ∀ k : Fin 100, (k.val : Int).natAbs.log2 < 1920 := by decide +kernel
  exact this ⟨n, by omega⟩
theorem pl_at {L : Lore} {i : Nat} (hi : i < L.places.length) : isPl L (.str L.places[i].name) = true := decide_eq_true (List.mem_map.mpr ⟨_, List.getElem_mem hi, rfl⟩)
theorem dy_at {L : Lore} {k : Nat} (hk : k < L.days) : isDy L (.int k) = true := by
  show (decide ((0 : Int) ≤ (k : Int)) && decide ((k : Int) < (L.days : Int))) = true
  rw [decide_eq_true (by omega), decide_eq_true (by omega)]
  rfl
section
variable {P : Program} {w : World} {K : PySem.W.Frag} {mg : Str → Option Value} {base : Heap} {CH DF DB p : Addr}
theorem scWho : FnScope ["_law_lore", "_law_place", "_law_day", "_law_found", "_law_person", "_law_name", "_law_first", "_law_behind"] ["_law_lore", "_law_place", "_law_day"] (defScope sL_who) := ⟨rfl, rfl, rfl, by decide +kernel, rfl, by decide +kernel, by decide +kernel⟩
theorem ok_who {f : Addr} {fd : FuncData} (F : Fun K "_law_who" "_law_who" sL_who f fd) : FnOk P w K mg base CX0 1 f fd ["_law_lore", "_law_place", "_law_day"] spWho := by
  refine F.ok scWho (fun vs H Q E h => ?_) (fun cdv A outer s H vs Q E hr h => ?_)
  · obtain ⟨d, L, z, k, rfl, _⟩ := h
    rfl
  · obtain ⟨d, L, z, k, rfl, hL, q⟩ := h
    have hu := hu_of hr
    refine ⟨_, (pss_cons (ps_set (i := 3) scWho.nd rfl (.inl rfl) pe_str)
      (pss_cons (ps_for (g := (gTup K 4 (gCons (gName 4) (gCons (gName 5) (gCons (gName 6) (gCons (gName 7) gNil)))))) PassesOwn.never rfl (pi_list (pe_dget hu (pv 0) pe_str (fun _ _ => rfl))) (pg_tup rfl (pgs_cons (pg_name (i := 4) scWho.nd rfl (.inl rfl)) (pgs_cons (pg_name (i := 5) scWho.nd rfl (.inl rfl)) (pgs_cons (pg_name (i := 6) scWho.nd rfl (.inl rfl)) (pgs_cons (pg_name (i := 7) scWho.nd rfl (.inl rfl)) pgs_nil))))) (pss_one (ps_if (PW.pt (pw_and (pt_cmpR op_eq (pv 5) (pv 1) (nomark _)) (pw_and1 (pt_chain op_le op_lt (pv 6) (pv 2) (pv 7))))) (pss_one (ps_set (i := 3) scWho.nd rfl (.inl rfl) (pv 4))) pss_nil)))
      (pss_one (ps_ret (pv 3))))), ?_⟩
    obtain ⟨lp, ls, lt, hd, _, ⟨rs, hrs, hr⟩, _⟩ := hL
    refine ⟨_, rfl, d, _, rfl, .inl ⟨_, .inr "stays", .inl hd, rfl, rfl⟩, ls, rfl, ⟨_, SqL.of hrs⟩, ?_⟩
    refine for_it (walk_list (xs := rs.map V.ref)) (fun i σ H' => ∃ (s4 s5 s6 s7 : Option V), σ = [some (.ref d), some (.str z), some (.int k), some (.str (tenD (L.stays.take i) z k)), s4, s5, s6, s7] ∧ H' = H) ⟨_, _, _, _, rfl, rfl⟩ (fun i σ H' _ ⟨_, _, _, _, _, e⟩ => by subst e; exact SqL.of hrs) ?_ ?_
    · rintro i v σ H1 H2 hi ⟨s4, s5, s6, s7, rfl, rfl⟩ ⟨rfl, hv⟩
      obtain ⟨r, s, rfl, _, hs, ho⟩ := hr.at hv
      refine ⟨r, _, rfl, SqT.of ho, rfl, _, _, rfl, _, _, rfl, _, _, rfl, _, _, rfl, rfl, ?_⟩
      refine ⟨_, rfl, _, rfl, rfl, _, rfl, ?_⟩
      rw [str_eq]
      have step := tenD_step (x := z) (k := k) hs
      by_cases c1 : s.pl = z
      · rw [decide_eq_true c1]
        refine iteT ⟨_, rfl, _, rfl, _, _, rfl, rfl, _, rfl, ?_⟩
        by_cases c2 : s.a ≤ k
        · rw [decide_eq_true (show (s.a : Int) ≤ (k : Int) by omega)]
          refine iteT ⟨_, rfl, _, _, rfl, rfl, _, rfl, ?_⟩
          by_cases c3 : k < s.b
          · rw [decide_eq_true (show (k : Int) < (s.b : Int) by omega)]
            rw [if_pos ⟨c1, c2, c3⟩] at step
            exact iteT ⟨_, rfl, _, _, _, _, by rw [step]; rfl, rfl⟩
          · rw [decide_eq_false (show ¬ (k : Int) < (s.b : Int) by omega)]
            rw [if_neg (fun z => c3 z.2.2)] at step
            exact iteF ⟨_, _, _, _, by rw [step]; rfl, rfl⟩
        · rw [decide_eq_false (show ¬ (s.a : Int) ≤ (k : Int) by omega)]
          rw [if_neg (fun z => c2 z.2.1)] at step
          exact iteF ⟨_, rfl, iteF ⟨_, _, _, _, by rw [step]; rfl, rfl⟩⟩
      · rw [decide_eq_false c1]
        rw [if_neg (fun z => c1 z.1)] at step
        exact iteF ⟨_, _, _, _, by rw [step]; rfl, rfl⟩
    · rintro σ H1 ⟨s4, s5, s6, s7, rfl, rfl⟩
      rw [show L.stays.take (rs.map V.ref).length = L.stays from by rw [List.length_map, hr.1]; exact List.take_length]
      exact ⟨_, rfl, q⟩
theorem scLPr : FnScope ["_law_lore", "_law_day", "_law_found", "_law_at", "_law_number"] ["_law_lore", "_law_day"] (defScope sL_price) := ⟨rfl, rfl, rfl, by decide +kernel, rfl, by decide +kernel, by decide +kernel⟩
theorem ok_lpr {f : Addr} {fd : FuncData} (F : Fun K "_law_price" "_law_price" sL_price f fd) : FnOk P w K mg base CX0 1 f fd ["_law_lore", "_law_day"] spLPr := by
  refine F.ok scLPr (fun vs H Q E h => ?_) (fun cdv A outer s H vs Q E hr h => ?_)
  · obtain ⟨d, L, k, rfl, _⟩ := h
    rfl
  · obtain ⟨d, L, k, rfl, hL, q⟩ := h
    have hu := hu_of hr
    refine ⟨_, (pss_cons (ps_set (i := 2) scLPr.nd rfl (.inl rfl) pe_int)
      (pss_cons (ps_for (g := (gTup K 2 (gCons (gName 3) (gCons (gName 4) gNil)))) PassesOwn.never rfl (pi_list (pe_dget hu (pv 0) pe_str (fun _ _ => rfl))) (pg_tup rfl (pgs_cons (pg_name (i := 3) scLPr.nd rfl (.inl rfl)) (pgs_cons (pg_name (i := 4) scLPr.nd rfl (.inl rfl)) pgs_nil))) (pss_one (ps_set (i := 2) scLPr.nd rfl (.inl rfl) (pe_ifExp (pt_cmpR op_le (pv 3) (pv 1) (nomark _)) (pv 4) (pv 2)))))
      (pss_one (ps_ret (pv 2))))), ?_⟩
    obtain ⟨lp, ls, lt, hd, _, _, ⟨rs, hrs, hr⟩⟩ := hL
    refine ⟨_, rfl, d, _, rfl, .inl ⟨_, .inr "prices", .inl hd, rfl, rfl⟩, lt, rfl, ⟨_, SqL.of hrs⟩, ?_⟩
    refine for_it (walk_list (xs := rs.map V.ref)) (fun i σ H' => ∃ (s3 s4 : Option V), σ = [some (.ref d), some (.int k), some (.int (priD (L.prices.take i) k)), s3, s4] ∧ H' = H) ⟨_, _, rfl, rfl⟩ (fun i σ H' _ ⟨_, _, _, e⟩ => by subst e; exact SqL.of hrs) ?_ ?_
    · rintro i v σ H1 H2 hi ⟨s3, s4, rfl, rfl⟩ ⟨rfl, hv⟩
      obtain ⟨r, s, rfl, _, hs, ho⟩ := hr.at hv
      refine ⟨r, _, rfl, SqT.of ho, rfl, _, _, rfl, _, _, rfl, rfl, ?_⟩
      refine ⟨_, rfl, _, rfl, _, _, rfl, rfl, _, rfl, ?_⟩
      have step := priD_step (k := k) hs
      by_cases c : s.1 ≤ k
      · rw [decide_eq_true (show (s.1 : Int) ≤ (k : Int) by omega)]
        rw [if_pos c] at step
        exact iteT ⟨_, rfl, _, _, by rw [step]; rfl, rfl⟩
      · rw [decide_eq_false (show ¬ (s.1 : Int) ≤ (k : Int) by omega)]
        rw [if_neg c] at step
        exact iteF ⟨_, rfl, _, _, by rw [step]; rfl, rfl⟩
    · rintro σ H1 ⟨s3, s4, rfl, rfl⟩
      rw [show L.prices.take (rs.map V.ref).length = L.prices from by rw [List.length_map, hr.1]; exact List.take_length]
      exact ⟨_, rfl, q⟩
theorem scTold : FnScope ["_law_house", "_law_lore", "_law_name", "_law_room", "_law_is_metered", "_law_day"] ["_law_house", "_law_lore"] (defScope sL_are_told) := ⟨rfl, rfl, rfl, by decide +kernel, rfl, by decide +kernel, by decide +kernel⟩
def GotDX (P : Program) (w : World) (K : PySem.W.Frag) (mg : Str → Option Value) (base : Heap) (C : Addr) (x : Str) (k : Nat) (ps : List Str) (sp : Sp) : Prop :=
  ∃ (f : Addr) (fd : FuncData), FnOk P w K mg base (L2.CX P w) k f fd ps sp ∧ Binds K fd ps [] ∧ Meth K C x f
theorem ok_told {f : Addr} {fd : FuncData} (F : Fun K "_law_are_told" "_law_are_told" sL_are_told f fd) (T : Nm mg) (ho : HoC K CH) (GLi : GotDX P w K mg base CH "lives" 3 ["self", "flat", "day"] (spHLives CH DF DB p)) (GRo : GotDX P w K mg base CH "room" 3 ["self", "flat"] (spHRoom CH DF p)) (GPr : GotDX P w K mg base CH "price" 3 ["self", "day"] (spHPrice CH DB p))
    (GW : GotF P w K mg base "_law_who" 1 ["_law_lore", "_law_place", "_law_day"] spWho) (GQ : GotF P w K mg base "_law_price" 1 ["_law_lore", "_law_day"] spLPr) : FnOk P w K mg base CX0 4 f fd ["_law_house", "_law_lore"] (spTold CH) := by
  obtain ⟨fLi, dLi, GLi, bLi, mLi⟩ := GLi
  obtain ⟨fRo, dRo, GRo, bRo, mRo⟩ := GRo
  obtain ⟨fPr, dPr, GPr, bPr, mPr⟩ := GPr
  obtain ⟨fW, dW, GW, bW, mW, kW⟩ := GW
  obtain ⟨fQ, dQ, GQ, bQ, mQ, kQ⟩ := GQ
  refine F.ok scTold (fun vs H Q E h => ?_) (fun cdv A outer s H vs Q E hr h => ?_)
  · obtain ⟨h, d, x, L, rfl, _⟩ := h
    rfl
  · obtain ⟨h, d, x, L, rfl, hh, hL, va, q⟩ := h
    have hu := hu_of hr
    have hr1 : Room 1 _ := hr.mono (by decide)
    have hr3 : Room 3 _ := hr
    refine ⟨_, (pss_cons (ps_for (g := (gTup K 3 (gCons (gName 2) (gCons (gName 3) (gCons (gName 4) gNil))))) PassesOwn.never rfl (pi_list (pe_dget hu (pv 1) pe_str (fun _ _ => rfl))) (pg_tup rfl (pgs_cons (pg_name (i := 2) scTold.nd rfl (.inl rfl)) (pgs_cons (pg_name (i := 3) scTold.nd rfl (.inl rfl)) (pgs_cons (pg_name (i := 4) scTold.nd rfl (.inl rfl)) pgs_nil)))) (pss_cons (ps_if (pt_cmpR op_ne (pe_callB call_repSc (by rfl) T.repr b_repr (pa_cons (pe_meth (pv 0) ho.cl mRo GRo hr3 bRo .nil (passes_call (E := fun _ _ _ => False) LamX.takes0 (fun _ _ _ _ h => h)) (pa_cons (pv 2) pa_nil)) pa_nil)) (pe_callB call_repSc (by rfl) T.repr b_repr (pa_cons (pv 3) pa_nil)) (nomark _)) (pss_one (ps_ret pe_bl)) pss_nil)
      (pss_one (ps_for PassesOwn.never rfl (pi_range1 (by rfl) T.range (pa_cons (pe_dget hu (pv 1) pe_str (fun _ _ => rfl)) pa_nil)) (pg_name (i := 5) scTold.nd rfl (.inl rfl)) (pss_one (ps_if (pt_cmpR op_ne (pe_callB call_repSc (by rfl) T.repr b_repr (pa_cons (pe_meth (pv 0) ho.cl mLi GLi hr3 bLi .nil (passes_call (E := fun _ _ _ => False) LamX.takes0 (fun _ _ _ _ h => h)) (pa_cons (pv 2) (pa_cons (pv 5) pa_nil))) pa_nil)) (pe_callB call_repSc (by rfl) T.repr b_repr (pa_cons (pe_call GW hr1 (by rfl) mW kW bW .nil pass0 (pa_cons (pv 1) (pa_cons (pv 2) (pa_cons (pv 5) pa_nil)))) pa_nil)) (nomark _)) (pss_one (ps_ret pe_bl)) pss_nil))))))
      (pss_one (ps_ret (pe_callB (cr_all rfl) (by rfl) T.all b_all (pa_cons (pe_lc (own := [("_law_day", 5)]) (g := gName 5) (tt := tYes) rfl scTold.nd (pi_range1 (by rfl) T.range (pa_cons (pe_dget hu (pv 1) pe_str (fun _ _ => rfl)) pa_nil))
          (blkOk_by (N := ["_law_house", "_law_lore", "_law_name", "_law_room", "_law_is_metered", "_law_day"]) (sc := defScope sL_are_told) (by decide +kernel)) (fun _ _ _ _ _ => (pg_name (i := 5) scTold.nd rfl (.inl rfl))) (fun _ _ _ _ _ => pts_nil) (fun _ _ _ _ _ => (pe_cmpR op_eq (pe_callB call_repSc (by rfl) T.repr b_repr (pa_cons (pe_meth (pv 0) ho.cl mPr GPr hr3 bPr .nil (passes_call (E := fun _ _ _ => False) LamX.takes0 (fun _ _ _ _ h => h)) (pa_cons (pv 5) pa_nil)) pa_nil)) (pe_callB call_repSc (by rfl) T.repr b_repr (pa_cons (pe_call GQ hr1 (by rfl) mQ kQ bQ .nil pass0 (pa_cons (pv 1) (pa_cons (pv 5) pa_nil))) pa_nil)) (nomark _)))) pa_nil))))), ?_⟩
    obtain ⟨lp, ls, lt, hd, ⟨rs, hrs, hrf⟩, _, _⟩ := id hL
    obtain ⟨dx, a1, a2, a3, a4, a5, a6, hx⟩ := id hh.ins
    refine ⟨_, rfl, d, _, rfl, .inl ⟨_, .inr "places", .inl hd, rfl, rfl⟩, lp, rfl, ⟨_, SqL.of hrs⟩, ?_⟩
    refine for_it (walk_list (xs := rs.map V.ref)) (fun i σ H' => ∃ (s2 s3 s4 s5 : Option V), σ = [some (.ref h), some (.ref d), s2, s3, s4, s5] ∧ H' = H) ⟨_, _, _, _, rfl, rfl⟩ (fun i σ H' _ ⟨_, _, _, _, _, e⟩ => by subst e; exact SqL.of hrs) ?_ ?_
    · rintro i v σ H1 H2 hi ⟨s2, s3, s4, s5, rfl, rfl⟩ ⟨rfl, hv⟩
      obtain ⟨r, pl, rfl, _, hq, ho⟩ := hrf.at hv
      obtain ⟨hi2, rfl⟩ := List.getElem?_eq_some_iff.mp hq
      have okp := va.ok _ (List.getElem_mem hi2)
      refine ⟨r, _, rfl, SqT.of ho, rfl, _, _, rfl, _, _, rfl, _, _, rfl, rfl, ?_⟩
      refine ⟨_, rfl, h, dx, _, rfl, hx, hfs_none _ _ _ _ _ _ _ _ (by decide +kernel), _, rfl, h, x, L, _, .str L.places[i].name, rfl, hh, va.nd, .str _, fun z => (by rw [pl_at hi2] at z; cases z), fun j hj e => ?_⟩
      have ej : L.places[j].room = L.places[i].room := by
        have e1 := room_val va.nd hi2
        rw [PyData.str.inj e, room_val va.nd hj] at e1
        exact Int.ofNat.inj (V.int.inj (Option.some.inj e1))
      rw [ej]
      refine ⟨_, _, rfl, .inl ⟨_, rfl, lg99 (by omega), rfl⟩, _, rfl, _, _, rfl, .inl ⟨_, rfl, lg99 (by omega), rfl⟩, rfl, _, rfl, ?_⟩
      rw [decide_eq_true rfl]
      refine iteF ⟨_, rfl, d, _, rfl, .inl ⟨_, .inr "days", .inl hd, rfl, rfl⟩, L.days, rfl, by omega, by have := va.d; omega, ?_⟩
      refine for_it (walk_range0 (n := ((L.days : Nat) : Int).toNat)) (fun k σ H' => ∃ (s4 s5 : Option V), σ = [some (.ref h), some (.ref d), some (.str L.places[i].name), some (.int L.places[i].room), s4, s5] ∧ H' = H2) ⟨_, _, rfl, rfl⟩ (fun _ _ _ _ _ => trivial) ?_ ?_
      · rintro k v σ H3 H4 hk ⟨s4, s5, rfl, rfl⟩ ⟨rfl, rfl⟩
        have hk' : k < L.days := by omega
        refine ⟨_, rfl, h, dx, _, rfl, hx, hfs_none _ _ _ _ _ _ _ _ (by decide +kernel), _, rfl, _, rfl, h, x, L, _, _, .str L.places[i].name, .int k, rfl, hh, va.nd, .str _, .int _, fun z => (by rw [pl_at hi2] at z; cases z), fun _ z => (by rw [dy_at hk'] at z; cases z), fun j k2 hj hk2 e1 e2 => ?_⟩
        have e1 := PyData.str.inj e1
        have e2 : k = k2 := Int.ofNat.inj (PyData.int.inj e2)
        subst e2
        rw [← e1]
        have rl := pool_rep _ (ten_in va L.places[i].name k)
        refine ⟨_, _, rfl, .inr ⟨_, rfl, Nat.le_trans rl (by decide), rfl⟩, _, rfl, _, rfl, _, rfl, d, L, L.places[i].name, k, rfl, hL, ?_⟩
        refine ⟨_, _, rfl, .inr ⟨_, rfl, Nat.le_trans rl (by decide), rfl⟩, rfl, _, rfl, ?_⟩
        rw [decide_eq_true rfl]
        exact iteF ⟨_, _, rfl, rfl⟩
      · rintro σ H3 ⟨s4, s5, rfl, rfl⟩
        exact ⟨_, _, _, _, rfl, rfl⟩
    · rintro σ H1 ⟨s2, s3, s4, s5, rfl, rfl⟩
      refine ⟨_, rfl, d, _, rfl, .inl ⟨_, .inr "days", .inl hd, rfl, rfl⟩, L.days, rfl, by omega, by have := va.d; omega, fun D nD => ?_⟩
      refine lc_it (walk_range0 (n := ((L.days : Nat) : Int).toNat)) (Pv := Tk H1 D ((List.replicate L.days true).map V.bl)) (Tk.start nD) (fun _ _ _ _ => trivial) ?_ ?_
      · rintro k v G1 G2 hk tk ⟨rfl, rfl⟩
        have hk' : k < L.days := by omega
        have e := tk.1
        have hh2 := hh.same e
        refine ⟨rfl, ?_⟩
        unfold tYes
        refine iteT ⟨_, rfl, h, dx, _, rfl, e _ _ hx, hfs_none _ _ _ _ _ _ _ _ (by decide +kernel), _, rfl, h, x, L, _, .int k, rfl, hh2, .int _, fun z => (by rw [dy_at hk'] at z; cases z), fun k2 hk2 e2 => ?_⟩
        have e2 : k = k2 := Int.ofNat.inj (PyData.int.inj e2)
        subst e2
        refine ⟨_, _, rfl, .inl ⟨_, rfl, lg99 (pri_le va k), rfl⟩, _, rfl, _, rfl, d, L, k, rfl, hL.same e, _, _, rfl, .inl ⟨_, rfl, lg99 (pri_le va k), rfl⟩, rfl, ?_⟩
        rw [decide_eq_true rfl]
        exact tk.step nD (Same.refl _) (by rw [List.getElem?_map, List.getElem?_replicate, if_pos hk']; rfl) (by rw [List.length_map, List.length_replicate]; have := va.d; omega)
      · rintro G1 tk
        have hD := tk.done (by simp)
        refine ⟨D, _, rfl, SqL.of hD, ?_⟩
        rw [show (List.replicate L.days true).all id = true by simp]
        exact q _ tk.1
end
end Hs
/-! the law: values that are no place, no day -/
namespace Hs
open PySem PySem.Spec PyProof.Rows L2 Am Rv
def oddsN (z : Str) : List PyData := [.none, .int 0, .bool true, .str "main", .str "house", .str "", .str (z ++ "x"), .str (cutS z (some 1) none), .tuple [.str z], .list [.str z], .str (Txt.upper z), .dict []]
theorem oddsN_ok : ∀ z ∈ pool, ∀ d ∈ oddsN z, rokB d = true := by decide +kernel
def oddsD (n : Nat) : List PyData := [.int n, .int (n + 1), .int (-1), .none, .bool true, .bool false, .str "0", .tuple [], .tuple [.int 0], .list [.int 0], .int 999999999, .dict []]
theorem oddsD_ok {n : Nat} (h : n ≤ 14) : ∀ d ∈ oddsD n, rokB d = true := by
  have : ∀ k : Fin 15, ∀ d ∈ oddsD k.val, rokB d = true := by decide +kernel
  exact this ⟨n, by omega⟩
theorem oddsD_no {L : Lore} (h14 : L.days ≤ 14) : ∀ d ∈ oddsD L.days, isDy L d = false := by
  intro d hd
  simp only [oddsD, List.mem_cons, List.not_mem_nil, or_false] at hd
  have no : ∀ i : Int, (i < 0 ∨ (L.days : Int) ≤ i) → isDy L (.int i) = false := fun i hi => by
    show (decide (0 ≤ i) && decide (i < (L.days : Int))) = false
    rcases hi with hi | hi
    · rw [decide_eq_false (by omega)]; rfl
    · rw [decide_eq_false (show ¬ i < (L.days : Int) by omega), Bool.and_false]
  rcases hd with rfl | rfl | rfl | rfl | rfl | rfl | rfl | rfl | rfl | rfl | rfl | rfl
  · exact no _ (.inr (by omega))
  · exact no _ (.inr (by omega))
  · exact no _ (.inl (by decide))
  all_goals first | rfl | exact no _ (.inr (by have := h14; omega))
theorem pool_strOk : ∀ z ∈ pool, PyData.strOk z = true := by decide +kernel
/-- a value that is refused -/
def Bad (p : Addr) (no : PyData → Bool) (H : Hp) (v : V) : Prop := ∃ d, Dj p H v d ∧ Rok d ∧ no d = false
theorem Bad.chg {p : Addr} {no : PyData → Bool} {H H' : Hp} {v : V} {N : Int} (h : Bad p no H v) (j : JarAt H p N) (c : Chg p H H') : Bad p no H' v := by
  obtain ⟨d, a, b, e⟩ := h
  refine ⟨d, a.keep (fun b o h n _ => c b o h n) (fun o ho => ?_), b, e⟩
  obtain ⟨xs, hp⟩ := j.lst
  rw [hp] at ho
  cases ho
  exact ⟨_, rfl⟩
def spNoFlat : Sp := fun vs H Q _ => ∃ (p d : Addr) (L : Lore) (N : Int), vs = [.ref p, .ref d] ∧ LoreAt H d L ∧ Valid L ∧ JarAt H p N ∧ N ≤ 9900 ∧ ∀ H' v, Chg p H H' → JarAt H' p (N + 1) → Bad p (isPl L) H' v → Q v H'
def spNoDay : Sp := fun vs H Q _ => ∃ (p d : Addr) (L : Lore) (N : Int), vs = [.ref p, .ref d] ∧ LoreAt H d L ∧ Valid L ∧ JarAt H p N ∧ N ≤ 9900 ∧ ∀ H' v, Chg p H H' → JarAt H' p (N + 1) → Bad p (isDy L) H' v → Q v H'
theorem ne_jar {H : Hp} {p b : Addr} {N : Int} (j : JarAt H p N) (n : H b = none) : b ≠ p := fun z => by
  obtain ⟨_, _, _, hp, _⟩ := j
  rw [z, hp] at n
  cases n
section
variable {P : Program} {w : World} {K : PySem.W.Frag} {mg : Str → Option Value} {base : Heap}
theorem scND : FnScope ["_law_jar_here", "_law_lore"] ["_law_jar_here", "_law_lore"] (defScope sL_no_day) := ⟨rfl, rfl, rfl, by decide +kernel, rfl, by decide +kernel, by decide +kernel⟩
theorem ok_noDay {f : Addr} {fd : FuncData} (F : Fun K "_law_no_day" "_law_no_day" sL_no_day f fd) (GO : GotF P w K mg base "_law_of" 2 ["_law_jar_here", "_law_some"] spOf) : FnOk P w K mg base CX0 3 f fd ["_law_jar_here", "_law_lore"] spNoDay := by
  obtain ⟨fO, dO, GO, bO, mO, kO⟩ := GO
  refine F.ok scND (fun vs H Q E h => ?_) (fun cdv A outer s H vs Q E hr h => ?_)
  · obtain ⟨p, d, L, N, rfl, _⟩ := h
    rfl
  · obtain ⟨p, d, L, N, rfl, hL, va, j, hN, q⟩ := h
    have hu := hu_of hr
    refine ⟨_, (pss_one (ps_ret (pe_call GO hr (by rfl) mO kO bO .nil pass0 (pa_cons (pv 0) (pa_cons (pe_lst (pa_cons (pe_dget hu (pv 1) pe_str (fun _ _ => rfl)) (pa_cons (pe_op op_add (pe_dget hu (pv 1) pe_str (fun _ _ => rfl)) pe_int) (pa_cons (pe_un un_neg pe_int) (pa_cons pe_non (pa_cons pe_bl (pa_cons pe_bl (pa_cons pe_str (pa_cons (pe_tup pa_nil) (pa_cons (pe_tup (pa_cons pe_int pa_nil)) (pa_cons (pe_lst (pa_cons pe_int pa_nil)) (pa_cons pe_int (pa_cons pe_dnewK pa_nil))))))))))))) pa_nil))))), ?_⟩
    obtain ⟨lp, ls, lt, hd, _⟩ := hL
    have hd0 : d ≠ p := fun e => by
      obtain ⟨xs, hp⟩ := j.lst
      rw [e, hp] at hd
      cases hd
    have d14 := va.d
    refine ⟨_, rfl, _, rfl, d, _, rfl, .inl ⟨_, .inr "days", .inl hd, rfl, rfl⟩, _, rfl, d, _, rfl, .inl ⟨_, .inr "days", .inl hd, rfl, rfl⟩, _, _, rfl, rfl, _, rfl, (show 0 ≤ sizeLine by decide), fun t0 n0 => ?_⟩
    have e0 := same_upd (o := .tup []) n0
    have o0 := upd_same (H := H) (a := t0) (o := .tup [])
    generalize upd H t0 (.tup []) = H1 at *
    refine ⟨(show 1 ≤ sizeLine by decide), fun t1 n1 => ?_⟩
    have e1 := same_upd (o := .tup [V.int 0]) n1
    have o1 := upd_same (H := H1) (a := t1) (o := .tup [V.int 0])
    generalize upd H1 t1 (.tup [V.int 0]) = H2 at *
    refine ⟨(show 1 ≤ sizeLine by decide), fun l1 n2 => ?_⟩
    have j2 := (j.same e0).same e1
    have e2 := same_upd (o := .lst [V.int 0]) n2
    have o2 := upd_same (H := H2) (a := l1) (o := .lst [V.int 0])
    have m2 := ne_jar j2 n2
    generalize upd H2 l1 (.lst [V.int 0]) = H3 at *
    refine fun d0 n3 => ?_
    have e3 := same_upd (o := .dK []) n3
    have o3 := upd_same (H := H3) (a := d0) (o := .dK [])
    generalize upd H3 d0 (.dK []) = H4 at *
    have e04 := ((e0.trans e1).trans e2).trans e3
    have j4 := j.same e04
    refine ⟨(show 12 ≤ sizeLine by decide), fun l n4 => ?_⟩
    have e4 := same_upd (o := .lst [V.int L.days, .int ((L.days : Int) + 1), .int (-1), .non, .bl true, .bl false, .str "0", .ref t0, .ref t1, .ref l1, .int 999999999, .ref d0]) n4
    have o4 := upd_same (H := H4) (a := l) (o := .lst [V.int L.days, .int ((L.days : Int) + 1), .int (-1), .non, .bl true, .bl false, .str "0", .ref t0, .ref t1, .ref l1, .int 999999999, .ref d0])
    have m4 := ne_jar j4 n4
    generalize upd H4 l (.lst [V.int L.days, .int ((L.days : Int) + 1), .int (-1), .non, .bl true, .bl false, .str "0", .ref t0, .ref t1, .ref l1, .int 999999999, .ref d0]) = H5 at *
    have j5 := j4.same e4
    refine ⟨p, l, _, _, rfl, o4, m4, ⟨show 0 < 12 by decide, show 12 ≤ 1000 by decide⟩, j5, by omega, fun v H6 hv c6 j6 => ?_⟩
    refine q H6 v ((Chg.of (e04.trans e4)).trans c6) j6 ?_
    refine Bad.chg (H := H5) ?_ j5 c6
    have key : ∀ d', Dj p H5 v d' → d' ∈ oddsD L.days → Bad p (isDy L) H5 v := fun d' a b => ⟨d', a, rok_of (oddsD_ok d14.2 d' b), oddsD_no d14.2 d' b⟩
    simp only [List.mem_cons, List.not_mem_nil, or_false] at hv
    rcases hv with rfl | rfl | rfl | rfl | rfl | rfl | rfl | rfl | rfl | rfl | rfl | rfl
    · exact key _ (.int _) (by simp [oddsD])
    · exact key _ (.int _) (by simp [oddsD])
    · exact key _ (.int _) (by simp [oddsD])
    · exact key _ .non (by simp [oddsD])
    · exact key _ (.bl _) (by simp [oddsD])
    · exact key _ (.bl _) (by simp [oddsD])
    · exact key _ (.str _) (by simp [oddsD])
    · exact key _ (.tup (e4 _ _ (e3 _ _ (e2 _ _ (e1 _ _ o0)))) .nil) (by simp [oddsD])
    · exact key _ (.tup (e4 _ _ (e3 _ _ (e2 _ _ o1))) (.cons (.int 0) .nil)) (by simp [oddsD])
    · exact key _ (.lst (e4 _ _ (e3 _ _ o2)) m2 (.cons (.int 0) .nil)) (by simp [oddsD])
    · exact key _ (.int _) (by simp [oddsD])
    · exact key _ (.dic (e4 _ _ o3)) (by simp [oddsD])
theorem scNF : FnScope ["_law_jar_here", "_law_lore", "_law_name", "_law_odd", "_law_one", "_law_place"] ["_law_jar_here", "_law_lore"] (defScope sL_no_flat) := ⟨rfl, rfl, rfl, by decide +kernel, rfl, by decide +kernel, by decide +kernel⟩
theorem ok_noFlat {f : Addr} {fd : FuncData} (F : Fun K "_law_no_flat" "_law_no_flat" sL_no_flat f fd) (GO : GotF P w K mg base "_law_of" 2 ["_law_jar_here", "_law_some"] spOf) : FnOk P w K mg base CX0 3 f fd ["_law_jar_here", "_law_lore"] spNoFlat := by
  obtain ⟨fO, dO, GO, bO, mO, kO⟩ := GO
  refine F.ok scNF (fun vs H Q E h => ?_) (fun cdv A outer s H vs Q E hr h => ?_)
  · obtain ⟨p, d, L, N, rfl, _⟩ := h
    rfl
  · obtain ⟨p, d, L, N, rfl, hL, va, j, hN, q⟩ := h
    have hu := hu_of hr
    have hu65 : (A.deeper (envOfC "_law_no_flat" (defScope sL_no_flat) s.heap.objs.size f cdv)).units + 65 < cLine := by have := hr.un; omega
    refine ⟨_, (pss_cons (ps_set (i := 2) scNF.nd rfl (.inl rfl) (pe_ix ix_tup (pe_ix ix_list (pe_dget hu (pv 1) pe_str (fun _ _ => rfl)) pe_int (fun _ _ => rfl)) pe_int (fun _ _ => rfl)))
      (pss_cons (ps_set (i := 3) scNF.nd rfl (.inl rfl) (pe_lst (pa_cons pe_non (pa_cons pe_int (pa_cons pe_bl (pa_cons pe_str (pa_cons pe_str (pa_cons pe_str (pa_cons (pe_op op_add_str (pv 2) pe_str) (pa_cons (pe_slice sl_str (pv 2) (po_some pe_int) po_none) (pa_cons (pe_tup (pa_cons (pv 2) pa_nil)) (pa_cons (pe_lst (pa_cons (pv 2) pa_nil)) (pa_cons (pe_upper (pv 2)) (pa_cons pe_dnewK pa_nil))))))))))))))
      (pss_cons (ps_setLc (i := 3) (own := [("_law_one", 4)]) (g := gName 4) rfl scNF.nd rfl rfl rfl (pi_list (pv 3))
          (blkOk_by (N := ["_law_jar_here", "_law_lore", "_law_name", "_law_odd", "_law_one", "_law_place"]) (sc := defScope sL_no_flat) (by decide +kernel)) (fun _ _ _ _ _ => (pg_name (i := 4) scNF.nd rfl (.inl rfl))) (fun _ _ _ _ _ => (by refine pts_one (pt_cmpR (r := rNotInS K) (tb := tLc (iList K (tDGet (tVar 1) (tC (V.str "places")))) (gName 5) tYes (tOp (rIxT K) (tVar 5) (tC (V.int 0))) [5]) ?h (pv 4) ?b (by rfl)); (case h => exact op_notInS hu65); (case b => exact (pe_lc (own := [("_law_place", 5)]) (g := gName 5) (tt := tYes) rfl scNF.nd (pi_list (pe_dget hu (pv 1) pe_str (fun _ _ => rfl)))
          (by exact blkOk_by (N := ["_law_jar_here", "_law_lore", "_law_name", "_law_odd", "_law_one", "_law_place"]) (sc := { kind := .function, names := [(".0", .local), ("_law_one", .local), ("_law_lore", .cell)], isGenerator := false, isCoroutine := false }) (scope := { kind := .function, names := [(".0", .local), ("_law_place", .local)], isGenerator := false, isCoroutine := false }) (own := [("_law_place", 5)]) (by decide +kernel)) (fun _ _ _ _ _ => (pg_name (i := 5) scNF.nd rfl (.inl rfl))) (fun _ _ _ _ _ => pts_nil) (fun _ _ _ _ _ => (pe_ix (r := rIxT K) (by exact ix_tup) (pv 5) pe_int (fun _ _ => rfl))))))) (fun _ _ _ _ _ => (pv 4)))
      (pss_one (ps_ret (pe_call GO hr (by rfl) mO kO bO .nil pass0 (pa_cons (pv 0) (pa_cons (pv 3) pa_nil)))))))), ?_⟩
    obtain ⟨lp, ls, lt, hd, ⟨rs, hrs, hrf⟩, _⟩ := id hL
    have hd0 : d ≠ p := fun e => by
      obtain ⟨xs, hp⟩ := j.lst
      rw [e, hp] at hd
      cases hd
    have l1 : 0 < L.places.length := by
      have z := va.fl
      unfold hasF at z
      cases hp : L.places with
      | nil => rw [hp] at z; cases z
      | cons _ _ => simp
    have l4 := va.l4
    have r0 : 0 < rs.length := by have := hrf.1; omega
    have hr0 : H rs[0] = some (.tup [V.str L.places[0].name, .int L.places[0].room, .bl L.places[0].inner]) := hrf.2 0 rs[0] L.places[0] (List.getElem?_eq_getElem r0) (List.getElem?_eq_getElem l1)
    have np := (va.ok _ (List.getElem_mem l1)).1
    have nl := pool_len _ np
    generalize L.places[0].name = z at *
    refine ⟨_, rfl, d, _, rfl, .inl ⟨_, .inr "places", .inl hd, rfl, rfl⟩, lp, _, _, _, rfl, rfl, SqL.of hrs, atI_nat (j := 0) (v := V.ref rs[0]) (by rw [List.getElem?_map, List.getElem?_eq_getElem r0]; rfl), ?_⟩
    refine ⟨rs[0], _, _, _, rfl, rfl, SqT.of hr0, rfl, ?_⟩
    refine ⟨_, rfl, _, _, rfl, rfl, Nat.le_trans (show z.length + 1 ≤ 9 by omega) (by decide), _, rfl, 1, rfl, _, rfl, Nat.le_trans nl (by decide), _, rfl, (show 1 ≤ sizeLine by decide), fun t1 n1 => ?_⟩
    have e1 := same_upd (o := .tup [V.str z]) n1
    have o1 := upd_same (H := H) (a := t1) (o := .tup [V.str z])
    generalize upd H t1 (.tup [V.str z]) = H2 at *
    refine ⟨_, rfl, (show 1 ≤ sizeLine by decide), fun l1 n2 => ?_⟩
    have j2 := j.same e1
    have e2 := same_upd (o := .lst [V.str z]) n2
    have o2 := upd_same (H := H2) (a := l1) (o := .lst [V.str z])
    have m2 := ne_jar j2 n2
    generalize upd H2 l1 (.lst [V.str z]) = H3 at *
    refine ⟨_, rfl, ⟨_, rfl⟩, _, rfl, rfl, Nat.le_trans nl (by decide), fun d0 n3 => ?_⟩
    have e3 := same_upd (o := .dK []) n3
    have o3 := upd_same (H := H3) (a := d0) (o := .dK [])
    generalize upd H3 d0 (.dK []) = H4 at *
    have e04 := (e1.trans e2).trans e3
    have j4 := j.same e04
    refine ⟨(show 12 ≤ sizeLine by decide), fun l n4 => ?_⟩
    have e4 := same_upd (o := .lst [V.non, .int 0, .bl true, .str "main", .str "house", .str "", .str (z ++ "x"), .str (cutS z (some 1) none), .ref t1, .ref l1, .str (Txt.upper z), .ref d0]) n4
    have o4 := upd_same (H := H4) (a := l) (o := .lst [V.non, .int 0, .bl true, .str "main", .str "house", .str "", .str (z ++ "x"), .str (cutS z (some 1) none), .ref t1, .ref l1, .str (Txt.upper z), .ref d0])
    have m4 := ne_jar j4 n4
    generalize upd H4 l (.lst [V.non, .int 0, .bl true, .str "main", .str "house", .str "", .str (z ++ "x"), .str (cutS z (some 1) none), .ref t1, .ref l1, .str (Txt.upper z), .ref d0]) = H5 at *
    have j5 := j4.same e4
    have e05 := e04.trans e4
    have odd : ∀ v ∈ [V.non, .int 0, .bl true, .str "main", .str "house", .str "", .str (z ++ "x"), .str (cutS z (some 1) none), .ref t1, .ref l1, .str (Txt.upper z), .ref d0], ∃ d', Dj p H5 v d' ∧ Rok d' := fun v hv => by
      have key : ∀ d', Dj p H5 v d' → d' ∈ oddsN z → ∃ d', Dj p H5 v d' ∧ Rok d' := fun d' a b => ⟨d', a, rok_of (oddsN_ok z np d' b)⟩
      simp only [List.mem_cons, List.not_mem_nil, or_false] at hv
      rcases hv with rfl | rfl | rfl | rfl | rfl | rfl | rfl | rfl | rfl | rfl | rfl | rfl
      · exact key _ .non (by simp [oddsN])
      · exact key _ (.int _) (by simp [oddsN])
      · exact key _ (.bl _) (by simp [oddsN])
      · exact key _ (.str _) (by simp [oddsN])
      · exact key _ (.str _) (by simp [oddsN])
      · exact key _ (.str _) (by simp [oddsN])
      · exact key _ (.str _) (by simp [oddsN])
      · exact key _ (.str _) (by simp [oddsN])
      · exact key _ (.tup (e4 _ _ (e3 _ _ (e2 _ _ o1))) (.cons (.str _) .nil)) (by simp [oddsN])
      · exact key _ (.lst (e4 _ _ (e3 _ _ o2)) m2 (.cons (.str _) .nil)) (by simp [oddsN])
      · exact key _ (.str _) (by simp [oddsN])
      · exact key _ (.dic (e4 _ _ o3)) (by simp [oddsN])
    generalize hls : [V.non, .int 0, .bl true, .str "main", .str "house", .str "", .str (z ++ "x"), .str (cutS z (some 1) none), .ref t1, .ref l1, .str (Txt.upper z), .ref d0] = ls at *
    have ll : ls.length = 12 := by rw [← hls]; rfl
    have l0 : ls[0]? = some .non := by rw [← hls]; rfl
    have hd5 := e05 _ _ hd
    have hrs5 := e05 _ _ hrs
    clear e1 e2 e3 e4 o1 o2 o3 n1 n2 n3 j2 j4 e04 m2 hls
    refine ⟨_, rfl, l, rfl, ⟨_, SqL.of o4⟩, fun D nD => ?_⟩
    have mD := ne_jar j5 nD
    refine lc_it (walk_list (xs := ls)) (Pv := fun k H' => Same H5 H' ∧ ∃ acc : List V, H' D = some (.lst acc) ∧ acc.length ≤ k ∧ (1 ≤ k → 1 ≤ acc.length) ∧ ∀ v ∈ acc, Bad p (isPl L) H5 v) ⟨same_upd nD, [], upd_same, Nat.le_refl _, fun h => absurd h (by decide), fun v h => absurd h List.not_mem_nil⟩ (fun k H' _ hh => SqL.of (hh.1 _ _ o4)) ?_ ?_
    · rintro k v G1 G2 hk ⟨f1, acc, hD, la, ln, hb⟩ ⟨rfl, hv⟩
      have hvm := List.mem_of_getElem? hv
      obtain ⟨dv, hdv, rk⟩ := odd v hvm
      refine ⟨rfl, ?_⟩
      refine ⟨_, rfl, _, rfl, d, _, rfl, .inl ⟨_, .inr "places", .inl (f1 _ _ hd5), rfl, rfl⟩, lp, rfl, ⟨_, SqL.of (f1 _ _ hrs5)⟩, fun D2 nD2 => ?_⟩
      refine lc_it (walk_list (xs := rs.map V.ref)) (Pv := Tk G2 D2 ((L.places.map fun q => q.name).map V.str)) (Tk.start nD2) (fun _ _ _ hh => SqL.of (hh.1 _ _ (f1 _ _ hrs5))) ?_ ?_
      · rintro i v2 K1 K2 hi tk ⟨rfl, hv2⟩
        obtain ⟨r, pl, rfl, _, hq, ho⟩ := ((hrf.same e05).same f1).at hv2
        have hol : L.places.length ≤ 4 := l4
        refine ⟨rfl, ?_⟩
        unfold tYes
        refine iteT ⟨_, rfl, r, _, _, _, rfl, rfl, SqT.of (tk.1 _ _ ho), rfl, ?_⟩
        exact tk.step nD2 (Same.refl _) (by rw [List.getElem?_map, List.getElem?_map, hq]; rfl) (by rw [List.length_map, List.length_map]; omega)
      · rintro K1 tk
        have hD2 := tk.done (by simp [hrf.1])
        have e2 := tk.1
        have hdk : Dj p K1 v dv := hdv.keep (fun b o ho _ _ => e2 _ _ (f1 _ _ ho)) (fun o ho => by
          obtain ⟨xs, hp⟩ := j5.lst
          rw [hp] at ho
          cases ho
          exact ⟨_, rfl⟩)
        refine ⟨p, D2, _, dv, rfl, SqL.of hD2, fun w hw => ?_, hdk, rk.lay, _, rfl, ?_⟩
        · obtain ⟨q, hq, rfl⟩ := List.mem_map.mp hw
          exact pool_strOk _ (va.ok q hq).1
        · have ei : inS (L.places.map fun q => q.name) dv = isPl L dv := by cases dv <;> rfl
          rw [ei]
          have hDk := e2 _ _ hD
          cases c : isPl L dv with
          | true =>
            refine iteF ⟨f1.trans e2, acc, hDk, by omega, fun _ => ?_, hb⟩
            by_cases k0 : k = 0
            · subst k0
              have hv : ls[0]? = some v := hv
              rw [l0] at hv
              cases hv
              cases hdv
              cases c
            · exact ln (by omega)
          | false =>
            refine iteT ⟨_, rfl, acc, hDk, Nat.lt_of_le_of_lt la (Nat.lt_of_lt_of_le hk (by rw [ll]; decide)), fun b u e => ?_, acc ++ [v], upd_same, by rw [List.length_append]; exact Nat.succ_le_succ la, fun _ => by rw [List.length_append]; exact Nat.le_add_left _ _, fun w hw => ?_⟩
            · rw [upd_ne (ne_of_none e nD)]
              exact e2 _ _ (f1 _ _ e)
            · rcases List.mem_append.mp hw with hw | hw
              · exact hb w hw
              · rw [List.mem_singleton.mp hw]
                exact ⟨dv, hdv, rk, c⟩
    · rintro G1 ⟨f1, acc, hD, la, ln, hb⟩
      have la : acc.length ≤ 12 := ll ▸ la
      have ln : 1 ≤ acc.length := ln (by rw [ll]; decide)
      have j6 := j5.same f1
      refine ⟨_, rfl, _, rfl, p, D, acc, _, rfl, hD, mD, ⟨by omega, by omega⟩, j6, by omega, fun v G2 hv c2 j7 => ?_⟩
      exact q G2 v ((Chg.of (e05.trans f1)).trans c2) j7 ((hb v hv).chg j5 ((Chg.of f1).trans c2))
end
end Hs
/-! the end of a law's row, from a promise of a def that may ask repr, where lambdas are made (tables of code objects) -/
namespace Gu
open PySem PySem.Spec PyProof.Rows L2
section
variable {P : Program} {w : World} {K : PySem.W.Frag} {mg mb : Str → Option Value} {k : Nat} {fa a : Addr} {fd : FuncData} {x : Str} {sp : Sp} {s : Shared} {vs : List Value} {ns : List Int} {cs : List (Addr × Addr)}
/-- known at the call: the script, as it stands, and the empty tables of cs -/
def BareT (a : Addr) (vs : List Value) (ns : List Int) (cs : List (Addr × Addr)) (H : Hp) : Prop := ∀ b u, H b = some u → (b = a ∧ u = .frz (scr vs) (.lst (ns.map V.int))) ∨ ∃ p ∈ cs, b = p.2 ∧ u = .tbl #[]
theorem from_callerT (inK : K.In s.heap) (glob : s.heap.Ns mainGlobals mg) (bi : s.heap.Ns builtinsNs mb) (hbi : ∀ x : Str, x ≠ "__name__" → mb x = bootBuiltins x) (lim : s.heap.NoLimit) (gens : s.gens = #[])
    (tabs : ∀ p ∈ cs, s.heap.get? p.2 = some (PySem.W.tabObj #[])) (offT : ∀ p ∈ cs, K.lookup p.2 = none) (heads : ∀ p ∈ cs, PySem.W.CodeHd s.heap p.1 p.2)
    (bmain : ∃ (bm : Addr) (ob : Obj), mg "__builtins__" = some (.ref bm) ∧ bm ≠ builtinsNs ∧ s.heap.get? bm = some ob ∧ ob.cls = .type "module" ∧ ob.dict = some builtinsNs ∧ ob.data = .plain)
    (script : s.heap.get? a = some (scr vs)) (room : Room k callerA) (F : ∀ base : Heap, K.In base → base.Ns mainGlobals mg → (∀ p ∈ cs, LamX.TabB base mg p.1 p.2) → FnG P w K mg base CX0 k fa fd [x] sp)
    (bind : ∀ (s : Shared) (u : Value), BindsTo s fd ⟨[u], []⟩ [(x, u)]) {H : Hp} (bare : BareT a vs ns cs H) (known : ∀ p ∈ cs, H p.2 = some (.tbl #[])) (ok : HOk P w H s.heap) (off : H a ≠ none → K.lookup a = none)
    (want : sp [.ref a] H (fun v _ => v = .bl true) fun _ _ _ => False) :
    codeAny (model P w) callerA (.call (.ref fa) ⟨[.ref a], []⟩) (fun r s' => r = .ok (.ret (.bool true)) ∧ OldK s.heap s'.heap ∧ s'.os = s.os ∧ AllBare s'.gens) s := by
  -- neither a list nor an empty table: not known
  have apart : ∀ {b : Addr} {o : Obj}, s.heap.get? b = some o → (∀ z n, o.data ≠ .seq z n) → o.data ≠ .fields #[] → H b = none := by
    intro b o e noSeq noTab
    cases z : H b with
    | none => rfl
    | some u =>
      rcases bare b u z with ⟨rfl, _⟩ | ⟨p, hp, rfl, _⟩
      · rw [script] at e
        cases e
        exact (noSeq _ _ rfl).elim
      · rw [tabs p hp] at e
        cases e
        exact (noTab rfl).elim
  have hid : ∀ {b : Addr} {o : Obj}, s.heap.get? b = some o → (∀ z n, o.data ≠ .seq z n) → o.data ≠ .fields #[] → (hidT s.heap H).get? b = some o := fun e n1 n2 => hidT_get e (apart e n1 n2)
  have space : ∀ {b : Addr} {m : Str → Option Value}, s.heap.Ns b m → (hidT s.heap H).Ns b m := by
    rintro b m ⟨o, es, n, e, d, more⟩
    exact ⟨o, es, n, hid e (fun _ _ q => by rw [d] at q; cases q) (fun q => by rw [d] at q; cases q), d, more⟩
  have inB : K.In (hidT s.heap H) := by
    intro b o e
    refine hidT_get (inK b o e) ?_
    cases z : H b with
    | none => rfl
    | some u =>
      rcases bare b u z with ⟨rfl, _⟩ | ⟨p, hp, rfl, _⟩
      · rw [off (by rw [z]; exact fun q => by cases q)] at e
        cases e
      · rw [offT p hp] at e
        cases e
  have tables : ∀ p ∈ cs, LamX.TabB (hidT s.heap H) mg p.1 p.2 := by
    intro p hp
    have tp := tabs p hp
    constructor
    case code =>
      obtain ⟨o, us, file, tf, fl, tg, fn, tx, tt, e, c1, c2, c3, more⟩ := heads p hp
      refine ⟨o, us, file, tf, fl, tg, fn, tx, tt, hid e (fun _ _ q => ?_) (fun q => ?_), c1, c2, c3, more⟩
      · rw [c2] at q; cases q
      · rw [c2] at q
        cases q
        simp at c3
    case bm =>
      obtain ⟨bm, ob, m1, m2, m3, m4, m5, m6⟩ := bmain
      have notDict : bm ≠ mainGlobals := by
        rintro rfl
        obtain ⟨o, es, n, e, d, _⟩ := glob
        rw [m3] at e
        cases e
        rw [m6] at d
        cases d
      have notTab : bm ≠ p.2 := by
        rintro rfl
        rw [tp] at m3
        cases m3
        cases m6
      exact ⟨bm, ob, m1, m2, notDict, notTab, hid m3 (fun _ _ q => by rw [m6] at q; cases q) (fun q => by rw [m6] at q; cases q), m4, m5, m6⟩
    case gP =>
      intro q
      obtain ⟨o, es, n, e, d, _⟩ := glob
      rw [q, tp] at e
      cases e
      cases d
  obtain ⟨mc, l1, l2⟩ := lim
  have e0 : Env0 P w K mg (hidT s.heap H) callerA [] s H := {
    frames := rfl
    mod := ⟨inB, space glob, ⟨mb, space bi, hbi⟩, ⟨mc, space l1, l2⟩⟩
    bs := fun b o e => of_hidT e
    bsz := Nat.le_of_eq (hidT_size _ _)
    funs := trivial
    frf := by intro b hb; cases hb
    hok := ok
    bare := .of_eq gens }
  refine codeAny_mono ((F _ inB (space glob) tables).go callerA [] s H ⟨[.ref a], []⟩ [.ref a] [.ref a] _ _ room rfl e0 (bind s (.ref a)) (.cons rfl .nil) want) ?_
  intro r s' z
  match r, z with
  | .error e, z => exact z.elim
  | .ok (.ret u), ⟨v, H', os, bare', un, ok', rv, q⟩ =>
    have q' : v = .bl true := q
    subst q'
    cases (show u = Value.bool true from rv)
    have still : ∀ b o, s.heap.get? b = some o → s'.heap.get? b = some o ∨ ∃ p ∈ cs, b = p.2 ∧ ∃ more : Array Value, s'.heap.get? p.2 = some (PySem.W.tabObj more) := by
      intro b o e
      cases z : H b with
      | none => exact .inl (un.keep b o e z (by intro h; cases h) (by intro h; cases h))
      | some u =>
        rcases bare b u z with ⟨rfl, rfl⟩ | ⟨p, hp, rfl, rfl⟩
        · obtain ⟨e1, _⟩ := ok b _ z
          obtain ⟨e2, _⟩ := ok' b _ (un.frzs b _ _ z)
          rw [e] at e1
          cases e1
          exact .inl e2
        · obtain ⟨more, grown⟩ := un.tbls p.2 _ z
          exact .inr ⟨p, hp, rfl, _, ok' p.2 _ grown⟩
    refine ⟨rfl, ⟨fun b o e => ?_, fun b o e => ?_⟩, os, bare'⟩
    · rcases still b o e with k | ⟨p, hp, rfl, more, g⟩
      · exact .inl k
      · rw [tabs p hp] at e
        cases e
        refine .inr (.inl ⟨((heads p hp).tab (tabs p hp)).isCodeTable, rfl, #[], more, rfl, ?_⟩)
        rw [Array.empty_append]
        exact g
    · rcases still b o e with k | ⟨p, hp, rfl, more, g⟩
      · exact ⟨_, k⟩
      · exact ⟨_, g⟩
end
/-- the end of a law's row, with tables -/
theorem walkGT {l : PySem.W.OpenLaw} {n k : Nat} {q : Program} {loose : List Str} {XP : (Str → Option Value) → Heap → Prop} {YP : World → Heap → Prop} {d : DefRec} {K : Params → PySem.W.Frag} {x : Str}
    (most : l.most = some n) (small : n ≤ sizeLine) (nodef : d.params.defaults = []) (room : Room k callerA) (inK : ∀ (w : World) (h : Heap), YP w h → (K w.params).In h)
    (F : ∀ (w : World) (mg : Str → Option Value) (fa : Addr) (h : Heap), YP w h → (∀ (y : Str) (b : Addr), ((recsOf q).any fun e => e.name == y) = true → mg y = some (.ref b) → LamX.OwnTab (K w.params) b h) → (K w.params).In h → h.Ns mainGlobals mg → mg d.name = some (.ref fa) →
      ∃ (fd : FuncData) (cs : List (Addr × Addr)) (sp : Sp), (∀ p ∈ cs, h.get? p.2 = some (PySem.W.tabObj #[])) ∧ (∀ p ∈ cs, (K w.params).lookup p.2 = none) ∧ (∀ p ∈ cs, PySem.W.CodeHd h p.1 p.2) ∧ (∀ (s : Shared) (u : Value), BindsTo s fd ⟨[u], []⟩ [(x, u)]) ∧
        (∀ (H : Hp) (a : Addr) (ns : List Int), ns.length ≤ n → (∀ p ∈ cs, H p.2 = some (.tbl #[])) → SqL (K w.params) H a (ns.map V.int) → sp [.ref a] H (fun v _ => v = .bl true) fun _ _ _ => False) ∧
        ∀ base : Heap, (K w.params).In base → base.Ns mainGlobals mg → (∀ p ∈ cs, LamX.TabB base mg p.1 p.2) → FnG l.prog w (K w.params) mg base CX0 k fa fd [x] sp) :
    PySem.W.WalkO q loose XP YP l.row.toRowW d [] (fun f vs => PySem.call f vs) := by
  refine Att.attach_call most nodef fun w s₀ s mg mb fa o pm cd doc a vs ns G Y ho hd hcd hmg script hints len gens => ?_
  have kin := inK w _ Y
  have own : ∀ (y : Str) (b : Addr), ((recsOf q).any fun e => e.name == y) = true → mg y = some (.ref b) → LamX.OwnTab (K w.params) b s.heap := by
    intro y b hy hb c P o1 fd1 e dd vs1 sl k1 k2 k3 k4 k5
    obtain ⟨dL, hm, hn1⟩ := List.any_eq_true.mp hy
    have hn2 : dL.name = y := beq_iff_eq.mp hn1
    obtain ⟨a', o', fd', c', P', h1, h2, h3, h4, h5, h6⟩ := G.T.tab dL hm
    rw [hn2, hb] at h1
    cases h1
    have g1 := kin _ _ k1
    rw [g1] at h2
    cases h2
    rw [k2] at h3
    cases h3
    rw [k3] at h4
    cases h4
    obtain ⟨⟨oc, vc, e1, _, e3, e4⟩, hP⟩ := h6
    have g2 := kin _ _ k4
    rw [g2] at e1
    cases e1
    cases e3
    rw [k5] at e4
    cases e4
    exact hP
  obtain ⟨fd, cs, sp, tabs, offT, heads, bind, want, hF⟩ := F w mg fa _ Y own kin G.T.g hmg
  have rel : Vals (ns.map V.int) vs := vals_ints hints
  have small' : (ns.map V.int).length ≤ sizeLine := by rw [List.length_map]; exact Nat.le_trans len small
  have small2 : vs.toArray.size ≤ sizeLine := by rw [List.size_toArray, ← rel.length]; exact small'
  have aT : ∀ p ∈ cs, p.2 ≠ a := by
    rintro p hp rfl
    have e := tabs p hp
    rw [script] at e
    cases e
  let T : Hp := fun b => if b ∈ cs.map (·.2) then some (.tbl #[]) else none
  have inT : ∀ p ∈ cs, T p.2 = some (.tbl #[]) := fun p hp => if_pos (List.mem_map_of_mem hp)
  have ofT : ∀ b u, T b = some u → ∃ p ∈ cs, b = p.2 ∧ u = .tbl #[] := by
    intro b u e
    by_cases c : b ∈ cs.map (·.2)
    · obtain ⟨p, hp, rfl⟩ := List.mem_map.mp c
      rw [inT p hp] at e
      cases e
      exact ⟨p, hp, rfl, rfl⟩
    · rw [show T b = none from if_neg c] at e
      cases e
  have Ta : T a = none := by
    refine if_neg fun c => ?_
    obtain ⟨p, hp, e⟩ := List.mem_map.mp c
    exact aT p hp e
  cases known : K w.params |>.lookup a with
  | some o' =>
    have e := kin a o' known
    rw [script] at e
    cases e
    refine from_callerT (ns := ns) (H := T) kin G.T.g G.T.b G.T.builtins G.T.nolimit gens tabs offT heads G.T.bmain script room hF bind (fun b u z => .inr (ofT b u z)) inT ?_ (fun z => (z Ta).elim) ?_
    · intro b u z
      obtain ⟨p, hp, rfl, rfl⟩ := ofT b u z
      exact tabs p hp
    · exact want _ a ns len inT (.inr ⟨_, vs.toArray, _, known, rfl, rfl, rfl, small2, by simpa using rel⟩)
  | none =>
    refine from_callerT (ns := ns) (H := upd T a (.frz (scr vs) (.lst (ns.map V.int)))) kin G.T.g G.T.b G.T.builtins G.T.nolimit gens tabs offT heads G.T.bmain script room hF bind ?_ ?_ ?_ (fun _ => known) ?_
    · intro b u z
      by_cases c : b = a
      · subst c
        rw [upd_same] at z
        exact .inl ⟨rfl, (Option.some.inj z).symm⟩
      · rw [upd_ne c] at z
        exact .inr (ofT b u z)
    · exact fun p hp => (upd_ne (aT p hp)).trans (inT p hp)
    · intro b u z
      by_cases c : b = a
      · subst c
        rw [upd_same] at z
        cases z
        exact ⟨script, small', vs, _, rel, script⟩
      · rw [upd_ne c] at z
        obtain ⟨p, hp, rfl, rfl⟩ := ofT b u z
        exact tabs p hp
    · exact want _ a ns len (fun p hp => (upd_ne (aT p hp)).trans (inT p hp)) (.inl (.inr ⟨_, upd_same⟩))
end Gu
namespace Gu
open PySem PySem.Spec PyProof.Rows L2
section
variable {P : Program} {w : World} {K : PySem.W.Frag} {mg : Str → Option Value} {base : Heap} {k : Nat} {f : Addr} {N ps : List Str} {sp : Sp}
/-- a def as the text writes it, its code object known -/
structure Def (K : PySem.W.Frag) (x qual : Str) (st : Stmt) (f : Addr) (fd : FuncData) (cd : Value) : Prop where
  ex : ∃ (oc : Value) (od : Option Addr) (kV doc pm : Value) (an : Option Addr) (ct : Value) (osl : Array (Option Value)), fd = PySem.W.fnOf x qual (defArgs st) (defBody st) (defScope st) .none kV doc pm an cd ct ∧ K.lookup f = some ⟨oc, od, .func fd, osl⟩ ∧ PySem.W.codeIn K cd qual = true
/-- a def by its body, where nothing is guarded and nothing let out; the body may speak of its code object -/
theorem okGl {x qual : Str} {st : Stmt} {fd : FuncData} {cd : Value} (F : Def K x qual st f fd cd) (S : FnScope N ps (defScope st)) (len : ∀ vs H Q E, sp vs H Q E → vs.length = ps.length)
    (body : ∀ (A : Around) (out : List Env) (s : Shared) (H : Hp) (vs : List V) (Q : VK) (E : XK), A.guards = some [] → Room k (A.deeper (envOfC qual (defScope st) s.heap.objs.size f cd)) → sp vs H Q E →
      ∃ t, PSs (cxOf CX0 P w K mg base N qual (defScope st) f cd A out s H E).nox (defBody st) t ∧ t { nx := fun _ H' => Q .non H', rt := Q } (start N vs) H) : FnG P w K mg base CX0 (k + 1) f fd ps sp := by
  obtain ⟨oc, od, kV, doc, pm, an, ct, osl, rfl, at_, code⟩ := F.ex
  refine ⟨len, fun A out s H args us vs Q E room free e0 bind rel want => ?_⟩
  obtain ⟨t, run, go⟩ := body A out s H vs Q E free (room.deeper _) want
  exact LamX.run_ofS at_ code S room e0 bind rel (len _ _ _ _ want) fun _ => ⟨t, run.nox, go⟩
end
end Gu
namespace Am
open PySem PySem.Spec PyProof.Rows L2
abbrev sCaught : Stmt := sL_caught
/-- a wish about exceptions may count on the number of slots -/
theorem takes_len {X : Cx} {W : WX} (tk : Takes X W) : Takes X (fun cls d σ H => σ.length = X.N.length → W cls d σ H) := by
  rintro u z ⟨a, B, g, pins, τ, G, cls, d, rfl, I, ground, up, sky, na, os, ag, told⟩
  exact tk _ _ ⟨a, B, g, pins, τ, G, cls, d, rfl, I, ground, up, sky, na, os, ag, told I.len⟩
/-- what the def makes of a call that may raise an error of the class M: the error, or None -/
def TTc (K : PySem.W.Frag) (M : Addr) : (XK → Hp → VK → Prop) → Hp → VK → Prop := fun tl H Q => ∀ R : VK, (∀ v H', Q .non H' → R v H') →
  tl (fun cls d H' => ∃ b, PySem.W.exmOne K cls (.ref M) = some b ∧ (b = true → ∀ e, H' e = none → Q (.ref e) (upd H' e (Kt.EO e cls d))) ∧ (b = false → False)) H R
theorem scCaught : FnScope ["_law_look", "_law_caught_here", "error"] ["_law_look"] (defScope sCaught) := ⟨rfl, rfl, rfl, by decide +kernel, rfl, by decide +kernel, by decide +kernel⟩
theorem caught_gives {X : Cx} {g M : Addr} {cdg : Value} {q : Str} (hme : X.mg "MeterError" = some (.ref M)) :
    LamX.GivesTo X ["_law_look", "_law_caught_here", "error"] "_law_caught" (defScope sCaught) g cdg (defBody sCaught) "_law_look" q (TTc X.K M) := by
  intro f c' s H Q tl act hc h
  refine ⟨_, pss_cons (ps_set (i := 1) scCaught.nd rfl (.inl rfl) pe_non)
    (pss_cons (Kt.ps_try_keep (X := (cxOf C8.CX0 X.prog X.w X.K X.mg X.base ["_law_look", "_law_caught_here", "error"] "_law_caught" (defScope sCaught) g cdg X.A X.stack s H C8.E0).nox) (i := 2) (c := .ref M) (Wout := fun _ _ _ _ => False)
      (tb := fun W D σ H => ∃ Ech : XK, (∀ cls d (σ' : L2.St) H', Ech cls d H' → σ'.length = 3 → W cls d σ' H') ∧ σ[0]? = some (some (.ref f)) ∧ H c' = some (LamX.CodeO c' q) ∧ tl Ech H fun _ H1 => D.nx σ H1)
      (ts := tAsg (tVar 2) (gName 1))
      rfl rfl rfl scCaught.nd rfl rfl ⟨by rfl, by decide, .inl hme⟩ LamX.takes0 (fun W pn xe tk _ => ?_) (fun a pn => pss_one (ps_set (i := 1) scCaught.nd rfl (.inl rfl) (pv 2))))
    (pss_one (ps_ret (pv 1)))), ?_⟩
  · refine pss_one ⟨fun pins z σ G D I want => ?_⟩
    obtain ⟨Ech, each, h0, h1, told⟩ := want
    exact (ps_expr (act _ pn xe Ech _ _ (takes_len tk) each)).run pins z σ G D I ⟨h0, h1, told⟩
  · refine ⟨_, ?_, rfl, hc, h _ fun _ H' hq => ⟨_, rfl, hq⟩⟩
    rintro cls d σ' H' ⟨b, e1, yes, no⟩ len
    refine ⟨b, e1, fun hb e ne => ?_, no⟩
    match σ', len with
    | [x, y, z], _ => exact ⟨_, rfl, _, rfl, yes hb e ne⟩
/-- isinstance of a kept exception with an own dict -/
def rIsiE (K : PySem.W.Frag) (D : Addr) : List V → Hp → VK → Prop := fun xs H Q => ∃ (e dd : Addr) (fs : List (Str × V)) (c : V) (cv : Value) (b : Bool), xs = [.ref e, c] ∧ H e = some (Kt.EO e (.ref D) (some dd)) ∧ H dd = some (.xd fs) ∧ ClsV c cv ∧ PySem.W.kitOne K (.ref D) cv = some b ∧ Q (.bl b) H
structure ErrC (K : PySem.W.Frag) (D : Addr) : Prop where
  ic : PySem.W.isClsIn K D = true
  ca : PySem.W.findIn K (.ref D) "__class__" = some (some (.builtin "object.__class__"))
  cn : PySem.W.specialIn K (.builtin "object.__class__") "__get__" = some (some (.builtin "getset_descriptor.__get__"))
  ct : PySem.W.takesIn K (.builtin "object.__class__") = some true
  ob : PySem.W.mroIn K D (.type "object") = some true
theorem call_isiE {X : Cx} {D : Addr} (T : XfC X.K D) (E : ErrC X.K D) : CallR X (.builtin "isinstance") (rIsiE X.K D) := by
  intro pins z τ G xs us Q I rel want
  obtain ⟨e, dd, fs, c, cv, b, rfl, he, hd, cls, kit, q⟩ := want
  obtain ⟨u1, u2, rfl, r1, r2⟩ := vals2 rel
  cases (show u1 = Value.ref e from r1)
  obtain rfl := cls.eq r2
  obtain ⟨oe, vs, at_, zc, rec⟩ := Kt.eo_at I.hok he
  obtain ⟨m, space, _⟩ := (show ObjOk X.prog X.w G z.heap dd (.xd fs) from I.hok dd _ hd)
  obtain ⟨od, od_at, _⟩ := lookIn_ns space
  have inst : PySem.W.InstAt z.heap e oe D (some od) := by
    refine ⟨at_, zc.1, ?_, ?_⟩
    · unfold PySem.W.notCls
      rw [rec] <;> rfl
    · rw [zc.2]
      exact od_at
  exact PySem.W.kia_one (PySem.W.kitx_exc (od := some od) E.ic T.ga T.gg T.exC E.ca E.cn E.ct E.ob) I.kIn inst kit (fun y => nomatch y) fun tk => ⟨.bl b, G, I.tok tk, rfl, q⟩
/-- all but the jar at p and the tables stands -/
def ChT (p : Addr) (H H' : Hp) : Prop := ∀ b u, H b = some u → b ≠ p → (∀ ps, u ≠ .tbl ps) → H' b = some u
theorem ChT.refl (p : Addr) (H : Hp) : ChT p H H := fun _ _ e _ _ => e
theorem ChT.trans {p : Addr} {H H1 H2 : Hp} (a : ChT p H H1) (b : ChT p H1 H2) : ChT p H H2 := fun c u e n t => b c u (a c u e n t) n t
theorem ChT.chg {p : Addr} {H H' : Hp} (e : Chg p H H') : ChT p H H' := fun b u h n _ => e b u h n
theorem ChT.ext {p : Addr} {H H' : Hp} (e : LamX.ExtN H H') : ChT p H H' := fun b u h _ t => e b u h t
theorem ChT.of {p : Addr} {H H' : Hp} (e : Same H H') : ChT p H H' := fun b u h _ _ => e b u h
theorem tabs_chg {T : List (Addr × Str)} {p : Addr} {N : Int} {H H' : Hp} (j : JarAt H p N) (c : Chg p H H') (t : LamX.Tabs T H) : LamX.Tabs T H' := by
  intro q hq
  obtain ⟨ps, h1, h2, h3⟩ := t q hq
  obtain ⟨_, _, _, hp, _⟩ := j
  refine ⟨ps, c _ _ h1 (ne_of h1 hp (by intro z; cases z)), h2, fun pos cv hc => ?_⟩
  obtain ⟨cc, e1, e2⟩ := h3 pos cv hc
  exact ⟨cc, e1, c _ _ e2 (ne_of e2 hp (by intro z; unfold LamX.CodeO at z; cases z))⟩
theorem jar_ext {p : Addr} {N : Int} {H H' : Hp} (e : LamX.ExtN H H') (j : JarAt H p N) : JarAt H' p N := by
  obtain ⟨o, m, c, h, r⟩ := j
  exact ⟨o, m, c, e _ _ h (fun _ z => by cases z), r⟩
/-- the def that calls what it is handed -/
structure GotC (K : PySem.W.Frag) (mg : Str → Option Value) (M : Addr) (g : Addr) (oc : Value) (od : Option Addr) (kV doc pm : Value) (an : Option Addr) (cd ct : Value) (osl : Array (Option Value)) : Prop where
  mg_ : mg "_law_caught" = some (.ref g)
  kp : PySem.W.keepIn K (.ref g) = true
  lk : K.lookup g = some ⟨oc, od, .func (PySem.W.fnOf "_law_caught" "_law_caught" (defArgs sCaught) (defBody sCaught) (defScope sCaught) .none kV doc pm an cd ct), osl⟩
  co : PySem.W.codeIn K cd "_law_caught" = true
  bd : Binds K (PySem.W.fnOf "_law_caught" "_law_caught" (defArgs sCaught) (defBody sCaught) (defScope sCaught) .none kV doc pm an cd ct) ["_law_look"] []
  me : mg "MeterError" = some (.ref M)
end Am
/-! lambdas as values: made, kept in lists, handed to a def by name -/
namespace Lv
open PySem PySem.Spec PyProof.Rows L2 LamX
/-- the name that the code object of a lambda of this context bears -/
abbrev lq (X : Cx) : Str := X.env.qual ++ ("<lambda>" : Str)
/-- the function object at f is a lambda that the context X made; called, it does what t tells -/
def LamO (X : Cx) (k : Nat) (t : XK → TE) (f c' : Addr) : HO := .ext fun h =>
  ∃ (ar : Arguments) (bd : Expr) (sc : Scope) (pm ctv : Value), h.get? f = some (PySem.W.kla_obj "<lambda>" (lq X) ar bd sc (cloFrom X.env.cells sc.names []) pm c' ctv) ∧ LamS X.env.scope sc ∧
    bindArgs (PySem.W.kla_fn "<lambda>" (lq X) ar bd sc (cloFrom X.env.cells sc.names []) pm (.ref c') ctv) ⟨[], []⟩ = pure [] ∧
    ∀ (A : Around) (out : List Env) (z : Shared) (G : Hp) (E : XK), Room k (A.deeper (lamEnv X sc z.heap.objs.size f c')) → PE (lamCx X A out z G E sc f c') bd (t E)
theorem lamO_ne {X : Cx} {k : Nat} {t : XK → TE} {f c' : Addr} {o : HO} (h : ∀ p, o ≠ .ext p) : LamO X k t f c' ≠ o := fun e => h _ e.symm
section
variable {X : Cx} {pins : List (Addr × Obj)} {σ : L2.St} {H : Hp} {s : Shared}
/-- a new function object becomes known -/
theorem lay {k : Nat} {t : XK → TE} {f c' : Addr} {G : Hp} {z : Shared} {sc : Scope} {ar : Arguments} {bd : Expr} {pm ctv : Value} (J : Inv X pins σ G z) (old : X.s_0.heap.objs.size ≤ f) (nl : X.env.locals < f) (np : ∀ p ∈ X.pn ++ pins, p.1 < f)
    (at_ : z.heap.get? f = some (PySem.W.kla_obj "<lambda>" (lq X) ar bd sc (cloFrom X.env.cells sc.names []) pm c' ctv)) (nf : G f = none) (L : LamS X.env.scope sc) (hb : bindArgs (PySem.W.kla_fn "<lambda>" (lq X) ar bd sc (cloFrom X.env.cells sc.names []) pm (.ref c') ctv) ⟨[], []⟩ = pure [])
    (run : ∀ (A : Around) (out : List Env) (z : Shared) (G : Hp) (E : XK), Room k (A.deeper (lamEnv X sc z.heap.objs.size f c')) → PE (lamCx X A out z G E sc f c') bd (t E)) : Inv X pins σ (upd G f (LamO X k t f c')) z := by
  refine Kt.track J nf ?_ (Nat.ne_of_gt nl) (fun p hp => Nat.ne_of_lt (np p hp)) (fun v ⟨o, ho, hd⟩ => ?_) ⟨⟨ar, bd, sc, pm, ctv, at_, L, hb, run⟩, ⟨_, at_⟩, fun _ _ ⟨a1, a2, a3, a4, a5, b1, b2⟩ st => ⟨a1, a2, a3, a4, a5, st _ b1, b2⟩⟩
  · cases e : X.s_0.heap.get? f with
    | none => rfl
    | some o => exact absurd (Heap.lt_size e) (Nat.not_lt_of_le old)
  · rw [at_] at ho
    cases ho
    cases hd
/-- a lambda's reading as a value -/
def tLamV (X : Cx) (T : List (Addr × Str)) (k : Nat) (t : XK → TE) : TE := fun _ H Q => Tabs T H ∧ ∀ (f c' : Addr) (G : Hp), ExtN H G → Tabs T G → H f = none → G f = some (LamO X k t f c') → G c' = some (CodeO c' (lq X)) → Q (.ref f) G
theorem ext_put {H G : Hp} {f : Addr} {o : HO} (e : ExtN H G) (n : H f = none) : ExtN H (upd G f o) := fun b u h t => by
  have ne : b ≠ f := ne_of_none h n
  rw [upd_ne ne]
  exact e b u h t
theorem pe_lamV {T : List (Addr × Str)} {c P : Addr} {k : Nat} {ar : Arguments} {bd : Expr} {sc : Scope} {pos : Pos} {t : XK → TE} (TB : TabB X.base X.mg c P) (hcode : X.env.code = .ref c) (hm : (P, lq X) ∈ T) (hu : ∀ p ∈ T, p.1 = P → p.2 = lq X) (L : LamS X.env.scope sc)
    (hdef : defaultsOf ar X.env = ([], [])) (hb : ∀ (cl : List (Str × Addr)) (pm cv ctv : Value), bindArgs (PySem.W.kla_fn "<lambda>" (lq X) ar bd sc cl pm cv ctv) ⟨[], []⟩ = pure [])
    (run : ∀ (A : Around) (out : List Env) (z : Shared) (G : Hp) (E : XK) (f c' : Addr), Room k (A.deeper (lamEnv X sc z.heap.objs.size f c')) → PE (lamCx X A out z G E sc f c') bd (t E)) : PE X (.Lambda ar bd sc pos) (tLamV X T k t) := by
  constructor
  intro pins z τ G Q J want
  obtain ⟨tabs, want⟩ := want
  obtain ⟨tb, atP, tri, among⟩ := tabs _ hm
  have bAt : z.heap.BuiltinsAt X.mg P := TB.bm.keeps J.bk
  have gotP : z.heap.get? P = some { cls := .none, data := .fields tb } := J.hok P _ atP
  have free := L.has J.ok
  have before : ∀ p ∈ X.pn ++ pins, p.1 < z.heap.objs.size := fun p hp => Heap.lt_size (J.pin p hp).1
  refine PySem.W.kla_eval hdef ?_
  cases found : codeAmong pos tb.toList with
  | some cv =>
    obtain ⟨c', rfl, atC⟩ := among pos cv found
    refine PySem.W.kla_makeFunctionHit (mg := X.mg) (c := c) (P := P) (ps := tb) (closure_ok free) J.ok.glob (J.mod.glob.keeps J.bk) hcode (TB.code.keeps J.bk) gotP tri found bAt ?_
    intro ctv h2 tok grow bigger
    have J2 : Inv X pins τ G { z with heap := h2.push (PySem.W.kla_obj "<lambda>" (lq X) ar bd sc (cloFrom X.env.cells sc.names []) ((X.mg "__name__").getD .none) c' ctv), toks := tok } := J.kept fun b o e => Heap.get?_push_of_some _ (grow b o e)
    have nf : G h2.objs.size = none := J.hok.fresh bigger
    exact ⟨.ref h2.objs.size, _, lay (k := k) (t := t) J2 (Nat.le_trans J.sz bigger) (Nat.lt_of_lt_of_le J.lt bigger) (fun p hp => Nat.lt_of_lt_of_le (before p hp) bigger) (Heap.get?_push_size _ rfl) nf L (hb _ _ _ _) (fun A out z G E => run A out z G E _ c'), rfl,
      want _ c' _ (ext_put (ExtN.refl G) nf) (tabs.ext (Am.same_upd nf)) nf upd_same ((upd_ne (ne_of_none atC nf)).trans atC)⟩
  | none =>
    refine PySem.W.kla_makeFunction (mg := X.mg) (c := c) (P := P) (ps := tb) (closure_ok free) J.ok.glob (J.mod.glob.keeps J.bk) hcode (TB.code.keeps J.bk) gotP tri found TB.gP bAt ?_
    intro c' ctv h2 tok but lo hi rec tabAt
    obtain ⟨c2, oc, vs, w, same, h1, h3, h4⟩ := rec
    cases same
    have bigger : z.heap.objs.size ≤ h2.objs.size := Nat.le_of_lt (Nat.lt_of_le_of_lt lo hi)
    have nC : G c' = none := J.hok.fresh lo
    have nf0 : G h2.objs.size = none := J.hok.fresh bigger
    have J1 := inv_table (q := lq X) (t' := tok) (more := #[rawInt pos.line, rawInt pos.col, .ref c']) (h' := h2.push (PySem.W.kla_obj "<lambda>" (lq X) ar bd sc (cloFrom X.env.cells sc.names []) ((X.mg "__name__").getD .none) c' ctv)) J atP
      (fun b o hb e => Heap.get?_push_of_some _ (but b o hb e)) (Heap.get?_push_of_some _ tabAt) lo ⟨oc, vs, w, Heap.get?_push_of_some _ h1, h3, h4⟩
    have ext : ExtN G (upd (upd G P (.tbl (tb ++ #[rawInt pos.line, rawInt pos.col, .ref c']))) c' (CodeO c' (lq X))) := fun b o e no => by
      have b1 : b ≠ P := fun y => no tb (Option.some.inj ((y ▸ e).symm.trans atP))
      rw [upd_ne (ne_of_none e nC), upd_ne b1]
      exact e
    have lists : (tb ++ #[rawInt pos.line, rawInt pos.col, .ref c']).toList = tb.toList ++ [rawInt pos.line, rawInt pos.col, .ref c'] := by simp
    have tabs2 : Tabs T (upd (upd G P (.tbl (tb ++ #[rawInt pos.line, rawInt pos.col, .ref c']))) c' (CodeO c' (lq X))) := by
      intro p hp
      by_cases own : p.1 = P
      · rw [hu p hp own, own]
        refine ⟨_, (upd_ne (ne_of_none atP nC)).trans upd_same, lists ▸ PySem.TriplesOk_snoc _ _ _ _ tri, fun p' cv e => ?_⟩
        rw [lists] at e
        rcases among_app _ tri e with e | e
        · obtain ⟨c0, i1, i2⟩ := among p' cv e
          exact ⟨c0, i1, ext _ _ i2 codeO_ne⟩
        · exact ⟨c', e, upd_same⟩
      · obtain ⟨tb2, i1, i2, i3⟩ := tabs p hp
        refine ⟨tb2, (upd_ne (ne_of_none i1 nC)).trans ((upd_ne own).trans i1), i2, fun p' cv e => ?_⟩
        obtain ⟨c0, k1, k2⟩ := i3 p' cv e
        exact ⟨c0, k1, ext _ _ k2 codeO_ne⟩
    have n1 : h2.objs.size ≠ c' := Nat.ne_of_gt hi
    have n2 : h2.objs.size ≠ P := Nat.ne_of_gt (Nat.lt_of_lt_of_le (Heap.lt_size gotP) bigger)
    have nf : upd (upd G P (.tbl (tb ++ #[rawInt pos.line, rawInt pos.col, .ref c']))) c' (CodeO c' (lq X)) h2.objs.size = none := by
      rw [upd_ne n1, upd_ne n2]
      exact nf0
    exact ⟨.ref h2.objs.size, _, lay (k := k) (t := t) J1 (Nat.le_trans J.sz bigger) (Nat.lt_of_lt_of_le J.lt bigger) (fun p hp => Nat.lt_of_lt_of_le (before p hp) bigger) (Heap.get?_push_size _ rfl) nf L (hb _ _ _ _) (fun A out z G E => run A out z G E _ c'), rfl,
      want _ c' _ (ext_put ext nf0) (tabs2.ext (Am.same_upd nf)) nf0 upd_same ((upd_ne n1.symm).trans upd_same)⟩
/-- x(), in the def that was handed such a lambda -/
theorem pe_actV {CXg : CXT} {Eg : XK} {Ng : List Str} {qg : Str} {sg : Scope} {g f c' : Addr} {cdg : Value} {k i : Nat} {a : Str} {pn : List (Addr × Obj)} {xe : Value → Shared → Prop} {W : WX} {E : XK} {t : XK → TE} {p1 p2 : Pos}
    (I : Inv X pins σ H s) (hf : H f = some (LamO X k t f c')) (take : Takes ((cxOf CXg X.prog X.w X.K X.mg X.base Ng qg sg g cdg X.A X.stack s H Eg).tr pn xe) W) (sub : ∀ cls d σ' H', E cls d H' → W cls d σ' H') (hr : Room (k + 1) (X.A.deeper (envOfC qg sg s.heap.objs.size g cdg)))
    (hN : Ng[i]? = some a) (hv : Vis sg a) (hd : (a == ("__debug__" : Str)) = false := by decide) (hcd : (a == ("__classdict__" : Str)) = false := by decide) :
    PE ((cxOf CXg X.prog X.w X.K X.mg X.base Ng qg sg g cdg X.A X.stack s H Eg).tr pn xe) (.Call (.Name a p1) [] [] p2)
      (fun τ G Q => τ[i]? = some (some (.ref f)) ∧ G f = some (LamO X k t f c') ∧ G c' = some (CodeO c' (lq X)) ∧ t E σ G Q) := by
  constructor
  intro pz z τ G Q J want
  obtain ⟨atI, atF, atC, told⟩ := want
  refine wpAny_Call_Name_kw (thn ((pe_var (pos := p1) (i := i) hN hv hd hcd).run pz z τ G (fun v G1 => v = .ref f ∧ G1 = G) J ⟨.ref f, atI, rfl, rfl⟩) ?_)
  rintro u z1 ⟨v, G1, J1, rel, rfl, rfl⟩
  obtain rfl : u = Value.ref f := rel
  obtain ⟨⟨ar, bd, sc, pm, ctv, of1, L, bound, run⟩, _, _⟩ := J1.hok f _ atF
  obtain ⟨⟨oc, vs, w0, o1, o2, o3⟩, _, _⟩ := J1.hok c' _ atC
  refine PySem.W.callWith_F0 ⟨_, _, _, _, of1⟩ ?_
  have un : Un (frs X.stack) [] H G1 s.heap z1.heap := J1.base
  have rc : codeAny (model X.prog X.w) (X.A.deeper (envOfC qg sg s.heap.objs.size g cdg)) (.call (.ref f) ⟨[], []⟩) (CR (L2.CX X.prog X.w) (envOfC qg sg s.heap.objs.size g cdg :: X.stack) X.prog X.w G1 z1 Q E) z1 := by
    refine PySem.W.kla_callFunE hr.depth of1 rfl L.co L.gen rfl ⟨c', oc, vs, w0, rfl, o1, o2, o3⟩ ?_
    rw [bound]
    refine wpAny_pure (wpAny_newFunctionEnv (fun y hy => (L.own y hy).2) (fun y hy => absurd hy (by simp)) (fun h1 ns sb => ⟨J1.nolimit.fresh _ sb, ?_⟩) L.kind)
    have kept : ∀ b o, z1.heap.get? b = some o → h1.get? b = some o := fun b o e => sb.extBut b o (Nat.ne_of_lt (Heap.lt_size e)) (Heap.get?_push_of_some _ e)
    have J2 : Inv (lamCx X (X.A.deeper (envOfC qg sg s.heap.objs.size g cdg)) (envOfC qg sg s.heap.objs.size g cdg :: X.stack) z1 G1 E sc f c') [] σ G1 { z1 with heap := h1, toks := z1.toks + ([] : List (Str × Value)).length } :=
      lam_start2 I L J1.env0 hr.hd un ns kept
    show codeAny _ _ (.expr bd (lamEnv X sc z1.heap.objs.size f c')) _ _
    refine PySem.W.kla_codeExpr (wpAny_mono ((run _ _ z1 G1 E (hr.deeper _)).run [] _ _ G1 Q J2 told) ?_ fun e s' q => q)
    rintro v s' ⟨w', G', J', rv, q⟩
    exact ⟨w', G', J'.os, J'.bare, J'.base, J'.hok, rv, q⟩
  have pass : Passes (L2.CX X.prog X.w) ((cxOf CXg X.prog X.w X.K X.mg X.base Ng qg sg g cdg X.A X.stack s H Eg).tr pn xe) E := passes_call take sub
  refine wpAny_call (codeAny_mono rc ?_)
  rintro (e | fl) s' q
  · exact pass pz τ G1 z1 e s' J1 q
  · match fl, q with
    | .ret u, q => exact J1.after q
/-- what a def that calls the lambda it is handed makes of it -/
def GivesV (X : Cx) (Ng : List Str) (x : Str) (sg : Scope) (g : Addr) (cdg : Value) (bg : List Stmt) (a : Str) (TT : (XK → Hp → VK → Prop) → Hp → VK → Prop) : Prop :=
  ∀ (f c' : Addr) (k : Nat) (t : XK → TE) (s : Shared) (σ : L2.St) (H : Hp) (Q : VK),
    (∀ (W : WX) (pn : List (Addr × Obj)) (xe : Value → Shared → Prop) (E : XK) (p1 p2 : Pos), Takes ((cxOf C8.CX0 X.prog X.w X.K X.mg X.base Ng x sg g cdg X.A X.stack s H C8.E0).tr pn xe) W → (∀ cls d σ' H', E cls d H' → W cls d σ' H') →
      PE ((cxOf C8.CX0 X.prog X.w X.K X.mg X.base Ng x sg g cdg X.A X.stack s H C8.E0).tr pn xe) (.Call (.Name a p1) [] [] p2) (fun τ G Q => τ[0]? = some (some (.ref f)) ∧ G f = some (LamO X k t f c') ∧ G c' = some (CodeO c' (lq X)) ∧ t E σ G Q)) →
    H f = some (LamO X k t f c') → H c' = some (CodeO c' (lq X)) → TT (fun E G Q' => t E σ G Q') H Q →
    ∃ r, PSs (cxOf C8.CX0 X.prog X.w X.K X.mg X.base Ng x sg g cdg X.A X.stack s H C8.E0).nox bg r ∧ r { nx := fun _ H' => Q .non H', rt := Q } (L2.start Ng [.ref f]) H
def tLamC (X : Cx) (k : Nat) (TT : (XK → Hp → VK → Prop) → Hp → VK → Prop) (i : Nat) : TE := fun σ H Q => ∃ (f c' : Addr) (t : XK → TE), σ[i]? = some (some (.ref f)) ∧ H f = some (LamO X k t f c') ∧ H c' = some (CodeO c' (lq X)) ∧ TT (fun E G Q' => t E σ G Q') H Q
/-- x(y), where y stands for a lambda of this context -/
theorem pe_lamcallV {TT : (XK → Hp → VK → Prop) → Hp → VK → Prop} {x a y : Str} {g : Addr} {k i : Nat} {pg : Arguments} {bg : List Stmt} {sg : Scope} {dV kV doc pm cdv ct oc : Value} {an od : Option Addr} {osl : Array (Option Value)} {Ng : List Str} {p yp pos : Pos}
    (hg : Gl X x) (hm : X.mg x = some (.ref g)) (hk : PySem.W.keepIn X.K (.ref g) = true) (lk : X.K.lookup g = some ⟨oc, od, .func (PySem.W.fnOf x x pg bg sg dV kV doc pm an cdv ct), osl⟩) (hcg : PySem.W.codeIn X.K cdv x = true)
    (hb : L2.Binds X.K (PySem.W.fnOf x x pg bg sg dV kV doc pm an cdv ct) [a] []) (Sg : FnScope Ng [a] sg) (hNg : Ng[0]? = some a) (hva : Vis sg a) (hG : GivesV X Ng x sg g cdv bg a TT) (hr : Room (k + 2) X.A)
    (hN : X.N[i]? = some y) (hv : Vis X.env.scope y) (h1 : (y == ("__debug__" : Str)) = false := by decide) (h2 : (y == ("__classdict__" : Str)) = false := by decide) (hdb : (x == ("__debug__" : Str)) = false := by decide) (hd : (a == ("__debug__" : Str)) = false := by decide) (hcd : (a == ("__classdict__" : Str)) = false := by decide) :
    PE X (.Call (.Name x p) [.Name y yp] [] pos) (tLamC X k TT i) := by
  constructor
  intro pz z τ G Q J want
  obtain ⟨f, c', t, atI, atF, atC, told⟩ := want
  refine wpAny_Call_Name_kw (ld_glob J hg hm ?_ hdb)
  refine PySem.W.callWith_K (h₀ := X.base) J.ok.mod.kin hk ?_ (by rfl) (by rfl)
  show wpAny _ _ (spliced ((false, eval (.Name y yp) X.env) :: backTo pos (starEach [] X.env))) _ _ z
  refine Calls.spliced_cons (wpAny_mono ((pe_var (pos := yp) (i := i) hN hv h1 h2).run pz z τ G (fun v G1 => v = .ref f ∧ G1 = G) J ⟨.ref f, atI, rfl, rfl⟩) ?_ fun _ _ q => q)
  rintro u z1 ⟨v, G1, J1, rel, rfl, rfl⟩
  obtain rfl : u = Value.ref f := rel
  refine Calls.spliced_nil ⟨J1.kIn, ?_⟩
  have rc : codeAny (model X.prog X.w) X.A (.call (.ref g) ⟨[.ref f], []⟩) (CR C8.CX0 X.stack X.prog X.w G1 z1 Q C8.E0) z1 := by
    refine run_ofS (N := Ng) (ps := [a]) (us := [.ref f]) (vs := [.ref f]) lk hcg Sg hr J1.env0 (hb z1 [.ref f] J1.kIn rfl) (.cons rfl .nil) rfl fun room => ?_
    obtain ⟨r, run, q⟩ := hG f c' k t z1 τ G1 Q (fun W pn xe E p1 p2 take sub => pe_actV (i := 0) J1 atF take sub room hNg hva hd hcd) atF atC told
    exact ⟨r, run.nox, q⟩
  refine wpAny_call (codeAny_mono rc ?_)
  rintro (e | fl) s2 q
  · exact (show False from q).elim
  · match fl, q with
    | .ret u, q => exact J1.after q
/-- the law's def that catches: what it makes of the lambda -/
theorem caught_givesV {X : Cx} {g M : Addr} {cdg : Value} (hme : X.mg "MeterError" = some (.ref M)) : GivesV X ["_law_look", "_law_caught_here", "error"] "_law_caught" (defScope Am.sCaught) g cdg (defBody Am.sCaught) "_law_look" (Am.TTc X.K M) := by
  intro f c' k t s σ H Q act hf hc h
  refine ⟨_, pss_cons (ps_set (i := 1) Am.scCaught.nd rfl (.inl rfl) pe_non)
    (pss_cons (Kt.ps_try_keep (X := (cxOf C8.CX0 X.prog X.w X.K X.mg X.base ["_law_look", "_law_caught_here", "error"] "_law_caught" (defScope Am.sCaught) g cdg X.A X.stack s H C8.E0).nox) (i := 2) (c := .ref M) (Wout := fun _ _ _ _ => False)
      (tb := fun W D τ G => ∃ Ech : XK, (∀ cls d (σ' : L2.St) H', Ech cls d H' → σ'.length = 3 → W cls d σ' H') ∧ τ[0]? = some (some (.ref f)) ∧ G f = some (LamO X k t f c') ∧ G c' = some (CodeO c' (lq X)) ∧ t Ech σ G fun _ G1 => D.nx τ G1)
      (ts := tAsg (tVar 2) (gName 1)) rfl rfl rfl Am.scCaught.nd rfl rfl ⟨by rfl, by decide, .inl hme⟩ LamX.takes0 (fun W pn xe tk _ => ?_) (fun a pn => pss_one (ps_set (i := 1) Am.scCaught.nd rfl (.inl rfl) (pv 2))))
    (pss_one (ps_ret (pv 1)))), ?_⟩
  · refine pss_one ⟨fun pins z τ G D I want => ?_⟩
    obtain ⟨Ech, each, h0, h1, h2, told⟩ := want
    exact (ps_expr (act _ pn xe Ech _ _ (Am.takes_len tk) each)).run pins z τ G D I ⟨h0, h1, h2, told⟩
  · refine ⟨_, ?_, rfl, hf, hc, h _ fun _ H' hq => ⟨_, rfl, hq⟩⟩
    rintro cls d σ' H' ⟨b, e1, yes, no⟩ len
    refine ⟨b, e1, fun hb e ne => ?_, no⟩
    match σ', len with
    | [x, y, z], _ => exact ⟨_, rfl, _, rfl, yes hb e ne⟩
end
end Lv
/-! what stays while the jar and the tables change -/
namespace Hs
open PySem PySem.Spec PyProof.Rows L2 Am Rv LamX
theorem cht_o {p b : Addr} {H H' : Hp} {N : Int} {o : HO} (j : JarAt H p N) (c : ChT p H H') (h : H b = some o) (no : ∀ xs, o ≠ .lst xs) (nt : ∀ ps, o ≠ .tbl ps) : H' b = some o := by
  obtain ⟨xs, hp⟩ := j.lst
  exact c b o h (fun e => by rw [e, hp] at h; exact no _ (Option.some.inj h).symm) nt
theorem HouseAt.cht {C p : Addr} {H H' : Hp} {h : Addr} {x : Str} {L : Lore} {N : Int} (k : HouseAt C H h x L) (j : JarAt H p N) (c : ChT p H H') : HouseAt C H' h x L := by
  obtain ⟨dx, a, b, cc, r, t, pp, rs, ts, ys, h1, h2, h3, h4, h5, h6, h7, h8, h9, h10⟩ := k
  have e : ∀ b o, H b = some o → (∀ xs, o ≠ .lst xs) → (∀ ps, o ≠ .tbl ps) → H' b = some o := fun b o h n t => cht_o j c h n t
  exact ⟨dx, a, b, cc, r, t, pp, rs, ts, ys, e _ _ h1 (fun _ z => by cases z) (fun _ z => by cases z), e _ _ h2 (fun _ z => by cases z) (fun _ z => by cases z), ⟨h3.1, fun i r y a b => e _ _ (h3.2 i r y a b) (fun _ z => by unfold plO at z; cases z) (fun _ z => by unfold plO at z; cases z)⟩, e _ _ h4 (fun _ z => by cases z) (fun _ z => by cases z), e _ _ h5 (fun _ z => by cases z) (fun _ z => by cases z), h6,
    e _ _ h7 (fun _ z => by cases z) (fun _ z => by cases z), e _ _ h8 (fun _ z => by cases z) (fun _ z => by cases z), ⟨h9.1, fun i r y a b => e _ _ (h9.2 i r y a b) (fun _ z => by cases z) (fun _ z => by cases z)⟩, e _ _ h10 (fun _ z => by cases z) (fun _ z => by cases z)⟩
theorem refs_nj {α : Type} {f : α → HO} {H : Hp} {l p : Addr} {xs : List α} {N : Int} (h : LstAt f H l xs) (j : JarAt H p N) : l ≠ p := fun e => by
  obtain ⟨rs, h, _⟩ := h
  obtain ⟨o, m, c, hp, _⟩ := j
  rw [e, hp] at h
  cases rs <;> cases h
theorem lst_cht {α : Type} {f : α → HO} {H H' : Hp} {l p : Addr} {xs : List α} {N : Int} (h : LstAt f H l xs) (j : JarAt H p N) (c : ChT p H H') (n1 : ∀ x ys, f x ≠ .lst ys) (n2 : ∀ x ps, f x ≠ .tbl ps) : LstAt f H' l xs := by
  have nl := refs_nj h j
  obtain ⟨rs, h, r1, r2⟩ := h
  exact ⟨rs, c _ _ h nl (fun _ z => by cases z), r1, fun i r x a b => cht_o j c (r2 i r x a b) (n1 x) (n2 x)⟩
theorem LoreAt.cht {p d : Addr} {H H' : Hp} {L : Lore} {N : Int} (k : LoreAt H d L) (j : JarAt H p N) (c : ChT p H H') : LoreAt H' d L := by
  obtain ⟨lp, ls, lt, h1, h2, h3, h4⟩ := k
  exact ⟨lp, ls, lt, cht_o j c h1 (fun _ z => by cases z) (fun _ z => by cases z), lst_cht h2 j c (fun x ys z => by unfold plO at z; cases z) (fun x ys z => by unfold plO at z; cases z), lst_cht h3 j c (fun x ys z => by unfold stO at z; cases z) (fun x ys z => by unfold stO at z; cases z),
    lst_cht h4 j c (fun x ys z => by unfold prO at z; cases z) (fun x ys z => by unfold prO at z; cases z)⟩
theorem Bad.cht {p : Addr} {no : PyData → Bool} {H H' : Hp} {v : V} {N : Int} (h : Bad p no H v) (j : JarAt H p N) (c : ChT p H H') : Bad p no H' v := by
  obtain ⟨d, a, b, e⟩ := h
  refine ⟨d, a.keep (fun b o h n t => c b o h n t) (fun o ho => ?_), b, e⟩
  obtain ⟨xs, hp⟩ := j.lst
  rw [hp] at ho
  cases ho
  exact ⟨_, rfl⟩
theorem tabs_put {T : List (Addr × Str)} {H : Hp} {l : Addr} {xs ys : List V} (t : Tabs T H) (hl : H l = some (.lst xs)) : Tabs T (upd H l (.lst ys)) := by
  intro q hq
  obtain ⟨ps, h1, h2, h3⟩ := t q hq
  refine ⟨ps, by rw [upd_ne (ne_of h1 hl (by intro z; cases z))]; exact h1, h2, fun pos cv hc => ?_⟩
  obtain ⟨c, e1, e2⟩ := h3 pos cv hc
  exact ⟨c, e1, by rw [upd_ne (ne_of e2 hl (by intro z; unfold CodeO at z; cases z))]; exact e2⟩
theorem jar_put {p l : Addr} {H : Hp} {o : HO} {N : Int} (j : JarAt H p N) (n : l ≠ p) : JarAt (upd H l o) p N := by
  obtain ⟨o, m, c, h, r⟩ := j
  exact ⟨o, m, c, by rw [upd_ne (Ne.symm n)]; exact h, r⟩
/-- lambdas and their code objects -/
structure LamAt (X : Cx) (k : Nat) (t : XK → TE) (H : Hp) (f c : Addr) : Prop where
  f : H f = some (Lv.LamO X k t f c)
  c : H c = some (CodeO c (Lv.lq X))
theorem LamAt.cht {X : Cx} {k : Nat} {t : XK → TE} {H H' : Hp} {p f c : Addr} {N : Int} (a : LamAt X k t H f c) (j : JarAt H p N) (r : ChT p H H') : LamAt X k t H' f c :=
  ⟨cht_o j r a.f (fun _ z => by unfold Lv.LamO at z; cases z) (fun _ z => by unfold Lv.LamO at z; cases z), cht_o j r a.c (fun _ z => by unfold CodeO at z; cases z) (fun _ z => by unfold CodeO at z; cases z)⟩
theorem LamAt.put {X : Cx} {k : Nat} {t : XK → TE} {H : Hp} {l f c : Addr} {xs ys : List V} (a : LamAt X k t H f c) (hl : H l = some (.lst xs)) : LamAt X k t (upd H l (.lst ys)) f c :=
  ⟨by rw [upd_ne (ne_of a.f hl (by intro z; unfold Lv.LamO at z; cases z))]; exact a.f, by rw [upd_ne (ne_of a.c hl (by intro z; unfold CodeO at z; cases z))]; exact a.c⟩
theorem LamAt.same {X : Cx} {k : Nat} {t : XK → TE} {H H' : Hp} {f c : Addr} (a : LamAt X k t H f c) (e : Same H H') : LamAt X k t H' f c := ⟨e _ _ a.f, e _ _ a.c⟩
/-- nothing but tables stood there -/
def Nw (H : Hp) (l : Addr) : Prop := ∀ u, H l = some u → (∀ ps, u ≠ .tbl ps) → False
theorem nw_of {p l : Addr} {H H' : Hp} (c : ChT p H H') (n : H' l = none) (np : l ≠ p) : Nw H l := fun u e t => by
  rw [c _ _ e np t] at n
  cases n
theorem cht_put {p l : Addr} {H H' : Hp} {o : HO} (c : ChT p H H') (n : Nw H l) : ChT p H (upd H' l o) := fun b u e nb t => by
  have ne : b ≠ l := fun z => by subst z; exact n u e t
  rw [upd_ne ne]
  exact c b u e nb t
/-- raised with this value -/
theorem lamC_raise {X : Cx} {k i : Nat} {M D f c : Addr} {σ : L2.St} {H : Hp} {Q : VK} {v : V} {t : XK → TE} (hs : σ[i]? = some (some (.ref f))) (a : LamAt X k t H f c) (te : PySem.W.exmOne X.K (.ref D) (.ref M) = some true) (raises : ∀ (E : XK) (R : VK), Rs E H D v → t E σ H R)
    (q : ∀ (e d : Addr) (G : Hp), Same H G → G e = some (Kt.EO e (.ref D) (some d)) → G d = some (.xd [("value", v)]) → Q (.ref e) G) : Lv.tLamC X k (TTc X.K M) i σ H Q := by
  refine ⟨f, c, t, hs, a.f, a.c, fun R _ => raises _ _ fun d H' e hd => ⟨true, te, fun _ x nx => ?_, fun y => nomatch y⟩⟩
  have s := same_upd (o := Kt.EO x (.ref D) (some d)) nx
  exact q x d _ (e.trans s) upd_same (s _ _ hd)
end Hs
/-! the law: what is refused -/
namespace Hs
open PySem PySem.Spec PyProof.Rows L2 Am Rv LamX
def spRef (T : List (Addr × Str)) (CH : Addr) : Sp := fun vs H Q _ => ∃ (p h d : Addr) (x : Str) (L : Lore) (N : Int), vs = [.ref p, .ref h, .ref d] ∧ HouseAt CH H h x L ∧ LoreAt H d L ∧ Valid L ∧ JarAt H p N ∧ N ≤ 9000 ∧ Tabs T H ∧ ∀ H', ChT p H H' → Tabs T H' → JarAt H' p (N + 2) → Q (.bl true) H'
abbrev qRef : Str := (("_law_are_refused" : Str) ++ (".<locals>." : Str)) ++ ("<lambda>" : Str)
theorem atI_neg {xs : List V} (h : 0 < xs.length) : atI xs (-1) = some xs[xs.length - 1] := by
  unfold atI ixN
  rw [if_neg (by decide), if_pos (by omega)]
  show xs[((-1 : Int) + xs.length).toNat]? = _
  rw [show ((-1 : Int) + xs.length).toNat = xs.length - 1 by omega, List.getElem?_eq_getElem (by omega)]
section
variable {P : Program} {w : World} {K : PySem.W.Frag} {mg : Str → Option Value} {base : Heap} {CH DF DB M : Addr}
theorem scRef : FnScope ["_law_jar_here", "_law_house", "_law_lore", "_law_bad", "_law_late", "_law_name", "_law_looks", "_law_look", "_law_caught_here"] ["_law_jar_here", "_law_house", "_law_lore"] (defScope sL_are_refused) := ⟨rfl, rfl, rfl, by decide +kernel, rfl, by decide +kernel, by decide +kernel⟩
theorem ok_ref {T : List (Addr × Str)} {f c2 P2 g : Addr} {fd : FuncData} {oc : Value} {od : Option Addr} {kV doc pm : Value} {an : Option Addr} {cd ct : Value} {osl : Array (Option Value)} (F : Gu.Def K "_law_are_refused" "_law_are_refused" sL_are_refused f fd (.ref c2)) (Tn : Nm mg) (ho : HoC K CH) (GC : GotC K mg M g oc od kV doc pm an cd ct osl)
    (TB : TabB base mg c2 P2) (hm : (P2, qRef) ∈ T) (hu2 : ∀ p ∈ T, p.1 = P2 → p.2 = qRef)
    (teF : PySem.W.exmOne K (.ref DF) (.ref M) = some true) (xfF : XfC K DF) (ecF : ErrC K DF) (nvF : PySem.W.findIn K (.ref DF) "value" = some none) (kF : PySem.W.kitOne K (.ref DF) (.ref DF) = some true) (mDF : mg "NoFlat" = some (.ref DF))
    (teB : PySem.W.exmOne K (.ref DB) (.ref M) = some true) (xfB : XfC K DB) (ecB : ErrC K DB) (nvB : PySem.W.findIn K (.ref DB) "value" = some none) (kB : PySem.W.kitOne K (.ref DB) (.ref DB) = some true) (mDB : mg "BadDay" = some (.ref DB))
    (GLi : ∀ p, GotDX P w K mg base CH "lives" 3 ["self", "flat", "day"] (spHLives CH DF DB p)) (GRo : ∀ p, GotDX P w K mg base CH "room" 3 ["self", "flat"] (spHRoom CH DF p)) (GPr : ∀ p, GotDX P w K mg base CH "price" 3 ["self", "day"] (spHPrice CH DB p))
    (GNF : GotF P w K mg base "_law_no_flat" 3 ["_law_jar_here", "_law_lore"] spNoFlat) (GND : GotF P w K mg base "_law_no_day" 3 ["_law_jar_here", "_law_lore"] spNoDay) : Gu.FnG P w K mg base CX0 6 f fd ["_law_jar_here", "_law_house", "_law_lore"] (spRef T CH) := by
  obtain ⟨fNF, dNF, GNF, bNF, mNF, kNF⟩ := GNF
  obtain ⟨fND, dND, GND, bND, mND, kND⟩ := GND
  refine Gu.okGl F scRef (fun vs H Q E h => ?_) (fun A outer s H vs Q E free hr h => ?_)
  · obtain ⟨p, h, d, x, L, N, rfl, _⟩ := h
    rfl
  · obtain ⟨p, h, d, x, L, N, rfl, hh, hL, va, j, hN, tabs, q⟩ := h
    obtain ⟨fLi, dLi, GLi, bLi, mLi⟩ := GLi p
    obtain ⟨fRo, dRo, GRo, bRo, mRo⟩ := GRo p
    obtain ⟨fPr, dPr, GPr, bPr, mPr⟩ := GPr p
    have hu := hu_of hr
    have hu64 : (A.deeper (envOfC "_law_are_refused" (defScope sL_are_refused) s.heap.objs.size f (.ref c2))).units + 64 < cLine := by have := hr.un; omega
    have hr3 : Room 3 _ := hr.mono (by decide)
    refine ⟨_, (pss_cons (ps_asg (g := (gTup K 3 (gCons (gName 3) (gCons (gName 4) (gCons (gName 5) gNil))))) (pe_tup (pa_cons (pe_call GNF hr3 (by rfl) mNF kNF bNF .nil pass0 (pa_cons (pv 0) (pa_cons (pv 2) pa_nil))) (pa_cons (pe_call GND hr3 (by rfl) mND kND bND .nil pass0 (pa_cons (pv 0) (pa_cons (pv 2) pa_nil))) (pa_cons (pe_ix ix_tup (pe_ix ix_list (pe_dget hu (pv 2) pe_str (fun _ _ => rfl)) (pe_un un_neg pe_int) (fun _ _ => rfl)) pe_int (fun _ _ => rfl)) pa_nil)))) (pg_tup rfl (pgs_cons (pg_name (i := 3) scRef.nd rfl (.inr rfl)) (pgs_cons (pg_name (i := 4) scRef.nd rfl (.inr rfl)) (pgs_cons (pg_name (i := 5) scRef.nd rfl (.inr rfl)) pgs_nil)))))
      (pss_cons (ps_set (i := 6) scRef.nd rfl (.inl rfl) (pe_lst (pa_cons (Lv.pe_lamV (T := T) (k := 3) (c := c2) (P := P2) (t := fun E => tMeth CH "lives" (spHLives CH DF DB p) [] E (tVar 1) (tCons (tVar 3) (tCons (tC (V.int 0)) tNil))) TB rfl (by exact hm) (by exact hu2) (LamX.lamS_by (by rfl)) rfl (fun _ _ _ _ => rfl)
          (fun A out z G E f c' hr2 => pe_meth (pe_var (i := 1) rfl (.inr (.inr rfl))) ho.cl mLi GLi hr2 bLi .nil (passes_call (takes_of rfl rfl rfl rfl) (fun _ _ _ _ h => h)) (pa_cons (pe_var (i := 3) rfl (.inr (.inr rfl))) (pa_cons pe_int pa_nil)))) pa_nil)))
      (pss_cons (ps_expr (pe_bm PySem.F.plainAttrs_list PySem.F.slot_list_append PySem.F.type_list_append mt_append (pv 6) (pa_cons (Lv.pe_lamV (T := T) (k := 3) (c := c2) (P := P2) (t := fun E => tMeth CH "lives" (spHLives CH DF DB p) [] E (tVar 1) (tCons (tVar 3) (tCons (tVar 4) tNil))) TB rfl (by exact hm) (by exact hu2) (LamX.lamS_by (by rfl)) rfl (fun _ _ _ _ => rfl)
          (fun A out z G E f c' hr2 => pe_meth (pe_var (i := 1) rfl (.inr (.inr rfl))) ho.cl mLi GLi hr2 bLi .nil (passes_call (takes_of rfl rfl rfl rfl) (fun _ _ _ _ h => h)) (pa_cons (pe_var (i := 3) rfl (.inr (.inr rfl))) (pa_cons (pe_var (i := 4) rfl (.inr (.inr rfl))) pa_nil)))) pa_nil)))
      (pss_cons (ps_expr (pe_bm PySem.F.plainAttrs_list PySem.F.slot_list_append PySem.F.type_list_append mt_append (pv 6) (pa_cons (Lv.pe_lamV (T := T) (k := 3) (c := c2) (P := P2) (t := fun E => tMeth CH "room" (spHRoom CH DF p) [] E (tVar 1) (tCons (tVar 3) tNil)) TB rfl (by exact hm) (by exact hu2) (LamX.lamS_by (by rfl)) rfl (fun _ _ _ _ => rfl)
          (fun A out z G E f c' hr2 => pe_meth (pe_var (i := 1) rfl (.inr (.inr rfl))) ho.cl mRo GRo hr2 bRo .nil (passes_call (takes_of rfl rfl rfl rfl) (fun _ _ _ _ h => h)) (pa_cons (pe_var (i := 3) rfl (.inr (.inr rfl))) pa_nil))) pa_nil)))
      (pss_cons (ps_for PassesOwn.never rfl (pi_list (pv 6)) (pg_name (i := 7) scRef.nd rfl (.inl rfl)) (pss_cons (ps_set (i := 8) scRef.nd rfl (.inl rfl) (Lv.pe_lamcallV (k := 3) (i := 7) (TT := TTc K M) (Ng := ["_law_look", "_law_caught_here", "error"]) (by rfl) GC.mg_ GC.kp GC.lk GC.co GC.bd scCaught rfl (.inl rfl) (Lv.caught_givesV GC.me) hr rfl (.inl rfl)))
      (pss_one (ps_if (PW.pt (pw_or (pt_not (pt_val (pe_callB (call_isiE xfF ecF) (by rfl) Tn.isi b_isi (pa_cons (pv 8) (pa_cons (pe_glob (v := .ref DF) (by rfl) mDF rfl) pa_nil))))) (pw_or1 (pt_cmpR op_ne (pe_callB (call_repV free hu64) (by rfl) Tn.repr b_repr (pa_cons (Kt.pe_ef xfF nvF (pv 8)) pa_nil)) (pe_callB (call_repV free hu64) (by rfl) Tn.repr b_repr (pa_cons (pv 3) pa_nil)) (nomark _))))) (pss_one (ps_ret pe_bl)) pss_nil))))
      (pss_cons (ps_set (i := 6) scRef.nd rfl (.inl rfl) (pe_lst (pa_cons (Lv.pe_lamV (T := T) (k := 3) (c := c2) (P := P2) (t := fun E => tMeth CH "lives" (spHLives CH DF DB p) [] E (tVar 1) (tCons (tVar 5) (tCons (tVar 4) tNil))) TB rfl (by exact hm) (by exact hu2) (LamX.lamS_by (by rfl)) rfl (fun _ _ _ _ => rfl)
          (fun A out z G E f c' hr2 => pe_meth (pe_var (i := 1) rfl (.inr (.inr rfl))) ho.cl mLi GLi hr2 bLi .nil (passes_call (takes_of rfl rfl rfl rfl) (fun _ _ _ _ h => h)) (pa_cons (pe_var (i := 5) rfl (.inr (.inr rfl))) (pa_cons (pe_var (i := 4) rfl (.inr (.inr rfl))) pa_nil)))) pa_nil)))
      (pss_cons (ps_expr (pe_bm PySem.F.plainAttrs_list PySem.F.slot_list_append PySem.F.type_list_append mt_append (pv 6) (pa_cons (Lv.pe_lamV (T := T) (k := 3) (c := c2) (P := P2) (t := fun E => tMeth CH "price" (spHPrice CH DB p) [] E (tVar 1) (tCons (tVar 4) tNil)) TB rfl (by exact hm) (by exact hu2) (LamX.lamS_by (by rfl)) rfl (fun _ _ _ _ => rfl)
          (fun A out z G E f c' hr2 => pe_meth (pe_var (i := 1) rfl (.inr (.inr rfl))) ho.cl mPr GPr hr2 bPr .nil (passes_call (takes_of rfl rfl rfl rfl) (fun _ _ _ _ h => h)) (pa_cons (pe_var (i := 4) rfl (.inr (.inr rfl))) pa_nil))) pa_nil)))
      (pss_cons (ps_for PassesOwn.never rfl (pi_list (pv 6)) (pg_name (i := 7) scRef.nd rfl (.inl rfl)) (pss_cons (ps_set (i := 8) scRef.nd rfl (.inl rfl) (Lv.pe_lamcallV (k := 3) (i := 7) (TT := TTc K M) (Ng := ["_law_look", "_law_caught_here", "error"]) (by rfl) GC.mg_ GC.kp GC.lk GC.co GC.bd scCaught rfl (.inl rfl) (Lv.caught_givesV GC.me) hr rfl (.inl rfl)))
      (pss_one (ps_if (PW.pt (pw_or (pt_not (pt_val (pe_callB (call_isiE xfB ecB) (by rfl) Tn.isi b_isi (pa_cons (pv 8) (pa_cons (pe_glob (v := .ref DB) (by rfl) mDB rfl) pa_nil))))) (pw_or1 (pt_cmpR op_ne (pe_callB (call_repV free hu64) (by rfl) Tn.repr b_repr (pa_cons (Kt.pe_ef xfB nvB (pv 8)) pa_nil)) (pe_callB (call_repV free hu64) (by rfl) Tn.repr b_repr (pa_cons (pv 4) pa_nil)) (nomark _))))) (pss_one (ps_ret pe_bl)) pss_nil))))
      (pss_one (ps_ret pe_bl)))))))))), ?_⟩
    obtain ⟨lp, ls, lt, hd, ⟨rs, hrs, hrf⟩, _⟩ := id hL
    have ndp : d ≠ p := fun e => by
      obtain ⟨xs, hp⟩ := j.lst
      rw [e, hp] at hd
      cases hd
    have l1 : 0 < L.places.length := by
      have z := va.fl
      unfold hasF at z
      cases hp : L.places with
      | nil => rw [hp] at z; cases z
      | cons _ _ => simp
    have r0 : rs.length - 1 < rs.length := by have := hrf.1; omega
    have p0 : rs.length - 1 < L.places.length := by have := hrf.1; omega
    have d14 := va.d
    refine ⟨_, rfl, _, rfl, p, d, L, _, rfl, hL, va, j, by omega, fun H1 bad c1 j1 hb => ?_⟩
    have hL1 := hL.cht j (.chg c1)
    refine ⟨_, rfl, _, rfl, p, d, L, _, rfl, hL1, va, j1, by omega, fun H2 late c2' j2 hl => ?_⟩
    have k2 : ChT p H H2 := (ChT.chg c1).trans (.chg c2')
    have hb2 := hb.chg j1 c2'
    have hh2 := hh.cht j k2
    have tb2 := tabs_chg j1 c2' (tabs_chg j c1 tabs)
    have lpn : lp ≠ p := refs_nj ⟨rs, hrs, hrf⟩ j
    have hrr : H rs[rs.length - 1] = some (.tup [V.str L.places[rs.length - 1].name, .int L.places[rs.length - 1].room, .bl L.places[rs.length - 1].inner]) := hrf.2 _ rs[rs.length - 1] L.places[rs.length - 1] (List.getElem?_eq_getElem r0) (List.getElem?_eq_getElem p0)
    have hrr2 := cht_o j k2 hrr (fun _ z => by cases z) (fun _ z => by cases z)
    refine ⟨_, rfl, d, _, rfl, .inl ⟨_, .inr "places", .inl (cht_o j k2 hd (fun _ z => by cases z) (fun _ z => by cases z)), rfl, rfl⟩, ?_⟩
    refine ⟨_, rfl, lp, _, _, _, rfl, rfl, SqL.of (k2 _ _ hrs lpn (fun _ z => by cases z)), atI_neg (xs := rs.map V.ref) (by rw [List.length_map]; omega), ?_⟩
    have er : (rs.map V.ref)[(rs.map V.ref).length - 1]'(by rw [List.length_map]; omega) = V.ref rs[rs.length - 1] := by simp
    rw [er]
    refine ⟨rs[rs.length - 1], _, _, _, rfl, rfl, SqT.of hrr2, rfl, ?_⟩
    have np := pl_at p0
    generalize L.places[rs.length - 1].name = name at *
    refine ⟨(show 3 ≤ sizeLine by decide), fun t nt => ?_⟩
    have e3 := same_upd (o := .tup [bad, late, V.str name]) nt
    have ot := upd_same (H := H2) (a := t) (o := .tup [bad, late, V.str name])
    generalize upd H2 t (.tup [bad, late, V.str name]) = H3 at *
    have k3 := k2.trans (.of e3)
    have j3 := j2.same e3
    have tb3 := tb2.ext e3
    have hh3 := hh2.same e3
    have hb3 := hb2.cht j2 (.of e3)
    have hl3 := hl.cht j2 (.of e3)
    clear hb2 hl hh2 tb2 hL1 hb e3 j2 k2 j1 c1 c2'
    refine ⟨t, _, rfl, SqT.of ot, rfl, _, _, rfl, _, _, rfl, _, _, rfl, rfl, ?_⟩
    refine ⟨tb3, fun f1 c1 H4 x1 tb4 _ a1 b1 => ?_⟩
    have L1 : LamAt _ 3 _ H4 f1 c1 := ⟨a1, b1⟩
    have r4 : ChT p H3 H4 := .ext x1
    have j4 := jar_ext x1 j3
    clear x1 a1 b1
    refine ⟨(show 1 ≤ sizeLine by decide), fun l nl => ?_⟩
    have e5 := same_upd (o := .lst [V.ref f1]) nl
    have hl5 := upd_same (H := H4) (a := l) (o := .lst [V.ref f1])
    have ml := ne_jar j4 nl
    have nw := nw_of r4 nl ml
    generalize upd H4 l (.lst [V.ref f1]) = H5 at *
    have r5 := r4.trans (.of e5)
    have j5 := j4.same e5
    have tb5 := tb4.ext e5
    have L1 := L1.same e5
    clear e5 r4 j4 tb4 nl
    refine ⟨_, rfl, .inl ⟨rfl, _, SqL.of hl5⟩, tb5, fun f2 c2' H6 x2 tb6 _ a2 b2 => ?_⟩
    have L2 : LamAt _ 3 _ H6 f2 c2' := ⟨a2, b2⟩
    have L1 := L1.cht j5 (.ext x2)
    have r6 := r5.trans (.ext x2)
    have j6 := jar_ext x2 j5
    have hl6 := x2 _ _ hl5 (fun _ z => by cases z)
    clear x2 a2 b2 r5 j5 tb5 hl5
    refine ⟨l, _, _, rfl, rfl, hl6, show 1 < sizeLine by decide, ?_⟩
    have L1 := L1.put (ys := [V.ref f1] ++ [.ref f2]) hl6
    have L2 := L2.put (ys := [V.ref f1] ++ [.ref f2]) hl6
    have tb7 := tabs_put (ys := [V.ref f1] ++ [.ref f2]) tb6 hl6
    have j7 := jar_put (o := .lst ([V.ref f1] ++ [.ref f2])) j6 ml
    have r7 := cht_put (o := .lst ([V.ref f1] ++ [.ref f2])) r6 nw
    have hl7 := upd_same (H := H6) (a := l) (o := .lst ([V.ref f1] ++ [.ref f2]))
    generalize upd H6 l (.lst ([V.ref f1] ++ [.ref f2])) = H7 at *
    clear hl6 j6 tb6 r6
    refine ⟨_, rfl, .inl ⟨rfl, _, SqL.of hl7⟩, tb7, fun f3 c3 H8 x3 tb8 _ a3 b3 => ?_⟩
    have L3 : LamAt _ 3 _ H8 f3 c3 := ⟨a3, b3⟩
    have L1 := L1.cht j7 (.ext x3)
    have L2 := L2.cht j7 (.ext x3)
    have r8 := r7.trans (.ext x3)
    have j8 := jar_ext x3 j7
    have hl8 := x3 _ _ hl7 (fun _ z => by cases z)
    clear x3 a3 b3 r7 j7 tb7 hl7
    refine ⟨l, _, _, rfl, rfl, hl8, show 2 < sizeLine by decide, ?_⟩
    have L1 := L1.put (ys := [V.ref f1] ++ [.ref f2] ++ [.ref f3]) hl8
    have L2 := L2.put (ys := [V.ref f1] ++ [.ref f2] ++ [.ref f3]) hl8
    have L3 := L3.put (ys := [V.ref f1] ++ [.ref f2] ++ [.ref f3]) hl8
    have tb9 := tabs_put (ys := [V.ref f1] ++ [.ref f2] ++ [.ref f3]) tb8 hl8
    have j9 := jar_put (o := .lst ([V.ref f1] ++ [.ref f2] ++ [.ref f3])) j8 ml
    have r9 := cht_put (o := .lst ([V.ref f1] ++ [.ref f2] ++ [.ref f3])) r8 nw
    have hl9 := upd_same (H := H8) (a := l) (o := .lst ([V.ref f1] ++ [.ref f2] ++ [.ref f3]))
    generalize upd H8 l (.lst ([V.ref f1] ++ [.ref f2] ++ [.ref f3])) = H9 at *
    clear hl8 j8 tb8 r8
    have hh9 := hh3.cht j3 r9
    obtain ⟨dB, bB1, bB2, bB3⟩ := hb3.cht j3 r9
    obtain ⟨dL, bL1, bL2, bL3⟩ := hl3.cht j3 r9
    refine ⟨_, rfl, l, rfl, ⟨_, SqL.of hl9⟩, ?_⟩
    refine for_it (walk_list (xs := [V.ref f1] ++ [.ref f2] ++ [.ref f3])) (fun i σ H' => ∃ (s7 s8 : Option V), σ = [some (.ref p), some (.ref h), some (.ref d), some bad, some late, some (.str name), some (.ref l), s7, s8] ∧ Same H9 H') ⟨_, _, rfl, Same.refl _⟩ (fun i σ H' _ ⟨_, _, _, e⟩ => SqL.of (e _ _ hl9)) ?_ ?_
    · rintro i v σ G1 G2 hi ⟨s7, s8, rfl, e⟩ ⟨rfl, hv⟩
      have hv := List.mem_of_getElem? hv
      have hh := hh9.same e
      have dj : ∀ {v : V} {d : PyData}, Dj p H9 v d → Dj p G2 v d := fun a => a.keep (fun b o h _ _ => e b o h) (fun o ho => by
        obtain ⟨xs, hp⟩ := j9.lst
        rw [hp] at ho
        cases ho
        exact ⟨_, rfl⟩)
      have bB1 := dj bB1
      have bL1 := dj bL1
      obtain ⟨dx, q1, q2, q3, q4, q5, q6, hx⟩ := hh.ins
      obtain ⟨ff, cc, tt, rfl, hlam, hraise⟩ : ∃ ff cc tt, v = V.ref ff ∧ LamAt (cxOf CX0 P w K mg base ["_law_jar_here", "_law_house", "_law_lore", "_law_bad", "_law_late", "_law_name", "_law_looks", "_law_look", "_law_caught_here"] "_law_are_refused" (defScope sL_are_refused) f (.ref c2) A outer s H E).nox 3 tt G2 ff cc ∧ ∀ (E : XK) (R : VK), Rs E G2 DF bad → tt E [some (.ref p), some (.ref h), some (.ref d), some bad, some late, some (.str name), some (.ref l), some v, s8] G2 R := by
        simp only [List.mem_append, List.mem_singleton] at hv
        rcases hv with (rfl | rfl) | rfl
        · exact ⟨f1, c1, _, rfl, L1.same e, fun E R rs => ⟨_, rfl, h, dx, _, rfl, hx, hfs_none _ _ _ _ _ _ _ _ (by decide +kernel), _, rfl, h, x, L, bad, .int 0, dB, .int 0, rfl, hh, va.nd, bB1, .int 0, fun _ => rs, fun z => (by rw [bB3] at z; cases z), fun i k hi _ z _ => (by rw [z, pl_at hi] at bB3; cases bB3)⟩⟩
        · exact ⟨f2, c2', _, rfl, L2.same e, fun E R rs => ⟨_, rfl, h, dx, _, rfl, hx, hfs_none _ _ _ _ _ _ _ _ (by decide +kernel), _, rfl, _, rfl, h, x, L, bad, late, dB, dL, rfl, hh, va.nd, bB1, bL1, fun _ => rs, fun z => (by rw [bB3] at z; cases z), fun i k hi _ z _ => (by rw [z, pl_at hi] at bB3; cases bB3)⟩⟩
        · exact ⟨f3, c3, _, rfl, L3.same e, fun E R rs => ⟨_, rfl, h, dx, _, rfl, hx, hfs_none _ _ _ _ _ _ _ _ (by decide +kernel), _, rfl, h, x, L, bad, dB, rfl, hh, va.nd, bB1, fun _ => rs, fun i hi z => (by rw [z, pl_at hi] at bB3; cases bB3)⟩⟩
      refine lamC_raise (X := (cxOf CX0 P w K mg base ["_law_jar_here", "_law_house", "_law_lore", "_law_bad", "_law_late", "_law_name", "_law_looks", "_law_look", "_law_caught_here"] "_law_are_refused" (defScope sL_are_refused) f (.ref c2) A outer s H E).nox) (k := 3) (i := 7) rfl hlam teF hraise fun ex dd G5 e5 hex hdd => ?_
      have bB5 : Dj p G5 bad dB := bB1.keep (fun b o h _ _ => e5 b o h) (fun o ho => by
        obtain ⟨xs, hp⟩ := (j9.same e).lst
        rw [hp] at ho
        cases ho
        exact ⟨_, rfl⟩)
      refine ⟨_, rfl, ex, dd, _, .ref DF, .ref DF, true, rfl, hex, hdd, .own _, kF, _, rfl, iteF ?_⟩
      refine ⟨_, rfl, ex, dd, _, bad, rfl, hex, hdd, rfl, p, bad, dB, rfl, bB5, bB2.dic, bB2.sh, bB2.dp, bB2.len, bB2.int, _, rfl, p, bad, dB, rfl, bB5, bB2.dic, bB2.sh, bB2.dp, bB2.len, bB2.int, rfl, _, rfl, ?_⟩
      rw [decide_eq_true rfl]
      exact iteF ⟨_, _, rfl, e.trans e5⟩
    · rintro σ G1 ⟨s7, s8, rfl, e⟩
      have r10 := r9.trans (.of e)
      have tb10 := tb9.ext e
      have j10 := j9.same e
      clear L1 L2 L3 hl9 nw ml e r9 tb9 j9 hh9 bB1 bB2 bB3 bL1 bL2 bL3
      refine ⟨tb10, fun f4 c4 H4 x4 tb4 _ a4 b4 => ?_⟩
      have L4 : LamAt _ 3 _ H4 f4 c4 := ⟨a4, b4⟩
      have r4 := r10.trans (.ext x4)
      have j4 := jar_ext x4 j10
      clear x4 a4 b4 r10 tb10 j10
      refine ⟨(show 1 ≤ sizeLine by decide), fun m nl => ?_⟩
      have e5 := same_upd (o := .lst [V.ref f4]) nl
      have hl5 := upd_same (H := H4) (a := m) (o := .lst [V.ref f4])
      have ml := ne_jar j4 nl
      have nw := nw_of r4 nl ml
      generalize upd H4 m (.lst [V.ref f4]) = H5 at *
      have r5 := r4.trans (.of e5)
      have j5 := j4.same e5
      have tb5 := tb4.ext e5
      have L4 := L4.same e5
      clear e5 r4 j4 tb4 nl
      refine ⟨_, rfl, .inl ⟨rfl, _, SqL.of hl5⟩, tb5, fun f5 c5 H6 x5 tb6 _ a5 b5 => ?_⟩
      have L5 : LamAt _ 3 _ H6 f5 c5 := ⟨a5, b5⟩
      have L4 := L4.cht j5 (.ext x5)
      have r6 := r5.trans (.ext x5)
      have j6 := jar_ext x5 j5
      have hl6 := x5 _ _ hl5 (fun _ z => by cases z)
      clear x5 a5 b5 r5 j5 tb5 hl5
      refine ⟨m, _, _, rfl, rfl, hl6, show 1 < sizeLine by decide, ?_⟩
      have L4 := L4.put (ys := [V.ref f4] ++ [.ref f5]) hl6
      have L5 := L5.put (ys := [V.ref f4] ++ [.ref f5]) hl6
      have tb7 := tabs_put (ys := [V.ref f4] ++ [.ref f5]) tb6 hl6
      have j7 := jar_put (o := .lst ([V.ref f4] ++ [.ref f5])) j6 ml
      have r7 := cht_put (o := .lst ([V.ref f4] ++ [.ref f5])) r6 nw
      have hl7 := upd_same (H := H6) (a := m) (o := .lst ([V.ref f4] ++ [.ref f5]))
      generalize upd H6 m (.lst ([V.ref f4] ++ [.ref f5])) = H7 at *
      clear hl6 j6 tb6 r6
      have hh7 := hh3.cht j3 r7
      obtain ⟨dL, bL1, bL2, bL3⟩ := hl3.cht j3 r7
      refine ⟨_, rfl, m, rfl, ⟨_, SqL.of hl7⟩, ?_⟩
      refine for_it (walk_list (xs := [V.ref f4] ++ [.ref f5])) (fun i σ H' => ∃ (s7 s8 : Option V), σ = [some (.ref p), some (.ref h), some (.ref d), some bad, some late, some (.str name), some (.ref m), s7, s8] ∧ Same H7 H') ⟨_, _, rfl, Same.refl _⟩ (fun i σ H' _ ⟨_, _, _, e⟩ => SqL.of (e _ _ hl7)) ?_ ?_
      · rintro i v σ G1 G2 hi ⟨s7, s8, rfl, e⟩ ⟨rfl, hv⟩
        have hv := List.mem_of_getElem? hv
        have hh := hh7.same e
        have dj : ∀ {v : V} {d : PyData}, Dj p H7 v d → Dj p G2 v d := fun a => a.keep (fun b o h _ _ => e b o h) (fun o ho => by
          obtain ⟨xs, hp⟩ := j7.lst
          rw [hp] at ho
          cases ho
          exact ⟨_, rfl⟩)
        have bL1 := dj bL1
        obtain ⟨dx, q1, q2, q3, q4, q5, q6, hx⟩ := hh.ins
        obtain ⟨ff, cc, tt, rfl, hlam, hraise⟩ : ∃ ff cc tt, v = V.ref ff ∧ LamAt (cxOf CX0 P w K mg base ["_law_jar_here", "_law_house", "_law_lore", "_law_bad", "_law_late", "_law_name", "_law_looks", "_law_look", "_law_caught_here"] "_law_are_refused" (defScope sL_are_refused) f (.ref c2) A outer s H E).nox 3 tt G2 ff cc ∧ ∀ (E : XK) (R : VK), Rs E G2 DB late → tt E [some (.ref p), some (.ref h), some (.ref d), some bad, some late, some (.str name), some (.ref m), some v, s8] G2 R := by
          simp only [List.mem_append, List.mem_singleton] at hv
          rcases hv with rfl | rfl
          · exact ⟨f4, c4, _, rfl, L4.same e, fun E R rs => ⟨_, rfl, h, dx, _, rfl, hx, hfs_none _ _ _ _ _ _ _ _ (by decide +kernel), _, rfl, _, rfl, h, x, L, .str name, late, .str name, dL, rfl, hh, va.nd, .str _, bL1, fun z => (by rw [np] at z; cases z), fun _ _ => rs, fun i k hi hk _ z => (by rw [z, dy_at hk] at bL3; cases bL3)⟩⟩
          · exact ⟨f5, c5, _, rfl, L5.same e, fun E R rs => ⟨_, rfl, h, dx, _, rfl, hx, hfs_none _ _ _ _ _ _ _ _ (by decide +kernel), _, rfl, h, x, L, late, dL, rfl, hh, bL1, fun _ => rs, fun k hk z => (by rw [z, dy_at hk] at bL3; cases bL3)⟩⟩
        refine lamC_raise (X := (cxOf CX0 P w K mg base ["_law_jar_here", "_law_house", "_law_lore", "_law_bad", "_law_late", "_law_name", "_law_looks", "_law_look", "_law_caught_here"] "_law_are_refused" (defScope sL_are_refused) f (.ref c2) A outer s H E).nox) (k := 3) (i := 7) rfl hlam teB hraise fun ex dd G5 e5 hex hdd => ?_
        have bL5 : Dj p G5 late dL := bL1.keep (fun b o h _ _ => e5 b o h) (fun o ho => by
          obtain ⟨xs, hp⟩ := (j7.same e).lst
          rw [hp] at ho
          cases ho
          exact ⟨_, rfl⟩)
        refine ⟨_, rfl, ex, dd, _, .ref DB, .ref DB, true, rfl, hex, hdd, .own _, kB, _, rfl, iteF ?_⟩
        refine ⟨_, rfl, ex, dd, _, late, rfl, hex, hdd, rfl, p, late, dL, rfl, bL5, bL2.dic, bL2.sh, bL2.dp, bL2.len, bL2.int, _, rfl, p, late, dL, rfl, bL5, bL2.dic, bL2.sh, bL2.dp, bL2.len, bL2.int, rfl, _, rfl, ?_⟩
        rw [decide_eq_true rfl]
        exact iteF ⟨_, _, rfl, e.trans e5⟩
      · rintro σ G1 ⟨s7, s8, rfl, e⟩
        exact q _ (k3.trans (r7.trans (.of e))) (tb7.ext e) ((j7.same e).mono (by omega))
end
end Hs
/-! the law: a cell -/
namespace Hs
open PySem PySem.Spec PyProof.Rows L2 Am Rv LamX
theorem mk_same {H H' : Hp} {C h dx : Addr} (nh : H h = none) (nd : H dx = none) (ne : dx ≠ h) (f : Fr [h] (upd (upd H dx (.own h)) h (.ins C dx [])) H') : Same H H' := fun b u e =>
  f _ _ (((same_upd nd).trans (same_upd (by rw [upd_ne (Ne.symm ne)]; exact nh))) _ _ e) (by simpa using ne_of_none e nh)
def spFine (T : List (Addr × Str)) : Sp := fun vs H Q _ => ∃ (p : Addr), vs = [.ref p] ∧ JarAt H p 0 ∧ Tabs T H ∧ ∀ H', ChT p H H' → Tabs T H' → Q (.bl true) H'
section
variable {P : Program} {w : World} {K : PySem.W.Frag} {mg : Str → Option Value} {base : Heap} {CH : Addr}
theorem scFine : FnScope ["_law_jar_here", "_law_lap", "_law_lore", "_law_house", "_law_turn"] ["_law_jar_here"] (defScope sL_fine) := ⟨rfl, rfl, rfl, by decide +kernel, rfl, by decide +kernel, by decide +kernel⟩
theorem ok_fine {T0 : List (Addr × Str)} {f : Addr} {fd : FuncData} (F : Fun K "_law_fine" "_law_fine" sL_fine f fd) (T : Nm mg) (mH : mg "House" = some (.ref CH)) (GH : ∃ (f : Addr) (fd : FuncData), FnOk P w K mg base CX0 5 f fd ["self", "text"] (spHInit CH) ∧ L2.Binds K fd ["self", "text"] [] ∧ Mk K CH f)
    (GW : GotF P w K mg base "_law_wide" 4 ["_law_jar_here"] spWide) (GG : GotF P w K mg base "_law_page" 1 ["_law_lore"] spPage) (GO : GotF P w K mg base "_law_are_told" 4 ["_law_house", "_law_lore"] (spTold CH))
    (GR : ∃ f fd, Gu.FnG P w K mg base CX0 6 f fd ["_law_jar_here", "_law_house", "_law_lore"] (spRef T0 CH) ∧ Binds K fd ["_law_jar_here", "_law_house", "_law_lore"] [] ∧ mg "_law_are_refused" = some (.ref f) ∧ PySem.W.keepIn K (.ref f) = true) : Gu.FnG P w K mg base CX0 7 f fd ["_law_jar_here"] (spFine T0) := by
  obtain ⟨fH, dH, GH, bH, MkH⟩ := GH
  obtain ⟨fW, dW, GW, bW, mW, kW⟩ := GW
  obtain ⟨fG, dG, GG, bG, mG, kG⟩ := GG
  obtain ⟨fO, dO, GO, bO, mO, kO⟩ := GO
  obtain ⟨fR, dR, GR, bR, mR, kR⟩ := GR
  refine Gu.okG0 F scFine (fun vs H Q E h => ?_) (fun cdv A outer s H vs Q E free hr h => ?_)
  · obtain ⟨p, rfl, _⟩ := h
    rfl
  · obtain ⟨p, rfl, hj, tabs, q⟩ := h
    have hr1 : Room 1 _ := hr.mono (by decide)
    have hr4 : Room 4 _ := hr.mono (by decide)
    refine ⟨_, (pss_cons (ps_for PassesOwn.never rfl (pi_range1 (by rfl) T.range (pa_cons pe_int pa_nil)) (pg_name (i := 1) scFine.nd rfl (.inl rfl)) (pss_cons (ps_set (i := 2) scFine.nd rfl (.inr rfl) (pe_call GW hr4 (by rfl) mW kW bW .nil pass0 (pa_cons (pv 0) pa_nil)))
      (pss_cons (ps_set (i := 3) scFine.nd rfl (.inr rfl) (pe_make MkH GH hr (by rfl) mH bH .nil pass0 (pa_cons (pe_call GG hr1 (by rfl) mG kG bG .nil pass0 (pa_cons (pv 2) pa_nil)) pa_nil)))
      (pss_one (ps_if (PW.pt (pw_or (pt_not (pt_val (pe_call GO hr4 (by rfl) mO kO bO .nil pass0 (pa_cons (pv 3) (pa_cons (pv 2) pa_nil))))) (pw_or1 (pt_not (pt_val (pe_callB (cr_all rfl) (by rfl) T.all b_all (pa_cons (pe_lc (own := [("_law_turn", 4)]) (g := gName 4) (tt := tYes) rfl scFine.nd (pi_range1 (by rfl) T.range (pa_cons pe_int pa_nil))
          (blkOk_by (N := ["_law_jar_here", "_law_lap", "_law_lore", "_law_house", "_law_turn"]) (sc := defScope sL_fine) (by decide +kernel)) (fun _ _ _ _ _ => (pg_name (i := 4) scFine.nd rfl (.inl rfl))) (fun _ _ _ _ _ => pts_nil) (fun _ _ _ _ _ => (Gu.pe_callG GR free hr (by rfl) mR kR bR pass0 (pa_cons (pv 0) (pa_cons (pv 3) (pa_cons (pv 2) pa_nil)))))) pa_nil))))))) (pss_one (ps_ret pe_bl)) pss_nil)))))
      (pss_one (ps_ret pe_bl))), ?_⟩
    refine ⟨2, rfl, by decide, by decide, ?_⟩
    refine for_it (walk_range0 (n := (2 : Int).toNat)) (fun i σ H' => ∃ (s1 s2 s3 s4 : Option V), σ = [some (.ref p), s1, s2, s3, s4] ∧ ChT p H H' ∧ Tabs T0 H' ∧ JarAt H' p (130 * i)) ⟨_, _, _, _, rfl, ChT.refl _ _, tabs, hj.mono (by omega)⟩ (fun _ _ _ _ _ => trivial) ?_ ?_
    · rintro i v σ G1 G2 hi ⟨s1, s2, s3, s4, rfl, k, tb, j⟩ ⟨rfl, rfl⟩
      have hi' : i < 2 := hi
      refine ⟨_, rfl, p, _, rfl, j, by omega, fun H1 d L c1 nd j1 hL va => ?_⟩
      have fit : Fit L := va.fit
      have tb1 := tabs_chg j c1 tb
      have k1 := k.trans (.chg c1)
      refine ⟨_, rfl, d, L, rfl, hL, fit, fun H2 e2 => ?_⟩
      intro h dh nh ndh nhd
      refine ⟨h, dh, pageOf L, L, rfl, upd_same, va.told, fun H3 f3 hh3 => ⟨rfl, ?_⟩⟩
      have e3 := e2.trans (mk_same nh ndh nhd f3)
      have k3 := k1.trans (.of e3)
      have tb3 := tb1.ext e3
      have j3 := j1.same e3
      have hL3 := hL.same e3
      clear k k1 tb tb1 j j1 hL c1 nd e2 e3 f3 nh ndh nhd
      refine ⟨_, rfl, _, rfl, h, d, _, L, rfl, hh3, hL3, va, fun H4 e4 => ?_⟩
      have k4 := k3.trans (.of e4)
      have tb4 := tb3.ext e4
      have j4 := j3.same e4
      have hL4 := hL3.same e4
      have hh4 := hh3.same e4
      refine ⟨_, rfl, iteF ?_⟩
      refine ⟨3, rfl, by decide, by decide, fun D nD => ?_⟩
      have mD := ne_jar j4 nD
      refine lc_it (walk_range0 (n := (3 : Int).toNat)) (Pv := fun m H' => ChT p H4 H' ∧ Tabs T0 H' ∧ JarAt H' p (120 + 130 * i + 2 * m) ∧ H' D = some (.lst ((List.replicate m true).map V.bl))) ⟨.of (same_upd nD), tb4.ext (same_upd nD), (j4.same (same_upd nD)).mono (by omega), upd_same⟩ (fun _ _ _ _ => trivial) ?_ ?_
      · rintro m v K1 K2 hm ⟨r, tb, j, hD⟩ ⟨rfl, rfl⟩
        have hm' : m < 3 := hm
        refine ⟨rfl, ?_⟩
        unfold tYes
        refine iteT ⟨_, rfl, _, rfl, _, rfl, p, h, d, _, L, _, rfl, hh4.cht j4 r, hL4.cht j4 r, va, j, by omega, tb, fun K3 r2 tb2 j2 => ?_⟩
        have hD2 := r2 _ _ hD mD (fun _ z => by cases z)
        refine ⟨_, hD2, ?_, cht_put (r.trans r2) (nw_of (H' := H4) (ChT.refl _ _) nD mD), tabs_put tb2 hD2, (jar_put j2 mD).mono (by omega), ?_⟩
        · rw [List.length_map, List.length_replicate]
          exact Nat.lt_of_lt_of_le hm' (by decide)
        · rw [upd_same, List.replicate_succ', List.map_append]
          rfl
      · rintro K1 ⟨r, tb, j, hD⟩
        refine ⟨D, _, rfl, SqL.of hD, ?_⟩
        refine ⟨_, rfl, iteF ⟨_, _, _, _, rfl, k4.trans r, tb, j.mono ?_⟩⟩
        show 120 + 130 * (i : Int) + 2 * 3 ≤ 130 * ((i + 1 : Nat) : Int)
        omega
    · rintro σ G1 ⟨s1, s2, s3, s4, rfl, k, tb, j⟩
      exact q _ k tb
end
end Hs
namespace Hs
open PySem PySem.Spec PyProof.Rows L2 Am Rv LamX
def spLaw (K : PySem.W.Frag) (T : List (Addr × Str)) : Sp := fun vs H Q _ => ∃ (a : Addr) (ns : List Int), vs = [.ref a] ∧ SqL K H a (ns.map V.int) ∧ ns.length ≤ 63 ∧ Tabs T H ∧ ∀ H', Q (.bl true) H'
theorem seq_ext {K : PySem.W.Frag} {H H' : Hp} {a : Addr} {xs : List V} (e : ExtN H H') (h : SqL K H a xs) : SqL K H' a xs := by
  rcases h with (h | ⟨o, h⟩) | h
  · exact .inl (.inl (e _ _ h (fun _ z => by cases z)))
  · exact .inl (.inr ⟨o, e _ _ h (fun _ z => by cases z)⟩)
  · exact .inr h
section
variable {P : Program} {w : World} {K : PySem.W.Frag} {mg : Str → Option Value} {base : Heap} {C : Addr}
theorem scLaw : FnScope ["_law_script", "_law_k"] ["_law_script"] (defScope sLaw) := ⟨rfl, rfl, rfl, by decide +kernel, rfl, by decide +kernel, by decide +kernel⟩
theorem ok_law {f : Addr} {fd : FuncData} (F : Fun K "law" "law" sLaw f fd) (T : Nm mg) (GJ : GotF P w K mg base "_law_jar" 1 ["_law_script", "_law_k"] (spJar K))
    {T0 : List (Addr × Str)} (GF : ∃ f fd, Gu.FnG P w K mg base CX0 7 f fd ["_law_jar_here"] (spFine T0) ∧ Binds K fd ["_law_jar_here"] [] ∧ mg "_law_fine" = some (.ref f) ∧ PySem.W.keepIn K (.ref f) = true) : Gu.FnG P w K mg base CX0 8 f fd ["_law_script"] (spLaw K T0) := by
  obtain ⟨fJ, dJ, GJ, bJ, mJ, kJ⟩ := GJ
  obtain ⟨fF, dF, GF, bF, mF, kF⟩ := GF
  refine Gu.okG0 F scLaw (fun vs H Q E h => ?_) (fun cdv A outer s H vs Q E free hr h => ?_)
  · obtain ⟨a, ns, rfl, _⟩ := h
    rfl
  · obtain ⟨a, ns, rfl, hS, hl, tabs, q⟩ := h
    have hr1 : Room 1 _ := hr.mono (by decide)
    refine ⟨_, pss_one (ps_ret (pe_callB (cr_all rfl) (by rfl) T.all b_all (pa_cons (pe_lc (own := [("_law_k", 1)]) (g := gName 1) (tt := tYes) rfl scLaw.nd
      (pi_range1 (by rfl) T.range (pa_cons (pe_callB (call_max2 rfl) (by rfl) T.max b_max (pa_cons pe_int (pa_cons (pe_callB (call_min2 rfl) (by rfl) T.min b_min (pa_cons pe_int (pa_cons (pe_callB call_len_seq (by rfl) T.len PySem.boot_len (pa_cons (pv 0) pa_nil)) pa_nil))) pa_nil))) pa_nil))
      (blkOk_by (N := ["_law_script", "_law_k"]) (sc := defScope sLaw) (by decide +kernel)) (fun _ _ _ _ _ => pg_name (i := 1) scLaw.nd rfl (Or.inl rfl)) (fun _ _ _ _ _ => pts_nil)
      (fun _ _ _ _ _ => Gu.pe_callG GF free hr (by rfl) mF kF bF pass0 (pa_cons (pe_call GJ hr1 (by rfl) mJ kJ bJ .nil pass0 (pa_cons (pv 0) (pa_cons (pv 1) pa_nil))) pa_nil))) pa_nil))), ?_⟩
    have bnd : ∀ m : Nat, m ≤ 63 → (if (if ((m : Int) < 4) then (m : Int) else 4) > 1 then (if ((m : Int) < 4) then (m : Int) else 4) else 1 : Int) ≤ 4 ∧ 1 ≤ (if (if ((m : Int) < 4) then (m : Int) else 4) > 1 then (if ((m : Int) < 4) then (m : Int) else 4) else 1 : Int) := by
      intro m hm
      split <;> split <;> omega
    have bb := bnd (ns.map V.int).length (by rw [List.length_map]; exact hl)
    refine ⟨_, rfl, a, _, rfl, .inl hS, _, _, rfl, _, _, rfl, _, rfl, by omega, by omega, ?_⟩
    generalize (if (if (((ns.map V.int).length : Int) < 4) then ((ns.map V.int).length : Int) else 4) > 1 then (if (((ns.map V.int).length : Int) < 4) then ((ns.map V.int).length : Int) else 4) else 1 : Int) = m at bb ⊢
    intro D nD
    refine lc_range (lo := 0) (n := m.toNat) (fun i H' => ExtN H H' ∧ Tabs T0 H' ∧ H' D = some (.lst ((List.replicate i true).map V.bl))) ⟨ExtN.of (same_upd nD), tabs.ext (same_upd nD), upd_same⟩ ?_ ?_
    · rintro i H1 hi ⟨s1, tb, h1⟩
      refine ⟨rfl, ?_⟩
      unfold tYes
      refine iteT ?_
      refine ⟨_, rfl, _, rfl, a, ns, _, rfl, seq_ext s1 hS, by omega, by omega, fun p H2 s2 np jj => ⟨p, rfl, jj, tb.ext s2, fun H3 c3 t3 => ?_⟩⟩
      have nDp : D ≠ p := ne_of_none h1 np
      have h3 := c3 _ _ (s2 _ _ h1) nDp (fun _ z => by cases z)
      refine ⟨_, h3, ?_, fun b u e t => ?_, tabs_put t3 h3, ?_⟩
      · rw [List.length_map, List.length_replicate]
        exact Nat.lt_of_lt_of_le hi (Nat.le_trans (show m.toNat ≤ 4 by omega) (by decide))
      · have e1 := s1 _ _ e t
        rw [upd_ne (ne_of_none e nD)]
        exact c3 _ _ (s2 _ _ e1) (ne_of_none e1 np) t
      · rw [upd_same, List.replicate_succ', List.map_append]
        rfl
    · rintro H1 ⟨s1, tb, h1⟩
      refine ⟨D, List.replicate m.toNat true, rfl, SqL.of h1, ?_⟩
      rw [show (List.replicate m.toNat true).all id = true by simp]
      exact q H1
end
end Hs
namespace Hs
open PySem PySem.Spec PyProof.Rows L2 Am Rv LamX
/-- a def of the module as the head writes it -/
def FactF (K : PySem.W.Frag) (x : Str) (st : Stmt) : Prop := ∃ (f : Addr) (oc : Value) (od : Option Addr) (kV dc pm : Value) (an : Option Addr) (cd ct : Value) (sl : Array (Option Value)),
  PySem.W.nsIn K mainGlobals x = some (some (.ref f)) ∧ K.lookup f = some ⟨oc, od, .func (PySem.W.fnOf x x (defArgs st) (defBody st) (defScope st) .none kV dc pm an cd ct), sl⟩ ∧ PySem.W.codeIn K cd x = true ∧ PySem.W.keepIn K (.ref f) = true
theorem mkF {K : PySem.W.Frag} {x : Str} {st : Stmt} {f : Addr} {oc : Value} {od : Option Addr} {kV dc pm : Value} {an : Option Addr} {cd ct : Value} {sl : Array (Option Value)}
    (a : PySem.W.nsIn K mainGlobals x = some (some (.ref f))) (l : K.lookup f = some ⟨oc, od, .func (PySem.W.fnOf x x (defArgs st) (defBody st) (defScope st) .none kV dc pm an cd ct), sl⟩) (c : PySem.W.codeIn K cd x = true) (k : PySem.W.keepIn K (.ref f) = true) : FactF K x st :=
  ⟨f, oc, od, kV, dc, pm, an, cd, ct, sl, a, l, c, k⟩
theorem FactF.fun {K : PySem.W.Frag} {h : Heap} {mg : Str → Option Value} {x : Str} {st : Stmt} (X : K.In h) (G : h.Ns mainGlobals mg) (F : FactF K x st) : ∃ f fd, Fun K x x st f fd ∧ mg x = some (.ref f) ∧ PySem.W.keepIn K (.ref f) = true := by
  obtain ⟨f, oc, od, kV, dc, pm, an, cd, ct, sl, a, l, c, k⟩ := F
  exact ⟨f, _, fun_mk l c k, PySem.W.mg_of X G a, k⟩
/-- a method of the class -/
def FactM (K : PySem.W.Frag) (C : Addr) (x q : Str) (st : Stmt) : Prop := ∃ (f : Addr) (oc : Value) (od : Option Addr) (kV dc pm : Value) (an : Option Addr) (cd ct : Value) (sl : Array (Option Value)),
  PySem.W.findIn K (.ref C) x = some (some (.ref f)) ∧ PySem.W.isFn K (.ref f) = true ∧ K.lookup f = some ⟨oc, od, .func (PySem.W.fnOf x q (defArgs st) (defBody st) (defScope st) .none kV dc pm an cd ct), sl⟩ ∧ PySem.W.codeIn K cd q = true ∧ PySem.W.keepIn K (.ref f) = true
theorem mkM {K : PySem.W.Frag} {C : Addr} {x q : Str} {st : Stmt} {f : Addr} {oc : Value} {od : Option Addr} {kV dc pm : Value} {an : Option Addr} {cd ct : Value} {sl : Array (Option Value)}
    (a : PySem.W.findIn K (.ref C) x = some (some (.ref f))) (i : PySem.W.isFn K (.ref f) = true) (l : K.lookup f = some ⟨oc, od, .func (PySem.W.fnOf x q (defArgs st) (defBody st) (defScope st) .none kV dc pm an cd ct), sl⟩) (c : PySem.W.codeIn K cd q = true)
    (k : PySem.W.keepIn K (.ref f) = true) : FactM K C x q st := ⟨f, oc, od, kV, dc, pm, an, cd, ct, sl, a, i, l, c, k⟩
theorem FactM.meth {K : PySem.W.Frag} {C : Addr} {x q : Str} {st : Stmt} (F : FactM K C x q st) : ∃ f fd, Fun K x q st f fd ∧ PySem.W.findIn K (.ref C) x = some (some (.ref f)) ∧ PySem.W.isFn K (.ref f) = true ∧ Meth K C x f := by
  obtain ⟨f, oc, od, kV, dc, pm, an, cd, ct, sl, a, i, l, c, k⟩ := F
  exact ⟨f, _, fun_mk l c k, a, i, ⟨a, i, k⟩⟩
/-- a function that a record of the class holds -/
def FactG (K : PySem.W.Frag) (x q : Str) (st : Stmt) (g : Addr) : Prop := ∃ (oc : Value) (od : Option Addr) (kV dc pm : Value) (an : Option Addr) (cd ct : Value) (sl : Array (Option Value)),
  K.lookup g = some ⟨oc, od, .func (PySem.W.fnOf x q (defArgs st) (defBody st) (defScope st) .none kV dc pm an cd ct), sl⟩ ∧ PySem.W.codeIn K cd q = true ∧ PySem.W.keepIn K (.ref g) = true
theorem FactG.fun {K : PySem.W.Frag} {x q : Str} {st : Stmt} {g : Addr} (F : FactG K x q st g) : ∃ fd, Fun K x q st g fd := by
  obtain ⟨oc, od, kV, dc, pm, an, cd, ct, sl, l, c, k⟩ := F
  exact ⟨_, fun_mk l c k⟩
/-- a property -/
structure FactPr (K : PySem.W.Frag) (C : Addr) (x q : Str) (st : Stmt) (p g : Addr) : Prop where
  po : PropOf K C x p g
  fn : FactG K x q st g
theorem mkPr {K : PySem.W.Frag} {C p g : Addr} {x q : Str} {st : Stmt} {rest : List Value} {oc : Value} {od : Option Addr} {kV dc pm : Value} {an : Option Addr} {cd ct : Value} {sl : Array (Option Value)} (a : PySem.W.findIn K (.ref C) x = some (some (.ref p))) (b : PySem.W.specialIn K (.ref p) "__get__" = some (some (.builtin "property.__get__")))
    (c : PySem.W.takesIn K (.ref p) = some true) (d : PySem.W.recIn K p "property" = some (.ref g :: rest)) (l : K.lookup g = some ⟨oc, od, .func (PySem.W.fnOf x q (defArgs st) (defBody st) (defScope st) .none kV dc pm an cd ct), sl⟩) (e : PySem.W.codeIn K cd q = true) (k : PySem.W.keepIn K (.ref g) = true) : FactPr K C x q st p g :=
  ⟨⟨a, b, c, ⟨rest, d⟩⟩, ⟨oc, od, kV, dc, pm, an, cd, ct, sl, l, e, k⟩⟩
/-- a class that is made -/
structure FactK (K : PySem.W.Frag) (C : Addr) : Prop where
  pg : PySem.W.plainGet K C Str.empty = true
  hd : PySem.W.hasDictIn K C = true
  po : PySem.W.plainOver K C = true
  sa : PySem.W.findIn K (.ref C) "__setattr__" = some (some (.builtin "object.__setattr__"))
  mkk : PySem.W.makesIn K C = true
  kc : PySem.W.keepIn K (.ref C) = true
/-- a class with operators -/
structure FactH (K : PySem.W.Frag) (C : Addr) : Prop where
  sf : PySem.W.selfFirst K C = true
  ne : PySem.W.findIn K (.ref C) "__ne__" = some (some (.builtin "object.__ne__"))
  ob : PySem.W.mroIn K C (.type "object") = some true
  ca : PySem.W.findIn K (.ref C) "__class__" = some (some (.builtin "object.__class__"))
  cn : PySem.W.specialIn K (.builtin "object.__class__") "__get__" = some (some (.builtin "getset_descriptor.__get__"))
  ct : PySem.W.takesIn K (.builtin "object.__class__") = some true
/-- two classes, apart -/
structure FactA (K : PySem.W.Frag) (C D : Addr) : Prop where
  kD : PySem.W.kitOne K (.ref D) (.ref C) = some false
  nF : PySem.W.notFirst K C (.ref D) = true
structure FactT (K : PySem.W.Frag) (C : Addr) : Prop where
  s1 : PySem.W.subIn K (.ref C) (.type "int") = some false
  r1 : PySem.W.subIn K (.type "int") (.ref C) = some false
  k1 : PySem.W.kitOne K (.type "int") (.ref C) = some false
  s2 : PySem.W.subIn K (.ref C) (.type "bool") = some false
  r2 : PySem.W.subIn K (.type "bool") (.ref C) = some false
  k2 : PySem.W.kitOne K (.type "bool") (.ref C) = some false
  s3 : PySem.W.subIn K (.ref C) (.type "NoneType") = some false
  r3 : PySem.W.subIn K (.type "NoneType") (.ref C) = some false
  k3 : PySem.W.kitOne K (.type "NoneType") (.ref C) = some false
  s4 : PySem.W.subIn K (.ref C) (.type "str") = some false
  r4 : PySem.W.subIn K (.type "str") (.ref C) = some false
  k4 : PySem.W.kitOne K (.type "str") (.ref C) = some false
  s5 : PySem.W.subIn K (.ref C) (.type "list") = some false
  r5 : PySem.W.subIn K (.type "list") (.ref C) = some false
  k5 : PySem.W.kitOne K (.type "list") (.ref C) = some false
  s6 : PySem.W.subIn K (.ref C) (.type "tuple") = some false
  r6 : PySem.W.subIn K (.type "tuple") (.ref C) = some false
  k6 : PySem.W.kitOne K (.type "tuple") (.ref C) = some false
  s7 : PySem.W.subIn K (.ref C) (.type "dict") = some false
  r7 : PySem.W.subIn K (.type "dict") (.ref C) = some false
  k7 : PySem.W.kitOne K (.type "dict") (.ref C) = some false
  kC : PySem.W.kitOne K (.ref C) (.ref C) = some true
  kI : PySem.W.kitOne K (.ref C) (.type "int") = some false
/-- a tuple of texts that a name of the module has -/
def FactSeq (K : PySem.W.Frag) (x : Str) (ws : List Str) : Prop := ∃ (T : Addr) (o : Obj) (its : Array Value) (n : Nat), PySem.W.nsIn K mainGlobals x = some (some (.ref T)) ∧ K.lookup T = some o ∧ o.cls = .type "tuple" ∧ o.data = .seq its n ∧ its.size ≤ sizeLine ∧ Vals (ws.map V.str) its.toList
theorem mkSeq {K : PySem.W.Frag} {x : Str} {ws : List Str} {T : Addr} {o : Obj} {its : Array Value} {n : Nat} (a : PySem.W.nsIn K mainGlobals x = some (some (.ref T))) (l : K.lookup T = some o) (c : o.cls = .type "tuple") (d : o.data = .seq its n) (z : its.size ≤ sizeLine) (v : Vals (ws.map V.str) its.toList) : FactSeq K x ws := ⟨T, o, its, n, a, l, c, d, z, v⟩
theorem FactSeq.get {K : PySem.W.Frag} {h : Heap} {mg : Str → Option Value} {x : Str} {ws : List Str} (X : K.In h) (G : h.Ns mainGlobals mg) (F : FactSeq K x ws) : ∃ T, mg x = some (.ref T) ∧ ∀ H, SqT K H T (ws.map V.str) := by
  obtain ⟨T, o, its, n, a, l, c, d, z, v⟩ := F
  exact ⟨T, PySem.W.mg_of X G a, fun H => .inr ⟨o, its, n, l, c, d, z, v⟩⟩
def FactInt (K : PySem.W.Frag) (x : Str) (v : Int) : Prop := ∃ (i : Int) (t : Nat), PySem.W.nsIn K mainGlobals x = some (some (.int i t)) ∧ i = v
theorem mkInt {K : PySem.W.Frag} {x : Str} {v i : Int} {t : Nat} (a : PySem.W.nsIn K mainGlobals x = some (some (.int i t))) (e : i = v) : FactInt K x v := ⟨i, t, a, e⟩
theorem FactInt.get {K : PySem.W.Frag} {h : Heap} {mg : Str → Option Value} {x : Str} {v : Int} (X : K.In h) (G : h.Ns mainGlobals mg) (F : FactInt K x v) : ∃ i t, mg x = some (.int i t) ∧ i = v := by
  obtain ⟨i, t, a, e⟩ := F
  exact ⟨i, t, PySem.W.mg_of X G a, e⟩
def FactStr (K : PySem.W.Frag) (x v : Str) : Prop := ∃ (t : Nat), PySem.W.nsIn K mainGlobals x = some (some (.str v t))
theorem mkStr {K : PySem.W.Frag} {x v : Str} {t : Nat} (a : PySem.W.nsIn K mainGlobals x = some (some (.str v t))) : FactStr K x v := ⟨t, a⟩
theorem FactStr.get {K : PySem.W.Frag} {h : Heap} {mg : Str → Option Value} {x v : Str} (X : K.In h) (G : h.Ns mainGlobals mg) (F : FactStr K x v) : ∃ t, mg x = some (.str v t) := by
  obtain ⟨t, a⟩ := F
  exact ⟨t, PySem.W.mg_of X G a⟩
theorem pair_app {α β : Type} {r : α → β → Prop} : ∀ {a : List α} {b : List β} {c : List α} {d : List β}, Paired r a b → Paired r c d → Paired r (a ++ c) (b ++ d)
  | _, _, _, _, .nil, h => h
  | _, _, _, _, .cons x xs, h => .cons x (pair_app xs h)
/-- an error class of the text, its __init__ taken over -/
def FactX (K : PySem.W.Frag) (x : Str) (D : Addr) : Prop := ∃ (nm q : Str) (N : Addr) (bs bm : List Value) (sn : List Str) (sub : List Value) (ab : Bool) (col : Option Bool) (dd : Option Addr) (k0 k1 k2 k3 k5 : Option Value),
  PySem.W.nsIn K mainGlobals x = some (some (.ref D)) ∧ K.lookup D = some (excClassObj nm q D N bs bm true sn sub ab col dd k0 k1 k2 k3 k5 "ValueError.__new__") ∧ PySem.HandSPX.refsVE bm = true
theorem mkX {K : PySem.W.Frag} {x : Str} {D : Addr} {nm q : Str} {N : Addr} {bs bm : List Value} {sn : List Str} {sub : List Value} {ab : Bool} {col : Option Bool} {dd : Option Addr} {k0 k1 k2 k3 k5 : Option Value}
    (a : PySem.W.nsIn K mainGlobals x = some (some (.ref D))) (l : K.lookup D = some (excClassObj nm q D N bs bm true sn sub ab col dd k0 k1 k2 k3 k5 "ValueError.__new__")) (r : PySem.HandSPX.refsVE bm = true) : FactX K x D := ⟨nm, q, N, bs, bm, sn, sub, ab, col, dd, k0, k1, k2, k3, k5, a, l, r⟩
structure FactY (K : PySem.W.Frag) (D : Addr) : Prop where
  sa : PySem.W.findIn K (.ref D) "__setattr__" = some (some (.builtin "object.__setattr__"))
  exC : PySem.W.subIn K (.ref D) (.type "BaseException") = some true
  tyC : PySem.W.typeIn K (.ref D) = some (.type "type")
  kC : PySem.W.keepIn K (.ref D) = true
  nv : PySem.W.findIn K (.ref D) "value" = some none
  ga : PySem.W.findIn K (.ref D) "__getattribute__" = some (some (.builtin "BaseException.__getattribute__"))
  gg : PySem.W.findIn K (.ref D) "__getattr__" = some none
  hdC : PySem.W.hasDictIn K D = true
  iC : PySem.W.isClsIn K D = true
  sC : PySem.W.subIn K (.ref D) (.ref D) = some true
/-- the class's __init__, taken over from the base -/
def FactE (K : PySem.W.Frag) (D : Addr) : Prop := ∃ (f : Addr) (oc : Value) (od : Option Addr) (kV dc pm : Value) (an : Option Addr) (cd ct : Value) (sl : Array (Option Value)),
  PySem.W.findIn K (.ref D) "__init__" = some (some (.ref f)) ∧ PySem.W.typeIn K (.ref f) = some (.type "function") ∧ K.lookup f = some ⟨oc, od, .func (PySem.W.fnOf "__init__" "MeterError.__init__" (defArgs sInitE) (defBody sInitE) (defScope sInitE) .none kV dc pm an cd ct), sl⟩ ∧ PySem.W.codeIn K cd "MeterError.__init__" = true ∧ PySem.W.keepIn K (.ref f) = true
theorem mkE {K : PySem.W.Frag} {D f : Addr} {oc : Value} {od : Option Addr} {kV dc pm : Value} {an : Option Addr} {cd ct : Value} {sl : Array (Option Value)}
    (a : PySem.W.findIn K (.ref D) "__init__" = some (some (.ref f))) (i : PySem.W.typeIn K (.ref f) = some (.type "function")) (l : K.lookup f = some ⟨oc, od, .func (PySem.W.fnOf "__init__" "MeterError.__init__" (defArgs sInitE) (defBody sInitE) (defScope sInitE) .none kV dc pm an cd ct), sl⟩)
    (c : PySem.W.codeIn K cd "MeterError.__init__" = true) (k : PySem.W.keepIn K (.ref f) = true) : FactE K D := ⟨f, oc, od, kV, dc, pm, an, cd, ct, sl, a, i, l, c, k⟩
theorem exm_self {K : PySem.W.Frag} {S : Addr} (h1 : PySem.W.subIn K (.ref S) (.type "BaseException") = some true) (h2 : PySem.W.isClsIn K S = true) (h3 : PySem.W.typeIn K (.ref S) = some (.type "type")) (h4 : PySem.W.subIn K (.ref S) (.ref S) = some true) :
    PySem.W.exmOne K (.ref S) (.ref S) = some true := by
  have e1 : (PySem.W.subIn K (.ref S) (.type "BaseException") == some true) = true := by rw [h1] <;> rfl
  have e2 : ((PySem.W.clsIn K S).isSome && PySem.W.typeIn K (.ref S) == some (.type "type")) = true := by
    have h2' : (PySem.W.clsIn K S).isSome = true := h2
    rw [h2', h3] <;> rfl
  show (if (PySem.W.subIn K (.ref S) (.type "BaseException") == some true) = true then (if ((PySem.W.clsIn K S).isSome && PySem.W.typeIn K (.ref S) == some (.type "type")) = true then PySem.W.subIn K (.ref S) (.ref S) else none) else none) = some true
  rw [if_pos e1, if_pos e2]
  exact h4
theorem gotErr {K : PySem.W.Frag} {h : Heap} {mg : Str → Option Value} {x : Str} {D : Addr} (X : K.In h) (G : h.Ns mainGlobals mg) (F : FactX K x D) (Y : FactY K D) (E : FactE K D) :
    ∃ f fd, Err K mg x D f ∧ Fun K "__init__" "MeterError.__init__" sInitE f fd := by
  obtain ⟨nm, q, N, bs, bm, sn, sub, ab, col, dd, k0, k1, k2, k3, k5, a, l, r⟩ := F
  obtain ⟨f, oc, od, kV, dc, pm, an, cd, ct, sl, e1, e2, e3, e4, e5⟩ := E
  exact ⟨f, _, ⟨⟨⟨nm, q, N, bs, bm, sn, sub, ab, col, dd, k0, k1, k2, k3, k5, l, r⟩, Y.sa, Y.exC, Y.tyC, Y.kC⟩, e1, e2, PySem.W.mg_of X G a, Y.nv, ⟨Y.ga, Y.gg, Y.exC, Y.hdC⟩, exm_self Y.exC Y.iC Y.tyC Y.sC⟩, fun_mk e3 e4 e5⟩
theorem exm_of {K : PySem.W.Frag} {D M : Addr} (h1 : PySem.W.subIn K (.ref M) (.type "BaseException") = some true) (h2 : PySem.W.isClsIn K M = true) (h3 : PySem.W.typeIn K (.ref M) = some (.type "type")) (h4 : PySem.W.subIn K (.ref D) (.ref M) = some true) :
    PySem.W.exmOne K (.ref D) (.ref M) = some true := by
  have e1 : (PySem.W.subIn K (.ref M) (.type "BaseException") == some true) = true := by rw [h1] <;> rfl
  have e2 : ((PySem.W.clsIn K M).isSome && PySem.W.typeIn K (.ref M) == some (.type "type")) = true := by
    have h2' : (PySem.W.clsIn K M).isSome = true := h2
    rw [h2', h3] <;> rfl
  show (if (PySem.W.subIn K (.ref M) (.type "BaseException") == some true) = true then (if ((PySem.W.clsIn K M).isSome && PySem.W.typeIn K (.ref M) == some (.type "type")) = true then PySem.W.subIn K (.ref D) (.ref M) else none) else none) = some true
  rw [if_pos e1, if_pos e2]
  exact h4
/-- the base of the error classes, and the error class by it -/
structure FactZ (K : PySem.W.Frag) (D M : Addr) : Prop where
  exM : PySem.W.subIn K (.ref M) (.type "BaseException") = some true
  iM : PySem.W.isClsIn K M = true
  tM : PySem.W.typeIn K (.ref M) = some (.type "type")
  sDM : PySem.W.subIn K (.ref D) (.ref M) = some true
  ca : PySem.W.findIn K (.ref D) "__class__" = some (some (.builtin "object.__class__"))
  cn : PySem.W.specialIn K (.builtin "object.__class__") "__get__" = some (some (.builtin "getset_descriptor.__get__"))
  ct : PySem.W.takesIn K (.builtin "object.__class__") = some true
  ob : PySem.W.mroIn K D (.type "object") = some true
  kD : PySem.W.kitOne K (.ref D) (.ref D) = some true
/-- a def that makes a lambda: its code object and the table of that -/
structure FactL (K : PySem.W.Frag) (x : Str) (st : Stmt) (f c P : Addr) : Prop where
  a : PySem.W.nsIn K mainGlobals x = some (some (.ref f))
  l : ∃ (oc : Value) (od : Option Addr) (kV dc pm : Value) (an : Option Addr) (ct : Value) (sl : Array (Option Value)), K.lookup f = some ⟨oc, od, .func (PySem.W.fnOf x x (defArgs st) (defBody st) (defScope st) .none kV dc pm an (.ref c) ct), sl⟩
  co : PySem.W.codeIn K (.ref c) x = true
  k : PySem.W.keepIn K (.ref f) = true
  o : ∃ (e : Value) (dd : Option Addr) (vs : Array Value) (sl : Array (Option Value)), K.lookup c = some ⟨e, dd, .fields vs, sl⟩ ∧ vs[11]? = some (.ref P)
  h : PySem.W.codeHdIn K c P = true
  n : K.lookup P = none
theorem mkL {K : PySem.W.Frag} {x : Str} {st : Stmt} {f c P : Addr} {oc : Value} {od : Option Addr} {kV dc pm : Value} {an : Option Addr} {ct : Value} {sl : Array (Option Value)} {e : Value} {dd : Option Addr} {vs : Array Value} {sl2 : Array (Option Value)}
    (a : PySem.W.nsIn K mainGlobals x = some (some (.ref f))) (l : K.lookup f = some ⟨oc, od, .func (PySem.W.fnOf x x (defArgs st) (defBody st) (defScope st) .none kV dc pm an (.ref c) ct), sl⟩) (cc : PySem.W.codeIn K (.ref c) x = true) (k : PySem.W.keepIn K (.ref f) = true)
    (oo : K.lookup c = some ⟨e, dd, .fields vs, sl2⟩) (v : vs[11]? = some (.ref P)) (h : PySem.W.codeHdIn K c P = true) (n : K.lookup P = none) : FactL K x st f c P := ⟨a, ⟨oc, od, kV, dc, pm, an, ct, sl, l⟩, cc, k, ⟨e, dd, vs, sl2, oo, v⟩, h, n⟩
theorem FactL.tab {K : PySem.W.Frag} {h : Heap} {x : Str} {st : Stmt} {f c P : Addr} (F : FactL K x st f c P) (own : LamX.OwnTab K f h) : h.get? P = some (PySem.W.tabObj #[]) := by
  obtain ⟨oc, od, kV, dc, pm, an, ct, sl, l⟩ := F.l
  obtain ⟨e, dd, vs, sl2, o1, o2⟩ := F.o
  exact own c P _ _ e dd vs sl2 l rfl rfl o1 o2
theorem FactL.dfn {K : PySem.W.Frag} {x : Str} {st : Stmt} {f c P : Addr} (F : FactL K x st f c P) : ∃ fd, Gu.Def K x x st f fd (.ref c) ∧ Fun K x x st f fd := by
  obtain ⟨oc, od, kV, dc, pm, an, ct, sl, l⟩ := F.l
  exact ⟨_, ⟨⟨oc, od, kV, dc, pm, an, ct, sl, rfl, l, F.co⟩⟩, fun_mk l F.co F.k⟩
theorem law_ok {P : Program} {w : World} {K : PySem.W.Frag} {h : Heap} {mg : Str → Option Value} {fa M H_ D_ DF DB fL0 cL0 PL0 : Addr} (X : K.In h) (G : h.Ns mainGlobals mg) (hfa : mg "law" = some (.ref fa)) (own : ∀ (x : Str) (a : Addr), x = "_law_are_refused" → mg x = some (.ref a) → LamX.OwnTab K a h)
    (aM : PySem.W.nsIn K mainGlobals "MeterError" = some (some (.ref M)))
    (aH_ : PySem.W.nsIn K mainGlobals "House" = some (some (.ref H_)))
    (aD_ : PySem.W.nsIn K mainGlobals "Draft" = some (some (.ref D_)))
    (N : PySem.W.nsIn K mainGlobals "isinstance" = some none ∧ PySem.W.nsIn K mainGlobals "int" = some none ∧ PySem.W.nsIn K mainGlobals "bool" = some none ∧ PySem.W.nsIn K mainGlobals "len" = some none ∧ PySem.W.nsIn K mainGlobals "abs" = some none ∧ PySem.W.nsIn K mainGlobals "max" = some none ∧ PySem.W.nsIn K mainGlobals "min" = some none ∧ PySem.W.nsIn K mainGlobals "range" = some none ∧ PySem.W.nsIn K mainGlobals "all" = some none ∧ PySem.W.nsIn K mainGlobals "repr" = some none ∧ PySem.W.nsIn K mainGlobals "str" = some none ∧ PySem.W.nsIn K mainGlobals "enumerate" = some none ∧ PySem.W.nsIn K mainGlobals "any" = some none ∧ PySem.W.nsIn K mainGlobals "tuple" = some none ∧ PySem.W.nsIn K mainGlobals "sorted" = some none ∧ PySem.W.nsIn K mainGlobals "list" = some none)
    (KH_ : FactK K H_)
    (AH_ : PySem.W.findIn K (.ref H_) "_text" = some none ∧ PySem.W.findIn K (.ref H_) "days" = some none ∧ PySem.W.findIn K (.ref H_) "flats" = some none ∧ PySem.W.findIn K (.ref H_) "meters" = some none ∧ PySem.W.findIn K (.ref H_) "people" = some none ∧ PySem.W.findIn K (.ref H_) "_rooms" = some none ∧ PySem.W.findIn K (.ref H_) "_tenants" = some none ∧ PySem.W.findIn K (.ref H_) "_prices" = some none)
    (KD_ : FactK K D_)
    (AD_ : PySem.W.findIn K (.ref D_) "days" = some none ∧ PySem.W.findIn K (.ref D_) "places" = some none ∧ PySem.W.findIn K (.ref D_) "tariffs" = some none ∧ PySem.W.findIn K (.ref D_) "stays" = some none)
    (STAKEN : FactSeq K "TAKEN" ["main", "house", "rest"])
    (LETTERS : FactStr K "LETTERS" Hs.abc)
    (FIRSTP : FactInt K "FIRST_PRICE" 1)
    (NOBODY : FactStr K "NOBODY" "house")
    (m0 : FactM K D_ "__init__" "Draft.__init__" sDrInit)
    (m1 : FactM K D_ "take" "Draft.take" sDrTake)
    (m2 : FactM K D_ "take_days" "Draft.take_days" sDrDays)
    (m3 : FactM K D_ "take_place" "Draft.take_place" sDrPlace)
    (m4 : FactM K D_ "take_price" "Draft.take_price" sDrPrice)
    (m5 : FactM K D_ "take_stay" "Draft.take_stay" sDrStay)
    (m6 : FactM K D_ "has_place" "Draft.has_place" sDrHasP)
    (m7 : FactM K D_ "has_flat" "Draft.has_flat" sDrHasF)
    (m8 : FactM K D_ "is_let" "Draft.is_let" sDrIsLet)
    (m9 : FactM K H_ "__init__" "House.__init__" sHInit)
    (XDF : FactX K "NoFlat" DF)
    (YDF : FactY K DF)
    (EDF : FactE K DF)
    (ZDF : FactZ K DF M)
    (XDB : FactX K "BadDay" DB)
    (YDB : FactY K DB)
    (EDB : FactE K DB)
    (ZDB : FactZ K DB M)
    (caught : FactF K "_law_caught" sL_caught)
    (f0 : FactF K "is_whole" sWhole)
    (f1 : FactF K "is_name" sIsName)
    (f2 : FactF K "decimal" sDec)
    (f3 : FactF K "ascending" sAsc)
    (f4 : FactF K "drafted" sDrafted)
    (f5 : FactF K "tenants" sTenants)
    (f6 : FactF K "prices" sPricesOf)
    (f7 : FactF K "_law_jar" sJar)
    (f8 : FactF K "_law_take" sTake)
    (f9 : FactF K "_law_of" sOf)
    (f10 : FactF K "_law_titles" sL_titles)
    (f11 : FactF K "_law_stays" sL_stays)
    (f12 : FactF K "_law_prices" sL_prices)
    (f13 : FactF K "_law_page" sL_page)
    (f14 : FactF K "_law_who" sL_who)
    (f15 : FactF K "_law_price" sL_price)
    (f16 : FactF K "_law_wide" sL_wide)
    (f17 : FactF K "_law_are_told" sL_are_told)
    (f18 : FactF K "_law_no_flat" sL_no_flat)
    (f19 : FactF K "_law_no_day" sL_no_day)
    (f20 : FactF K "_law_fine" sL_fine)
    (f21 : FactF K "law" sLaw)
    (L0 : FactL K "_law_are_refused" sL_are_refused fL0 cL0 PL0)
    (m10 : FactM K H_ "lives" "House.lives" sHLives)
    (m11 : FactM K H_ "room" "House.room" sHRoom)
    (m12 : FactM K H_ "price" "House.price" sHPrice)
    (m13 : FactM K H_ "_is_place" "House._is_place" sHIsPlace)
    (m14 : FactM K H_ "_is_day" "House._is_day" sHIsDay) :
    ∃ (fd : FuncData) (cs : List (Addr × Addr)) (sp : Sp), (∀ p ∈ cs, h.get? p.2 = some (PySem.W.tabObj #[])) ∧ (∀ p ∈ cs, K.lookup p.2 = none) ∧ (∀ p ∈ cs, PySem.W.CodeHd h p.1 p.2) ∧ (∀ (s : Shared) (u : Value), BindsTo s fd ⟨[u], []⟩ [("_law_script", u)]) ∧
      (∀ (H : Hp) (a : Addr) (ns : List Int), ns.length ≤ 63 → (∀ p ∈ cs, H p.2 = some (.tbl #[])) → SqL K H a (ns.map V.int) → sp [.ref a] H (fun v _ => v = .bl true) fun _ _ _ => False) ∧
      ∀ base : Heap, K.In base → base.Ns mainGlobals mg → (∀ p ∈ cs, LamX.TabB base mg p.1 p.2) → Gu.FnG P w K mg base CX0 8 fa fd ["_law_script"] sp := by
  obtain ⟨n_isinstance, n_int, n_bool, n_len, n_abs, n_max, n_min, n_range, n_all, n_repr, n_str, n_enumerate, n_any, n_tuple, n_sorted, n_list⟩ := N
  have none_of : ∀ {x : Str}, PySem.W.nsIn K mainGlobals x = some none → mg x = none := fun e => PySem.W.mg_none_of X G e
  have T : Nm mg := ⟨none_of n_len, none_of n_abs, none_of n_int, none_of n_max, none_of n_min, none_of n_range, none_of n_all, none_of n_repr, none_of n_isinstance⟩
  obtain ⟨hh1, hh2, hh3, hh4, hh5, hh6, hh7, hh8⟩ := AH_
  have ho : Hs.HoC K H_ := ⟨⟨KH_.pg, KH_.hd, KH_.po, KH_.sa⟩, hh1, hh2, hh3, hh4, hh5, hh6, hh7, hh8⟩
  obtain ⟨hd1, hd2, hd3, hd4⟩ := AD_
  have dc : Hs.DC K D_ := ⟨⟨KD_.pg, KD_.hd, KD_.po, KD_.sa⟩, hd1, hd2, hd3, hd4⟩
  have wd : Hs.Wd K mg := ⟨STAKEN.get X G, LETTERS.get X G⟩
  have mF := FIRSTP.get X G
  have mN := NOBODY.get X G
  obtain ⟨p0, q0, M0, h0, i0, e0⟩ := m0.meth
  have c0 := M0.binds (ps := ["self"]) fun _ _ _ _ _ _ us hl => match us, hl with | [_], _ => rfl
  obtain ⟨p1, q1, M1, h1, i1, e1⟩ := m1.meth
  have c1 := M1.binds (ps := ["self", "line"]) fun _ _ _ _ _ _ us hl => match us, hl with | [_, _], _ => rfl
  obtain ⟨p2, q2, M2, h2, i2, e2⟩ := m2.meth
  have c2 := M2.binds (ps := ["self", "words"]) fun _ _ _ _ _ _ us hl => match us, hl with | [_, _], _ => rfl
  obtain ⟨p3, q3, M3, h3, i3, e3⟩ := m3.meth
  have c3 := M3.binds (ps := ["self", "words", "inner"]) fun _ _ _ _ _ _ us hl => match us, hl with | [_, _, _], _ => rfl
  obtain ⟨p4, q4, M4, h4, i4, e4⟩ := m4.meth
  have c4 := M4.binds (ps := ["self", "words"]) fun _ _ _ _ _ _ us hl => match us, hl with | [_, _], _ => rfl
  obtain ⟨p5, q5, M5, h5, i5, e5⟩ := m5.meth
  have c5 := M5.binds (ps := ["self", "words"]) fun _ _ _ _ _ _ us hl => match us, hl with | [_, _], _ => rfl
  obtain ⟨p6, q6, M6, h6, i6, e6⟩ := m6.meth
  have c6 := M6.binds (ps := ["self", "name"]) fun _ _ _ _ _ _ us hl => match us, hl with | [_, _], _ => rfl
  obtain ⟨p7, q7, M7, h7, i7, e7⟩ := m7.meth
  have c7 := M7.binds (ps := ["self"]) fun _ _ _ _ _ _ us hl => match us, hl with | [_], _ => rfl
  obtain ⟨p8, q8, M8, h8, i8, e8⟩ := m8.meth
  have c8 := M8.binds (ps := ["self", "name", "first", "behind"]) fun _ _ _ _ _ _ us hl => match us, hl with | [_, _, _, _], _ => rfl
  obtain ⟨p9, q9, M9, h9, i9, e9⟩ := m9.meth
  have c9 := M9.binds (ps := ["self", "text"]) fun _ _ _ _ _ _ us hl => match us, hl with | [_, _], _ => rfl
  obtain ⟨fEDF, dEDF, TEDF, HEDF⟩ := gotErr X G XDF YDF EDF
  have bEDF := HEDF.binds (ps := ["self", "value"]) fun _ _ _ _ _ _ us hl => match us, hl with | [_, _], _ => rfl
  have teDF := exm_of ZDF.exM ZDF.iM ZDF.tM ZDF.sDM
  have ecDF : ErrC K DF := ⟨YDF.iC, ZDF.ca, ZDF.cn, ZDF.ct, ZDF.ob⟩
  obtain ⟨fEDB, dEDB, TEDB, HEDB⟩ := gotErr X G XDB YDB EDB
  have bEDB := HEDB.binds (ps := ["self", "value"]) fun _ _ _ _ _ _ us hl => match us, hl with | [_, _], _ => rfl
  have teDB := exm_of ZDB.exM ZDB.iM ZDB.tM ZDB.sDM
  have ecDB : ErrC K DB := ⟨YDB.iC, ZDB.ca, ZDB.cn, ZDB.ct, ZDB.ob⟩
  obtain ⟨fc, oc, od, kV, dc_, pm, an, cd, ct, sl, ca, cl2, cc, ck⟩ := caught
  have GC : GotC K mg M fc oc od kV dc_ pm an cd ct sl := ⟨PySem.W.mg_of X G ca, ck, cl2, cc, (fun_mk cl2 cc ck).binds (ps := ["_law_look"]) (fun _ _ _ _ _ _ us hl => match us, hl with | [_], _ => rfl), PySem.W.mg_of X G aM⟩
  obtain ⟨a0, d0, F0, g0, k0_⟩ := f0.fun X G
  have b0 := F0.binds (ps := ["value"]) fun _ _ _ _ _ _ us hl => match us, hl with | [_], _ => rfl
  obtain ⟨a1, d1, F1, g1, k1_⟩ := f1.fun X G
  have b1 := F1.binds (ps := ["value"]) fun _ _ _ _ _ _ us hl => match us, hl with | [_], _ => rfl
  obtain ⟨a2, d2, F2, g2, k2_⟩ := f2.fun X G
  have b2 := F2.binds (ps := ["word"]) fun _ _ _ _ _ _ us hl => match us, hl with | [_], _ => rfl
  obtain ⟨a3, d3, F3, g3, k3_⟩ := f3.fun X G
  have b3 := F3.binds (ps := ["words"]) fun _ _ _ _ _ _ us hl => match us, hl with | [_], _ => rfl
  obtain ⟨a4, d4, F4, g4, k4_⟩ := f4.fun X G
  have b4 := F4.binds (ps := ["text"]) fun _ _ _ _ _ _ us hl => match us, hl with | [_], _ => rfl
  obtain ⟨a5, d5, F5, g5, k5_⟩ := f5.fun X G
  have b5 := F5.binds (ps := ["name", "draft"]) fun _ _ _ _ _ _ us hl => match us, hl with | [_, _], _ => rfl
  obtain ⟨a6, d6, F6, g6, k6_⟩ := f6.fun X G
  have b6 := F6.binds (ps := ["draft"]) fun _ _ _ _ _ _ us hl => match us, hl with | [_], _ => rfl
  obtain ⟨a7, d7, F7, g7, k7_⟩ := f7.fun X G
  have b7 := F7.binds (ps := ["_law_script", "_law_k"]) fun _ _ _ _ _ _ us hl => match us, hl with | [_, _], _ => rfl
  obtain ⟨a8, d8, F8, g8, k8_⟩ := f8.fun X G
  have b8 := F8.binds (ps := ["_law_jar_here", "_law_upto"]) fun _ _ _ _ _ _ us hl => match us, hl with | [_, _], _ => rfl
  obtain ⟨a9, d9, F9, g9, k9_⟩ := f9.fun X G
  have b9 := F9.binds (ps := ["_law_jar_here", "_law_some"]) fun _ _ _ _ _ _ us hl => match us, hl with | [_, _], _ => rfl
  obtain ⟨a10, d10, F10, g10, k10_⟩ := f10.fun X G
  have b10 := F10.binds (ps := ["_law_jar_here", "_law_many"]) fun _ _ _ _ _ _ us hl => match us, hl with | [_, _], _ => rfl
  obtain ⟨a11, d11, F11, g11, k11_⟩ := f11.fun X G
  have b11 := F11.binds (ps := ["_law_jar_here", "_law_days", "_law_places"]) fun _ _ _ _ _ _ us hl => match us, hl with | [_, _, _], _ => rfl
  obtain ⟨a12, d12, F12, g12, k12_⟩ := f12.fun X G
  have b12 := F12.binds (ps := ["_law_jar_here", "_law_days"]) fun _ _ _ _ _ _ us hl => match us, hl with | [_, _], _ => rfl
  obtain ⟨a13, d13, F13, g13, k13_⟩ := f13.fun X G
  have b13 := F13.binds (ps := ["_law_lore"]) fun _ _ _ _ _ _ us hl => match us, hl with | [_], _ => rfl
  obtain ⟨a14, d14, F14, g14, k14_⟩ := f14.fun X G
  have b14 := F14.binds (ps := ["_law_lore", "_law_place", "_law_day"]) fun _ _ _ _ _ _ us hl => match us, hl with | [_, _, _], _ => rfl
  obtain ⟨a15, d15, F15, g15, k15_⟩ := f15.fun X G
  have b15 := F15.binds (ps := ["_law_lore", "_law_day"]) fun _ _ _ _ _ _ us hl => match us, hl with | [_, _], _ => rfl
  obtain ⟨a16, d16, F16, g16, k16_⟩ := f16.fun X G
  have b16 := F16.binds (ps := ["_law_jar_here"]) fun _ _ _ _ _ _ us hl => match us, hl with | [_], _ => rfl
  obtain ⟨a17, d17, F17, g17, k17_⟩ := f17.fun X G
  have b17 := F17.binds (ps := ["_law_house", "_law_lore"]) fun _ _ _ _ _ _ us hl => match us, hl with | [_, _], _ => rfl
  obtain ⟨a18, d18, F18, g18, k18_⟩ := f18.fun X G
  have b18 := F18.binds (ps := ["_law_jar_here", "_law_lore"]) fun _ _ _ _ _ _ us hl => match us, hl with | [_, _], _ => rfl
  obtain ⟨a19, d19, F19, g19, k19_⟩ := f19.fun X G
  have b19 := F19.binds (ps := ["_law_jar_here", "_law_lore"]) fun _ _ _ _ _ _ us hl => match us, hl with | [_, _], _ => rfl
  obtain ⟨a20, d20, F20, g20, k20_⟩ := f20.fun X G
  have b20 := F20.binds (ps := ["_law_jar_here"]) fun _ _ _ _ _ _ us hl => match us, hl with | [_], _ => rfl
  obtain ⟨a21, d21, F21, g21, k21_⟩ := f21.fun X G
  have b21 := F21.binds (ps := ["_law_script"]) fun _ _ _ _ _ _ us hl => match us, hl with | [_], _ => rfl
  have gL0 := PySem.W.mg_of X G L0.a
  obtain ⟨dL0, DL0, HL0⟩ := L0.dfn
  have bL0 := HL0.binds (ps := ["_law_jar_here", "_law_house", "_law_lore"]) fun _ _ _ _ _ _ us hl => match us, hl with | [_, _, _], _ => rfl
  obtain ⟨p10, q10, M10, h10, i10, e10⟩ := m10.meth
  have c10 := M10.binds (ps := ["self", "flat", "day"]) fun _ _ _ _ _ _ us hl => match us, hl with | [_, _, _], _ => rfl
  obtain ⟨p11, q11, M11, h11, i11, e11⟩ := m11.meth
  have c11 := M11.binds (ps := ["self", "flat"]) fun _ _ _ _ _ _ us hl => match us, hl with | [_, _], _ => rfl
  obtain ⟨p12, q12, M12, h12, i12, e12⟩ := m12.meth
  have c12 := M12.binds (ps := ["self", "day"]) fun _ _ _ _ _ _ us hl => match us, hl with | [_, _], _ => rfl
  obtain ⟨p13, q13, M13, h13, i13, e13⟩ := m13.meth
  have c13 := M13.binds (ps := ["self", "value"]) fun _ _ _ _ _ _ us hl => match us, hl with | [_, _], _ => rfl
  obtain ⟨p14, q14, M14, h14, i14, e14⟩ := m14.meth
  have c14 := M14.binds (ps := ["self", "value"]) fun _ _ _ _ _ _ us hl => match us, hl with | [_, _], _ => rfl
  have e := hfa.symm.trans g21
  cases e
  refine ⟨d21, [(cL0, PL0)], (spLaw K [(PL0, qRef)]), ?_, ?_, ?_, fun s u => ?_, ?_, fun base _ hbase TB => ?_⟩
  · skip
    intro p hp
    simp only [List.mem_cons, List.not_mem_nil, or_false] at hp
    rcases hp with rfl
    · exact L0.tab (own _ _ (rfl) gL0)
  · skip
    intro p hp
    simp only [List.mem_cons, List.not_mem_nil, or_false] at hp
    rcases hp with rfl
    · exact L0.n
  · skip
    intro p hp
    simp only [List.mem_cons, List.not_mem_nil, or_false] at hp
    rcases hp with rfl
    · exact PySem.W.codeHd_of_K X L0.h
  · obtain ⟨oc, od, kV, doc, pm, an, cdv, ct, osl, rfl, lk, hcd⟩ := F21.ex
    exact .of_eq rfl
  · intro H a ns hl tabs hS
    refine ⟨a, ns, rfl, hS, hl, ?_, fun _ => rfl⟩
    intro p hp
    simp only [List.mem_cons, List.not_mem_nil, or_false] at hp
    rcases hp with rfl
    · exact LamX.TabS.nil (tabs (cL0, PL0) (by simp))
  have TB0 : LamX.TabB base mg cL0 PL0 := TB (cL0, PL0) (by simp)
  have hm0 : (PL0, qRef) ∈ [(PL0, qRef)] := by simp
  have hu0 : ∀ p ∈ [(PL0, qRef)], p.1 = PL0 → p.2 = qRef := by
    intro p hp e
    simp only [List.mem_cons, List.not_mem_nil, or_false] at hp
    rcases hp with rfl
    · rfl
  have GDe : GotF P w K mg base "decimal" 1 ["word"] spDec := ⟨a2, d2, ok_dec F2 (none_of n_int), b2, g2, k2_⟩
  have GNa : GotF P w K mg base "is_name" 1 ["value"] Hs.spIsName := ⟨a1, d1, Hs.ok_isName F1 wd T (none_of n_str), b1, g1, k1_⟩
  have GhP : Hs.GotD P w K mg base D_ "has_place" 1 ["self", "name"] (Hs.spHasP D_) := ⟨p6, q6, Hs.ok_hasP M6 dc (none_of n_any), c6, e6⟩
  have GhF : Hs.GotD P w K mg base D_ "has_flat" 1 ["self"] (Hs.spHasF D_) := ⟨p7, q7, Hs.ok_hasF M7 dc (none_of n_any), c7, e7⟩
  have GiL : Hs.GotD P w K mg base D_ "is_let" 1 ["self", "name", "first", "behind"] (Hs.spIsLet D_) := ⟨p8, q8, Hs.ok_isLet M8 dc (none_of n_any), c8, e8⟩
  have Gtd : Hs.GotD P w K mg base D_ "take_days" 2 ["self", "words"] (Hs.spDays D_) := ⟨p2, q2, Hs.ok_days M2 dc T GDe, c2, e2⟩
  have Gtp : Hs.GotD P w K mg base D_ "take_place" 2 ["self", "words", "inner"] (Hs.spPlace D_) := ⟨p3, q3, Hs.ok_place M3 dc T GDe GNa GhP GhF, c3, e3⟩
  have Gtr : Hs.GotD P w K mg base D_ "take_price" 2 ["self", "words"] (Hs.spPrice D_) := ⟨p4, q4, Hs.ok_price M4 dc T GDe GhF, c4, e4⟩
  have Gts : Hs.GotD P w K mg base D_ "take_stay" 2 ["self", "words"] (Hs.spStay D_) := ⟨p5, q5, Hs.ok_stay M5 dc T GDe GNa GhP GhF GiL, c5, e5⟩
  have Gtk : Hs.GotD P w K mg base D_ "take" 3 ["self", "line"] (Hs.spTake D_) := ⟨p1, q1, Hs.ok_take M1 dc Gtd Gtp Gtr Gts, c1, e1⟩
  have MD : Mk K D_ p0 := ⟨KD_.mkk, h0, i0, KD_.kc⟩
  have GDf : GotF P w K mg base "drafted" 4 ["text"] (Hs.spDrafted D_) := ⟨a4, d4, Hs.ok_drafted F4 dc T (none_of n_str) (none_of n_enumerate) MD (Hs.ok_drInit M0 dc) c0 (PySem.W.mg_of X G aD_) Gtk GhF, b4, g4, k4_⟩
  have GAs : GotF P w K mg base "ascending" 1 ["words"] Hs.spAsc := ⟨a3, d3, Hs.ok_asc F3 (none_of n_tuple) (none_of n_sorted) (none_of n_str), b3, g3, k3_⟩
  have GTe : GotF P w K mg base "tenants" 1 ["name", "draft"] (Hs.spTen D_) := ⟨a5, d5, Hs.ok_tenants F5 dc T (none_of n_tuple) mN, b5, g5, k5_⟩
  have GPr : GotF P w K mg base "prices" 1 ["draft"] (Hs.spPri D_) := ⟨a6, d6, Hs.ok_prices F6 dc T (none_of n_tuple) mF, b6, g6, k6_⟩
  have GHi : ∃ (f : Addr) (fd : FuncData), FnOk P w K mg base CX0 5 f fd ["self", "text"] (Hs.spHInit H_) ∧ Binds K fd ["self", "text"] [] ∧ Mk K H_ f := ⟨p9, q9, Hs.ok_hInit M9 ho dc T (none_of n_tuple) mN GDf GAs GTe GPr, c9, ⟨KH_.mkk, h9, i9, KH_.kc⟩⟩
  have GEF : FnOk P w K mg base CX0 1 fEDF dEDF ["self", "value"] (spInitE K) := ok_initE HEDF
  have GEB : FnOk P w K mg base CX0 1 fEDB dEDB ["self", "value"] (spInitE K) := ok_initE HEDB
  have GWh : ∀ p, GotF P w K mg base "is_whole" 1 ["value"] (spWholeD p) := fun p => ⟨a0, d0, ok_wholeD F0 T (none_of n_int) (none_of n_bool), b0, g0, k0_⟩
  have GIp : ∀ p, Hs.GotD P w K mg base H_ "_is_place" 1 ["self", "value"] (spIsP H_ p) := fun p => ⟨p13, q13, ok_isP M13 T ho (none_of n_str), c13, e13⟩
  have GId : ∀ p, Hs.GotD P w K mg base H_ "_is_day" 2 ["self", "value"] (spIsDy H_ p) := fun p => ⟨p14, q14, ok_isDy M14 ho (GWh p), c14, e14⟩
  have GLi : ∀ p, GotDX P w K mg base H_ "lives" 3 ["self", "flat", "day"] (spHLives H_ DF DB p) := fun p => ⟨p10, q10, ok_hLives M10 ho TEDF TEDB GEF bEDF GEB bEDB (GIp p) (GId p), c10, e10⟩
  have GRo : ∀ p, GotDX P w K mg base H_ "room" 3 ["self", "flat"] (spHRoom H_ DF p) := fun p => ⟨p11, q11, ok_hRoom M11 ho TEDF GEF bEDF (GIp p), c11, e11⟩
  have GPr : ∀ p, GotDX P w K mg base H_ "price" 3 ["self", "day"] (spHPrice H_ DB p) := fun p => ⟨p12, q12, ok_hPrice M12 ho TEDB GEB bEDB (GId p), c12, e12⟩
  have GJ : GotF P w K mg base "_law_jar" 1 ["_law_script", "_law_k"] (spJar K) := ⟨a7, d7, ok_jar F7 T, b7, g7, k7_⟩
  have GT : GotF P w K mg base "_law_take" 1 ["_law_jar_here", "_law_upto"] Am.spTake := ⟨a8, d8, Am.ok_take F8 T, b8, g8, k8_⟩
  have GO : GotF P w K mg base "_law_of" 2 ["_law_jar_here", "_law_some"] spOf := ⟨a9, d9, ok_of F9 T GT, b9, g9, k9_⟩
  have GTi : GotF P w K mg base "_law_titles" 2 ["_law_jar_here", "_law_many"] spTitles := ⟨a10, d10, ok_titles F10 T GT, b10, g10, k10_⟩
  have GSt : GotF P w K mg base "_law_stays" 3 ["_law_jar_here", "_law_days", "_law_places"] spStays := ⟨a11, d11, ok_stays F11 T GT GO GTi, b11, g11, k11_⟩
  have GLp : GotF P w K mg base "_law_prices" 3 ["_law_jar_here", "_law_days"] spLPrices := ⟨a12, d12, ok_lPrices F12 T GT GO, b12, g12, k12_⟩
  have GPg : GotF P w K mg base "_law_page" 1 ["_law_lore"] spPage := ⟨a13, d13, ok_page F13 (none_of n_str), b13, g13, k13_⟩
  have GWi : GotF P w K mg base "_law_wide" 4 ["_law_jar_here"] spWide := ⟨a16, d16, ok_wide F16 T (none_of n_enumerate) GT GO GTi GSt GLp, b16, g16, k16_⟩
  have GWo : GotF P w K mg base "_law_who" 1 ["_law_lore", "_law_place", "_law_day"] spWho := ⟨a14, d14, ok_who F14, b14, g14, k14_⟩
  have GQ : GotF P w K mg base "_law_price" 1 ["_law_lore", "_law_day"] spLPr := ⟨a15, d15, ok_lpr F15, b15, g15, k15_⟩
  have GTo : GotF P w K mg base "_law_are_told" 4 ["_law_house", "_law_lore"] (spTold H_) := ⟨a17, d17, ok_told (DF := DF) (DB := DB) (p := 0) F17 T ho (GLi 0) (GRo 0) (GPr 0) GWo GQ, b17, g17, k17_⟩
  have GNf : GotF P w K mg base "_law_no_flat" 3 ["_law_jar_here", "_law_lore"] spNoFlat := ⟨a18, d18, ok_noFlat F18 GO, b18, g18, k18_⟩
  have GNd : GotF P w K mg base "_law_no_day" 3 ["_law_jar_here", "_law_lore"] spNoDay := ⟨a19, d19, ok_noDay F19 GO, b19, g19, k19_⟩
  have GRe : ∃ f fd, Gu.FnG P w K mg base CX0 6 f fd ["_law_jar_here", "_law_house", "_law_lore"] (spRef [(PL0, qRef)] H_) ∧ Binds K fd ["_law_jar_here", "_law_house", "_law_lore"] [] ∧ mg "_law_are_refused" = some (.ref f) ∧ PySem.W.keepIn K (.ref f) = true :=
    ⟨fL0, dL0, ok_ref DL0 T ho GC TB0 hm0 hu0 teDF TEDF.xf ecDF TEDF.nv ZDF.kD TEDF.gD teDB TEDB.xf ecDB TEDB.nv ZDB.kD TEDB.gD GLi GRo GPr GNf GNd, bL0, gL0, L0.k⟩
  have GFi : ∃ f fd, Gu.FnG P w K mg base CX0 7 f fd ["_law_jar_here"] (spFine [(PL0, qRef)]) ∧ Binds K fd ["_law_jar_here"] [] ∧ mg "_law_fine" = some (.ref f) ∧ PySem.W.keepIn K (.ref f) = true := ⟨a20, d20, ok_fine F20 T (PySem.W.mg_of X G aH_) GHi GWi GPg GTo GRe, b20, g20, k20_⟩
  exact ok_law F21 T GJ GFi
end Hs
open PySem PySem.W PyProof.Rows in
set_option maxRecDepth 100000 in
set_option maxHeartbeats 0 in
theorem PySem.Challenge.cw_whoseuse_k07_who_lives_where_and_prices_holds : PySem.Challenge.rw_whoseuse_k07_who_lives_where_and_prices.Holds := by
  w_on; o_law; k_head; (case hw => w_witness2)
  k_fill
  refine Gu.walkGT (n := 63) (k := 8) (x := "_law_script") rfl (by decide) rfl ⟨rfl, by decide, by decide⟩ (fun w h Y => PySem.W.km_in_of Y) ?F
  case F =>
    intro w mg fa h Y own KX G hmg
    have own2 : ∀ (x : Str) (a : Addr), x = "_law_are_refused" → mg x = some (.ref a) → LamX.OwnTab _ a h := fun x a e => own x a (by rcases e with rfl <;> decide +kernel)
    refine' Hs.law_ok (w := w) KX G hmg own2 ?zzaM ?zzaH_ ?zzaD_ ?zzN ?zzKH_ ?zzAH_ ?zzKD_ ?zzAD_ ?zzSTAKEN ?zzLETTERS ?zzFIRSTP ?zzNOBODY ?zzm0 ?zzm1 ?zzm2 ?zzm3 ?zzm4 ?zzm5 ?zzm6 ?zzm7 ?zzm8 ?zzm9 ?zzXDF ?zzYDF ?zzEDF ?zzZDF ?zzXDB ?zzYDB ?zzEDB ?zzZDB ?zzcaught ?zzf0 ?zzf1 ?zzf2 ?zzf3 ?zzf4 ?zzf5 ?zzf6 ?zzf7 ?zzf8 ?zzf9 ?zzf10 ?zzf11 ?zzf12 ?zzf13 ?zzf14 ?zzf15 ?zzf16 ?zzf17 ?zzf18 ?zzf19 ?zzf20 ?zzf21 ?zzL0 ?zzm10 ?zzm11 ?zzm12 ?zzm13 ?zzm14
    (case zzaM => k_is)
    (case zzaH_ => k_is)
    (case zzaD_ => k_is)
    (case zzN => refine' ⟨?zzn0_1, ?zzn1_1, ?zzn2_1, ?zzn3_1, ?zzn4_1, ?zzn5_1, ?zzn6_1, ?zzn7_1, ?zzn8_1, ?zzn9_1, ?zzn10_1, ?zzn11_1, ?zzn12_1, ?zzn13_1, ?zzn14_1, ?zzn15_1⟩; (case zzn0_1 => k_is); (case zzn1_1 => k_is); (case zzn2_1 => k_is); (case zzn3_1 => k_is); (case zzn4_1 => k_is); (case zzn5_1 => k_is); (case zzn6_1 => k_is); (case zzn7_1 => k_is); (case zzn8_1 => k_is); (case zzn9_1 => k_is); (case zzn10_1 => k_is); (case zzn11_1 => k_is); (case zzn12_1 => k_is); (case zzn13_1 => k_is); (case zzn14_1 => k_is); (case zzn15_1 => k_is))
    (case zzKH_ => refine' ⟨?zzpg_2, ?zzhd_2, ?zzpo_2, ?zzsa_2, ?zzmkk_2, ?zzkc_2⟩; (case zzpg_2 => first | rfl | k_is); (case zzhd_2 => first | rfl | k_is); (case zzpo_2 => first | rfl | k_is); (case zzsa_2 => first | rfl | k_is); (case zzmkk_2 => first | rfl | k_is); (case zzkc_2 => first | rfl | k_is))
    (case zzAH_ => refine' ⟨?zzn0_3, ?zzn1_3, ?zzn2_3, ?zzn3_3, ?zzn4_3, ?zzn5_3, ?zzn6_3, ?zzn7_3⟩; (case zzn0_3 => first | rfl | k_is); (case zzn1_3 => first | rfl | k_is); (case zzn2_3 => first | rfl | k_is); (case zzn3_3 => first | rfl | k_is); (case zzn4_3 => first | rfl | k_is); (case zzn5_3 => first | rfl | k_is); (case zzn6_3 => first | rfl | k_is); (case zzn7_3 => first | rfl | k_is))
    (case zzKD_ => refine' ⟨?zzpg_4, ?zzhd_4, ?zzpo_4, ?zzsa_4, ?zzmkk_4, ?zzkc_4⟩; (case zzpg_4 => first | rfl | k_is); (case zzhd_4 => first | rfl | k_is); (case zzpo_4 => first | rfl | k_is); (case zzsa_4 => first | rfl | k_is); (case zzmkk_4 => first | rfl | k_is); (case zzkc_4 => first | rfl | k_is))
    (case zzAD_ => refine' ⟨?zzn0_5, ?zzn1_5, ?zzn2_5, ?zzn3_5⟩; (case zzn0_5 => first | rfl | k_is); (case zzn1_5 => first | rfl | k_is); (case zzn2_5 => first | rfl | k_is); (case zzn3_5 => first | rfl | k_is))
    (case zzSTAKEN => refine' Hs.mkSeq ?zza_6 ?zzl_6 ?zzc_6 ?zzd_6 ?zzz_6 ?zzv_6; (case zza_6 => k_is); (case zzl_6 => k_is); (case zzc_6 => rfl); (case zzd_6 => rfl); (case zzz_6 => decide); (case zzv_6 => exact .cons ⟨_, rfl⟩ (.cons ⟨_, rfl⟩ (.cons ⟨_, rfl⟩ (.nil)))))
    (case zzLETTERS => refine' Hs.mkStr ?zza_7; (case zza_7 => first | k_is | (k_is; rfl)))
    (case zzFIRSTP => refine' Hs.mkInt ?zza_8 ?zze_8; (case zza_8 => k_is); (case zze_8 => first | rfl | decide +kernel))
    (case zzNOBODY => refine' Hs.mkStr ?zza_9; (case zza_9 => k_is))
    (case zzm0 => refine' Hs.mkM ?zza_10 ?zzi_10 ?zzl_10 ?zzc_10 ?zzk_10; (case zza_10 => k_is); (case zzi_10 => k_is); (case zzl_10 => k_is); (case zzc_10 => k_is); (case zzk_10 => k_is))
    (case zzm1 => refine' Hs.mkM ?zza_11 ?zzi_11 ?zzl_11 ?zzc_11 ?zzk_11; (case zza_11 => k_is); (case zzi_11 => k_is); (case zzl_11 => k_is); (case zzc_11 => k_is); (case zzk_11 => k_is))
    (case zzm2 => refine' Hs.mkM ?zza_12 ?zzi_12 ?zzl_12 ?zzc_12 ?zzk_12; (case zza_12 => k_is); (case zzi_12 => k_is); (case zzl_12 => k_is); (case zzc_12 => k_is); (case zzk_12 => k_is))
    (case zzm3 => refine' Hs.mkM ?zza_13 ?zzi_13 ?zzl_13 ?zzc_13 ?zzk_13; (case zza_13 => k_is); (case zzi_13 => k_is); (case zzl_13 => k_is); (case zzc_13 => k_is); (case zzk_13 => k_is))
    (case zzm4 => refine' Hs.mkM ?zza_14 ?zzi_14 ?zzl_14 ?zzc_14 ?zzk_14; (case zza_14 => k_is); (case zzi_14 => k_is); (case zzl_14 => k_is); (case zzc_14 => k_is); (case zzk_14 => k_is))
    (case zzm5 => refine' Hs.mkM ?zza_15 ?zzi_15 ?zzl_15 ?zzc_15 ?zzk_15; (case zza_15 => k_is); (case zzi_15 => k_is); (case zzl_15 => k_is); (case zzc_15 => k_is); (case zzk_15 => k_is))
    (case zzm6 => refine' Hs.mkM ?zza_16 ?zzi_16 ?zzl_16 ?zzc_16 ?zzk_16; (case zza_16 => k_is); (case zzi_16 => k_is); (case zzl_16 => k_is); (case zzc_16 => k_is); (case zzk_16 => k_is))
    (case zzm7 => refine' Hs.mkM ?zza_17 ?zzi_17 ?zzl_17 ?zzc_17 ?zzk_17; (case zza_17 => k_is); (case zzi_17 => k_is); (case zzl_17 => k_is); (case zzc_17 => k_is); (case zzk_17 => k_is))
    (case zzm8 => refine' Hs.mkM ?zza_18 ?zzi_18 ?zzl_18 ?zzc_18 ?zzk_18; (case zza_18 => k_is); (case zzi_18 => k_is); (case zzl_18 => k_is); (case zzc_18 => k_is); (case zzk_18 => k_is))
    (case zzm9 => refine' Hs.mkM ?zza_19 ?zzi_19 ?zzl_19 ?zzc_19 ?zzk_19; (case zza_19 => k_is); (case zzi_19 => k_is); (case zzl_19 => k_is); (case zzc_19 => k_is); (case zzk_19 => k_is))
    (case zzXDF => refine' Hs.mkX ?zza_20 ?zzl_20 ?zzr_20; (case zza_20 => k_is); (case zzl_20 => k_is); (case zzr_20 => first | rfl | decide +kernel))
    (case zzYDF => refine' ⟨?zzsa_21, ?zzexC_21, ?zztyC_21, ?zzkC_21, ?zznv_21, ?zzga_21, ?zzgg_21, ?zzhdC_21, ?zziC_21, ?zzsC_21⟩; (case zzsa_21 => first | rfl | k_is); (case zzexC_21 => first | rfl | k_is); (case zztyC_21 => first | rfl | k_is); (case zzkC_21 => first | rfl | k_is); (case zznv_21 => first | rfl | k_is); (case zzga_21 => first | rfl | k_is); (case zzgg_21 => first | rfl | k_is); (case zzhdC_21 => first | rfl | k_is); (case zziC_21 => first | rfl | k_is); (case zzsC_21 => first | rfl | k_is))
    (case zzEDF => refine' Hs.mkE ?zza_22 ?zzi_22 ?zzl_22 ?zzc_22 ?zzk_22; (case zza_22 => k_is); (case zzi_22 => k_is); (case zzl_22 => k_is); (case zzc_22 => k_is); (case zzk_22 => k_is))
    (case zzZDF => refine' ⟨?zzexM_23, ?zziM_23, ?zztM_23, ?zzsDM_23, ?zzca_23, ?zzcn_23, ?zzct_23, ?zzob_23, ?zzkD_23⟩; (case zzexM_23 => first | rfl | k_is); (case zziM_23 => first | rfl | k_is); (case zztM_23 => first | rfl | k_is); (case zzsDM_23 => first | rfl | k_is); (case zzca_23 => first | rfl | k_is); (case zzcn_23 => first | rfl | k_is); (case zzct_23 => first | rfl | k_is); (case zzob_23 => first | rfl | k_is); (case zzkD_23 => first | rfl | k_is))
    (case zzXDB => refine' Hs.mkX ?zza_24 ?zzl_24 ?zzr_24; (case zza_24 => k_is); (case zzl_24 => k_is); (case zzr_24 => first | rfl | decide +kernel))
    (case zzYDB => refine' ⟨?zzsa_25, ?zzexC_25, ?zztyC_25, ?zzkC_25, ?zznv_25, ?zzga_25, ?zzgg_25, ?zzhdC_25, ?zziC_25, ?zzsC_25⟩; (case zzsa_25 => first | rfl | k_is); (case zzexC_25 => first | rfl | k_is); (case zztyC_25 => first | rfl | k_is); (case zzkC_25 => first | rfl | k_is); (case zznv_25 => first | rfl | k_is); (case zzga_25 => first | rfl | k_is); (case zzgg_25 => first | rfl | k_is); (case zzhdC_25 => first | rfl | k_is); (case zziC_25 => first | rfl | k_is); (case zzsC_25 => first | rfl | k_is))
    (case zzEDB => refine' Hs.mkE ?zza_26 ?zzi_26 ?zzl_26 ?zzc_26 ?zzk_26; (case zza_26 => k_is); (case zzi_26 => k_is); (case zzl_26 => k_is); (case zzc_26 => k_is); (case zzk_26 => k_is))
    (case zzZDB => refine' ⟨?zzexM_27, ?zziM_27, ?zztM_27, ?zzsDM_27, ?zzca_27, ?zzcn_27, ?zzct_27, ?zzob_27, ?zzkD_27⟩; (case zzexM_27 => first | rfl | k_is); (case zziM_27 => first | rfl | k_is); (case zztM_27 => first | rfl | k_is); (case zzsDM_27 => first | rfl | k_is); (case zzca_27 => first | rfl | k_is); (case zzcn_27 => first | rfl | k_is); (case zzct_27 => first | rfl | k_is); (case zzob_27 => first | rfl | k_is); (case zzkD_27 => first | rfl | k_is))
    (case zzcaught => refine' Hs.mkF ?zza_28 ?zzl_28 ?zzc_28 ?zzk_28; (case zza_28 => k_is); (case zzl_28 => k_is); (case zzc_28 => k_is); (case zzk_28 => k_is))
    (case zzf0 => refine' Hs.mkF ?zza_29 ?zzl_29 ?zzc_29 ?zzk_29; (case zza_29 => k_is); (case zzl_29 => k_is); (case zzc_29 => k_is); (case zzk_29 => k_is))
    (case zzf1 => refine' Hs.mkF ?zza_30 ?zzl_30 ?zzc_30 ?zzk_30; (case zza_30 => k_is); (case zzl_30 => k_is); (case zzc_30 => k_is); (case zzk_30 => k_is))
    (case zzf2 => refine' Hs.mkF ?zza_31 ?zzl_31 ?zzc_31 ?zzk_31; (case zza_31 => k_is); (case zzl_31 => k_is); (case zzc_31 => k_is); (case zzk_31 => k_is))
    (case zzf3 => refine' Hs.mkF ?zza_32 ?zzl_32 ?zzc_32 ?zzk_32; (case zza_32 => k_is); (case zzl_32 => k_is); (case zzc_32 => k_is); (case zzk_32 => k_is))
    (case zzf4 => refine' Hs.mkF ?zza_33 ?zzl_33 ?zzc_33 ?zzk_33; (case zza_33 => k_is); (case zzl_33 => k_is); (case zzc_33 => k_is); (case zzk_33 => k_is))
    (case zzf5 => refine' Hs.mkF ?zza_34 ?zzl_34 ?zzc_34 ?zzk_34; (case zza_34 => k_is); (case zzl_34 => k_is); (case zzc_34 => k_is); (case zzk_34 => k_is))
    (case zzf6 => refine' Hs.mkF ?zza_35 ?zzl_35 ?zzc_35 ?zzk_35; (case zza_35 => k_is); (case zzl_35 => k_is); (case zzc_35 => k_is); (case zzk_35 => k_is))
    (case zzf7 => refine' Hs.mkF ?zza_36 ?zzl_36 ?zzc_36 ?zzk_36; (case zza_36 => k_is); (case zzl_36 => k_is); (case zzc_36 => k_is); (case zzk_36 => k_is))
    (case zzf8 => refine' Hs.mkF ?zza_37 ?zzl_37 ?zzc_37 ?zzk_37; (case zza_37 => k_is); (case zzl_37 => k_is); (case zzc_37 => k_is); (case zzk_37 => k_is))
    (case zzf9 => refine' Hs.mkF ?zza_38 ?zzl_38 ?zzc_38 ?zzk_38; (case zza_38 => k_is); (case zzl_38 => k_is); (case zzc_38 => k_is); (case zzk_38 => k_is))
    (case zzf10 => refine' Hs.mkF ?zza_39 ?zzl_39 ?zzc_39 ?zzk_39; (case zza_39 => k_is); (case zzl_39 => k_is); (case zzc_39 => k_is); (case zzk_39 => k_is))
    (case zzf11 => refine' Hs.mkF ?zza_40 ?zzl_40 ?zzc_40 ?zzk_40; (case zza_40 => k_is); (case zzl_40 => k_is); (case zzc_40 => k_is); (case zzk_40 => k_is))
    (case zzf12 => refine' Hs.mkF ?zza_41 ?zzl_41 ?zzc_41 ?zzk_41; (case zza_41 => k_is); (case zzl_41 => k_is); (case zzc_41 => k_is); (case zzk_41 => k_is))
    (case zzf13 => refine' Hs.mkF ?zza_42 ?zzl_42 ?zzc_42 ?zzk_42; (case zza_42 => k_is); (case zzl_42 => k_is); (case zzc_42 => k_is); (case zzk_42 => k_is))
    (case zzf14 => refine' Hs.mkF ?zza_43 ?zzl_43 ?zzc_43 ?zzk_43; (case zza_43 => k_is); (case zzl_43 => k_is); (case zzc_43 => k_is); (case zzk_43 => k_is))
    (case zzf15 => refine' Hs.mkF ?zza_44 ?zzl_44 ?zzc_44 ?zzk_44; (case zza_44 => k_is); (case zzl_44 => k_is); (case zzc_44 => k_is); (case zzk_44 => k_is))
    (case zzf16 => refine' Hs.mkF ?zza_45 ?zzl_45 ?zzc_45 ?zzk_45; (case zza_45 => k_is); (case zzl_45 => k_is); (case zzc_45 => k_is); (case zzk_45 => k_is))
    (case zzf17 => refine' Hs.mkF ?zza_46 ?zzl_46 ?zzc_46 ?zzk_46; (case zza_46 => k_is); (case zzl_46 => k_is); (case zzc_46 => k_is); (case zzk_46 => k_is))
    (case zzf18 => refine' Hs.mkF ?zza_47 ?zzl_47 ?zzc_47 ?zzk_47; (case zza_47 => k_is); (case zzl_47 => k_is); (case zzc_47 => k_is); (case zzk_47 => k_is))
    (case zzf19 => refine' Hs.mkF ?zza_48 ?zzl_48 ?zzc_48 ?zzk_48; (case zza_48 => k_is); (case zzl_48 => k_is); (case zzc_48 => k_is); (case zzk_48 => k_is))
    (case zzf20 => refine' Hs.mkF ?zza_49 ?zzl_49 ?zzc_49 ?zzk_49; (case zza_49 => k_is); (case zzl_49 => k_is); (case zzc_49 => k_is); (case zzk_49 => k_is))
    (case zzf21 => refine' Hs.mkF ?zza_50 ?zzl_50 ?zzc_50 ?zzk_50; (case zza_50 => k_is); (case zzl_50 => k_is); (case zzc_50 => k_is); (case zzk_50 => k_is))
    (case zzL0 => refine' Hs.mkL ?zza_51 ?zzl_51 ?zzc_51 ?zzk_51 ?zzo_51 ?zzv_51 ?zzh_51 ?zzn_51; (case zza_51 => k_is); (case zzl_51 => k_is); (case zzc_51 => k_is); (case zzk_51 => k_is); (case zzo_51 => k_is); (case zzv_51 => rfl); (case zzh_51 => first | rfl | k_is | kernel_rfl); (case zzn_51 => first | kernel_rfl | decide +kernel))
    (case zzm10 => refine' Hs.mkM ?zza_52 ?zzi_52 ?zzl_52 ?zzc_52 ?zzk_52; (case zza_52 => k_is); (case zzi_52 => k_is); (case zzl_52 => k_is); (case zzc_52 => k_is); (case zzk_52 => k_is))
    (case zzm11 => refine' Hs.mkM ?zza_53 ?zzi_53 ?zzl_53 ?zzc_53 ?zzk_53; (case zza_53 => k_is); (case zzi_53 => k_is); (case zzl_53 => k_is); (case zzc_53 => k_is); (case zzk_53 => k_is))
    (case zzm12 => refine' Hs.mkM ?zza_54 ?zzi_54 ?zzl_54 ?zzc_54 ?zzk_54; (case zza_54 => k_is); (case zzi_54 => k_is); (case zzl_54 => k_is); (case zzc_54 => k_is); (case zzk_54 => k_is))
    (case zzm13 => refine' Hs.mkM ?zza_55 ?zzi_55 ?zzl_55 ?zzc_55 ?zzk_55; (case zza_55 => k_is); (case zzi_55 => k_is); (case zzl_55 => k_is); (case zzc_55 => k_is); (case zzk_55 => k_is))
    (case zzm14 => refine' Hs.mkM ?zza_56 ?zzi_56 ?zzl_56 ?zzc_56 ?zzk_56; (case zza_56 => k_is); (case zzi_56 => k_is); (case zzl_56 => k_is); (case zzc_56 => k_is); (case zzk_56 => k_is))
