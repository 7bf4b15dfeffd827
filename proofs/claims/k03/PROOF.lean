import PyProof.Rows.All
import Wide.All
import OpenK.AllK
import Wide.FinOn
import PyProof.EqAt
import PyProof.EqKinds
import PyProof.NeKinds
import KE.KOpsOwn
import HandS.ForMost
import HandS.Wide
import HandS.Gcd
import HandS.IsInst
import HandS.Defaults
import HandS.OwnEq
import HandS.SlotsOwn
import HandS.Codes
import PySem.Challenge.RW_whoseuse_k03_amounts_compared
import HandS.Dict
set_option Elab.async false
set_option linter.all false
set_option maxRecDepth 100000
set_option maxHeartbeats 8000000
/-! operators of an own class: library level -/
namespace AmL
open PySem PySem.SeqAt PySem.Calls PyProof.Rows
open AutoSeq1 (wpAny_loadPart')
open MeetsSeq

section
variable {prog : Program} {w : World} {A : Around} {E : Value → Shared → Prop} {s : Shared} {K : PySem.W.Frag} {C : Addr}

theorem refl_inst {x : Addr} {v : Value} {T id : String} {f : Addr} {op : CmpOp} {ox : Obj} {od : Option Obj} {Q : Value → Shared → Prop} (hu : A.units < cLine)
    (X : K.In s.heap) (I : PySem.W.InstAt s.heap x ox C od) (hT : s.TypeIs v T) (slot : Slot T (cmpInfo op).2.1 id)
    (dec : ∀ Q' : Value → Shared → Prop, Q' .notImplemented s → wpAny (model prog w) A (call (.builtin id) [v, .ref x]) Q' E s)
    (hsub : PySem.W.subIn K (.ref C) (.type T) = some false)
    (hs : PySem.W.findIn K (.ref C) (cmpInfo op).2.2 = some (some (.ref f))) (hf : PySem.W.isFn K (.ref f) = true)
    (h : wpAny (model prog w) A (call (.ref f) [.ref x, v]) (PySem.W.CmpBack Q) E s) : wpAny (model prog w) A (richCompare op v (.ref x)) Q E s := by
  have one : wpAny (model prog w) A (tryCompare (.ref x) (cmpInfo op).2.2 v) (fun r s' => ∃ v, r = some v ∧ Q v s') E s := by
    unfold tryCompare
    refine wpAny_bind (PySem.W.ifBound_K X I hs hf (wpAny_mono h (fun v s' hv => ?_) fun _ _ e => e))
    cases v <;> first | exact hv.elim | exact wpAny_pure ⟨_, rfl, hv⟩
  have hne : (Value.type T != Value.ref C) = true := by
    rw [bne, beq_eq_false_iff_ne.mpr (fun q => by cases q)]; rfl
  rcases hi : cmpInfo op with ⟨sym, f', r'⟩
  rw [hi] at slot one
  simp only [richCompare, hi, hT.oneThing_none]
  refine wpAny_holding ?_
  refine wpAny_bind (wpAny_cRoomFor hu ?_)
  refine wpAny_bind (wpAny_typeOf hT (wpAny_bind (I.type.here ?_)))
  simp only [hne, if_true]
  refine wpAny_bind ((PySem.W.looks_subIn X hsub).here ?_)
  simp only [Bool.false_eq_true, if_false]
  refine wpAny_bind (m := tryCompare v _ (.ref x)) (wpAny_tryCompare_declines hT slot (dec _ ⟨rfl, ?_⟩))
  simp only [Bool.not_false, if_true]
  refine wpAny_bind (wpAny_mono one (fun r s' z => ?_) fun _ _ e => e)
  obtain ⟨u, rfl, hq⟩ := z
  exact wpAny_pure hq


/-- the != that object gives: not (x == b) -/
theorem try_ne {x : Addr} {b : Value} {f : Addr} {ox : Obj} {od : Option Obj} {Q : Option Value → Shared → Prop} (hu : A.units + 1 < cLine)
    (X : K.In s.heap) (I : PySem.W.InstAt s.heap x ox C od)
    (hs : PySem.W.findIn K (.ref C) "__ne__" = some (some (.builtin "object.__ne__"))) (hobj : PySem.W.mroIn K C (.type "object") = some true)
    (he : PySem.W.findIn K (.ref C) "__eq__" = some (some (.ref f))) (hf : PySem.W.isFn K (.ref f) = true)
    (h : wpAny (model prog w) A.in1 (call (.ref f) [.ref x, b]) (fun v s' => ∃ k, v = .bool k ∧ Q (some (.bool (!k))) s') E s) : wpAny (model prog w) A (tryCompare (.ref x) "__ne__" b) Q E s := by
  have sub : PySem.W.Looks (model prog w) s.heap (isInstance (.ref x) (.type "object")) true := I.type.andThen (PySem.W.looks_mroIn X hobj)
  have main : wpAny (model prog w) A (call (.builtin "object.__ne__") [.ref x, b]) (fun v s' => ∃ k, v = .bool k ∧ Q (some (.bool k)) s') E s := by
    refine wpAny_call (codeAny_call_builtin F.slot_object_ne.plain F.entry_object_ne (@PySem.W.check_slot (model prog w) _ _ s "object.__ne__" "object" "__ne__" (.ref x) [b] [] _ F.cmpKind_ne F.cmpSplit_ne sub (F.cmpArgs_ne _ _) ?_))
    unfold Builtin.«object.__ne__»
    refine wpAny_bind (m := slotArgs _ _ _) (wpAny_pure ?_)
    refine wpAny_bind (wpAny_cRoomFor hu ?_)
    refine wpAny_bind (m := callSpecialIfBound? (.ref x) _ _) (PySem.W.ifBound_K X I he hf (wpAny_mono h (fun v s' hv => ?_) fun _ _ e => e))
    obtain ⟨k, rfl, q⟩ := hv
    refine wpAny_bind (wpAny_truthy_bool ?_)
    exact wpAny_pure ⟨_, rfl, q⟩
  unfold tryCompare
  refine wpAny_bind (m := callSpecialIfBound? (.ref x) _ _) ?_
  simp only [callSpecialIfBound?, bindSpecialIfBound?]
  refine wpAny_holding (wpAny_bind (wpAny_bind (wpAny_bind (I.type.here ((PySem.W.looks_findIn X hs).here ?_)))))
  refine wpAny_bind (wpAny_askSetting (wpAny_ite ?_))
  have bd : PySem.W.Looks (model prog w) s.heap (bindSpecial (.builtin "object.__ne__") (.ref x)) (.builtin "object.__ne__", [.ref x]) := PySem.W.Looks.of_pure (F.slot_object_ne.bind _)
  have fin : wpAny (model prog w) A (call (.builtin "object.__ne__") ([.ref x] ++ [b]) >>= fun v => pure (some v)) (fun r s' => wpAny (model prog w) A (match r with | some .notImplemented | none => pure none | some v => pure (some v)) Q E s') E s := by
    refine wpAny_bind (wpAny_mono main (fun v s' h' => ?_) fun _ _ h' => h')
    obtain ⟨k, rfl, q⟩ := h'
    exact wpAny_pure (wpAny_pure q)
  split
  · exact wpAny_bind (bd.here (wpAny_pure (by exact fin)))
  · exact wpAny_tryCatch (wpAny_bind (bd.here (wpAny_pure (by exact fin))))

/-- x != b, x an instance with an own == and no own != -/
theorem ne_inst {x : Addr} {b tb : Value} {f : Addr} {ox : Obj} {od : Option Obj} {Q : Value → Shared → Prop} (hu : A.units + 1 < cLine)
    (X : K.In s.heap) (I : PySem.W.InstAt s.heap x ox C od) (hb : PySem.W.Looks (model prog w) s.heap (typeOf b) tb) (hn : PySem.W.notFirst K C tb = true)
    (hs : PySem.W.findIn K (.ref C) "__ne__" = some (some (.builtin "object.__ne__"))) (hobj : PySem.W.mroIn K C (.type "object") = some true)
    (he : PySem.W.findIn K (.ref C) "__eq__" = some (some (.ref f))) (hf : PySem.W.isFn K (.ref f) = true)
    (h : wpAny (model prog w) A.in1 (call (.ref f) [.ref x, b]) (fun v s' => ∃ k, v = .bool k ∧ Q (.bool (!k)) s') E s) : wpAny (model prog w) A (richCompare .NotEq (.ref x) b) Q E s := by
  have one : wpAny (model prog w) A (tryCompare (.ref x) "__ne__" b) (fun r s' => ∃ v, r = some v ∧ Q v s') E s :=
    try_ne hu X I hs hobj he hf (wpAny_mono h (fun v s' ⟨k, e, q⟩ => ⟨k, e, _, rfl, q⟩) fun _ _ e => e)
  unfold richCompare
  simp only [oneThing_ref]
  refine wpAny_holding (wpAny_bind (wpAny_cRoomFor (by omega) ?_))
  refine wpAny_bind (I.type.here (wpAny_bind (hb.here ?_)))
  split
  · rename_i q
    have e : PySem.W.subIn K tb (.ref C) = some false := by
      rcases Bool.or_eq_true_iff.mp hn with e | e
      · rw [beq_iff_eq.mp e] at q; simp at q
      · exact beq_iff_eq.mp e
    refine wpAny_bind ((PySem.W.looks_subIn X e).here ?_)
    simp only [Bool.false_eq_true, if_false]
    refine wpAny_bind (wpAny_mono one (fun r s' z => ?_) fun _ _ e => e)
    obtain ⟨v, rfl, hq⟩ := z
    exact wpAny_pure hq
  · refine wpAny_bind (wpAny_pure ?_)
    simp only [Bool.false_eq_true, if_false]
    refine wpAny_bind (wpAny_mono one (fun r s' z => ?_) fun _ _ e => e)
    obtain ⟨v, rfl, hq⟩ := z
    exact wpAny_pure hq

/-- v != x, v of a built-in type that declines, x an instance -/
theorem ne_refl {x : Addr} {v : Value} {T id : String} {f : Addr} {ox : Obj} {od : Option Obj} {Q : Value → Shared → Prop} (hu : A.units + 1 < cLine)
    (X : K.In s.heap) (I : PySem.W.InstAt s.heap x ox C od) (hT : s.TypeIs v T) (slot : Slot T (cmpInfo .NotEq).2.1 id)
    (dec : ∀ Q' : Value → Shared → Prop, Q' .notImplemented s → wpAny (model prog w) A (call (.builtin id) [v, .ref x]) Q' E s)
    (hsub : PySem.W.subIn K (.ref C) (.type T) = some false)
    (hs : PySem.W.findIn K (.ref C) "__ne__" = some (some (.builtin "object.__ne__"))) (hobj : PySem.W.mroIn K C (.type "object") = some true)
    (he : PySem.W.findIn K (.ref C) "__eq__" = some (some (.ref f))) (hf : PySem.W.isFn K (.ref f) = true)
    (h : wpAny (model prog w) A.in1 (call (.ref f) [.ref x, v]) (fun v s' => ∃ k, v = .bool k ∧ Q (.bool (!k)) s') E s) : wpAny (model prog w) A (richCompare .NotEq v (.ref x)) Q E s := by
  have one : wpAny (model prog w) A (tryCompare (.ref x) (cmpInfo .NotEq).2.2 v) (fun r s' => ∃ v, r = some v ∧ Q v s') E s :=
    try_ne hu X I hs hobj he hf (wpAny_mono h (fun v s' ⟨k, e, q⟩ => ⟨k, e, _, rfl, q⟩) fun _ _ e => e)
  have hne : (Value.type T != Value.ref C) = true := by
    rw [bne, beq_eq_false_iff_ne.mpr (fun q => by cases q)]; rfl
  rcases hi : cmpInfo CmpOp.NotEq with ⟨sym, f', r'⟩
  rw [hi] at slot one
  simp only [richCompare, hi, hT.oneThing_none]
  refine wpAny_holding ?_
  refine wpAny_bind (wpAny_cRoomFor (by omega) ?_)
  refine wpAny_bind (wpAny_typeOf hT (wpAny_bind (I.type.here ?_)))
  simp only [hne, if_true]
  refine wpAny_bind ((PySem.W.looks_subIn X hsub).here ?_)
  simp only [Bool.false_eq_true, if_false]
  refine wpAny_bind (m := tryCompare v _ (.ref x)) (wpAny_tryCompare_declines hT slot (dec _ ⟨rfl, ?_⟩))
  simp only [Bool.not_false, if_true]
  refine wpAny_bind (wpAny_mono one (fun r s' z => ?_) fun _ _ e => e)
  obtain ⟨u, rfl, hq⟩ := z
  exact wpAny_pure hq

/-! ### what declines beside an instance -/
section
variable {a : Addr}
abbrev PlainAt (s : Shared) (a C : Addr) : Prop := ∃ dd sl, s.heap.get? a = some { cls := .ref C, dict := dd, data := .plain, slots := sl }
theorem dec_int_eq (b : Int) (u : Tok) (C : Addr) : Meets (Builtin.«int.__eq__» ⟨[.int b u, .ref a], []⟩) (fun _ R s => PlainAt s a C ∧ R (.ok (.ret .notImplemented)) s) :=
  .of_wp fun prog w A R s h => by obtain ⟨hp, g, d, tk, os⟩ := s; obtain ⟨⟨dd, sl, hl⟩, h⟩ := h; wp_walk using wpAny_loadPart' hl, wpAny_load hl; exact ⟨_, rfl, h⟩
theorem dec_int_ne (b : Int) (u : Tok) (C : Addr) : Meets (Builtin.«int.__ne__» ⟨[.int b u, .ref a], []⟩) (fun _ R s => PlainAt s a C ∧ R (.ok (.ret .notImplemented)) s) :=
  .of_wp fun prog w A R s h => by obtain ⟨hp, g, d, tk, os⟩ := s; obtain ⟨⟨dd, sl, hl⟩, h⟩ := h; wp_walk using wpAny_loadPart' hl, wpAny_load hl; exact ⟨_, rfl, h⟩
theorem dec_int_lt (b : Int) (u : Tok) (C : Addr) : Meets (Builtin.«int.__lt__» ⟨[.int b u, .ref a], []⟩) (fun _ R s => PlainAt s a C ∧ R (.ok (.ret .notImplemented)) s) :=
  .of_wp fun prog w A R s h => by obtain ⟨hp, g, d, tk, os⟩ := s; obtain ⟨⟨dd, sl, hl⟩, h⟩ := h; wp_walk using wpAny_loadPart' hl, wpAny_load hl; exact ⟨_, rfl, h⟩
theorem dec_int_le (b : Int) (u : Tok) (C : Addr) : Meets (Builtin.«int.__le__» ⟨[.int b u, .ref a], []⟩) (fun _ R s => PlainAt s a C ∧ R (.ok (.ret .notImplemented)) s) :=
  .of_wp fun prog w A R s h => by obtain ⟨hp, g, d, tk, os⟩ := s; obtain ⟨⟨dd, sl, hl⟩, h⟩ := h; wp_walk using wpAny_loadPart' hl, wpAny_load hl; exact ⟨_, rfl, h⟩
theorem dec_int_gt (b : Int) (u : Tok) (C : Addr) : Meets (Builtin.«int.__gt__» ⟨[.int b u, .ref a], []⟩) (fun _ R s => PlainAt s a C ∧ R (.ok (.ret .notImplemented)) s) :=
  .of_wp fun prog w A R s h => by obtain ⟨hp, g, d, tk, os⟩ := s; obtain ⟨⟨dd, sl, hl⟩, h⟩ := h; wp_walk using wpAny_loadPart' hl, wpAny_load hl; exact ⟨_, rfl, h⟩
theorem dec_int_ge (b : Int) (u : Tok) (C : Addr) : Meets (Builtin.«int.__ge__» ⟨[.int b u, .ref a], []⟩) (fun _ R s => PlainAt s a C ∧ R (.ok (.ret .notImplemented)) s) :=
  .of_wp fun prog w A R s h => by obtain ⟨hp, g, d, tk, os⟩ := s; obtain ⟨⟨dd, sl, hl⟩, h⟩ := h; wp_walk using wpAny_loadPart' hl, wpAny_load hl; exact ⟨_, rfl, h⟩
theorem dec_bool_eq (b : Bool) (C : Addr) : Meets (Builtin.«int.__eq__» ⟨[.bool b, .ref a], []⟩) (fun _ R s => PlainAt s a C ∧ R (.ok (.ret .notImplemented)) s) :=
  .of_wp fun prog w A R s h => by obtain ⟨hp, g, d, tk, os⟩ := s; obtain ⟨⟨dd, sl, hl⟩, h⟩ := h; wp_walk using wpAny_loadPart' hl, wpAny_load hl; exact ⟨_, rfl, h⟩
theorem dec_none_eq : Gives (Builtin.«NoneType.__eq__» ⟨[.none, .ref a], []⟩) (.val (Value.notImplemented)) :=
  .of_wp fun M A E s Q h => by obtain ⟨hp, g, d, tk, os⟩ := s; wp_walk; exact ⟨_, rfl, h⟩
theorem dec_str_eq (b : Str) (u : Tok) (C : Addr) : Meets (Builtin.«str.__eq__» ⟨[.str b u, .ref a], []⟩) (fun _ R s => PlainAt s a C ∧ R (.ok (.ret .notImplemented)) s) :=
  .of_wp fun prog w A R s h => by obtain ⟨hp, g, d, tk, os⟩ := s; obtain ⟨⟨dd, sl, hl⟩, h⟩ := h; wp_walk using wpAny_loadPart' hl, wpAny_load hl; exact ⟨_, rfl, h⟩
theorem dec_list_eq {l : Addr} {R : Result → Shared → Prop} (sub : PySem.W.Looks (model prog w) s.heap (isInstance (.ref a) (.type "list")) false) (h : R (.ok (.ret .notImplemented)) s) :
    wpAny (model prog w) A.in1 (Builtin.«list.__eq__» ⟨[.ref l, .ref a], []⟩) (fun fin s' => match fin with | .done f => R (.ok f) s' | .again c' => c'.quiet = true ∧ codeAny (model prog w) A c' R s') (fun e s' => R (.error e) s') s := by
  refine wpAny_bind (m := slotArgs _ _ _) (wpAny_pure ?_)
  refine wpAny_bind (m := isInstance _ _) (sub.here ?_)
  wp_walk
  exact h
theorem dec_tuple_eq {l : Addr} {R : Result → Shared → Prop} (sub : PySem.W.Looks (model prog w) s.heap (isInstance (.ref a) (.type "tuple")) false) (h : R (.ok (.ret .notImplemented)) s) :
    wpAny (model prog w) A.in1 (Builtin.«tuple.__eq__» ⟨[.ref l, .ref a], []⟩) (fun fin s' => match fin with | .done f => R (.ok f) s' | .again c' => c'.quiet = true ∧ codeAny (model prog w) A c' R s') (fun e s' => R (.error e) s') s := by
  refine wpAny_bind (m := slotArgs _ _ _) (wpAny_pure ?_)
  refine wpAny_bind (m := isInstance _ _) (sub.here ?_)
  wp_walk
  exact h
theorem dec_dict_eq {l : Addr} {R : Result → Shared → Prop} (sub : PySem.W.Looks (model prog w) s.heap (isInstance (.ref a) (.type "dict")) false) (h : R (.ok (.ret .notImplemented)) s) :
    wpAny (model prog w) A.in1 (Builtin.«dict.__eq__» ⟨[.ref l, .ref a], []⟩) (fun fin s' => match fin with | .done f => R (.ok f) s' | .again c' => c'.quiet = true ∧ codeAny (model prog w) A c' R s') (fun e s' => R (.error e) s') s := by
  have e : Builtin.Dict.dictSlotArgs "__eq__" ⟨[.ref l, .ref a], []⟩ = pure (.ref l, .ref a) := by kernel_rfl
  refine wpAny_bind (m := Builtin.Dict.dictSlotArgs _ _) ?_
  rw [e]
  refine wpAny_pure ?_
  refine wpAny_bind (m := isInstance _ _) (sub.here ?_)
  wp_walk
  exact h
theorem dec_bool_ne (b : Bool) (C : Addr) : Meets (Builtin.«int.__ne__» ⟨[.bool b, .ref a], []⟩) (fun _ R s => PlainAt s a C ∧ R (.ok (.ret .notImplemented)) s) :=
  .of_wp fun prog w A R s h => by obtain ⟨hp, g, d, tk, os⟩ := s; obtain ⟨⟨dd, sl, hl⟩, h⟩ := h; wp_walk using wpAny_loadPart' hl, wpAny_load hl; exact ⟨_, rfl, h⟩
theorem dec_none_ne : Gives (Builtin.«NoneType.__ne__» ⟨[.none, .ref a], []⟩) (.val (Value.notImplemented)) :=
  .of_wp fun M A E s Q h => by obtain ⟨hp, g, d, tk, os⟩ := s; wp_walk; exact ⟨_, rfl, h⟩
theorem dec_str_ne (b : Str) (u : Tok) (C : Addr) : Meets (Builtin.«str.__ne__» ⟨[.str b u, .ref a], []⟩) (fun _ R s => PlainAt s a C ∧ R (.ok (.ret .notImplemented)) s) :=
  .of_wp fun prog w A R s h => by obtain ⟨hp, g, d, tk, os⟩ := s; obtain ⟨⟨dd, sl, hl⟩, h⟩ := h; wp_walk using wpAny_loadPart' hl, wpAny_load hl; exact ⟨_, rfl, h⟩
theorem dec_list_ne {l : Addr} {R : Result → Shared → Prop} (sub : PySem.W.Looks (model prog w) s.heap (isInstance (.ref a) (.type "list")) false) (h : R (.ok (.ret .notImplemented)) s) :
    wpAny (model prog w) A.in1 (Builtin.«list.__ne__» ⟨[.ref l, .ref a], []⟩) (fun fin s' => match fin with | .done f => R (.ok f) s' | .again c' => c'.quiet = true ∧ codeAny (model prog w) A c' R s') (fun e s' => R (.error e) s') s := by
  refine wpAny_bind (m := slotArgs _ _ _) (wpAny_pure ?_)
  refine wpAny_bind (m := isInstance _ _) (sub.here ?_)
  wp_walk
  exact h
theorem dec_tuple_ne {l : Addr} {R : Result → Shared → Prop} (sub : PySem.W.Looks (model prog w) s.heap (isInstance (.ref a) (.type "tuple")) false) (h : R (.ok (.ret .notImplemented)) s) :
    wpAny (model prog w) A.in1 (Builtin.«tuple.__ne__» ⟨[.ref l, .ref a], []⟩) (fun fin s' => match fin with | .done f => R (.ok f) s' | .again c' => c'.quiet = true ∧ codeAny (model prog w) A c' R s') (fun e s' => R (.error e) s') s := by
  refine wpAny_bind (m := slotArgs _ _ _) (wpAny_pure ?_)
  refine wpAny_bind (m := isInstance _ _) (sub.here ?_)
  wp_walk
  exact h
theorem dec_dict_ne {l : Addr} {R : Result → Shared → Prop} (sub : PySem.W.Looks (model prog w) s.heap (isInstance (.ref a) (.type "dict")) false) (h : R (.ok (.ret .notImplemented)) s) :
    wpAny (model prog w) A.in1 (Builtin.«dict.__ne__» ⟨[.ref l, .ref a], []⟩) (fun fin s' => match fin with | .done f => R (.ok f) s' | .again c' => c'.quiet = true ∧ codeAny (model prog w) A c' R s') (fun e s' => R (.error e) s') s := by
  have e : Builtin.Dict.dictSlotArgs "__ne__" ⟨[.ref l, .ref a], []⟩ = pure (.ref l, .ref a) := by kernel_rfl
  refine wpAny_bind (m := Builtin.Dict.dictSlotArgs _ _) ?_
  rw [e]
  refine wpAny_pure ?_
  refine wpAny_bind (m := isInstance _ _) (sub.here ?_)
  wp_walk
  exact h
end
end
end AmL
/-! rules over the hand layer: operators of an own class, beside built-in values too -/
namespace Am
open PySem PySem.Spec PyProof.Rows L2

/-- values of built-in types -/
inductive Bk (H : Hp) : V → String → Prop where
  | non : Bk H .non "NoneType"
  | bl (b : Bool) : Bk H (.bl b) "bool"
  | int (i : Int) : Bk H (.int i) "int"
  | str (z : Str) : Bk H (.str z) "str"
  | lst {a : Addr} {xs : List V} (h : H a = some (.lst xs)) : Bk H (.ref a) "list"
  | tup {a : Addr} {xs : List V} (h : H a = some (.tup xs)) : Bk H (.ref a) "tuple"
  | dK {a : Addr} {kvs : List (Key × V)} (h : H a = some (.dK kvs)) : Bk H (.ref a) "dict"
def isI : V → Bool
  | .int _ => true
  | _ => false
theorem Bk.same {H H' : Hp} (e : Same H H') {x : V} {T : String} (b : Bk H x T) : Bk H' x T := by
  cases b with
  | non => exact .non
  | bl b => exact .bl b
  | int i => exact .int i
  | str z => exact .str z
  | lst h => exact .lst (e _ _ h)
  | tup h => exact .tup (e _ _ h)
  | dK h => exact .dK (e _ _ h)
theorem Bk.tyOf {K : PySem.W.Frag} {H : Hp} {x : V} {T : String} (b : Bk H x T) : TyOf K H x (.type T) := by
  cases b with
  | non => exact .non
  | bl b => exact .bl b
  | int i => exact .int i
  | str z => exact .str z
  | lst h => exact .lst h
  | tup h => exact .tup h
  | dK h => exact .dK h
section
variable {X : Cx} {pins : List (Addr × Obj)} {σ : L2.St} {H : Hp} {s : Shared}
theorem Bk.typeIs {x : V} {T : String} {u : Value} (b : Bk H x T) (I : Inv X pins σ H s) (r : RelV x u) : s.TypeIs u T := by
  cases b with
  | non => cases (show u = Value.none from r); rfl
  | bl b => cases (show u = Value.bool b from r); rfl
  | int i => obtain ⟨t, q⟩ := (show ∃ t, u = Value.int i t from r); cases q; rfl
  | str z => obtain ⟨t, q⟩ := (show ∃ t, u = Value.str z t from r); cases q; rfl
  | @lst a xs ea =>
    cases (show u = Value.ref a from r)
    obtain ⟨_, _, n, _, h1⟩ := (show ObjOk X.prog X.w H s.heap a (.lst xs) from I.hok a _ ea)
    exact ⟨_, h1, rfl⟩
  | @tup a xs ea =>
    cases (show u = Value.ref a from r)
    obtain ⟨_, _, _, o, h1, h2, _⟩ := (show ObjOk X.prog X.w H s.heap a (.tup xs) from I.hok a _ ea)
    exact ⟨o, h1, h2⟩
  | @dK a kvs ea =>
    cases (show u = Value.ref a from r)
    obtain ⟨_, _, vs, _, o, es, ep, h1, h2, _⟩ := (show ObjOk X.prog X.w H s.heap a (.dK kvs) from I.hok a _ ea)
    exact ⟨o, h1, h2.1⟩
theorem looks_typeIs {M : Model} {u : Value} {T : String} (h : s.TypeIs u T) : PySem.W.Looks M s.heap (typeOf u) (.type T) := by
  intro A Q E s' k q
  have h' : s'.TypeIs u T := by
    cases u with
    | ref a => obtain ⟨o, ho, hc⟩ := h; exact ⟨o, k _ _ ho, hc⟩
    | _ => exact h
  exact wpAny_typeOf h' q
end

/-- what the operators ask of the class -/
structure OpC (K : PySem.W.Frag) (C : Addr) : Prop where
  sf : PySem.W.selfFirst K C = true
  ne : PySem.W.findIn K (.ref C) "__ne__" = some (some (.builtin "object.__ne__"))
  ob : PySem.W.mroIn K C (.type "object") = some true
  s1 : PySem.W.subIn K (.ref C) (.type "int") = some false
  s2 : PySem.W.subIn K (.ref C) (.type "bool") = some false
  s3 : PySem.W.subIn K (.ref C) (.type "NoneType") = some false
  s4 : PySem.W.subIn K (.ref C) (.type "str") = some false
  s5 : PySem.W.subIn K (.ref C) (.type "list") = some false
  s6 : PySem.W.subIn K (.ref C) (.type "tuple") = some false
  s7 : PySem.W.subIn K (.ref C) (.type "dict") = some false
  r1 : PySem.W.subIn K (.type "int") (.ref C) = some false
  r2 : PySem.W.subIn K (.type "bool") (.ref C) = some false
  r3 : PySem.W.subIn K (.type "NoneType") (.ref C) = some false
  r4 : PySem.W.subIn K (.type "str") (.ref C) = some false
  r5 : PySem.W.subIn K (.type "list") (.ref C) = some false
  r6 : PySem.W.subIn K (.type "tuple") (.ref C) = some false
  r7 : PySem.W.subIn K (.type "dict") (.ref C) = some false
theorem OpC.sub {K : PySem.W.Frag} {C : Addr} {H : Hp} {x : V} {T : String} (c : OpC K C) (b : Bk H x T) : PySem.W.subIn K (.ref C) (.type T) = some false := by
  cases b <;> first | exact c.s1 | exact c.s2 | exact c.s3 | exact c.s4 | exact c.s5 | exact c.s6 | exact c.s7
theorem OpC.rev {K : PySem.W.Frag} {C : Addr} {H : Hp} {x : V} {T : String} (c : OpC K C) (b : Bk H x T) : PySem.W.subIn K (.type T) (.ref C) = some false := by
  cases b <;> first | exact c.r1 | exact c.r2 | exact c.r3 | exact c.r4 | exact c.r5 | exact c.r6 | exact c.r7
theorem OpC.nf {K : PySem.W.Frag} {C : Addr} {H : Hp} {x : V} {T : String} (c : OpC K C) (b : Bk H x T) : PySem.W.notFirst K C (.type T) = true := by
  unfold PySem.W.notFirst
  rw [c.rev b]
  simp
theorem nf_self {K : PySem.W.Frag} {C : Addr} : PySem.W.notFirst K C (.ref C) = true := by
  unfold PySem.W.notFirst
  simp

/-- a method that an operator calls -/
structure Om (X : Cx) (C : Addr) (name : Str) (g : Addr) : Prop where
  hs : PySem.W.findIn X.K (.ref C) name = some (some (.ref g))
  hf : PySem.W.isFn X.K (.ref g) = true
/-- an instance of C, or a value of a built-in type -/
def OrB (C : Addr) (H : Hp) (y : V) : Prop := (∃ b dy gs, y = .ref b ∧ H b = some (.ins C dy gs)) ∨ ∃ T, Bk H y T
section
variable {X : Cx} {C g : Addr} {k : Nat} {fd : FuncData} {ps : List Str} {sp : Sp} {CX : CXT} {E : XK} {pins : List (Addr × Obj)} {σ : L2.St} {H : Hp} {s : Shared}
theorem inst_of {a dx : Addr} {fs : List (Str × V)} (I : Inv X pins σ H s) (ha : H a = some (.ins C dx fs)) : ∃ od, PySem.W.InstAt s.heap a (PySem.W.instObj C dx) C (some od) := by
  obtain ⟨mA, J, _⟩ := ins_get I.hok ha
  obtain ⟨od, J, _⟩ := J.look
  exact ⟨od, J⟩
theorem plain_of {a dx : Addr} {fs : List (Str × V)} (I : Inv X pins σ H s) (ha : H a = some (.ins C dx fs)) : AmL.PlainAt s a C := by
  obtain ⟨_, _, _, h, _⟩ := (show ObjOk X.prog X.w H s.heap a (.ins C dx fs) from I.hok a _ ha)
  exact ⟨_, _, h⟩
theorem orB_type {y : V} {u : Value} (c : OpC X.K C) (I : Inv X pins σ H s) (ry : RelV y u) (h : OrB C H y) : ∃ tb, PySem.W.Looks (model X.prog X.w) s.heap (typeOf u) tb ∧ PySem.W.notFirst X.K C tb = true := by
  rcases h with ⟨b, dy, gs, rfl, hb⟩ | ⟨T, b⟩
  · cases (show u = Value.ref b from ry)
    obtain ⟨od, J⟩ := inst_of I hb
    exact ⟨.ref C, J.type, nf_self⟩
  · exact ⟨.type T, looks_typeIs (b.typeIs I ry), c.nf b⟩

/-- x op y: x an instance -/
def rCmp (C : Addr) (sp : Sp) (E : XK) : R2 := fun x y H Q => (∃ a dx fs, x = .ref a ∧ H a = some (.ins C dx fs)) ∧ OrB C H y ∧ sp [x, y] H Q E
theorem op_cmpC {op : CmpOp} (hop : ∀ a b, compareOp op a b = richCompare op a b) (c : OpC X.K C) (m : Om X C (cmpInfo op).2.1 g) (F : FnOk X.prog X.w X.K X.mg X.base CX k g fd ps sp) (hr : Room k X.A) (hb : Binds X.K fd ps [])
    (hx : Passes CX X E) : OpR X (compareOp op) (rCmp C sp E) := by
  intro pins s σ H x y v u Q I rx ry h
  obtain ⟨⟨a, dx, fs, rfl, ha⟩, hy, q⟩ := h
  cases (show v = Value.ref a from rx)
  obtain ⟨od, J⟩ := inst_of I ha
  obtain ⟨tb, ht, hn⟩ := orB_type c I ry hy
  obtain ⟨mm, hF⟩ := I.fr
  rw [hop]
  refine PySem.W.cmp_K (op := op) hr.units0 hF I.ok.mod.kin J ht hn m.hs m.hf ?_
  refine wpAny_mono (run_fn (us := [.ref a, u]) (vs := [.ref a, y]) (dvs := []) F hr hb .nil hx I (.cons rfl (.cons ry .nil)) q) (fun w s' z => ?_) fun _ _ x => x
  obtain ⟨z', H', I', rz, qz⟩ := z
  exact SlX.cmpback rz ⟨z', H', I', rz, qz⟩

theorem room_in1 {A : Around} (hr : Room (k + 1) A) : Room k A.in1 := hr.in1
/-- the callee runs one builtin below -/
theorem run_in1 {Q : VK} {us : List Value} {vs : List V} (F : FnOk X.prog X.w X.K X.mg X.base CX k g fd ps sp) (hr : Room (k + 1) X.A) (hb : Binds X.K fd ps []) (hx : Passes CX X E)
    (I : Inv X pins σ H s) (r : Vals vs us) (h : sp vs H Q E) : wpAny (model X.prog X.w) X.A.in1 (call (.ref g) us) (EP X pins σ Q) X.xe s := by
  have hl : us.length = ps.length := by rw [← r.length]; exact F.len _ _ _ _ h
  refine wpAny_call (codeAny_mono (F.run X.A.in1 X.stack s H ⟨us, []⟩ us vs Q E hr.in1 I.env0.in1 (by
    have := hb s us I.kIn (by simpa using hl)
    simpa using this) r h) fun r s' hq => ?_)
  cases r with
  | error e => exact hx pins σ H s e s' I hq
  | ok fl =>
    cases fl with
    | ret u => exact I.after hq
    | next => exact False.elim hq
    | brk => exact False.elim hq
    | cont => exact False.elim hq

/-- x != y: x an instance whose class has an own ==, that hands back a truth value -/
def rNeC (C : Addr) (sp : Sp) (E : XK) : R2 := fun x y H Q => (∃ a dx fs, x = .ref a ∧ H a = some (.ins C dx fs)) ∧ OrB C H y ∧ sp [x, y] H (fun v H' => ∃ b, v = .bl b ∧ Q (.bl (!b)) H') E
theorem op_neC (c : OpC X.K C) (m : Om X C "__eq__" g) (F : FnOk X.prog X.w X.K X.mg X.base CX k g fd ps sp) (hr : Room (k + 1) X.A) (hb : Binds X.K fd ps [])
    (hx : Passes CX X E) : OpR X (compareOp .NotEq) (rNeC C sp E) := by
  intro pins s σ H x y v u Q I rx ry h
  obtain ⟨⟨a, dx, fs, rfl, ha⟩, hy, q⟩ := h
  cases (show v = Value.ref a from rx)
  obtain ⟨od, J⟩ := inst_of I ha
  obtain ⟨tb, ht, hn⟩ := orB_type c I ry hy
  show wpAny (model X.prog X.w) X.A (richCompare .NotEq _ _) (EP X pins σ Q) X.xe s
  refine AmL.ne_inst (by have := hr.units; omega) I.kIn J ht hn c.ne c.ob m.hs m.hf ?_
  refine wpAny_mono (run_in1 (us := [.ref a, u]) (vs := [.ref a, y]) F hr hb hx I (.cons rfl (.cons ry .nil)) q) (fun w s' z => ?_) fun _ _ x => x
  obtain ⟨z', H', I', rz, b, rfl, qz⟩ := z
  cases (show w = Value.bool b from rz)
  exact ⟨b, rfl, .bl (!b), H', I', rfl, qz⟩

theorem insub {a dx : Addr} {fs : List (Str × V)} {T : String} (I : Inv X pins σ H s) (ha : H a = some (.ins C dx fs)) (h : PySem.W.subIn X.K (.ref C) (.type T) = some false) :
    PySem.W.Looks (model X.prog X.w) s.heap (isInstance (.ref a) (.type T)) false := by
  obtain ⟨od, J⟩ := inst_of I ha
  exact J.type.andThen (PySem.W.looks_subIn I.kIn h)

/-- what declines -/
structure Dec (X : Cx) (op : CmpOp) (P : Hp → V → Prop) : Prop where
  run : ∀ (pins : List (Addr × Obj)) (σ : L2.St) (H : Hp) (s : Shared) (C a dx : Addr) (fs : List (Str × V)) (x : V) (v : Value), OpC X.K C → Inv X pins σ H s → RelV x v → P H x → H a = some (.ins C dx fs) →
    ∃ T id, Bk H x T ∧ Slot T (cmpInfo op).2.1 id ∧ ∀ (E : Value → Shared → Prop) (Q' : Value → Shared → Prop), Q' .notImplemented s → wpAny (model X.prog X.w) X.A (call (.builtin id) [v, .ref a]) Q' E s

/-- x op y: x a value that declines, y an instance -/
def rRef (C : Addr) (P : Hp → V → Prop) (sp : Sp) (E : XK) : R2 := fun x y H Q => P H x ∧ (∃ a dx fs, y = .ref a ∧ H a = some (.ins C dx fs)) ∧ sp [y, x] H Q E
theorem op_refC {op : CmpOp} {P : Hp → V → Prop} (hop : ∀ a b, compareOp op a b = richCompare op a b) (d : Dec X op P) (c : OpC X.K C) (m : Om X C (cmpInfo op).2.2 g) (F : FnOk X.prog X.w X.K X.mg X.base CX k g fd ps sp) (hr : Room k X.A)
    (hb : Binds X.K fd ps []) (hx : Passes CX X E) : OpR X (compareOp op) (rRef C P sp E) := by
  intro pins s σ H x y v u Q I rx ry h
  obtain ⟨hp, ⟨a, dx, fs, rfl, ha⟩, q⟩ := h
  cases (show u = Value.ref a from ry)
  obtain ⟨od, J⟩ := inst_of I ha
  obtain ⟨T, id, bk, slot, dec⟩ := d.run pins σ H s C a dx fs x v c I rx hp ha
  rw [hop]
  refine AmL.refl_inst (op := op) hr.units0 I.kIn J (bk.typeIs I rx) slot (fun Q' q' => dec _ Q' q') (c.sub bk) m.hs m.hf ?_
  refine wpAny_mono (run_fn (us := [.ref a, v]) (vs := [.ref a, x]) (dvs := []) F hr hb .nil hx I (.cons rfl (.cons rx .nil)) q) (fun w s' z => ?_) fun _ _ x => x
  obtain ⟨z', H', I', rz, qz⟩ := z
  exact SlX.cmpback rz ⟨z', H', I', rz, qz⟩
def rRefN (C : Addr) (P : Hp → V → Prop) (sp : Sp) (E : XK) : R2 := fun x y H Q => P H x ∧ (∃ a dx fs, y = .ref a ∧ H a = some (.ins C dx fs)) ∧ sp [y, x] H (fun v H' => ∃ b, v = .bl b ∧ Q (.bl (!b)) H') E
theorem op_refN {P : Hp → V → Prop} (d : Dec X .NotEq P) (c : OpC X.K C) (m : Om X C "__eq__" g) (F : FnOk X.prog X.w X.K X.mg X.base CX k g fd ps sp) (hr : Room (k + 1) X.A)
    (hb : Binds X.K fd ps []) (hx : Passes CX X E) : OpR X (compareOp .NotEq) (rRefN C P sp E) := by
  intro pins s σ H x y v u Q I rx ry h
  obtain ⟨hp, ⟨a, dx, fs, rfl, ha⟩, q⟩ := h
  cases (show u = Value.ref a from ry)
  obtain ⟨od, J⟩ := inst_of I ha
  obtain ⟨T, id, bk, slot, dec⟩ := d.run pins σ H s C a dx fs x v c I rx hp ha
  show wpAny (model X.prog X.w) X.A (richCompare .NotEq _ _) (EP X pins σ Q) X.xe s
  refine AmL.ne_refl (by have := hr.units; omega) I.kIn J (bk.typeIs I rx) slot (fun Q' q' => dec _ Q' q') (c.sub bk) c.ne c.ob m.hs m.hf ?_
  refine wpAny_mono (run_in1 (us := [.ref a, v]) (vs := [.ref a, x]) F hr hb hx I (.cons rfl (.cons rx .nil)) q) (fun w s' z => ?_) fun _ _ x => x
  obtain ⟨z', H', I', rz, b, rfl, qz⟩ := z
  cases (show w = Value.bool b from rz)
  exact ⟨b, rfl, .bl (!b), H', I', rfl, qz⟩
end
section
variable {X : Cx}
theorem meets_call {T : String} {name : Str} {id : String} {B : Builtin} {v : Value} {rest : List Value} {A : Around} {E : Value → Shared → Prop} {s : Shared} {prog : Program} {w : World} (slot : Slot T name id) (hT : s.TypeIs v T) (entry : entryFor table id = some B) (args : argsOk id ⟨v :: rest, []⟩)
    {P : Shared → Prop} (g : PySem.Meets (B ⟨v :: rest, []⟩) (fun _ R s => P s ∧ R (.ok (.ret .notImplemented)) s)) (hp : P s) (Q' : Value → Shared → Prop) (q : Q' .notImplemented s) : wpAny (model prog w) A (call (.builtin id) (v :: rest)) Q' E s :=
  wpAny_call (codeAny_call_builtin slot.plain entry (slot.check _ _ _ _ _ _ _ _ hT args (g prog w A (wants Q' E) s ⟨hp, q⟩)))
def PInt : Hp → V → Prop := fun _ x => ∃ i, x = .int i
theorem dec_intEq : Dec X .Eq PInt := ⟨fun pins σ H s C a dx fs x v c I r hp ha => by
  obtain ⟨i, rfl⟩ := hp
  obtain ⟨t, rfl⟩ := (show ∃ t, v = Value.int i t from r)
  exact ⟨"int", _, .int i, PySem.F.slot_int_eq, fun E Q' q => meets_call PySem.F.slot_int_eq (typeIs_int s i t) PySem.F.entry_int_eq (PySem.F.args_int_eq_2 _ _) (AmL.dec_int_eq i t C) (plain_of I ha) Q' q⟩⟩
theorem dec_intNotEq : Dec X .NotEq PInt := ⟨fun pins σ H s C a dx fs x v c I r hp ha => by
  obtain ⟨i, rfl⟩ := hp
  obtain ⟨t, rfl⟩ := (show ∃ t, v = Value.int i t from r)
  exact ⟨"int", _, .int i, PySem.F.slot_int_ne, fun E Q' q => meets_call PySem.F.slot_int_ne (typeIs_int s i t) PySem.F.entry_int_ne (PySem.F.args_int_ne_2 _ _) (AmL.dec_int_ne i t C) (plain_of I ha) Q' q⟩⟩
theorem dec_intLt : Dec X .Lt PInt := ⟨fun pins σ H s C a dx fs x v c I r hp ha => by
  obtain ⟨i, rfl⟩ := hp
  obtain ⟨t, rfl⟩ := (show ∃ t, v = Value.int i t from r)
  exact ⟨"int", _, .int i, PySem.F.slot_int_lt, fun E Q' q => meets_call PySem.F.slot_int_lt (typeIs_int s i t) PySem.F.entry_int_lt (PySem.F.args_int_lt_2 _ _) (AmL.dec_int_lt i t C) (plain_of I ha) Q' q⟩⟩
theorem dec_intLtE : Dec X .LtE PInt := ⟨fun pins σ H s C a dx fs x v c I r hp ha => by
  obtain ⟨i, rfl⟩ := hp
  obtain ⟨t, rfl⟩ := (show ∃ t, v = Value.int i t from r)
  exact ⟨"int", _, .int i, PySem.F.slot_int_le, fun E Q' q => meets_call PySem.F.slot_int_le (typeIs_int s i t) PySem.F.entry_int_le (PySem.F.args_int_le_2 _ _) (AmL.dec_int_le i t C) (plain_of I ha) Q' q⟩⟩
theorem dec_intGt : Dec X .Gt PInt := ⟨fun pins σ H s C a dx fs x v c I r hp ha => by
  obtain ⟨i, rfl⟩ := hp
  obtain ⟨t, rfl⟩ := (show ∃ t, v = Value.int i t from r)
  exact ⟨"int", _, .int i, PySem.F.slot_int_gt, fun E Q' q => meets_call PySem.F.slot_int_gt (typeIs_int s i t) PySem.F.entry_int_gt (PySem.F.args_int_gt_2 _ _) (AmL.dec_int_gt i t C) (plain_of I ha) Q' q⟩⟩
theorem dec_intGtE : Dec X .GtE PInt := ⟨fun pins σ H s C a dx fs x v c I r hp ha => by
  obtain ⟨i, rfl⟩ := hp
  obtain ⟨t, rfl⟩ := (show ∃ t, v = Value.int i t from r)
  exact ⟨"int", _, .int i, PySem.F.slot_int_ge, fun E Q' q => meets_call PySem.F.slot_int_ge (typeIs_int s i t) PySem.F.entry_int_ge (PySem.F.args_int_ge_2 _ _) (AmL.dec_int_ge i t C) (plain_of I ha) Q' q⟩⟩
def PBk : Hp → V → Prop := fun H x => ∃ T, Bk H x T
theorem dec_bkEq : Dec X .Eq PBk := ⟨fun pins σ H s C a dx fs x v c I r hp ha => by
  obtain ⟨T, b⟩ := hp
  refine ⟨T, ?_⟩
  have hT := b.typeIs I r
  cases b with
  | non =>
    cases (show v = Value.none from r)
    exact ⟨_, .non, PySem.F.slot_NoneType_eq, fun E Q' q => call_gives PySem.F.slot_NoneType_eq hT PySem.F.entry_NoneType_eq (PySem.F.args_NoneType_eq_2 _ _) AmL.dec_none_eq q⟩
  | bl k =>
    cases (show v = Value.bool k from r)
    exact ⟨_, .bl k, PySem.F.slot_bool_eq, fun E Q' q => meets_call PySem.F.slot_bool_eq hT PySem.F.entry_int_eq (PySem.F.args_int_eq_2 _ _) (AmL.dec_bool_eq k C) (plain_of I ha) Q' q⟩
  | int i =>
    obtain ⟨t, rfl⟩ := (show ∃ t, v = Value.int i t from r)
    exact ⟨_, .int i, PySem.F.slot_int_eq, fun E Q' q => meets_call PySem.F.slot_int_eq hT PySem.F.entry_int_eq (PySem.F.args_int_eq_2 _ _) (AmL.dec_int_eq i t C) (plain_of I ha) Q' q⟩
  | str z =>
    obtain ⟨t, rfl⟩ := (show ∃ t, v = Value.str z t from r)
    exact ⟨_, .str z, PySem.F.slot_str_eq, fun E Q' q => meets_call PySem.F.slot_str_eq hT PySem.F.entry_str_eq (PySem.F.args_str_eq_2 _ _) (AmL.dec_str_eq z t C) (plain_of I ha) Q' q⟩
  | @lst l xs ea =>
    cases (show v = Value.ref l from r)
    exact ⟨_, .lst ea, PySem.F.slot_list_eq, fun E Q' q => GQ.call_here PySem.F.slot_list_eq hT PySem.F.entry_list_eq (PySem.F.args_list_eq_2 _ _) (AmL.dec_list_eq (R := wants Q' E) (insub I ha c.s5) q)⟩
  | @tup l xs ea =>
    cases (show v = Value.ref l from r)
    exact ⟨_, .tup ea, PySem.F.slot_tuple_eq, fun E Q' q => GQ.call_here PySem.F.slot_tuple_eq hT PySem.F.entry_tuple_eq (PySem.F.args_tuple_eq_2 _ _) (AmL.dec_tuple_eq (R := wants Q' E) (insub I ha c.s6) q)⟩
  | @dK l kvs ea =>
    cases (show v = Value.ref l from r)
    exact ⟨_, .dK ea, PySem.F.slot_dict_eq, fun E Q' q => GQ.call_here PySem.F.slot_dict_eq hT PySem.F.entry_dict_eq (PySem.F.args_dict_eq_2 _ _) (AmL.dec_dict_eq (R := wants Q' E) (insub I ha c.s7) q)⟩⟩
theorem dec_bkNotEq : Dec X .NotEq PBk := ⟨fun pins σ H s C a dx fs x v c I r hp ha => by
  obtain ⟨T, b⟩ := hp
  refine ⟨T, ?_⟩
  have hT := b.typeIs I r
  cases b with
  | non =>
    cases (show v = Value.none from r)
    exact ⟨_, .non, PySem.F.slot_NoneType_ne, fun E Q' q => call_gives PySem.F.slot_NoneType_ne hT PySem.F.entry_NoneType_ne (PySem.F.args_NoneType_ne_2 _ _) AmL.dec_none_ne q⟩
  | bl k =>
    cases (show v = Value.bool k from r)
    exact ⟨_, .bl k, PySem.F.slot_bool_ne, fun E Q' q => meets_call PySem.F.slot_bool_ne hT PySem.F.entry_int_ne (PySem.F.args_int_ne_2 _ _) (AmL.dec_bool_ne k C) (plain_of I ha) Q' q⟩
  | int i =>
    obtain ⟨t, rfl⟩ := (show ∃ t, v = Value.int i t from r)
    exact ⟨_, .int i, PySem.F.slot_int_ne, fun E Q' q => meets_call PySem.F.slot_int_ne hT PySem.F.entry_int_ne (PySem.F.args_int_ne_2 _ _) (AmL.dec_int_ne i t C) (plain_of I ha) Q' q⟩
  | str z =>
    obtain ⟨t, rfl⟩ := (show ∃ t, v = Value.str z t from r)
    exact ⟨_, .str z, PySem.F.slot_str_ne, fun E Q' q => meets_call PySem.F.slot_str_ne hT PySem.F.entry_str_ne (PySem.F.args_str_ne_2 _ _) (AmL.dec_str_ne z t C) (plain_of I ha) Q' q⟩
  | @lst l xs ea =>
    cases (show v = Value.ref l from r)
    exact ⟨_, .lst ea, PySem.F.slot_list_ne, fun E Q' q => GQ.call_here PySem.F.slot_list_ne hT PySem.F.entry_list_ne (PySem.F.args_list_ne_2 _ _) (AmL.dec_list_ne (R := wants Q' E) (insub I ha c.s5) q)⟩
  | @tup l xs ea =>
    cases (show v = Value.ref l from r)
    exact ⟨_, .tup ea, PySem.F.slot_tuple_ne, fun E Q' q => GQ.call_here PySem.F.slot_tuple_ne hT PySem.F.entry_tuple_ne (PySem.F.args_tuple_ne_2 _ _) (AmL.dec_tuple_ne (R := wants Q' E) (insub I ha c.s6) q)⟩
  | @dK l kvs ea =>
    cases (show v = Value.ref l from r)
    exact ⟨_, .dK ea, PySem.F.slot_dict_ne, fun E Q' q => GQ.call_here PySem.F.slot_dict_ne hT PySem.F.entry_dict_ne (PySem.F.args_dict_ne_2 _ _) (AmL.dec_dict_ne (R := wants Q' E) (insub I ha c.s7) q)⟩⟩
end
section
variable {X : Cx} {C g : Addr} {k : Nat} {fd : FuncData} {ps : List Str} {sp : Sp} {CX : CXT} {E : XK}
/-- what an arithmetic operator asks of the type int -/
structure OpI (X : Cx) (C : Addr) (nm : String) : Prop where
  h1 : ∃ fo, PySem.W.findIn X.K (.type "int") (PySem.dunder nm) = some fo
  h2 : ∃ ro, PySem.W.findIn X.K (.type "int") (PySem.dunderR nm) = some ro
  hr : ∃ g : Addr, PySem.W.findIn X.K (.ref C) (PySem.dunderR nm) = some (some (.ref g))
/-- x op y: x an instance, y an instance or an int -/
def OrI (C : Addr) (H : Hp) (y : V) : Prop := (∃ b dy gs, y = .ref b ∧ H b = some (.ins C dy gs)) ∨ ∃ i, y = .int i
def rBin (C : Addr) (sp : Sp) (E : XK) : R2 := fun x y H Q => (∃ a dx fs, x = .ref a ∧ H a = some (.ins C dx fs)) ∧ OrI C H y ∧ sp [x, y] H Q E
theorem op_binC {op : Operator} (c : OpC X.K C) (ci : OpI X C op.info.2) (m : Om X C (PySem.dunder op.info.2) g) (F : FnOk X.prog X.w X.K X.mg X.base CX k g fd ps sp) (hr : Room k X.A) (hb : Binds X.K fd ps [])
    (hx : Passes CX X E) : OpR X (binaryOp op) (rBin C sp E) := by
  intro pins s σ H x y v u Q I rx ry h
  obtain ⟨⟨a, dx, fs, rfl, ha⟩, hy, q⟩ := h
  cases (show v = Value.ref a from rx)
  obtain ⟨od, J⟩ := inst_of I ha
  obtain ⟨mm, hF⟩ := I.fr
  have fin : wpAny (model X.prog X.w) X.A (call (.ref g) [.ref a, u]) (PySem.W.CmpBack (EP X pins σ Q)) X.xe s := by
    refine wpAny_mono (run_fn (us := [.ref a, u]) (vs := [.ref a, y]) (dvs := []) F hr hb .nil hx I (.cons rfl (.cons ry .nil)) q) (fun w s' z => ?_) fun _ _ x => x
    obtain ⟨z', H', I', rz, qz⟩ := z
    exact SlX.cmpback rz ⟨z', H', I', rz, qz⟩
  rcases hy with ⟨b, dy, gs, rfl, hb'⟩ | ⟨i, rfl⟩
  · cases (show u = Value.ref b from ry)
    obtain ⟨od', J'⟩ := inst_of I hb'
    exact PySem.W.binop_K hF I.ok.mod.kin J J'.type c.sf m.hs m.hf fin
  · obtain ⟨t, rfl⟩ := (show ∃ t, u = Value.int i t from ry)
    obtain ⟨fo, h1⟩ := ci.h1
    obtain ⟨ro, h2⟩ := ci.h2
    obtain ⟨g', h3⟩ := ci.hr
    exact PySem.W.ksp_binT hF I.ok.mod.kin J rfl c.sf m.hs m.hf h3 (.inr ⟨g', rfl⟩) h1 h2 c.r1 fin
/-- -x -/
def rNegC (C : Addr) (sp : Sp) (E : XK) : V → Hp → VK → Prop := fun x H Q => (∃ a dx fs, x = .ref a ∧ H a = some (.ins C dx fs)) ∧ sp [x] H Q E
theorem un_negC (m : Om X C "__neg__" g) (F : FnOk X.prog X.w X.K X.mg X.base CX k g fd ps sp) (hr : Room k X.A) (hb : Binds X.K fd ps [])
    (hx : Passes CX X E) : UnR X (unaryOp .USub) (rNegC C sp E) := by
  intro pins s σ H x v Q I rx h
  obtain ⟨⟨a, dx, fs, rfl, ha⟩, q⟩ := h
  cases (show v = Value.ref a from rx)
  obtain ⟨od, J⟩ := inst_of I ha
  obtain ⟨mm, hF⟩ := I.fr
  exact PySem.W.ksp_neg hF I.ok.mod.kin J m.hs m.hf (run_fn (us := [.ref a]) (vs := [.ref a]) (dvs := []) F hr hb .nil hx I (.cons rfl .nil) q)
theorem UnR.or {f : Value → Sem Value} {r r' : V → Hp → VK → Prop} (h : UnR X f r) (h' : UnR X f r') : UnR X f (fun x H Q => r x H Q ∨ r' x H Q) := by
  intro pins s σ H x v Q I rx q
  rcases q with q | q
  · exact h pins s σ H x v Q I rx q
  · exact h' pins s σ H x v Q I rx q
end
end Am
namespace Am
/-! fractions in least terms -/
def gc (n u : Int) : Int := ((Nat.gcd n.natAbs u.natAbs : Nat) : Int)
def sg (n u : Int) : Int := if u < 0 then -gc n u else gc n u
def fr (n u : Int) : Int × Int := (n.fdiv (sg n u), u.fdiv (sg n u))
def Low (n u : Int) : Prop := 0 < u ∧ Nat.gcd n.natAbs u.natAbs = 1

theorem gc_pos {n u : Int} (hu : u ≠ 0) : 0 < gc n u := by
  unfold gc
  have : 0 < Nat.gcd n.natAbs u.natAbs := Nat.gcd_pos_of_pos_right _ (by omega)
  omega
theorem gc_dvd_l (n u : Int) : gc n u ∣ n := by
  unfold gc
  exact Int.ofNat_dvd_left.mpr (Nat.gcd_dvd_left _ _)
theorem gc_dvd_r (n u : Int) : gc n u ∣ u := by
  unfold gc
  exact Int.ofNat_dvd_left.mpr (Nat.gcd_dvd_right _ _)
theorem sg_ne {n u : Int} (hu : u ≠ 0) : sg n u ≠ 0 := by
  have := gc_pos (n := n) hu
  unfold sg
  split <;> omega
theorem sg_dvd_l (n u : Int) : sg n u ∣ n := by
  unfold sg
  split
  · exact Int.neg_dvd.mpr (gc_dvd_l n u)
  · exact gc_dvd_l n u
theorem sg_dvd_r (n u : Int) : sg n u ∣ u := by
  unfold sg
  split
  · exact Int.neg_dvd.mpr (gc_dvd_r n u)
  · exact gc_dvd_r n u
theorem fdiv_mul {a b : Int} (h : b ∣ a) : a.fdiv b * b = a := by
  obtain ⟨c, rfl⟩ := h
  by_cases hb : b = 0
  · subst hb; simp
  · rw [Int.mul_fdiv_cancel_left _ hb, Int.mul_comm]
theorem fr_l {n u : Int} : (fr n u).1 * sg n u = n := fdiv_mul (sg_dvd_l n u)
theorem fr_r {n u : Int} : (fr n u).2 * sg n u = u := fdiv_mul (sg_dvd_r n u)
theorem natAbs_sg (n u : Int) : (sg n u).natAbs = Nat.gcd n.natAbs u.natAbs := by
  unfold sg gc
  split <;> omega
theorem fr_low {n u : Int} (hu : u ≠ 0) : Low (fr n u).1 (fr n u).2 := by
  have hg := gc_pos (n := n) hu
  have h1 := fr_l (n := n) (u := u)
  have h2 := fr_r (n := n) (u := u)
  have a1 : (fr n u).1.natAbs * Nat.gcd n.natAbs u.natAbs = n.natAbs := by
    rw [← natAbs_sg, ← Int.natAbs_mul, h1]
  have a2 : (fr n u).2.natAbs * Nat.gcd n.natAbs u.natAbs = u.natAbs := by
    rw [← natAbs_sg, ← Int.natAbs_mul, h2]
  have gp : 0 < Nat.gcd n.natAbs u.natAbs := Nat.gcd_pos_of_pos_right _ (by omega)
  refine ⟨?_, ?_⟩
  · by_cases c : u < 0
    · have e : sg n u = -gc n u := if_pos c
      rw [e] at h2
      refine Int.lt_of_not_ge fun q => ?_
      have : 0 ≤ (fr n u).2 * -gc n u := by
        have := Int.mul_nonneg (a := -(fr n u).2) (b := gc n u) (by omega) (by omega)
        rw [Int.neg_mul] at this
        rw [Int.mul_neg]
        exact this
      omega
    · have e : sg n u = gc n u := if_neg c
      rw [e] at h2
      refine Int.lt_of_not_ge fun q => ?_
      have : 0 ≤ -((fr n u).2 * gc n u) := by
        have := Int.mul_nonneg (a := -(fr n u).2) (b := gc n u) (by omega) (by omega)
        rw [Int.neg_mul] at this
        exact this
      omega
  · have k : Nat.gcd ((fr n u).1.natAbs * Nat.gcd n.natAbs u.natAbs) ((fr n u).2.natAbs * Nat.gcd n.natAbs u.natAbs) = Nat.gcd n.natAbs u.natAbs := by
      rw [a1, a2]
    rw [Nat.gcd_mul_right] at k
    have k' : Nat.gcd (fr n u).1.natAbs (fr n u).2.natAbs * Nat.gcd n.natAbs u.natAbs = 1 * Nat.gcd n.natAbs u.natAbs := by rw [k, Nat.one_mul]
    exact Nat.eq_of_mul_eq_mul_right gp k'
theorem Low.ne {n u : Int} (h : Low n u) : u ≠ 0 := by have := h.1; omega
theorem low_one (n : Int) : Low n 1 := ⟨by decide, by simp⟩
theorem Low.neg {n u : Int} (h : Low n u) : Low (-n) u := ⟨h.1, by rw [Int.natAbs_neg]; exact h.2⟩
theorem fr_of_low {n u : Int} (h : Low n u) : fr n u = (n, u) := by
  have e : sg n u = 1 := by
    unfold sg gc
    rw [h.2, if_neg (by have := h.1; omega)]
    rfl
  unfold fr
  rw [e, Int.fdiv_one, Int.fdiv_one]
theorem fr_pos_lt {n u : Int} (hu : 0 < u) : decide ((fr n u).1 < 0) = decide (n < 0) := by
  have e : sg n u = gc n u := if_neg (by omega)
  have hg := gc_pos (n := n) (u := u) (by omega)
  have h := fr_l (n := n) (u := u)
  rw [e] at h
  refine decide_eq_decide.mpr ⟨fun q => ?_, fun q => ?_⟩
  · have := Int.mul_neg_of_neg_of_pos q hg
    omega
  · refine Int.lt_of_not_ge fun z => ?_
    have := Int.mul_nonneg z (Int.le_of_lt hg)
    omega
theorem fr_pos_le {n u : Int} (hu : 0 < u) : decide ((fr n u).1 ≤ 0) = decide (n ≤ 0) := by
  have e : sg n u = gc n u := if_neg (by omega)
  have hg := gc_pos (n := n) (u := u) (by omega)
  have h := fr_l (n := n) (u := u)
  rw [e] at h
  refine decide_eq_decide.mpr ⟨fun q => ?_, fun q => ?_⟩
  · have := Int.mul_nonneg (a := -(fr n u).1) (b := gc n u) (by omega) (by omega)
    rw [Int.neg_mul] at this
    omega
  · refine Int.le_of_not_gt fun z => ?_
    have := Int.mul_pos z hg
    omega
theorem le_of_mul {a b c : Nat} (h : a * b = c) (hb : 0 < b) : a ≤ c := by
  rw [← h]
  exact Nat.le_mul_of_pos_right a hb
theorem fr_le1 {n u : Int} (hu : u ≠ 0) : (fr n u).1.natAbs ≤ n.natAbs := by
  have gp : 0 < Nat.gcd n.natAbs u.natAbs := Nat.gcd_pos_of_pos_right _ (by omega)
  exact le_of_mul (b := Nat.gcd n.natAbs u.natAbs) (by rw [← natAbs_sg, ← Int.natAbs_mul, fr_l]) gp
theorem fr_le2 {n u : Int} (hu : u ≠ 0) : (fr n u).2.natAbs ≤ u.natAbs := by
  have gp : 0 < Nat.gcd n.natAbs u.natAbs := Nat.gcd_pos_of_pos_right _ (by omega)
  exact le_of_mul (b := Nat.gcd n.natAbs u.natAbs) (by rw [← natAbs_sg, ← Int.natAbs_mul, fr_r]) gp
theorem sg_le {n u : Int} (hu : u ≠ 0) : (sg n u).natAbs ≤ u.natAbs := by
  rw [natAbs_sg]
  exact Nat.le_of_dvd (by omega) (Nat.gcd_dvd_right _ _)
/-- the law's own fraction: the sign ahead, then // by the greatest divisor -/
theorem law_fr {n u : Int} (hu : u ≠ 0) : fr n u = (((if u > 0 then 1 else -1) * n).fdiv (gc n u), ((if u > 0 then 1 else -1) * u).fdiv (gc n u)) := by
  unfold fr sg
  by_cases c : u < 0
  · rw [if_pos c, if_neg (by omega)]
    have e : ∀ x : Int, x.fdiv (-gc n u) = (-1 * x).fdiv (gc n u) := fun x => by
      have := Int.neg_fdiv_neg (-x) (gc n u)
      rw [Int.neg_neg] at this
      rw [this]
      congr 1
      omega
    rw [e, e]
  · rw [if_neg c, if_pos (by omega), Int.one_mul, Int.one_mul]
end Am
namespace Am
open PySem PySem.Spec PyProof.Rows L2
def top (i : Nat) : Stmt := PySem.Challenge.pw_whoseuse_k03_amounts_compared.main.body.getD i (.Pass ⟨0, 0, 0, 0⟩)
abbrev sWhole : Stmt := top 7
abbrev sInit : Stmt := inClass (top 12) 0
abbrev sEq : Stmt := inClass (top 12) 4
abbrev sLt : Stmt := inClass (top 12) 5
abbrev sLe : Stmt := inClass (top 12) 6
abbrev sGt : Stmt := inClass (top 12) 7
abbrev sGe : Stmt := inClass (top 12) 8
abbrev sNeg : Stmt := inClass (top 12) 9
abbrev sAdd : Stmt := inClass (top 12) 11
abbrev sSub : Stmt := inClass (top 12) 13
abbrev sIsAm : Stmt := top 13
abbrev sParts : Stmt := top 14

/-! ### data -/
def pf (n u : Int) : List (Str × V) := putF "under" (.int u) (putF "number" (.int n) [])
theorem nu_ : ¬ (("number" : Str) = "under") := by decide +kernel
theorem un_ : ¬ (("under" : Str) = "number") := by decide +kernel
theorem pf_number (n u : Int) : (pf n u).lookup ("number" : Str) = some (.int n) := by
  unfold pf
  rw [lookup_putF, if_neg nu_, lookup_putF, if_pos rfl]
theorem pf_under (n u : Int) : (pf n u).lookup ("under" : Str) = some (.int u) := by
  unfold pf
  rw [lookup_putF, if_pos rfl]
/-- an Amount in least terms -/
def AmAt (C : Addr) (H : Hp) (v : V) (n u : Int) : Prop := Low n u ∧ ∃ a dx, v = .ref a ∧ H a = some (.ins C dx (pf n u))
/-- an Amount or an integer -/
def AmV (C : Addr) (H : Hp) (v : V) (n u : Int) : Prop := AmAt C H v n u ∨ (v = .int n ∧ u = 1)
theorem AmAt.same {C : Addr} {H H' : Hp} {v : V} {n u : Int} (e : Same H H') (h : AmAt C H v n u) : AmAt C H' v n u := by
  obtain ⟨l, a, dx, rfl, h⟩ := h
  exact ⟨l, a, dx, rfl, e _ _ h⟩
theorem AmV.same {C : Addr} {H H' : Hp} {v : V} {n u : Int} (e : Same H H') (h : AmV C H v n u) : AmV C H' v n u := h.elim (fun h => .inl (h.same e)) .inr
theorem AmAt.low {C : Addr} {H : Hp} {v : V} {n u : Int} (h : AmAt C H v n u) : Low n u := h.1
theorem AmV.low {C : Addr} {H : Hp} {v : V} {n u : Int} (h : AmV C H v n u) : Low n u := h.elim (fun h => h.1) fun ⟨_, e⟩ => by rw [e]; exact low_one n
theorem AmAt.inst {C : Addr} {H : Hp} {v : V} {n u : Int} (h : AmAt C H v n u) : ∃ a dx fs, v = .ref a ∧ H a = some (.ins C dx fs) := by
  obtain ⟨l, a, dx, rfl, h⟩ := h
  exact ⟨a, dx, _, rfl, h⟩
theorem AmV.orB {C : Addr} {H : Hp} {v : V} {n u : Int} (h : AmV C H v n u) : OrB C H v := by
  rcases h with h | ⟨rfl, _⟩
  · obtain ⟨a, dx, fs, rfl, ha⟩ := h.inst
    exact .inl ⟨a, dx, fs, rfl, ha⟩
  · exact .inr ⟨_, .int n⟩
theorem AmV.orI {C : Addr} {H : Hp} {v : V} {n u : Int} (h : AmV C H v n u) : OrI C H v := by
  rcases h with h | ⟨rfl, _⟩
  · obtain ⟨a, dx, fs, rfl, ha⟩ := h.inst
    exact .inl ⟨a, dx, fs, rfl, ha⟩
  · exact .inr ⟨n, rfl⟩
def Bd (k : Nat) (n : Int) : Prop := n.natAbs < 2 ^ k
theorem same_upd {H : Hp} {p : Addr} {o : HO} (h : H p = none) : Same H (upd H p o) := fun b u e => by rw [upd_ne (ne_of_none e h)]; exact e

/-! ### facts of the text -/
structure Txt (K : PySem.W.Frag) (mg : Str → Option Value) (C : Addr) : Prop where
  cl : Cls K C
  op : OpC K C
  ca : PySem.W.findIn K (.ref C) "__class__" = some (some (.builtin "object.__class__"))
  cn : PySem.W.specialIn K (.builtin "object.__class__") "__get__" = some (some (.builtin "getset_descriptor.__get__"))
  ct : PySem.W.takesIn K (.builtin "object.__class__") = some true
  kC : PySem.W.kitOne K (.ref C) (.ref C) = some true
  kI : PySem.W.kitOne K (.ref C) (.type "int") = some false
  k1 : PySem.W.kitOne K (.type "int") (.ref C) = some false
  k2 : PySem.W.kitOne K (.type "bool") (.ref C) = some false
  k3 : PySem.W.kitOne K (.type "NoneType") (.ref C) = some false
  k4 : PySem.W.kitOne K (.type "str") (.ref C) = some false
  k5 : PySem.W.kitOne K (.type "list") (.ref C) = some false
  k6 : PySem.W.kitOne K (.type "tuple") (.ref C) = some false
  k7 : PySem.W.kitOne K (.type "dict") (.ref C) = some false
  nN : NoAttr K C "number"
  nU : NoAttr K C "under"
  mgC : mg "Amount" = some (.ref C)
  isi : mg "isinstance" = none
  int : mg "int" = none
  bool : mg "bool" = none
  gcd : mg "gcd" = some (.builtin "math.gcd")
theorem Txt.kOf {K : PySem.W.Frag} {mg : Str → Option Value} {C : Addr} {H : Hp} {x : V} {T : String} (t : Txt K mg C) (b : Bk H x T) : PySem.W.kitOne K (.type T) (.ref C) = some false := by
  cases b <;> first | exact t.k1 | exact t.k2 | exact t.k3 | exact t.k4 | exact t.k5 | exact t.k6 | exact t.k7
def isIB : V → Bool
  | .int _ => true
  | .bl _ => true
  | _ => false
def isB : V → Bool
  | .bl _ => true
  | _ => false
theorem kB_int {K : PySem.W.Frag} {H : Hp} {x : V} {T : String} (b : Bk H x T) : PySem.W.kitOne K (.type T) (.type "int") = some (isIB x) := by
  cases b with
  | non => exact kit_ty (show kitB "NoneType" "int" = some false by decide +kernel)
  | bl => exact kit_ty (show kitB "bool" "int" = some true by decide +kernel)
  | int => exact kit_ty (show kitB "int" "int" = some true by decide +kernel)
  | str => exact kit_ty (show kitB "str" "int" = some false by decide +kernel)
  | lst => exact kit_ty (show kitB "list" "int" = some false by decide +kernel)
  | tup => exact kit_ty (show kitB "tuple" "int" = some false by decide +kernel)
  | dK => exact kit_ty (show kitB "dict" "int" = some false by decide +kernel)
theorem kB_bool {K : PySem.W.Frag} {H : Hp} {x : V} {T : String} (b : Bk H x T) : PySem.W.kitOne K (.type T) (.type "bool") = some (isB x) := by
  cases b with
  | non => exact kit_ty (show kitB "NoneType" "bool" = some false by decide +kernel)
  | bl => exact kit_ty (show kitB "bool" "bool" = some true by decide +kernel)
  | int => exact kit_ty (show kitB "int" "bool" = some false by decide +kernel)
  | str => exact kit_ty (show kitB "str" "bool" = some false by decide +kernel)
  | lst => exact kit_ty (show kitB "list" "bool" = some false by decide +kernel)
  | tup => exact kit_ty (show kitB "tuple" "bool" = some false by decide +kernel)
  | dK => exact kit_ty (show kitB "dict" "bool" = some false by decide +kernel)
theorem Txt.tyC {K : PySem.W.Frag} {mg : Str → Option Value} {C a dx : Addr} {H : Hp} {fs : List (Str × V)} (t : Txt K mg C) (h : H a = some (.ins C dx fs)) : TyX K H (.ref a) (.ref C) :=
  .base (.ins h t.cl t.ca t.cn t.ct t.op.ob)

/-! ### promises -/
def spWhole (C : Addr) : Sp := fun vs H Q _ => ∃ v, vs = [v] ∧ ((∃ T, Bk H v T) ∨ ∃ a dx fs, v = .ref a ∧ H a = some (.ins C dx fs)) ∧ Q (.bl (isI v)) H
def IsAm (C : Addr) (H : Hp) (v : V) (b : Bool) : Prop := ((∃ T, Bk H v T) ∧ b = isI v) ∨ ((∃ a dx fs, v = .ref a ∧ H a = some (.ins C dx fs)) ∧ b = true)
def spIsAm (C : Addr) : Sp := fun vs H Q _ => ∃ v b, vs = [v] ∧ IsAm C H v b ∧ Q (.bl b) H
theorem AmV.isAm {C : Addr} {H : Hp} {y : V} {n u : Int} (h : AmV C H y n u) : IsAm C H y true := by
  rcases h with h | ⟨rfl, _⟩
  · exact .inr ⟨h.inst, rfl⟩
  · exact .inl ⟨⟨_, .int n⟩, rfl⟩
def spParts (C : Addr) : Sp := fun vs H Q _ => ∃ v n u, vs = [v] ∧ AmV C H v n u ∧ ∀ p, H p = none → Q (.ref p) (upd H p (.tup [.int n, .int u]))
def spInit (C : Addr) : Sp := fun vs H Q _ => ∃ x dx n u, vs = [.ref x, .int n, .int u] ∧ H x = some (.ins C dx []) ∧ u ≠ 0 ∧ Bd 8900 n ∧ Bd 8900 u ∧
  ∀ H' : Hp, H' x = some (.ins C dx (pf (fr n u).1 (fr n u).2)) → (∀ b o, H b = some o → b ≠ x → H' b = some o) → Q .non H'
/-- // by any divisor below 2 ^ 9000 -/
theorem op_fdivX {X : Cx} : OpR X (binaryOp .FloorDiv) (rI (fun _ j => j ≠ 0 ∧ j.natAbs.log2 < 9000) fun i j => .int (i.fdiv j)) := opI fun i j _ _ _ _ _ hc q =>
  floordiv_int hc.1 q (.inl (PyProof.noPylong_of_log2 hc.2))

section
variable {P : Program} {w : World} {K : PySem.W.Frag} {mg : Str → Option Value} {base : Heap}
theorem b_isi : bootBuiltins "isinstance" = some (.builtin "isinstance") := by decide +kernel
theorem b_int : bootBuiltins "int" = some (.type "int") := by decide +kernel
theorem b_bool : bootBuiltins "bool" = some (.type "bool") := by decide +kernel

theorem scWhole : FnScope ["value"] ["value"] (defScope sWhole) := ⟨rfl, rfl, rfl, by decide +kernel, rfl, by decide +kernel, by decide +kernel⟩
theorem ok_whole {f C : Addr} {fd : FuncData} (F : Fun K "is_whole" "is_whole" sWhole f fd) (T : Txt K mg C) : FnOk P w K mg base CX0 1 f fd ["value"] (spWhole C) := by
  refine F.ok scWhole (fun vs H Q E h => ?_) (fun cdv A outer s H vs Q E hr h => ?_)
  · obtain ⟨v, rfl, _⟩ := h
    rfl
  · obtain ⟨v, rfl, hv, q⟩ := h
    refine ⟨_, pss_one (ps_ret (pe_and (pe_callB call_isi (by rfl) T.isi b_isi (pa_cons (pv 0) (pa_cons (pe_bltn (v := .ty "int") (by rfl) T.int b_int rfl) pa_nil)))
      (pe_one (pe_not (pe_callB call_isi (by rfl) T.isi b_isi (pa_cons (pv 0) (pa_cons (pe_bltn (v := .ty "bool") (by rfl) T.bool b_bool rfl) pa_nil))))))), ?_⟩
    rcases hv with ⟨Ty, b⟩ | ⟨a, dx, fs, rfl, ha⟩
    · refine ⟨_, rfl, v, .ty "int", .type Ty, .type "int", _, rfl, .ty _, .base b.tyOf, kB_int b, _, rfl, ?_⟩
      have kb := kB_bool (K := K) b
      cases v with
      | int i => exact iteT ⟨_, rfl, _, .ty "bool", .type Ty, .type "bool", _, rfl, .ty _, .base b.tyOf, kb, _, rfl, q⟩
      | bl i => exact iteT ⟨_, rfl, _, .ty "bool", .type Ty, .type "bool", _, rfl, .ty _, .base b.tyOf, kb, _, rfl, q⟩
      | _ => exact iteF q
    · exact ⟨_, rfl, .ref a, .ty "int", .ref C, .type "int", _, rfl, .ty _, T.tyC ha, T.kI, _, rfl, iteF q⟩
theorem scIsAm : FnScope ["value"] ["value"] (defScope sIsAm) := ⟨rfl, rfl, rfl, by decide +kernel, rfl, by decide +kernel, by decide +kernel⟩
theorem ok_isAm {f C fW : Addr} {fd fdW : FuncData} (F : Fun K "is_amount" "is_amount" sIsAm f fd) (T : Txt K mg C) (GW : FnOk P w K mg base CX0 1 fW fdW ["value"] (spWhole C)) (bW : Binds K fdW ["value"] []) (mW : mg "is_whole" = some (.ref fW)) (kW : PySem.W.keepIn K (.ref fW) = true) :
    FnOk P w K mg base CX0 2 f fd ["value"] (spIsAm C) := by
  refine F.ok scIsAm (fun vs H Q E h => ?_) (fun cdv A outer s H vs Q E hr h => ?_)
  · obtain ⟨v, b, rfl, _⟩ := h
    rfl
  · obtain ⟨v, k, rfl, hv, q⟩ := h
    refine ⟨_, pss_one (ps_ret (pe_or (pe_callB call_isi (by rfl) T.isi b_isi (pa_cons (pv 0) (pa_cons (pe_glob (v := .ref C) (by rfl) T.mgC rfl) pa_nil)))
      (pe_one (pe_call GW hr (by rfl) mW kW bW .nil pass0 (pa_cons (pv 0) pa_nil))))), ?_⟩
    rcases hv with ⟨⟨Ty, b⟩, rfl⟩ | ⟨⟨a, dx, fs, rfl, ha⟩, rfl⟩
    · exact ⟨_, rfl, v, .ref C, .type Ty, .ref C, _, rfl, .own _, .base b.tyOf, T.kOf b, _, rfl, iteF ⟨_, rfl, _, rfl, .inl ⟨Ty, b⟩, q⟩⟩
    · exact ⟨_, rfl, .ref a, .ref C, .ref C, .ref C, _, rfl, .own _, T.tyC ha, T.kC, _, rfl, iteT q⟩
theorem scParts : FnScope ["amount"] ["amount"] (defScope sParts) := ⟨rfl, rfl, rfl, by decide +kernel, rfl, by decide +kernel, by decide +kernel⟩
theorem ok_parts {f C : Addr} {fd : FuncData} (F : Fun K "parts" "parts" sParts f fd) (T : Txt K mg C) : FnOk P w K mg base CX0 1 f fd ["amount"] (spParts C) := by
  refine F.ok scParts (fun vs H Q E h => ?_) (fun cdv A outer s H vs Q E hr h => ?_)
  · obtain ⟨v, n, u, rfl, _⟩ := h
    rfl
  · obtain ⟨v, n, u, rfl, hv, q⟩ := h
    refine ⟨_, pss_cons (ps_if (pt_val (pe_callB call_isi (by rfl) T.isi b_isi (pa_cons (pv 0) (pa_cons (pe_glob (v := .ref C) (by rfl) T.mgC rfl) pa_nil))))
      (pss_one (ps_ret (pe_tup (pa_cons (pe_fld (pv 0) rfl) (pa_cons (pe_fld (pv 0) rfl) pa_nil))))) pss_nil)
      (pss_one (ps_ret (pe_tup (pa_cons (pv 0) (pa_cons pe_int pa_nil))))), ?_⟩
    rcases hv with ⟨l, a, dx, rfl, ha⟩ | ⟨rfl, rfl⟩
    · refine ⟨_, rfl, .ref a, .ref C, .ref C, .ref C, _, rfl, .own _, T.tyC ha, T.kC, _, rfl, iteT ?_⟩
      exact ⟨_, rfl, a, C, dx, _, _, rfl, ha, T.cl, T.nN, pf_number _ _, _, rfl, a, C, dx, _, _, rfl, ha, T.cl, T.nU, pf_under _ _, (by show 2 ≤ sizeLine; decide), q⟩
    · refine ⟨_, rfl, .int n, .ref C, .type "int", .ref C, _, rfl, .own _, .base (.int n), T.k1, _, rfl, iteF ?_⟩
      exact ⟨_, rfl, (by show 2 ≤ sizeLine; decide), q⟩
end
end Am
namespace Am
open PySem PySem.Spec PyProof.Rows L2
abbrev FInit (K : PySem.W.Frag) (f : Addr) (fd : FuncData) : Prop := FunD K "__init__" "Amount.__init__" (defArgs sInit) (defBody sInit) (defScope sInit) [.int 1] [] f fd
theorem log2_lt {n : Nat} {k : Nat} (hk : 0 < k) (h : n < 2 ^ k) : n.log2 < k := PySem.Flt.log2_lt_of hk h
theorem bd_sg {n u : Int} (hu : u ≠ 0) (h : Bd 8900 u) : (sg n u).natAbs.log2 < 9000 := Nat.lt_trans (log2_lt (by decide) (Nat.lt_of_le_of_lt (sg_le hu) h)) (by decide)
section
variable {P : Program} {w : World} {K : PySem.W.Frag} {mg : Str → Option Value} {base : Heap}
theorem scInit : FnScope ["self", "number", "under", "shared"] ["self", "number", "under"] (defScope sInit) := ⟨rfl, rfl, rfl, by decide +kernel, rfl, by decide +kernel, by decide +kernel⟩
theorem ok_init {f C fW : Addr} {fd fdW : FuncData} (F : FInit K f fd) (T : Txt K mg C) (GW : FnOk P w K mg base CX0 1 fW fdW ["value"] (spWhole C)) (bW : Binds K fdW ["value"] []) (mW : mg "is_whole" = some (.ref fW)) (kW : PySem.W.keepIn K (.ref fW) = true) :
    FnOk P w K mg base CX0 2 f fd ["self", "number", "under"] (spInit C) := by
  refine F.ok scInit (fun vs H Q E h => ?_) (fun cdv A outer s H vs Q E hr h => ?_)
  · obtain ⟨x, dx, n, u, rfl, _⟩ := h
    rfl
  · obtain ⟨x, dx, n, u, rfl, hx, hu, bn, bu, q⟩ := h
    refine ⟨_, pss_cons (ps_if (PW.pt (pw_or (pt_not (pt_val (pe_call GW hr (by rfl) mW kW bW .nil pass0 (pa_cons (pv 1) pa_nil)))) (pw_or (pt_not (pt_val (pe_call GW hr (by rfl) mW kW bW .nil pass0 (pa_cons (pv 2) pa_nil)))) (pw_or1 (pt_cmpR op_eq (pv 2) pe_int (nomark _)))))) (pss_one ps_never) pss_nil)
      (pss_cons (ps_set (i := 3) scInit.nd rfl (.inl rfl) (pe_callBfun cr_gcd (by rfl) T.gcd (pa_cons (pv 1) (pa_cons (pv 2) pa_nil))))
      (pss_cons (ps_if (pt_cmpR op_lt (pv 2) pe_int (nomark _)) (pss_one (ps_set (i := 3) scInit.nd rfl (.inl rfl) (pe_un un_neg (pv 3)))) pss_nil)
      (pss_cons (ps_fld (pv 0) (pe_op op_fdivX (pv 1) (pv 3)) rfl)
      (pss_one (ps_fld (pv 0) (pe_op op_fdivX (pv 2) (pv 3)) rfl))))), ?_⟩
    have d0 : decide (V.int u = V.int 0) = false := decide_eq_false (fun e => hu (V.int.inj e))
    refine ⟨_, rfl, _, rfl, .inl ⟨_, .int n⟩, _, rfl, iteF ⟨_, rfl, _, rfl, .inl ⟨_, .int u⟩, _, rfl, iteF ⟨_, rfl, rfl, _, rfl, ?_⟩⟩⟩
    rw [d0]
    refine iteF ?_
    refine ⟨_, rfl, _, rfl, _, _, rfl, ?_⟩
    have fin : ∀ s, s = sg n u → tSeq (sFld K (tVar 0) (tOp (rI (fun _ j => j ≠ 0 ∧ j.natAbs.log2 < 9000) fun i j => .int (i.fdiv j)) (tVar 1) (tVar 3)) "number") (sFld K (tVar 0) (tOp (rI (fun _ j => j ≠ 0 ∧ j.natAbs.log2 < 9000) fun i j => .int (i.fdiv j)) (tVar 2) (tVar 3)) "under")
        { nx := fun _ H' => Q .non H', rt := Q } [some (.ref x), some (.int n), some (.int u), some (.int s)] H := by
      rintro s rfl
      refine ⟨_, rfl, _, rfl, _, _, rfl, rfl, ⟨sg_ne hu, bd_sg hu bu⟩, _, rfl, x, C, dx, _, rfl, hx, T.cl, T.nN, (by show 0 < 1000; decide), ?_⟩
      refine ⟨_, rfl, _, rfl, _, _, rfl, rfl, ⟨sg_ne hu, bd_sg hu bu⟩, _, rfl, x, C, dx, _, rfl, upd_same, T.cl, T.nU, (by show 1 < 1000; decide), ?_⟩
      exact q _ upd_same fun b o e nb => by rw [upd_ne nb, upd_ne nb]; exact e
    refine ⟨_, rfl, _, _, rfl, rfl, _, rfl, ite2 (fun c => ?_) (fun c => ?_)⟩
    · refine ⟨_, rfl, _, rfl, ?_⟩
      exact fin _ (by unfold sg; rw [if_pos (of_decide_eq_true c)]; rfl)
    · exact fin _ (by unfold sg; rw [if_neg (fun z => c (decide_eq_true z))]; rfl)
end
end Am
namespace Am
open PySem PySem.Spec PyProof.Rows L2
/-- a def of the module that keeps its promise -/
def GotF (P : Program) (w : World) (K : PySem.W.Frag) (mg : Str → Option Value) (base : Heap) (x : Str) (k : Nat) (ps : List Str) (sp : Sp) : Prop :=
  ∃ (f : Addr) (fd : FuncData), FnOk P w K mg base CX0 k f fd ps sp ∧ Binds K fd ps [] ∧ mg x = some (.ref f) ∧ PySem.W.keepIn K (.ref f) = true
/-- a method of the class -/
def GotM (P : Program) (w : World) (K : PySem.W.Frag) (mg : Str → Option Value) (base : Heap) (C : Addr) (x : Str) (k : Nat) (ps : List Str) (sp : Sp) : Prop :=
  ∃ (f : Addr) (fd : FuncData), FnOk P w K mg base CX0 k f fd ps sp ∧ Binds K fd ps [] ∧ PySem.W.findIn K (.ref C) x = some (some (.ref f)) ∧ PySem.W.isFn K (.ref f) = true
/-- the making of an Amount -/
def GotI (P : Program) (w : World) (K : PySem.W.Frag) (mg : Str → Option Value) (base : Heap) (C : Addr) : Prop :=
  ∃ (f : Addr) (fd : FuncData), FnOk P w K mg base CX0 2 f fd ["self", "number", "under"] (spInit C) ∧ Binds K fd ["self", "number", "under"] [] ∧ (∃ ds, Vals [V.int 1] ds ∧ Binds K fd ["self", "number", "under"] ds) ∧ Mk K C f
structure OpIK (K : PySem.W.Frag) (C : Addr) (nm : String) : Prop where
  h1 : ∃ fo, PySem.W.findIn K (.type "int") (PySem.dunder nm) = some fo
  h2 : ∃ ro, PySem.W.findIn K (.type "int") (PySem.dunderR nm) = some ro
  hr : ∃ g : Addr, PySem.W.findIn K (.ref C) (PySem.dunderR nm) = some (some (.ref g))

theorem make_read {C : Addr} {H : Hp} {Q : VK} {E : XK} {n u : Int} (hu : u ≠ 0) (bn : Bd 8900 n) (bu : Bd 8900 u) (q : ∀ v H', Same H H' → AmAt C H' v (fr n u).1 (fr n u).2 → Q v H') :
    ∀ x dx, H x = none → H dx = none → dx ≠ x → spInit C [.ref x, .int n, .int u] (upd (upd H dx (.own x)) x (.ins C dx [])) (fun v H2 => v = .non ∧ Q (.ref x) H2) E :=
  fun x dx nx ndx nex => ⟨x, dx, n, u, rfl, upd_same, hu, bn, bu, fun H' hx k => ⟨rfl, q _ _ (Same.made nx ndx k) ⟨fr_low hu, x, dx, rfl, hx⟩⟩⟩

theorem Bd.mono {k j : Nat} {n : Int} (h : Bd k n) (hj : k ≤ j) : Bd j n := Nat.lt_of_lt_of_le h (Nat.pow_le_pow_right (by decide) hj)
theorem Bd.neg {k : Nat} {n : Int} (h : Bd k n) : Bd k (-n) := by unfold Bd; rw [Int.natAbs_neg]; exact h
theorem Bd.mul {k j : Nat} {n m : Int} (h : Bd k n) (h' : Bd j m) : Bd (k + j) (n * m) := wide_lt h h'
theorem Bd.add {k : Nat} {n m : Int} (h : Bd k n) (h' : Bd k m) : Bd (k + 1) (n + m) := by
  unfold Bd at *
  have e : 2 ^ (k + 1) = 2 ^ k + 2 ^ k := by omega
  have := Int.natAbs_add_le n m
  omega
theorem Bd.cmul {k : Nat} {n m : Int} (h : Bd k n) (h' : Bd k m) (h0 : 0 < k) (hk : k ≤ 5000) : CMulW n m := wide_mul h h' h0 h0 (by omega)

def spEq (C : Addr) : Sp := fun vs H Q _ => ∃ a y n u, vs = [a, y] ∧ AmAt C H a n u ∧ ((∃ n' u', AmV C H y n' u' ∧ ∀ H', Same H H' → Q (.bl (decide (n = n' ∧ u = u'))) H') ∨ ((∃ T, Bk H y T) ∧ isI y = false ∧ Q (.bl false) H))
def spNeg (C : Addr) : Sp := fun vs H Q _ => ∃ a n u, vs = [a] ∧ AmAt C H a n u ∧ Bd 8900 n ∧ Bd 8900 u ∧ ∀ v H', Same H H' → AmAt C H' v (-n) u → Q v H'
def spAdd (C : Addr) : Sp := fun vs H Q _ => ∃ a y n u n' u', vs = [a, y] ∧ AmAt C H a n u ∧ AmV C H y n' u' ∧ (Bd 4000 n ∧ Bd 4000 u ∧ Bd 4000 n' ∧ Bd 4000 u') ∧
  ∀ v H', Same H H' → AmAt C H' v (fr (n * u' + n' * u) (u * u')).1 (fr (n * u' + n' * u) (u * u')).2 → Q v H'
def spSub (C : Addr) : Sp := fun vs H Q _ => ∃ a y n u n' u', vs = [a, y] ∧ AmAt C H a n u ∧ AmV C H y n' u' ∧ (Bd 4000 n ∧ Bd 4000 u ∧ Bd 4000 n' ∧ Bd 4000 u') ∧
  ∀ v H', Same H H' → AmAt C H' v (fr (n * u' + -n' * u) (u * u')).1 (fr (n * u' + -n' * u) (u * u')).2 → Q v H'
def spCmp (C : Addr) (r : Int → Bool) : Sp := fun vs H Q _ => ∃ a y n u n' u', vs = [a, y] ∧ AmAt C H a n u ∧ AmV C H y n' u' ∧ (Bd 4000 n ∧ Bd 4000 u ∧ Bd 4000 n' ∧ Bd 4000 u') ∧
  ∀ H', Same H H' → Q (.bl (r (fr (n * u' + -n' * u) (u * u')).1)) H'
theorem eqv_two (n u n' u' : Int) : PyData.eqv (.tuple [.int n, .int u]) (.tuple [.int n', .int u']) = decide (n = n' ∧ u = u') := by
  simp [PyData.eqv, PyData.eqvAll, Bool.beq_eq_decide_eq]
section
variable {P : Program} {w : World} {K : PySem.W.Frag} {mg : Str → Option Value} {base : Heap} {C : Addr}
theorem scNeg : FnScope ["self"] ["self"] (defScope sNeg) := ⟨rfl, rfl, rfl, by decide +kernel, rfl, by decide +kernel, by decide +kernel⟩
theorem ok_neg {f : Addr} {fd : FuncData} (F : Fun K "__neg__" "Amount.__neg__" sNeg f fd) (T : Txt K mg C) (GI : GotI P w K mg base C) : FnOk P w K mg base CX0 4 f fd ["self"] (spNeg C) := by
  obtain ⟨fI, fdI, GI, bI, _, M⟩ := GI
  refine F.ok scNeg (fun vs H Q E h => ?_) (fun cdv A outer s H vs Q E hr h => ?_)
  · obtain ⟨a, n, u, rfl, _⟩ := h
    rfl
  · obtain ⟨a, n, u, rfl, ⟨l, x, dx, rfl, hx⟩, bn, bu, q⟩ := h
    refine ⟨_, pss_one (ps_ret (pe_make M GI hr (by rfl) T.mgC bI .nil pass0 (pa_cons (pe_un un_neg (pe_fld (pv 0) rfl)) (pa_cons (pe_fld (pv 0) rfl) pa_nil)))), ?_⟩
    refine ⟨_, rfl, x, C, dx, _, _, rfl, hx, T.cl, T.nN, pf_number _ _, _, rfl, _, rfl, x, C, dx, _, _, rfl, hx, T.cl, T.nU, pf_under _ _, ?_⟩
    refine make_read l.ne bn.neg bu fun v H' e h => q v H' e ?_
    rw [fr_of_low l.neg] at h
    exact h
theorem scAdd : FnScope ["self", "other", "number", "under"] ["self", "other"] (defScope sAdd) := ⟨rfl, rfl, rfl, by decide +kernel, rfl, by decide +kernel, by decide +kernel⟩
theorem ok_add {f : Addr} {fd : FuncData} (F : Fun K "__add__" "Amount.__add__" sAdd f fd) (T : Txt K mg C) (GI : GotI P w K mg base C) (GA : GotF P w K mg base "is_amount" 2 ["value"] (spIsAm C)) (GP : GotF P w K mg base "parts" 1 ["amount"] (spParts C)) :
    FnOk P w K mg base CX0 4 f fd ["self", "other"] (spAdd C) := by
  obtain ⟨fI, fdI, GI, bI, _, M⟩ := GI
  obtain ⟨fA, fdA, GA, bA, mA, kA⟩ := GA
  obtain ⟨fP, fdP, GP, bP, mP, kP⟩ := GP
  refine F.ok scAdd (fun vs H Q E h => ?_) (fun cdv A outer s H vs Q E hr h => ?_)
  · obtain ⟨a, y, n, u, n', u', rfl, _⟩ := h
    rfl
  · obtain ⟨a, y, n, u, n', u', rfl, ⟨l, x, dx, rfl, hx⟩, hy, ⟨b1, b2, b3, b4⟩, q⟩ := h
    have hr1 : Room 1 _ := hr.mono (by decide)
    have hr2 : Room 2 _ := hr.mono (by decide)
    refine ⟨_, pss_cons (ps_if (pt_not (pt_val (pe_call GA hr2 (by rfl) mA kA bA .nil pass0 (pa_cons (pv 1) pa_nil)))) (pss_one ps_never) pss_nil)
      (pss_cons (ps_asg (pe_call GP hr1 (by rfl) mP kP bP .nil pass0 (pa_cons (pv 1) pa_nil)) (pg_tup rfl (pgs_cons (pg_name (i := 2) scAdd.nd rfl (.inl rfl)) (pgs_cons (pg_name (i := 3) scAdd.nd rfl (.inl rfl)) pgs_nil))))
      (pss_one (ps_ret (pe_make M GI hr (by rfl) T.mgC bI .nil pass0 (pa_cons (pe_op op_add (pe_op op_mulW (pe_fld (pv 0) rfl) (pv 3)) (pe_op op_mulW (pv 2) (pe_fld (pv 0) rfl))) (pa_cons (pe_op op_mulW (pe_fld (pv 0) rfl) (pv 3)) pa_nil)))))), ?_⟩
    refine ⟨_, rfl, _, true, rfl, hy.isAm, _, rfl, iteF ?_⟩
    refine ⟨_, rfl, y, n', u', rfl, hy, fun p np => ⟨p, _, rfl, SqT.of upd_same, rfl, _, _, rfl, _, _, rfl, rfl, ?_⟩⟩
    have hx1 : (upd H p (.tup [V.int n', V.int u'])) x = some (.ins C dx (pf n u)) := by rw [upd_ne (ne_of_none hx np)]; exact hx
    refine ⟨_, rfl, x, C, dx, _, _, rfl, hx1, T.cl, T.nN, pf_number _ _, _, rfl, _, _, rfl, rfl, b1.cmul b4 (by decide) (by decide), ?_⟩
    refine ⟨_, rfl, _, rfl, x, C, dx, _, _, rfl, hx1, T.cl, T.nU, pf_under _ _, _, _, rfl, rfl, b3.cmul b2 (by decide) (by decide), _, _, rfl, rfl, ?_⟩
    refine ⟨_, rfl, x, C, dx, _, _, rfl, hx1, T.cl, T.nU, pf_under _ _, _, rfl, _, _, rfl, rfl, b2.cmul b4 (by decide) (by decide), ?_⟩
    have hu : u * u' ≠ 0 := Int.mul_ne_zero l.ne hy.low.ne
    refine make_read hu ((b1.mul b4).add (b3.mul b2) |>.mono (by decide)) ((b2.mul b4).mono (by decide)) fun v H' e h => q v H' ((same_upd np).trans e) h
theorem scSub : FnScope ["self", "other"] ["self", "other"] (defScope sSub) := ⟨rfl, rfl, rfl, by decide +kernel, rfl, by decide +kernel, by decide +kernel⟩
theorem ok_sub {f : Addr} {fd : FuncData} (F : Fun K "__sub__" "Amount.__sub__" sSub f fd) (T : Txt K mg C) (GA : GotF P w K mg base "is_amount" 2 ["value"] (spIsAm C)) (GN : GotM P w K mg base C "__neg__" 4 ["self"] (spNeg C)) (GD : GotM P w K mg base C "__add__" 4 ["self", "other"] (spAdd C)) (cA : OpIK K C "add") :
    FnOk P w K mg base CX0 5 f fd ["self", "other"] (spSub C) := by
  obtain ⟨fN, fdN, GN, bN, hN, iN⟩ := GN
  obtain ⟨fA, fdA, GA, bA, mA, kA⟩ := GA
  obtain ⟨fD, fdD, GD, bD, hD, iD⟩ := GD
  refine F.ok scSub (fun vs H Q E h => ?_) (fun cdv A outer s H vs Q E hr h => ?_)
  · obtain ⟨a, y, n, u, n', u', rfl, _⟩ := h
    rfl
  · obtain ⟨a, y, n, u, n', u', rfl, ha, hy, ⟨b1, b2, b3, b4⟩, q⟩ := h
    have hr2 : Room 2 _ := hr.mono (by decide)
    refine ⟨_, pss_cons (ps_if (pt_not (pt_val (pe_call GA hr2 (by rfl) mA kA bA .nil pass0 (pa_cons (pv 1) pa_nil)))) (pss_one ps_never) pss_nil)
      (pss_one (ps_ret (pe_op (op_binC (op := .Add) T.op ⟨cA.h1, cA.h2, cA.hr⟩ ⟨hD, iD⟩ GD hr bD pass0) (pv 0) (pe_un (UnR.or (un_negC ⟨hN, iN⟩ GN hr bN pass0) un_neg) (pv 1))))), ?_⟩
    refine ⟨_, rfl, _, true, rfl, hy.isAm, _, rfl, iteF ?_⟩
    have fin : ∀ v1 H1, Same H H1 → AmV C H1 v1 (-n') u' → rBin C (spAdd C) E0 a v1 H1 Q := fun v1 H1 e h1 =>
      ⟨(ha.same e).inst, h1.orI, a, v1, n, u, -n', u', rfl, ha.same e, h1, ⟨b1, b2, b3.neg, b4⟩, fun v H' e' h => q v H' (e.trans e') h⟩
    refine ⟨_, rfl, _, rfl, ?_⟩
    rcases hy with hy | ⟨rfl, rfl⟩
    · exact .inl ⟨hy.inst, y, n', u', rfl, hy, b3.mono (by decide), b4.mono (by decide), fun v1 H1 e h1 => fin v1 H1 e (.inl h1)⟩
    · exact .inr ⟨_, rfl, fin _ _ (Same.refl _) (.inr ⟨rfl, rfl⟩)⟩
theorem scEq : FnScope ["self", "other"] ["self", "other"] (defScope sEq) := ⟨rfl, rfl, rfl, by decide +kernel, rfl, by decide +kernel, by decide +kernel⟩
theorem ok_eq {f : Addr} {fd : FuncData} (F : Fun K "__eq__" "Amount.__eq__" sEq f fd) (T : Txt K mg C) (GA : GotF P w K mg base "is_amount" 2 ["value"] (spIsAm C)) (GP : GotF P w K mg base "parts" 1 ["amount"] (spParts C)) :
    FnOk P w K mg base CX0 3 f fd ["self", "other"] (spEq C) := by
  obtain ⟨fA, fdA, GA, bA, mA, kA⟩ := GA
  obtain ⟨fP, fdP, GP, bP, mP, kP⟩ := GP
  refine F.ok scEq (fun vs H Q E h => ?_) (fun cdv A outer s H vs Q E hr h => ?_)
  · obtain ⟨a, y, n, u, rfl, _⟩ := h
    rfl
  · obtain ⟨a, y, n, u, rfl, ⟨l, x, dx, rfl, hx⟩, hy⟩ := h
    have hr1 : Room 1 _ := hr.mono (by decide)
    refine ⟨_, pss_cons (ps_if (pt_not (pt_val (pe_call GA hr (by rfl) mA kA bA .nil pass0 (pa_cons (pv 1) pa_nil)))) (pss_one (ps_ret pe_bl)) pss_nil)
      (pss_one (ps_ret (pe_cmpR (op_eqD hr.units) (pe_tup (pa_cons (pe_fld (pv 0) rfl) (pa_cons (pe_fld (pv 0) rfl) pa_nil))) (pe_call GP hr1 (by rfl) mP kP bP .nil pass0 (pa_cons (pv 1) pa_nil)) (nomark _)))), ?_⟩
    rcases hy with ⟨n', u', hy, q⟩ | ⟨⟨Ty, b⟩, hi, q⟩
    · refine ⟨_, rfl, _, true, rfl, hy.isAm, _, rfl, iteF ?_⟩
      refine ⟨_, rfl, x, C, dx, _, _, rfl, hx, T.cl, T.nN, pf_number _ _, _, rfl, x, C, dx, _, _, rfl, hx, T.cl, T.nU, pf_under _ _, (by show 2 ≤ sizeLine; decide), fun p np => ?_⟩
      have s1 := same_upd (o := .tup [V.int n, V.int u]) np
      refine ⟨_, rfl, y, n', u', rfl, hy.same s1, fun p' np' => ?_⟩
      have npp : p ≠ p' := fun e => by rw [← e, upd_same] at np'; cases np'
      have s2 := same_upd (o := .tup [V.int n', V.int u']) np'
      refine ⟨.tuple [.int n, .int u], .tuple [.int n', .int u'], .tup (SqT.of (Eq.trans (upd_ne npp) upd_same)) (.cons (.int n) (.cons (.int u) .nil)), .tup (SqT.of upd_same) (.cons (.int n') (.cons (.int u') .nil)), rfl, rfl, ?_⟩
      rw [eqv_two]
      exact q _ (s1.trans s2)
    · exact ⟨_, rfl, _, false, rfl, .inl ⟨⟨Ty, b⟩, hi.symm⟩, _, rfl, iteT q⟩
theorem scLt : FnScope ["self", "other"] ["self", "other"] (defScope sLt) := ⟨rfl, rfl, rfl, by decide +kernel, rfl, by decide +kernel, by decide +kernel⟩
theorem ok_lt {f : Addr} {fd : FuncData} (F : Fun K "__lt__" "Amount.__lt__" sLt f fd) (T : Txt K mg C) (GA : GotF P w K mg base "is_amount" 2 ["value"] (spIsAm C)) (GS : GotM P w K mg base C "__sub__" 5 ["self", "other"] (spSub C)) (cS : OpIK K C "sub") :
    FnOk P w K mg base CX0 6 f fd ["self", "other"] (spCmp C (fun i => decide (i < 0))) := by
  obtain ⟨fA, fdA, GA, bA, mA, kA⟩ := GA
  obtain ⟨fS, fdS, GS, bS, hS, iS⟩ := GS
  refine F.ok scLt (fun vs H Q E h => ?_) (fun cdv A outer s H vs Q E hr h => ?_)
  · obtain ⟨a, y, n, u, n', u', rfl, _⟩ := h
    rfl
  · obtain ⟨a, y, n, u, n', u', rfl, ha, hy, bb, q⟩ := h
    have hr2 : Room 2 _ := hr.mono (by decide)
    refine ⟨_, pss_cons (ps_if (pt_not (pt_val (pe_call GA hr2 (by rfl) mA kA bA .nil pass0 (pa_cons (pv 1) pa_nil)))) (pss_one ps_never) pss_nil)
      (pss_one (ps_ret (pe_cmpR op_lt (pe_fld (pe_op (op_binC (op := .Sub) T.op ⟨cS.h1, cS.h2, cS.hr⟩ ⟨hS, iS⟩ GS hr bS pass0) (pv 0) (pv 1)) rfl) pe_int (nomark _)))), ?_⟩
    refine ⟨_, rfl, _, true, rfl, hy.isAm, _, rfl, iteF ?_⟩
    refine ⟨_, rfl, _, rfl, ha.inst, hy.orI, a, y, n, u, n', u', rfl, ha, hy, bb, fun v H' e h => ?_⟩
    obtain ⟨l, z, dz, rfl, hz⟩ := h
    exact ⟨z, C, dz, _, _, rfl, hz, T.cl, T.nN, pf_number _ _, _, _, rfl, rfl, q H' e⟩
theorem scLe : FnScope ["self", "other"] ["self", "other"] (defScope sLe) := ⟨rfl, rfl, rfl, by decide +kernel, rfl, by decide +kernel, by decide +kernel⟩
theorem ok_le {f : Addr} {fd : FuncData} (F : Fun K "__le__" "Amount.__le__" sLe f fd) (T : Txt K mg C) (GA : GotF P w K mg base "is_amount" 2 ["value"] (spIsAm C)) (GS : GotM P w K mg base C "__sub__" 5 ["self", "other"] (spSub C)) (cS : OpIK K C "sub") :
    FnOk P w K mg base CX0 6 f fd ["self", "other"] (spCmp C (fun i => decide (i ≤ 0))) := by
  obtain ⟨fA, fdA, GA, bA, mA, kA⟩ := GA
  obtain ⟨fS, fdS, GS, bS, hS, iS⟩ := GS
  refine F.ok scLe (fun vs H Q E h => ?_) (fun cdv A outer s H vs Q E hr h => ?_)
  · obtain ⟨a, y, n, u, n', u', rfl, _⟩ := h
    rfl
  · obtain ⟨a, y, n, u, n', u', rfl, ha, hy, bb, q⟩ := h
    have hr2 : Room 2 _ := hr.mono (by decide)
    refine ⟨_, pss_cons (ps_if (pt_not (pt_val (pe_call GA hr2 (by rfl) mA kA bA .nil pass0 (pa_cons (pv 1) pa_nil)))) (pss_one ps_never) pss_nil)
      (pss_one (ps_ret (pe_cmpR op_le (pe_fld (pe_op (op_binC (op := .Sub) T.op ⟨cS.h1, cS.h2, cS.hr⟩ ⟨hS, iS⟩ GS hr bS pass0) (pv 0) (pv 1)) rfl) pe_int (nomark _)))), ?_⟩
    refine ⟨_, rfl, _, true, rfl, hy.isAm, _, rfl, iteF ?_⟩
    refine ⟨_, rfl, _, rfl, ha.inst, hy.orI, a, y, n, u, n', u', rfl, ha, hy, bb, fun v H' e h => ?_⟩
    obtain ⟨l, z, dz, rfl, hz⟩ := h
    exact ⟨z, C, dz, _, _, rfl, hz, T.cl, T.nN, pf_number _ _, _, _, rfl, rfl, q H' e⟩
theorem scGt : FnScope ["self", "other"] ["self", "other"] (defScope sGt) := ⟨rfl, rfl, rfl, by decide +kernel, rfl, by decide +kernel, by decide +kernel⟩
theorem ok_gt {f : Addr} {fd : FuncData} (F : Fun K "__gt__" "Amount.__gt__" sGt f fd) (T : Txt K mg C) (GA : GotF P w K mg base "is_amount" 2 ["value"] (spIsAm C)) (GS : GotM P w K mg base C "__sub__" 5 ["self", "other"] (spSub C)) (cS : OpIK K C "sub") :
    FnOk P w K mg base CX0 6 f fd ["self", "other"] (spCmp C (fun i => decide (0 < i))) := by
  obtain ⟨fA, fdA, GA, bA, mA, kA⟩ := GA
  obtain ⟨fS, fdS, GS, bS, hS, iS⟩ := GS
  refine F.ok scGt (fun vs H Q E h => ?_) (fun cdv A outer s H vs Q E hr h => ?_)
  · obtain ⟨a, y, n, u, n', u', rfl, _⟩ := h
    rfl
  · obtain ⟨a, y, n, u, n', u', rfl, ha, hy, bb, q⟩ := h
    have hr2 : Room 2 _ := hr.mono (by decide)
    refine ⟨_, pss_cons (ps_if (pt_not (pt_val (pe_call GA hr2 (by rfl) mA kA bA .nil pass0 (pa_cons (pv 1) pa_nil)))) (pss_one ps_never) pss_nil)
      (pss_one (ps_ret (pe_cmpR op_gt (pe_fld (pe_op (op_binC (op := .Sub) T.op ⟨cS.h1, cS.h2, cS.hr⟩ ⟨hS, iS⟩ GS hr bS pass0) (pv 0) (pv 1)) rfl) pe_int (nomark _)))), ?_⟩
    refine ⟨_, rfl, _, true, rfl, hy.isAm, _, rfl, iteF ?_⟩
    refine ⟨_, rfl, _, rfl, ha.inst, hy.orI, a, y, n, u, n', u', rfl, ha, hy, bb, fun v H' e h => ?_⟩
    obtain ⟨l, z, dz, rfl, hz⟩ := h
    exact ⟨z, C, dz, _, _, rfl, hz, T.cl, T.nN, pf_number _ _, _, _, rfl, rfl, q H' e⟩
theorem scGe : FnScope ["self", "other"] ["self", "other"] (defScope sGe) := ⟨rfl, rfl, rfl, by decide +kernel, rfl, by decide +kernel, by decide +kernel⟩
theorem ok_ge {f : Addr} {fd : FuncData} (F : Fun K "__ge__" "Amount.__ge__" sGe f fd) (T : Txt K mg C) (GA : GotF P w K mg base "is_amount" 2 ["value"] (spIsAm C)) (GS : GotM P w K mg base C "__sub__" 5 ["self", "other"] (spSub C)) (cS : OpIK K C "sub") :
    FnOk P w K mg base CX0 6 f fd ["self", "other"] (spCmp C (fun i => decide (0 ≤ i))) := by
  obtain ⟨fA, fdA, GA, bA, mA, kA⟩ := GA
  obtain ⟨fS, fdS, GS, bS, hS, iS⟩ := GS
  refine F.ok scGe (fun vs H Q E h => ?_) (fun cdv A outer s H vs Q E hr h => ?_)
  · obtain ⟨a, y, n, u, n', u', rfl, _⟩ := h
    rfl
  · obtain ⟨a, y, n, u, n', u', rfl, ha, hy, bb, q⟩ := h
    have hr2 : Room 2 _ := hr.mono (by decide)
    refine ⟨_, pss_cons (ps_if (pt_not (pt_val (pe_call GA hr2 (by rfl) mA kA bA .nil pass0 (pa_cons (pv 1) pa_nil)))) (pss_one ps_never) pss_nil)
      (pss_one (ps_ret (pe_cmpR op_ge (pe_fld (pe_op (op_binC (op := .Sub) T.op ⟨cS.h1, cS.h2, cS.hr⟩ ⟨hS, iS⟩ GS hr bS pass0) (pv 0) (pv 1)) rfl) pe_int (nomark _)))), ?_⟩
    refine ⟨_, rfl, _, true, rfl, hy.isAm, _, rfl, iteF ?_⟩
    refine ⟨_, rfl, _, rfl, ha.inst, hy.orI, a, y, n, u, n', u', rfl, ha, hy, bb, fun v H' e h => ?_⟩
    obtain ⟨l, z, dz, rfl, hz⟩ := h
    exact ⟨z, C, dz, _, _, rfl, hz, T.cl, T.nN, pf_number _ _, _, _, rfl, rfl, q H' e⟩
end
end Am
/-! promises of defs that are run where no repr is under way (A.guards = some []): such a def may ask repr of its own objects -/
namespace Gu
open PySem PySem.Spec PyProof.Rows L2
structure FnG (P : Program) (w : World) (K : PySem.W.Frag) (mg : Str → Option Value) (base : Heap) (CX : CXT) (k : Nat) (f : Addr) (fd : FuncData) (ps : List Str) (sp : Sp) : Prop where
  len : ∀ vs H Q E, sp vs H Q E → vs.length = ps.length
  go : ∀ (A : Around) (out : List Env) (s : Shared) (H : Hp) (args : Args) (us : List Value) (vs : List V) (Q : VK) (E : XK), Room k A → A.guards = some [] → Env0 P w K mg base A out s H →
    BindsTo s fd args (ps.zip us) → Vals vs us → sp vs H Q E → codeAny (model P w) A (.call (.ref f) args) (CR CX out P w H s Q E) s
section
variable {P : Program} {w : World} {K : PySem.W.Frag} {mg : Str → Option Value} {base : Heap} {CX : CXT} {k : Nat} {f : Addr} {fd : FuncData} {N ps : List Str} {sp : Sp}
theorem FnG.of (F : FnOk P w K mg base CX k f fd ps sp) : FnG P w K mg base CX k f fd ps sp :=
  ⟨F.len, fun A out s H args us vs Q E hr _ => F.run A out s H args us vs Q E hr⟩
/-- a def by its body, where nothing is guarded -/
theorem okG {x qual : Str} {st : Stmt} (F : Fun K x qual st f fd) (S : FnScope N ps (defScope st)) (len : ∀ vs H Q E, sp vs H Q E → vs.length = ps.length)
    (body : ∀ (cdv : Value) (A : Around) (out : List Env) (s : Shared) (H : Hp) (vs : List V) (Q : VK) (E : XK), A.guards = some [] → Room k (A.deeper (envOfC qual (defScope st) s.heap.objs.size f cdv)) → sp vs H Q E →
      ∃ t, PSs (cxOf CX P w K mg base N qual (defScope st) f cdv A out s H E) (defBody st) t ∧ t { nx := fun _ H' => Q .non H', rt := Q } (start N vs) H) : FnG P w K mg base CX (k + 1) f fd ps sp := by
  obtain ⟨oc, od, kV, doc, pm, an, cdv, ct, osl, rfl, at_, code⟩ := F.ex
  constructor
  · exact len
  intro A out s H args us vs Q E room free e0 bind rel want
  have n1 := len _ _ _ _ want
  have inK : K.In s.heap := e0.mod.kin.keeps (fun b o z => (e0.bs b o z).1)
  have noLim : s.heap.NoLimit := e0.mod.nolimit.keeps (fun b o z => (e0.bs b o z).1)
  have kinds : ∀ y ∈ ps.zip us, (defScope st).names.lookup y.1 = some .local ∨ ((defScope st).names.lookup y.1 = some .cell ∧ ((cellsFrom (s.heap.objs.size + 1) (defScope st).names []).lookup y.1).isSome = true) := by
    rintro ⟨n, v⟩ hy
    exact (S.par n (List.of_mem_zip hy).1).imp id fun q => ⟨q, PySem.W.cellsFrom_some _ _ _ (.inl q)⟩
  apply codeAny_call_function room.depth (inK _ _ at_) rfl S.co S.gen rfl (PySem.W.codeRec_of inK code) (bind _ _ _ _ _)
  apply wpAny_newFunctionEnv_cells S.kind kinds
  intro env he s1 x
  subst he
  refine ⟨noLim.keeps x.toInCall.keep, codeAny_func ?_⟩
  obtain ⟨t, run, go⟩ := body cdv A out s H vs Q E free (room.deeper _) want
  have I := inv_start (CX := CX) (E := E) S room.hd e0 n1 rel x
  apply wpAny_mono (run.run [] s1 (start N vs) H _ I go)
  · intro fl s' q
    match fl, q with
    | .ret u, ⟨v, σ', H', J, rv, qv⟩ => exact ⟨v, H', J.os, J.bare, J.base, J.hok, rv, qv⟩
    | .next, ⟨σ', H', J, qv⟩ => exact ⟨.non, H', J.os, J.bare, J.base, J.hok, rfl, qv⟩
    | .brk, ⟨_, _, _, z⟩ => exact z.elim
    | .cont, ⟨_, _, _, z⟩ => exact z.elim
  · exact fun _ _ z => z
/-- the same where nothing is let out -/
theorem okG0 {x qual : Str} {st : Stmt} (F : Fun K x qual st f fd) (S : FnScope N ps (defScope st)) (len : ∀ vs H Q E, sp vs H Q E → vs.length = ps.length)
    (body : ∀ (cdv : Value) (A : Around) (out : List Env) (s : Shared) (H : Hp) (vs : List V) (Q : VK) (E : XK), A.guards = some [] → Room k (A.deeper (envOfC qual (defScope st) s.heap.objs.size f cdv)) → sp vs H Q E →
      ∃ t, PSs (cxOf CX0 P w K mg base N qual (defScope st) f cdv A out s H E).nox (defBody st) t ∧ t { nx := fun _ H' => Q .non H', rt := Q } (start N vs) H) : FnG P w K mg base CX0 (k + 1) f fd ps sp :=
  okG F S len fun cdv A out s H vs Q E free room want => let ⟨t, h, q⟩ := body cdv A out s H vs Q E free room want; ⟨t, h.nox, q⟩
end
section
variable {X : Cx} {CX : CXT} {k : Nat} {f : Addr} {fd : FuncData} {ps : List Str} {sp : Sp} {E : XK} {x : Str} {p pos : Pos} {e : Expr} {es : List Expr} {t : TA}
/-- f(e, ..): a def whose promise wants that nothing is guarded -/
theorem pe_callG (F : FnG X.prog X.w X.K X.mg X.base CX k f fd ps sp) (free : X.A.guards = some []) (hr : Room k X.A) (hg : Gl X x) (hm : X.mg x = some (.ref f)) (hk : PySem.W.keepIn X.K (.ref f) = true) (hb : Binds X.K fd ps []) (hx : Passes CX X E)
    (ha : PA X (e :: es) t) (h1 : (x == ("__debug__" : Str)) = false := by decide) (h2 : starEach (e :: es) X.env = (false, eval e X.env) :: starEach es X.env := by rfl) (h3 : (backTo pos (starEach es X.env)).any (·.1) = false := by rfl) :
    PE X (.Call (.Name x p) (e :: es) [] pos) (tCall sp [] E t) := by
  constructor
  intro pins s σ H Q I want
  refine wpAny_Call_Name_kw (ld_glob I hg hm ?_ h1)
  refine PySem.W.callWith_K (h₀ := X.base) I.ok.mod.kin hk (thn (ha.run pos pins s σ H _ I want) ?_) h2 h3
  rintro us s1 ⟨vs, H1, I1, rel, q⟩
  refine ⟨I1.kIn, wpAny_call ?_⟩
  have q' : sp vs H1 Q E := by simpa using q
  have n1 : us.length = ps.length := by rw [← rel.length]; exact F.len _ _ _ _ q'
  refine codeAny_mono (F.go X.A X.stack s1 H1 ⟨us, []⟩ us vs Q E hr free I1.env0 (by have := hb s1 us I1.kIn (by simpa using n1); simpa using this) rel q') ?_
  intro r s' z
  match r, z with
  | .error e, z => exact hx pins σ H1 s1 e s' I1 z
  | .ok (.ret u), z => exact I1.after z
end

/-- the data that a value stands for, of a heap -/
def rRepr (K : PySem.W.Frag) : List V → Hp → VK → Prop := fun xs H Q => ∃ a d, xs = [.ref a] ∧ Dp K H (.ref a) d ∧ d.showable = true ∧ d.hasDict = false ∧ d.depth ≤ 60 ∧ d.shown.length ≤ sizeLine ∧ Q (.str d.shown) H
theorem call_reprD {X : Cx} (free : X.A.guards = some []) (hu : X.A.units + 64 < cLine) : CallR X (.builtin "repr") (rRepr X.K) := by
  intro pins s σ H xs us Q I rel want
  obtain ⟨a, d, rfl, hd, sh, nd, dp, sz, q⟩ := want
  obtain ⟨u, rfl, ru⟩ := vals1 rel
  cases (show u = Value.ref a from ru)
  obtain ⟨as, r⟩ := Dp.reads I d (.ref a) _ hd rfl
  refine repr_of_reads' r sh (fun z => by rw [nd] at z; cases z) free (by omega) (fun _ _ z => z) ?_ sz
  intro h' t tk kp
  exact ⟨.str d.shown, H, I.kept kp, ⟨t, rfl⟩, q⟩
end Gu
namespace Gu
open PySem PySem.Spec PyProof.Rows L2
section
variable {P : Program} {w : World} {K : PySem.W.Frag} {mg mb : Str → Option Value} {k : Nat} {fa a : Addr} {fd : FuncData} {x : Str} {sp : Sp} {s : Shared} {vs : List Value} {ns : List Int}
/-- the script's object -/
abbrev scr (vs : List Value) : Obj := { cls := .type "list", data := .seq vs.toArray }
/-- what may be known at the law's call: nothing but the script, as it stands -/
def Bare (a : Addr) (vs : List Value) (ns : List Int) (H : Hp) : Prop := ∀ b u, H b = some u → b = a ∧ u = .frz (scr vs) (.lst (ns.map V.int))
theorem from_caller (inK : K.In s.heap) (glob : s.heap.Ns mainGlobals mg) (bi : s.heap.Ns builtinsNs mb) (hbi : ∀ x : Str, x ≠ "__name__" → mb x = bootBuiltins x) (lim : s.heap.NoLimit) (gens : s.gens = #[])
    (script : s.heap.get? a = some (scr vs)) (room : Room k callerA) (F : ∀ base : Heap, K.In base → base.Ns mainGlobals mg → FnG P w K mg base CX0 k fa fd [x] sp)
    (bind : ∀ (s : Shared) (u : Value), BindsTo s fd ⟨[u], []⟩ [(x, u)]) {H : Hp} (bare : Bare a vs ns H) (ok : HOk P w H s.heap) (off : H a ≠ none → K.lookup a = none)
    (want : sp [.ref a] H (fun v _ => v = .bl true) fun _ _ _ => False) :
    codeAny (model P w) callerA (.call (.ref fa) ⟨[.ref a], []⟩) (fun r s' => r = .ok (.ret (.bool true)) ∧ OldK s.heap s'.heap ∧ s'.os = s.os ∧ AllBare s'.gens) s := by
  -- an object whose data is a dict is not the script, so it is not known
  have apart : ∀ {b : Addr} {o : Obj} {es : Array DictEntry} {n : Nat}, s.heap.get? b = some o → o.data = .dict es n → H b = none := by
    intro b o es n e d
    cases z : H b with
    | none => rfl
    | some u =>
      obtain ⟨rfl, _⟩ := bare b u z
      rw [script] at e
      cases e
      cases (show Data.seq vs.toArray _ = Data.dict es n from d)
  have ns' : ∀ {b : Addr} {m : Str → Option Value}, s.heap.Ns b m → (hidT s.heap H).Ns b m := by
    rintro b m ⟨o, es, n, e, d, rest⟩
    exact ⟨o, es, n, hidT_get e (apart e d), d, rest⟩
  have inB : K.In (hidT s.heap H) := by
    intro b o e
    refine hidT_get (inK b o e) ?_
    cases z : H b with
    | none => rfl
    | some u =>
      obtain ⟨rfl, _⟩ := bare b u z
      rw [off (by rw [z]; exact fun q => by cases q)] at e
      cases e
  obtain ⟨mc, l1, l2⟩ := lim
  have e0 : Env0 P w K mg (hidT s.heap H) callerA [] s H := {
    frames := rfl
    mod := ⟨inB, ns' glob, ⟨mb, ns' bi, hbi⟩, ⟨mc, ns' l1, l2⟩⟩
    bs := fun b o e => of_hidT e
    bsz := Nat.le_of_eq (hidT_size _ _)
    funs := trivial
    frf := by intro b hb; cases hb
    hok := ok
    bare := .of_eq gens }
  refine codeAny_mono ((F _ inB (ns' glob)).go callerA [] s H ⟨[.ref a], []⟩ [.ref a] [.ref a] _ _ room rfl e0 (bind s (.ref a)) (.cons rfl .nil) want) ?_
  intro r s' z
  match r, z with
  | .error e, z => exact z.elim
  | .ok (.ret u), ⟨v, H', os, bare', un, ok', rv, q⟩ =>
    have q' : v = .bl true := q
    subst q'
    cases (show u = Value.bool true from rv)
    refine ⟨rfl, OldK.of_keep (fun b o e => ?_), os, bare'⟩
    cases z : H b with
    | none => exact un.keep b o e z (by intro h; cases h) (by intro h; cases h)
    | some u =>
      obtain ⟨rfl, rfl⟩ := bare b u z
      obtain ⟨e1, _⟩ := ok b _ z
      obtain ⟨e2, _⟩ := ok' b _ (un.frzs b _ _ z)
      rw [e] at e1
      cases e1
      exact e2
end
/-- the end of a law's row, from a promise of that kind -/
theorem walkG {l : PySem.W.OpenLaw} {n k : Nat} {q : Program} {loose : List Str} {XP : (Str → Option Value) → Heap → Prop} {YP : World → Heap → Prop} {d : DefRec} {K : Params → PySem.W.Frag} {sp : PySem.W.Frag → Sp} {x : Str}
    (most : l.most = some n) (small : n ≤ sizeLine) (nodef : d.params.defaults = []) (room : Room k callerA) (inK : ∀ (w : World) (h : Heap), YP w h → (K w.params).In h)
    (F : ∀ (w : World) (mg : Str → Option Value) (fa : Addr) (h : Heap), (K w.params).In h → h.Ns mainGlobals mg → mg d.name = some (.ref fa) →
      ∃ fd : FuncData, (∀ (s : Shared) (u : Value), BindsTo s fd ⟨[u], []⟩ [(x, u)]) ∧ ∀ base : Heap, (K w.params).In base → base.Ns mainGlobals mg → FnG l.prog w (K w.params) mg base CX0 k fa fd [x] (sp (K w.params)))
    (want : ∀ (K : PySem.W.Frag) (H : Hp) (a : Addr) (ns : List Int), ns.length ≤ n → SqL K H a (ns.map V.int) → sp K [.ref a] H (fun v _ => v = .bl true) fun _ _ _ => False) :
    PySem.W.WalkO q loose XP YP l.row.toRowW d [] (fun f vs => PySem.call f vs) := by
  refine Att.attach_call most nodef fun w s₀ s mg mb fa o pm cd doc a vs ns G Y ho hd hcd hmg script hints len gens => ?_
  have kin := inK w _ Y
  obtain ⟨fd, bind, hF⟩ := F w mg fa _ kin G.T.g hmg
  have rel : Vals (ns.map V.int) vs := vals_ints hints
  have small' : (ns.map V.int).length ≤ sizeLine := by rw [List.length_map]; exact Nat.le_trans len small
  have small2 : vs.toArray.size ≤ sizeLine := by rw [List.size_toArray, ← rel.length]; exact small'
  cases known : K w.params |>.lookup a with
  | some o' =>
    have e := kin a o' known
    rw [script] at e
    cases e
    refine from_caller (ns := ns) (H := fun _ => none) kin G.T.g G.T.b G.T.builtins G.T.nolimit gens script room hF bind (by intro b u z; cases z) (by intro b u z; cases z) (fun z => (z rfl).elim) ?_
    exact want _ _ a ns len (.inr ⟨_, vs.toArray, _, known, rfl, rfl, rfl, small2, by simpa using rel⟩)
  | none =>
    refine from_caller (ns := ns) (H := upd (fun _ => none) a (.frz (scr vs) (.lst (ns.map V.int)))) kin G.T.g G.T.b G.T.builtins G.T.nolimit gens script room hF bind ?_ ?_ (fun _ => known) ?_
    · intro b u z
      by_cases c : b = a
      · subst c
        rw [upd_same] at z
        exact ⟨rfl, (Option.some.inj z).symm⟩
      · rw [upd_ne c] at z
        cases z
    · intro b u z
      by_cases c : b = a
      · subst c
        rw [upd_same] at z
        cases z
        exact ⟨script, small', vs, _, rel, script⟩
      · rw [upd_ne c] at z
        cases z
    · exact want _ _ a ns len (.inl (.inr ⟨_, upd_same⟩))
end Gu
namespace Am
open PySem PySem.Spec PyProof.Rows L2
abbrev sJar : Stmt := top 18
abbrev sTake : Stmt := top 19
abbrev sOf : Stmt := top 20
abbrev sFrac : Stmt := top 21
/-- all but p stands as it did -/
def Chg (p : Addr) (H H' : Hp) : Prop := ∀ b u, H b = some u → b ≠ p → H' b = some u
theorem Chg.refl (p : Addr) (H : Hp) : Chg p H H := fun _ _ e _ => e
theorem Chg.trans {p : Addr} {H H1 H2 : Hp} (a : Chg p H H1) (b : Chg p H1 H2) : Chg p H H2 := fun c u e n => b c u (a c u e n) n
theorem Chg.of {p : Addr} {H H' : Hp} (s : Same H H') : Chg p H H' := fun b u e _ => s b u e
theorem Chg.upd {p : Addr} {H : Hp} {o : HO} : Chg p H (upd H p o) := fun b u e n => by rw [upd_ne n]; exact e
/-- the law's jar: what is left of the cell's own digits, the mixed number, how often it was asked -/
def JarAt (H : Hp) (p : Addr) (N : Int) : Prop := ∃ o m c : Int, H p = some (.lst [.int o, .int m, .int c]) ∧ 0 ≤ o ∧ (0 ≤ m ∧ m < 2 ^ 61) ∧ 0 ≤ c ∧ c ≤ N
theorem JarAt.mono {H : Hp} {p : Addr} {N M : Int} (h : JarAt H p N) (l : N ≤ M) : JarAt H p M := by
  obtain ⟨o, m, c, h, a, b, d, e⟩ := h
  exact ⟨o, m, c, h, a, b, d, Int.le_trans e l⟩
theorem JarAt.same {H H' : Hp} {p : Addr} {N : Int} (h : JarAt H p N) (e : Same H H') : JarAt H' p N := by
  obtain ⟨o, m, c, h, r⟩ := h
  exact ⟨o, m, c, e _ _ h, r⟩
theorem JarAt.lst {H : Hp} {p : Addr} {N : Int} (h : JarAt H p N) : ∃ xs, H p = some (.lst xs) := by
  obtain ⟨o, m, c, h, _⟩ := h
  exact ⟨_, h⟩
theorem AmAt.chg {C p : Addr} {H H' : Hp} {N : Int} {v : V} {n u : Int} (j : JarAt H p N) (e : Chg p H H') (h : AmAt C H v n u) : AmAt C H' v n u := by
  obtain ⟨l, a, dx, rfl, h⟩ := h
  obtain ⟨xs, hp⟩ := j.lst
  exact ⟨l, a, dx, rfl, e _ _ h (ne_of h hp (by intro z; cases z))⟩
theorem AmV.chg {C p : Addr} {H H' : Hp} {N : Int} {v : V} {n u : Int} (j : JarAt H p N) (e : Chg p H H') (h : AmV C H v n u) : AmV C H' v n u := h.elim (fun h => .inl (h.chg j e)) .inr
theorem tup_chg {p a : Addr} {H H' : Hp} {N : Int} {xs : List V} (j : JarAt H p N) (e : Chg p H H') (h : H a = some (.tup xs)) : H' a = some (.tup xs) := by
  obtain ⟨ys, hp⟩ := j.lst
  exact e _ _ h (ne_of h hp (by intro z; cases z))
theorem atI_in {xs : List V} {i : Int} (h0 : 0 ≤ i) (h1 : i < xs.length) : ∃ v, atI xs i = some v ∧ v ∈ xs := by
  obtain ⟨j, rfl⟩ := Int.eq_ofNat_of_zero_le h0
  have hj : j < xs.length := by omega
  exact ⟨xs[j], atI_nat (List.getElem?_eq_getElem hj), List.getElem_mem hj⟩
structure Nm (mg : Str → Option Value) : Prop where
  len : mg "len" = none
  abs : mg "abs" = none
  int : mg "int" = none
  max : mg "max" = none
  min : mg "min" = none
  range : mg "range" = none
  all : mg "all" = none
  repr : mg "repr" = none
  isi : mg "isinstance" = none
theorem b_abs : bootBuiltins "abs" = some (.builtin "abs") := by decide +kernel
theorem b_repr : bootBuiltins "repr" = some (.builtin "repr") := by decide +kernel
theorem b_max : bootBuiltins "max" = some (.builtin "max") := by decide +kernel
theorem b_min : bootBuiltins "min" = some (.builtin "min") := by decide +kernel
theorem b_all : bootBuiltins "all" = some (.builtin "all") := by decide +kernel
/-- ** of a written base of any size -/
theorem op_powX {X : Cx} : OpR X (binaryOp .Pow) (rI (fun i j => 0 ≤ j ∧ (Builtin.Int.intBits i : Int) * j ≤ 2 ^ 27) fun i j => .int (i ^ j.toNat)) := opI fun i j _ _ _ _ _ hc q => pow_int hc.1 hc.2 q
theorem b01 (b : Bool) : (-(2 ^ 64) : Int) < (if b = true then 1 else 0) ∧ (if b = true then (1 : Int) else 0) < 2 ^ 64 := by cases b <;> decide
theorem b01n (b : Bool) : (0 : Int) ≤ (if b = true then 1 else 0) := by cases b <;> decide
def spJar (K : PySem.W.Frag) : Sp := fun vs H Q _ => ∃ (a : Addr) (ns : List Int) (k : Int), vs = [.ref a, .int k] ∧ SqL K H a (ns.map V.int) ∧ 0 ≤ k ∧ k ≤ 63 ∧ ∀ p H', Same H H' → H p = none → JarAt H' p 0 → Q (.ref p) H'
def spTake : Sp := fun vs H Q _ => ∃ (p : Addr) (u N : Int), vs = [.ref p, .int u] ∧ (0 < u ∧ u < 1073741824) ∧ JarAt H p N ∧ N ≤ 9999 ∧ ∀ d H', (0 ≤ d ∧ d < u) → Chg p H H' → JarAt H' p (N + 1) → Q (.int d) H'
def spOf : Sp := fun vs H Q _ => ∃ (p l : Addr) (xs : List V) (N : Int), vs = [.ref p, .ref l] ∧ H l = some (.lst xs) ∧ l ≠ p ∧ (0 < xs.length ∧ xs.length ≤ 1000) ∧ JarAt H p N ∧ N ≤ 9999 ∧ ∀ v H', v ∈ xs → Chg p H H' → JarAt H' p (N + 1) → Q v H'
theorem sq_bound {k c : Int} (hk : 0 ≤ k) (hk2 : k ≤ 200000) (h0 : 0 ≤ c) (h1 : c ≤ 10000) : 0 ≤ k * c * c ∧ k * c * c ≤ 20000000000000 := by
  have a : 0 ≤ k * c := Int.mul_nonneg hk h0
  refine ⟨Int.mul_nonneg a h0, ?_⟩
  have b : k * c ≤ 200000 * 10000 := Int.mul_le_mul hk2 h1 h0 (by decide)
  have d : k * c * c ≤ 200000 * 10000 * 10000 := Int.mul_le_mul b h1 h0 (by decide)
  omega
section
variable {P : Program} {w : World} {K : PySem.W.Frag} {mg : Str → Option Value} {base : Heap} {C : Addr}
theorem scJar : FnScope ["_law_script", "_law_k", "_law_cell", "_law_own", "_law_mixed"] ["_law_script", "_law_k"] (defScope sJar) := ⟨rfl, rfl, rfl, by decide +kernel, rfl, by decide +kernel, by decide +kernel⟩
theorem ok_jar {f : Addr} {fd : FuncData} (F : Fun K "_law_jar" "_law_jar" sJar f fd) (T : Nm mg) : FnOk P w K mg base CX0 1 f fd ["_law_script", "_law_k"] (spJar K) := by
  refine F.ok scJar (fun vs H Q E h => ?_) (fun cdv A outer s H vs Q E hr h => ?_)
  · obtain ⟨a, ns, k, rfl, _⟩ := h
    rfl
  · obtain ⟨a, ns, k, rfl, hS, h0, h1, q⟩ := h
    refine ⟨_, C8.pss_cut (ps_set (i := 2) scJar.nd rfl (.inl rfl) (pe_ifExp (pt_cmpR op_lt (pv 1) (pe_callB call_len_seq (by rfl) T.len PySem.boot_len (pa_cons (pv 0) pa_nil)) (nomark _)) (pe_ix ix_list (pv 0) (pv 1) (fun _ _ => rfl)) (pe_op op_add (pe_op op_mul pe_int (pv 1)) pe_int)))
      (pss_cons (ps_set (i := 3) scJar.nd rfl (.inl rfl) (pe_op op_mul (pe_op op_mod (pe_callTy call_int1 (by rfl) T.int b_int (pa_cons (pe_callB call_abs (by rfl) T.abs b_abs (pa_cons (pv 2) pa_nil)) pa_nil)) (pe_op op_powX (pe_op op_pow pe_int pe_int) pe_int))
        (pe_callTy call_int1 (by rfl) T.int b_int (pa_cons (pe_cmpR op_ge (pe_callB call_abs (by rfl) T.abs b_abs (pa_cons (pv 2) pa_nil)) (pe_op op_pow pe_int pe_int) (nomark _)) pa_nil))))
      (pss_cons (ps_set (i := 4) scJar.nd rfl (.inl rfl) (pe_callTy call_int1 (by rfl) T.int b_int (pa_cons (pe_op op_add (pe_op op_add (pe_op op_mul (pe_op op_mod (pe_callTy call_int1 (by rfl) T.int b_int (pa_cons (pv 2) pa_nil)) pe_int) pe_int) (pe_op op_mul (pe_op op_mul pe_int (pv 1)) (pv 1))) pe_int) pa_nil)))
      (pss_one (ps_ret (pe_lst (pa_cons (pv 3) (pa_cons (pe_op op_mod (pv 4) pe_int) (pa_cons pe_int pa_nil)))))))), ?_⟩
    refine ⟨fun σ' H' => ∃ cell : Int, σ' = [some (.ref a), some (.int k), some (.int cell), none, none] ∧ H' = H, ?_, ?_⟩
    · refine ⟨_, rfl, _, rfl, a, _, rfl, .inl hS, _, _, rfl, rfl, _, rfl, ite2 (fun c => ?_) (fun c => ?_)⟩
      · have c' := of_decide_eq_true c
        rw [List.length_map] at c'
        obtain ⟨v, hv, mv⟩ := atI_in (xs := ns.map V.int) h0 (by rw [List.length_map]; exact c')
        obtain ⟨z, _, rfl⟩ := List.mem_map.mp mv
        exact ⟨_, rfl, _, rfl, a, _, _, _, rfl, rfl, hS, hv, z, rfl, rfl⟩
      · exact ⟨_, rfl, _, _, rfl, rfl, .inl (by decide), _, _, rfl, rfl, _, rfl, rfl⟩
    · rintro σ' H' ⟨cell, rfl, rfl⟩
      have own0 : ∀ x : Int, 0 ≤ x % (((10 : Int) ^ (60 : Int).toNat) ^ (5 : Int).toNat) := fun x => Int.emod_nonneg _ (by decide +kernel)
      refine ⟨_, rfl, cell, rfl, .inl ⟨_, rfl, _, _, rfl, rfl, ⟨by decide, by decide, by decide⟩, _, _, rfl, rfl, (by decide +kernel), _, _, rfl, rfl, (by show (0 : Int) < (10 ^ (60 : Int).toNat) ^ (5 : Int).toNat; decide +kernel), ?_⟩⟩
      refine ⟨_, rfl, cell, rfl, _, _, rfl, rfl, ⟨by decide, by decide, by decide⟩, _, _, rfl, rfl, .inr ⟨_, rfl, _, _, rfl, rfl, .inr (b01 _), ?_⟩⟩
      refine ⟨_, rfl, .inl ⟨_, rfl, _, _, rfl, rfl, (by show (0 : Int) < 2305843009213693951; decide), _, _, rfl, rfl, .inr (by decide), ?_⟩⟩
      refine ⟨_, rfl, _, _, rfl, rfl, .inl (by decide), _, rfl, _, _, rfl, rfl, .inr (by omega), _, _, rfl, rfl, _, _, rfl, rfl, .inl ⟨_, rfl, ?_⟩⟩
      refine ⟨_, rfl, _, rfl, _, _, rfl, rfl, (by show (0 : Int) < 2305843009213693921; decide), (by show 3 ≤ sizeLine; decide), fun p np => ?_⟩
      refine q p _ (same_upd np) np ⟨_, _, _, upd_same, ?_, ⟨Int.emod_nonneg _ (by decide), Int.lt_of_lt_of_le (Int.emod_lt_of_pos _ (by decide)) (by decide)⟩, Int.le_refl _, Int.le_refl _⟩
      exact Int.mul_nonneg (own0 _) (b01n _)
theorem scTake : FnScope ["_law_jar_here", "_law_upto", "_law_digit", "_law_prime", "_law_mixed"] ["_law_jar_here", "_law_upto"] (defScope sTake) := ⟨rfl, rfl, rfl, by decide +kernel, rfl, by decide +kernel, by decide +kernel⟩
theorem ok_take {f : Addr} {fd : FuncData} (F : Fun K "_law_take" "_law_take" sTake f fd) (T : Nm mg) : FnOk P w K mg base CX0 1 f fd ["_law_jar_here", "_law_upto"] spTake := by
  refine F.ok scTake (fun vs H Q E h => ?_) (fun cdv A outer s H vs Q E hr h => ?_)
  · obtain ⟨p, u, N, rfl, _⟩ := h
    rfl
  · obtain ⟨p, u, N, rfl, ⟨u0, u1⟩, ⟨o, m, c, hp, o0, ⟨m0, m1⟩, c0, c1⟩, hN, q⟩ := h
    refine ⟨_, pss_cons (ps_if (pt_cmpR op_gt (pe_ix ix_list (pv 0) pe_int (fun _ _ => rfl)) pe_int (nomark _))
        (pss_cons (ps_set (i := 2) scTake.nd rfl (.inl rfl) (pe_op op_mod (pe_callTy call_int1 (by rfl) T.int b_int (pa_cons (pe_ix ix_list (pv 0) pe_int (fun _ _ => rfl)) pa_nil)) (pv 1)))
        (pss_cons (ps_asg (pe_op op_fdiv (pe_ix ix_list (pv 0) pe_int (fun _ _ => rfl)) (pv 1)) (pg_sub (pv 0) pe_int set_list))
        (pss_one (ps_ret (pv 2))))) pss_nil)
      (pss_cons (ps_asg (pe_op op_add (pe_ix ix_list (pv 0) pe_int (fun _ _ => rfl)) pe_int) (pg_sub (pv 0) pe_int set_list))
      (pss_cons (ps_set (i := 3) scTake.nd rfl (.inl rfl) (pe_ix ix_list (pe_lst (pa_cons pe_int (pa_cons pe_int (pa_cons pe_int (pa_cons pe_int (pa_cons pe_int pa_nil)))))) (pe_op op_mod (pe_callTy call_int1 (by rfl) T.int b_int (pa_cons (pe_ix ix_list (pv 0) pe_int (fun _ _ => rfl)) pa_nil)) pe_int) (fun _ _ => rfl)))
      (pss_cons (ps_set (i := 4) scTake.nd rfl (.inl rfl) (pe_op op_mod (pe_callTy call_int1 (by rfl) T.int b_int (pa_cons (pe_op op_pow (pe_callTy call_int1 (by rfl) T.int b_int (pa_cons (pe_op op_add (pe_op op_add (pe_ix ix_list (pv 0) pe_int (fun _ _ => rfl)) (pe_op op_mul (pe_op op_mul pe_int (pe_ix ix_list (pv 0) pe_int (fun _ _ => rfl))) (pe_ix ix_list (pv 0) pe_int (fun _ _ => rfl)))) pe_int) pa_nil)) pe_int) pa_nil)) (pv 3)))
      (pss_one (ps_ret (pe_op op_mod (pe_callTy call_int1 (by rfl) T.int b_int (pa_cons (pe_op op_fdiv (pe_op op_mul (pv 4) (pe_op op_add (pe_op op_mod (pe_callTy call_int1 (by rfl) T.int b_int (pa_cons (pv 4) pa_nil)) pe_int) (pe_op op_mul pe_int (pe_ix ix_list (pv 0) pe_int (fun _ _ => rfl))))) pe_int) pa_nil)) (pv 1))))))), ?_⟩
    refine ⟨_, rfl, p, _, _, _, rfl, rfl, SqL.of hp, rfl, _, _, rfl, rfl, _, rfl, ite2 (fun z => ?_) (fun _ => ?_)⟩
    · refine ⟨_, rfl, p, _, _, _, rfl, rfl, SqL.of hp, rfl, .inl ⟨_, rfl, _, rfl, _, _, rfl, rfl, u0, ?_⟩⟩
      refine ⟨_, rfl, p, _, _, _, rfl, rfl, SqL.of hp, rfl, _, rfl, _, _, rfl, rfl, ⟨u0, u1⟩, _, rfl, p, _, _, 0, rfl, rfl, hp, rfl, ?_⟩
      refine ⟨_, rfl, q _ _ ⟨Int.emod_nonneg _ (by omega), Int.emod_lt_of_pos _ u0⟩ Chg.upd ⟨_, _, _, upd_same, Int.ediv_nonneg o0 (by omega), ⟨m0, m1⟩, c0, by omega⟩⟩
    · refine ⟨_, rfl, p, _, _, _, rfl, rfl, SqL.of hp, rfl, _, _, rfl, rfl, _, rfl, p, _, _, 2, rfl, rfl, hp, rfl, ?_⟩
      have hp1 : (upd H p (.lst ([V.int o, .int m, .int c].set 2 (.int (c + 1))))) p = some (.lst [V.int o, .int m, .int (c + 1)]) := upd_same
      have k1 : Chg p H (upd H p (.lst ([V.int o, .int m, .int c].set 2 (.int (c + 1))))) := Chg.upd
      generalize (upd H p (.lst ([V.int o, .int m, .int c].set 2 (.int (c + 1))))) = H1 at hp1 k1 ⊢
      refine ⟨by show 5 ≤ sizeLine; decide, fun l nl => ?_⟩
      have npl : p ≠ l := ne_of_none hp1 nl
      have hp2 : ∀ o, (upd H1 l o) p = some (.lst [V.int _, .int m, .int (c + 1)]) := fun o => by rw [upd_ne npl]; exact hp1
      refine ⟨_, rfl, p, _, _, _, rfl, rfl, SqL.of (hp2 _), rfl, .inl ⟨_, rfl, _, _, rfl, rfl, (by show (0 : Int) < 5; decide), ?_⟩⟩
      obtain ⟨v, hv, mv⟩ := atI_in (xs := [V.int 2147483647, .int 2147483629, .int 2147483587, .int 2147483579, .int 2147483563]) (i := (c + 1) % 5) (Int.emod_nonneg _ (by decide)) (Int.emod_lt_of_pos _ (by decide))
      obtain ⟨pr, rfl, pr0⟩ : ∃ pr : Int, v = .int pr ∧ 0 < pr := by
        simp only [List.mem_cons, List.not_mem_nil, or_false] at mv
        rcases mv with rfl | rfl | rfl | rfl | rfl <;> exact ⟨_, rfl, by decide⟩
      refine ⟨l, _, _, _, rfl, rfl, SqL.of upd_same, hv, ?_⟩
      have sq := fun (k : Int) (a : 0 ≤ k) (b : k ≤ 200000) => sq_bound (k := k) (c := c + 1) a b (by omega) (by omega)
      refine ⟨_, rfl, p, _, _, _, rfl, rfl, SqL.of (hp2 _), rfl, ?_⟩
      refine ⟨_, rfl, p, _, _, _, rfl, rfl, SqL.of (hp2 _), rfl, _, _, rfl, rfl, .inl (by decide), ?_⟩
      refine ⟨_, rfl, p, _, _, _, rfl, rfl, SqL.of (hp2 _), rfl, _, _, rfl, rfl, .inr (by omega), ?_⟩
      refine ⟨_, _, rfl, rfl, _, _, rfl, rfl, .inl ⟨_, rfl, _, _, rfl, rfl, ⟨by decide, by decide, ?_⟩, .inl ⟨_, rfl, _, rfl, _, _, rfl, rfl, pr0, ?_⟩⟩⟩
      · have := sq 120035 (by decide) (by decide)
        omega
      refine ⟨_, rfl, _, rfl, .inl ⟨_, rfl, _, _, rfl, rfl, (by show (0 : Int) < 10007; decide), ?_⟩⟩
      refine ⟨_, rfl, p, _, _, _, rfl, rfl, SqL.of (hp2 _), rfl, _, _, rfl, rfl, .inl (by decide), _, _, rfl, rfl, _, _, rfl, rfl, .inr ?_, _, _, rfl, rfl, ⟨by decide, by decide⟩, .inl ⟨_, rfl, _, rfl, _, _, rfl, rfl, u0, ?_⟩⟩
      · have g0 := fun x : Int => Int.emod_nonneg x (b := 10007) (by decide)
        have g1 := fun x : Int => Int.emod_lt_of_pos x (b := 10007) (by decide)
        have := g0 (((m + 120035 * (c + 1) * (c + 1) + 62) ^ (3 : Int).toNat) % pr)
        have := g1 (((m + 120035 * (c + 1) * (c + 1) + 62) ^ (3 : Int).toNat) % pr)
        constructor <;> omega
      · have np1 := hp2 (.lst [V.int 2147483647, .int 2147483629, .int 2147483587, .int 2147483579, .int 2147483563])
        exact q _ _ ⟨Int.emod_nonneg _ (by omega), Int.emod_lt_of_pos _ u0⟩ (k1.trans (Chg.of (same_upd nl))) ⟨_, _, _, np1, o0, ⟨m0, m1⟩, by omega, by omega⟩
theorem scOf : FnScope ["_law_jar_here", "_law_some"] ["_law_jar_here", "_law_some"] (defScope sOf) := ⟨rfl, rfl, rfl, by decide +kernel, rfl, by decide +kernel, by decide +kernel⟩
theorem ok_of {f : Addr} {fd : FuncData} (F : Fun K "_law_of" "_law_of" sOf f fd) (T : Nm mg) (GT : GotF P w K mg base "_law_take" 1 ["_law_jar_here", "_law_upto"] spTake) : FnOk P w K mg base CX0 2 f fd ["_law_jar_here", "_law_some"] spOf := by
  obtain ⟨fT, fdT, GT, bT, mT, kT⟩ := GT
  refine F.ok scOf (fun vs H Q E h => ?_) (fun cdv A outer s H vs Q E hr h => ?_)
  · obtain ⟨p, l, xs, N, rfl, _⟩ := h
    rfl
  · obtain ⟨p, l, xs, N, rfl, hl, nlp, ⟨x0, x1⟩, hj, hN, q⟩ := h
    refine ⟨_, pss_one (ps_ret (pe_ix ix_list (pv 1) (pe_call GT hr (by rfl) mT kT bT .nil pass0 (pa_cons (pv 0) (pa_cons (pe_callB call_len_seq (by rfl) T.len PySem.boot_len (pa_cons (pv 1) pa_nil)) pa_nil))) (fun _ _ => rfl))), ?_⟩
    refine ⟨_, rfl, _, rfl, _, rfl, l, _, rfl, .inl (SqL.of hl), ?_⟩
    refine ⟨p, _, N, rfl, ⟨by omega, by omega⟩, hj, hN, fun d H' hd k j => ?_⟩
    obtain ⟨v, hv, mv⟩ := atI_in hd.1 hd.2
    exact ⟨l, xs, d, v, rfl, rfl, SqL.of (k _ _ hl nlp), hv, q v H' mv k j⟩
end
end Am
namespace Am
open PySem PySem.Spec PyProof.Rows L2
abbrev sLess : Stmt := top 22
abbrev sNear : Stmt := top 23
theorem gcd_step {a b : Int} (ha : 0 ≤ a) (hb : 0 < b) : Nat.gcd b.natAbs (a % b).natAbs = Nat.gcd a.natAbs b.natAbs := by
  obtain ⟨m, rfl⟩ := Int.eq_ofNat_of_zero_le ha
  obtain ⟨n, rfl⟩ := Int.eq_ofNat_of_zero_le (Int.le_of_lt hb)
  have e : ((m : Int) % (n : Int)) = ((m % n : Nat) : Int) := by omega
  rw [e, Int.natAbs_natCast, Int.natAbs_natCast, Int.natAbs_natCast, Nat.gcd_comm n (m % n), ← Nat.gcd_rec, Nat.gcd_comm]
def mu3 (σ : L2.St) (_ : Hp) : Nat := match σ[3]? with
  | some (some (V.int b)) => b.natAbs
  | _ => 0
def spFrac : Sp := fun vs H Q _ => ∃ n u : Int, vs = [.int n, .int u] ∧ u ≠ 0 ∧ Bd 8900 n ∧ Bd 8900 u ∧ ∀ t, H t = none → Q (.ref t) (upd H t (.tup [.int (fr n u).1, .int (fr n u).2]))
def spLess : Sp := fun vs H Q _ => ∃ (a b : Addr) (n u n' u' : Int), vs = [.ref a, .ref b] ∧ H a = some (.tup [.int n, .int u]) ∧ H b = some (.tup [.int n', .int u']) ∧ (Bd 4000 n ∧ Bd 4000 u ∧ Bd 4000 n' ∧ Bd 4000 u') ∧ Q (.bl (decide (n * u' < n' * u))) H
/-- a tuple of a fraction in least terms -/
def FrAt (H : Hp) (v : V) (n u : Int) : Prop := (Low n u ∧ Bd 40 n ∧ Bd 40 u) ∧ ∃ a, v = .ref a ∧ H a = some (.tup [.int n, .int u])
def spNear : Sp := fun vs H Q _ => ∃ (p : Addr) (N : Int), vs = [.ref p] ∧ JarAt H p N ∧ N ≤ 9000 ∧ ∀ t x y n u n' u' H', Chg p H H' → JarAt H' p (N + 6) → H' t = some (.tup [x, y]) → FrAt H' x n u → FrAt H' y n' u' → Q (.ref t) H'
section
variable {P : Program} {w : World} {K : PySem.W.Frag} {mg : Str → Option Value} {base : Heap} {C : Addr}
theorem scFrac : FnScope ["_law_number", "_law_under", "_law_one", "_law_other", "_law_sign"] ["_law_number", "_law_under"] (defScope sFrac) := ⟨rfl, rfl, rfl, by decide +kernel, rfl, by decide +kernel, by decide +kernel⟩
theorem ok_frac {f : Addr} {fd : FuncData} (F : Fun K "_law_frac" "_law_frac" sFrac f fd) (T : Nm mg) : FnOk P w K mg base CX0 1 f fd ["_law_number", "_law_under"] spFrac := by
  refine F.ok scFrac (fun vs H Q E h => ?_) (fun cdv A outer s H vs Q E hr h => ?_)
  · obtain ⟨n, u, rfl, _⟩ := h
    rfl
  · obtain ⟨n, u, rfl, hu, bn, bu, q⟩ := h
    refine ⟨_, pss_cons (ps_par (by rfl) scFrac.nd (i := 2) (j := 3) rfl rfl (by decide) rfl rfl (pa_cons (pe_callB call_abs (by rfl) T.abs b_abs (pa_cons (pv 0) pa_nil)) (pa_cons (pe_callB call_abs (by rfl) T.abs b_abs (pa_cons (pv 1) pa_nil)) pa_nil)) (by rfl))
      (pss_cons (ps_while PassesOwn.never (pt_cmpR op_gt (pv 3) pe_int (nomark _)) (pss_one (ps_par (by rfl) scFrac.nd (i := 2) (j := 3) rfl rfl (by decide) rfl rfl
        (pa_cons (pv 3) (pa_cons (pe_op op_mod (pe_callTy call_int1 (by rfl) T.int b_int (pa_cons (pv 2) pa_nil)) (pe_callTy call_int1 (by rfl) T.int b_int (pa_cons (pv 3) pa_nil))) pa_nil)) (by rfl))))
      (pss_cons (ps_set (i := 4) scFrac.nd rfl (.inl rfl) (pe_ifExp (pt_cmpR op_gt (pv 1) pe_int (nomark _)) pe_int (pe_un un_neg pe_int)))
      (pss_one (ps_ret (pe_tup (pa_cons (pe_op op_fdivX (pe_op op_mul (pv 4) (pv 0)) (pv 2)) (pa_cons (pe_op op_fdivX (pe_op op_mul (pv 4) (pv 1)) (pv 2)) pa_nil))))))), ?_⟩
    refine ⟨_, rfl, n, rfl, _, rfl, u, rfl, _, _, rfl, ?_⟩
    have a0 : ∀ x : Int, 0 ≤ (if x < 0 then -x else x) ∧ (if x < 0 then -x else x).natAbs = x.natAbs := fun x => by split <;> omega
    refine while_by (Pv := fun σ H' => ∃ a b : Int, σ = [some (.int n), some (.int u), some (.int a), some (.int b), none] ∧ H' = H ∧ 0 ≤ a ∧ 0 ≤ b ∧ Nat.gcd a.natAbs b.natAbs = Nat.gcd n.natAbs u.natAbs) mu3
      ⟨_, _, rfl, rfl, (a0 n).1, (a0 u).1, by rw [(a0 n).2, (a0 u).2]⟩ ?_ ?_
    · rintro σ H' ⟨a, b, rfl, rfl, ha, hb, hg⟩
      refine ⟨_, rfl, _, _, rfl, rfl, _, rfl, ite2 (fun c => ?_) (fun c => ?_)⟩
      · have hb' : 0 < b := of_decide_eq_true c
        refine ⟨_, rfl, _, rfl, .inl ⟨_, rfl, _, rfl, .inl ⟨_, rfl, _, _, rfl, rfl, hb', _, _, rfl, ?_⟩⟩⟩
        refine ⟨⟨b, a % b, rfl, rfl, hb, Int.emod_nonneg _ (by omega), by rw [gcd_step ha hb', hg]⟩, ?_⟩
        have := Int.emod_lt_of_pos a hb'
        have := Int.emod_nonneg a (b := b) (by omega)
        show (a % b).natAbs < b.natAbs
        omega
      · have hb' : b = 0 := by
          have : ¬ 0 < b := fun z => c (decide_eq_true z)
          omega
        subst hb'
        have hg' : a = gc n u := by
          unfold gc
          have : Nat.gcd a.natAbs (0 : Int).natAbs = a.natAbs := Nat.gcd_zero_right _
          omega
        subst hg'
        have gp := gc_pos (n := n) hu
        have gl : (gc n u).natAbs.log2 < 9000 := by
          refine Nat.lt_trans (log2_lt (k := 8900) (by decide) (Nat.lt_of_le_of_lt ?_ bu)) (by decide)
          show (gc n u).natAbs ≤ u.natAbs
          exact Nat.le_of_dvd (by omega) (Nat.gcd_dvd_right _ _)
        have e := law_fr (n := n) hu
        refine ⟨_, rfl, _, _, rfl, rfl, _, rfl, ite2 (fun c => ?_) (fun c => ?_)⟩
        · have hs : (if u > 0 then 1 else -1 : Int) = 1 := if_pos (of_decide_eq_true c)
          rw [hs] at e
          refine ⟨_, rfl, _, rfl, _, _, rfl, rfl, .inl (by decide), _, rfl, _, _, rfl, rfl, ⟨by omega, gl⟩, _, rfl, _, rfl, _, _, rfl, rfl, .inl (by decide), _, rfl, _, _, rfl, rfl, ⟨by omega, gl⟩, (by show 2 ≤ sizeLine; decide), ?_⟩
          rw [e] at q
          exact q
        · have hs : (if u > 0 then 1 else -1 : Int) = -1 := if_neg (fun z => c (decide_eq_true z))
          rw [hs] at e
          refine ⟨_, rfl, _, rfl, _, rfl, _, _, rfl, rfl, .inl (by decide), _, rfl, _, _, rfl, rfl, ⟨by omega, gl⟩, _, rfl, _, rfl, _, _, rfl, rfl, .inl (by decide), _, rfl, _, _, rfl, rfl, ⟨by omega, gl⟩, (by show 2 ≤ sizeLine; decide), ?_⟩
          rw [e] at q
          exact q
    · rintro σ H' Q1 Q2 hQ ⟨v, hv, i, j, e1, e2, k, e3, z⟩
      exact ⟨v, hv, i, j, e1, e2, k, e3, hQ _ _ z⟩
theorem scLess : FnScope ["_law_one", "_law_other"] ["_law_one", "_law_other"] (defScope sLess) := ⟨rfl, rfl, rfl, by decide +kernel, rfl, by decide +kernel, by decide +kernel⟩
theorem ok_less {f : Addr} {fd : FuncData} (F : Fun K "_law_is_less" "_law_is_less" sLess f fd) : FnOk P w K mg base CX0 1 f fd ["_law_one", "_law_other"] spLess := by
  refine F.ok scLess (fun vs H Q E h => ?_) (fun cdv A outer s H vs Q E hr h => ?_)
  · obtain ⟨a, b, n, u, n', u', rfl, _⟩ := h
    rfl
  · obtain ⟨a, b, n, u, n', u', rfl, ha, hb, ⟨b1, b2, b3, b4⟩, q⟩ := h
    refine ⟨_, pss_one (ps_ret (pe_cmpR op_lt (pe_op op_mulW (pe_ix ix_tup (pv 0) pe_int (fun _ _ => rfl)) (pe_ix ix_tup (pv 1) pe_int (fun _ _ => rfl))) (pe_op op_mulW (pe_ix ix_tup (pv 1) pe_int (fun _ _ => rfl)) (pe_ix ix_tup (pv 0) pe_int (fun _ _ => rfl))) (nomark _))), ?_⟩
    refine ⟨_, rfl, a, _, _, _, rfl, rfl, SqT.of ha, rfl, _, rfl, b, _, _, _, rfl, rfl, SqT.of hb, rfl, _, _, rfl, rfl, b1.cmul b4 (by decide) (by decide), ?_⟩
    exact ⟨_, rfl, b, _, _, _, rfl, rfl, SqT.of hb, rfl, _, rfl, a, _, _, _, rfl, rfl, SqT.of ha, rfl, _, _, rfl, rfl, b3.cmul b2 (by decide) (by decide), _, _, rfl, rfl, q⟩
end
end Am
namespace Am
open PySem PySem.Spec PyProof.Rows L2
theorem bd_of {n : Int} (h : n.natAbs ≤ 100000000000) : Bd 40 n := Nat.lt_of_le_of_lt h (by decide)
theorem bd_lt {k : Nat} {n : Int} (h : n.natAbs ≤ 100000000000) (hk : 40 ≤ k) : Bd k n := (bd_of h).mono hk
theorem frAt_of {H : Hp} {a : Addr} {n u : Int} (hu : u ≠ 0) (hn : n.natAbs ≤ 100000000000) (hv : u.natAbs ≤ 100000000000) (h : H a = some (.tup [.int (fr n u).1, .int (fr n u).2])) : FrAt H (.ref a) (fr n u).1 (fr n u).2 :=
  ⟨⟨fr_low hu, bd_of (Nat.le_trans (fr_le1 hu) hn), bd_of (Nat.le_trans (fr_le2 hu) hv)⟩, a, rfl, h⟩
section
variable {P : Program} {w : World} {K : PySem.W.Frag} {mg : Str → Option Value} {base : Heap} {C : Addr}
theorem scNear : FnScope ["_law_jar_here", "_law_number", "_law_under", "_law_way", "_law_other"] ["_law_jar_here"] (defScope sNear) := ⟨rfl, rfl, rfl, by decide +kernel, rfl, by decide +kernel, by decide +kernel⟩
theorem ok_near {f : Addr} {fd : FuncData} (F : Fun K "_law_near" "_law_near" sNear f fd) (T : Nm mg) (GT : GotF P w K mg base "_law_take" 1 ["_law_jar_here", "_law_upto"] spTake) (GF : GotF P w K mg base "_law_frac" 1 ["_law_number", "_law_under"] spFrac) :
    FnOk P w K mg base CX0 2 f fd ["_law_jar_here"] spNear := by
  obtain ⟨fT, fdT, GT, bT, mT, kT⟩ := GT
  obtain ⟨fF, fdF, GF, bF, mF, kF⟩ := GF
  refine F.ok scNear (fun vs H Q E h => ?_) (fun cdv A outer s H vs Q E hr h => ?_)
  · obtain ⟨p, N, rfl, _⟩ := h
    rfl
  · obtain ⟨p, N, rfl, hj, hN, q⟩ := h
    refine ⟨_, C8.pss_cut (ps_par (by rfl) scNear.nd (i := 1) (j := 2) rfl rfl (by decide) rfl rfl (pa_cons (pe_op op_sub (pe_call GT hr (by rfl) mT kT bT .nil pass0 (pa_cons (pv 0) (pa_cons pe_int pa_nil))) pe_int) (pa_cons (pe_op op_add pe_int (pe_call GT hr (by rfl) mT kT bT .nil pass0 (pa_cons (pv 0) (pa_cons pe_int pa_nil)))) pa_nil)) (by rfl))
      (C8.pss_cut (ps_if (pt_cmpR op_eq (pe_call GT hr (by rfl) mT kT bT .nil pass0 (pa_cons (pv 0) (pa_cons pe_int pa_nil))) pe_int (nomark _))
        (pss_one (ps_par (by rfl) scNear.nd (i := 1) (j := 2) rfl rfl (by decide) rfl rfl (pa_cons (pe_op op_sub pe_int (pe_call GT hr (by rfl) mT kT bT .nil pass0 (pa_cons (pv 0) (pa_cons pe_int pa_nil)))) (pa_cons (pe_op op_sub pe_int (pe_call GT hr (by rfl) mT kT bT .nil pass0 (pa_cons (pv 0) (pa_cons pe_int pa_nil)))) pa_nil)) (by rfl))) pss_nil)
      (C8.pss_cut (ps_set (i := 3) scNear.nd rfl (.inl rfl) (pe_call GT hr (by rfl) mT kT bT .nil pass0 (pa_cons (pv 0) (pa_cons pe_int pa_nil))))
      (C8.pss_cut (ps_set (i := 4) scNear.nd rfl (.inl rfl) (pe_ix ix_list (pe_lst (pa_cons (pe_tup (pa_cons (pv 1) (pa_cons (pv 2) pa_nil))) (pa_cons (pe_tup (pa_cons (pe_op op_add (pv 1) pe_int) (pa_cons (pv 2) pa_nil))) (pa_cons (pe_tup (pa_cons (pv 1) (pa_cons (pe_op op_add (pv 2) pe_int) pa_nil))) (pa_cons (pe_tup (pa_cons (pe_un un_neg (pv 1)) (pa_cons (pv 2) pa_nil))) pa_nil))))) (pv 3) (fun _ _ => rfl)))
      (C8.pss_cut (ps_if (PW.pt (pw_or (pt_cmpR op_gt (pe_ix ix_tup (pv 4) pe_int (fun _ _ => rfl)) pe_int (nomark _)) (pw_or1 (pt_cmpR op_gt (pe_callB call_abs (by rfl) T.abs b_abs (pa_cons (pe_ix ix_tup (pv 4) pe_int (fun _ _ => rfl)) pa_nil)) pe_int (nomark _)))))
        (pss_one (ps_set (i := 4) scNear.nd rfl (.inl rfl) (pe_tup (pa_cons (pv 1) (pa_cons (pv 2) pa_nil))))) pss_nil)
      (pss_one (ps_ret (pe_tup (pa_cons (pe_call GF hr (by rfl) mF kF bF .nil pass0 (pa_cons (pv 1) (pa_cons (pv 2) pa_nil))) (pa_cons (pe_call GF hr (by rfl) mF kF bF .nil pass0 (pa_cons (pe_ix ix_tup (pv 4) pe_int (fun _ _ => rfl)) (pa_cons (pe_ix ix_tup (pv 4) pe_int (fun _ _ => rfl)) pa_nil))) pa_nil))))))))), ?_⟩
    refine ⟨fun σ' H' => ∃ n u : Int, σ' = [some (.ref p), some (.int n), some (.int u), none, none] ∧ Chg p H H' ∧ JarAt H' p (N + 2) ∧ n.natAbs ≤ 1000000000 ∧ 0 < u ∧ u ≤ 999999999, ?_, ?_⟩
    · refine ⟨_, rfl, p, _, N, rfl, ⟨by decide, by decide⟩, hj, by omega, fun d1 H1 hd1 k1 j1 => ?_⟩
      refine ⟨_, _, rfl, rfl, _, rfl, p, _, N + 1, rfl, ⟨by decide, by decide⟩, j1, by omega, fun d2 H2 hd2 k2 j2 => ?_⟩
      exact ⟨_, _, rfl, rfl, _, _, rfl, _, _, rfl, k1.trans k2, j2.mono (by omega), by omega, by omega, by omega⟩
    rintro σ' H1 ⟨n1, u1, rfl, k1, j1, hn1, hu1, hv1⟩
    refine ⟨fun σ' H' => ∃ n u : Int, σ' = [some (.ref p), some (.int n), some (.int u), none, none] ∧ Chg p H H' ∧ JarAt H' p (N + 5) ∧ n.natAbs ≤ 1000000000 ∧ 0 < u ∧ u ≤ 999999999, ?_, ?_⟩
    · refine ⟨_, rfl, p, _, N + 2, rfl, ⟨by decide, by decide⟩, j1, by omega, fun d2 H2 hd2 k2 j2 => ?_⟩
      refine ⟨rfl, _, rfl, ite2 (fun _ => ?_) (fun _ => ?_)⟩
      · refine ⟨_, rfl, p, _, N + 3, rfl, ⟨by decide, by decide⟩, j2.mono (by omega), by omega, fun d3 H3 hd3 k3 j3 => ?_⟩
        refine ⟨_, _, rfl, rfl, _, rfl, p, _, N + 4, rfl, ⟨by decide, by decide⟩, j3.mono (by omega), by omega, fun d4 H4 hd4 k4 j4 => ?_⟩
        exact ⟨_, _, rfl, rfl, _, _, rfl, _, _, rfl, ((k1.trans k2).trans k3).trans k4, j4.mono (by omega), by omega, by omega, by omega⟩
      · exact ⟨_, _, rfl, k1.trans k2, j2.mono (by omega), hn1, hu1, hv1⟩
    clear k1 j1 hn1 hu1 hv1
    rintro σ' H1 ⟨n, u, rfl, k1, j1, hn, hu, hv⟩
    refine ⟨fun σ' H' => ∃ way : Int, σ' = [some (.ref p), some (.int n), some (.int u), some (.int way), none] ∧ Chg p H H' ∧ JarAt H' p (N + 6) ∧ 0 ≤ way ∧ way < 4, ?_, ?_⟩
    · refine ⟨_, rfl, p, _, N + 5, rfl, ⟨by decide, by decide⟩, j1, by omega, fun d2 H2 hd2 k2 j2 => ?_⟩
      exact ⟨d2, rfl, k1.trans k2, j2.mono (by omega), hd2⟩
    clear k1 j1
    rintro σ' H2 ⟨way, rfl, k1, j1, hw0, hw1⟩
    refine ⟨fun σ' H' => ∃ (t : Addr) (n' u' : Int), σ' = [some (.ref p), some (.int n), some (.int u), some (.int way), some (.ref t)] ∧ Chg p H H' ∧ JarAt H' p (N + 6) ∧ H' t = some (.tup [.int n', .int u']) ∧ n'.natAbs ≤ 2000000000 ∧ 0 < u' ∧ u' ≤ 2000000000, ?_, ?_⟩
    · refine ⟨_, rfl, _, rfl, (by show 2 ≤ sizeLine; decide), fun t1 f1 => ?_⟩
      have s1 := same_upd (o := .tup [V.int n, .int u]) f1
      refine ⟨_, rfl, _, _, rfl, rfl, _, rfl, (by show 2 ≤ sizeLine; decide), fun t2 f2 => ?_⟩
      have s2 := same_upd (o := .tup [V.int (n + 1), .int u]) f2
      refine ⟨_, rfl, _, rfl, _, _, rfl, rfl, (by show 2 ≤ sizeLine; decide), fun t3 f3 => ?_⟩
      have s3 := same_upd (o := .tup [V.int n, .int (u + 1)]) f3
      refine ⟨_, rfl, _, rfl, _, rfl, (by show 2 ≤ sizeLine; decide), fun t4 f4 => ?_⟩
      have s4 := same_upd (o := .tup [V.int (-n), .int u]) f4
      refine ⟨by show 4 ≤ sizeLine; decide, fun l fl => ?_⟩
      have s5 := same_upd (o := .lst [V.ref t1, .ref t2, .ref t3, .ref t4]) fl
      have e1 := s5 _ _ (s4 _ _ (s3 _ _ (s2 _ _ (upd_same (H := H2) (a := t1) (o := .tup [V.int n, .int u])))))
      have e2 := s5 _ _ (s4 _ _ (s3 _ _ (upd_same (a := t2) (o := .tup [V.int (n + 1), .int u]))))
      have e3 := s5 _ _ (s4 _ _ (upd_same (a := t3) (o := .tup [V.int n, .int (u + 1)])))
      have e4 := s5 _ _ (upd_same (a := t4) (o := .tup [V.int (-n), .int u]))
      have sa := (((s1.trans s2).trans s3).trans s4).trans s5
      obtain ⟨v, hv', mv⟩ := atI_in (xs := [V.ref t1, .ref t2, .ref t3, .ref t4]) hw0 hw1
      refine ⟨_, rfl, l, _, _, _, rfl, rfl, SqL.of upd_same, hv', ?_⟩
      have kk := k1.trans (Chg.of (p := p) sa)
      have jj := j1.same sa
      simp only [List.mem_cons, List.not_mem_nil, or_false] at mv
      rcases mv with rfl | rfl | rfl | rfl
      · exact ⟨t1, _, _, rfl, kk, jj, e1, by omega, by omega, by omega⟩
      · exact ⟨t2, _, _, rfl, kk, jj, e2, by omega, by omega, by omega⟩
      · exact ⟨t3, _, _, rfl, kk, jj, e3, by omega, by omega, by omega⟩
      · exact ⟨t4, _, _, rfl, kk, jj, e4, by omega, by omega, by omega⟩
    clear k1 j1
    rintro σ' H3 ⟨t, n', u', rfl, k1, j1, ht, hn', hu', hv'⟩
    refine ⟨fun σ' H' => ∃ (t : Addr) (n' u' : Int), σ' = [some (.ref p), some (.int n), some (.int u), some (.int way), some (.ref t)] ∧ Chg p H H' ∧ JarAt H' p (N + 6) ∧ H' t = some (.tup [.int n', .int u']) ∧ n'.natAbs ≤ 2000000000 ∧ 0 < u' ∧ u' ≤ 2000000000, ?_, ?_⟩
    · have alt : ∀ {D : Ends}, (∀ t1, H3 t1 = none → D.nx [some (.ref p), some (.int n), some (.int u), some (.int way), some (.ref t1)] (upd H3 t1 (.tup [.int n, .int u]))) → tAsg (tTup (tCons (tVar 1) (tCons (tVar 2) tNil))) (gName 4) D [some (.ref p), some (.int n), some (.int u), some (.int way), some (.ref t)] H3 :=
        fun z => ⟨_, rfl, _, rfl, (by show 2 ≤ sizeLine; decide), z⟩
      have no : ∀ t1, H3 t1 = none → ∃ (t : Addr) (n' u' : Int), [some (V.ref p), some (.int n), some (.int u), some (.int way), some (.ref t1)] = [some (.ref p), some (.int n), some (.int u), some (.int way), some (.ref t)] ∧ Chg p H (upd H3 t1 (.tup [.int n, .int u])) ∧ JarAt (upd H3 t1 (.tup [.int n, .int u])) p (N + 6) ∧ (upd H3 t1 (.tup [.int n, .int u])) t = some (.tup [.int n', .int u']) ∧ n'.natAbs ≤ 2000000000 ∧ 0 < u' ∧ u' ≤ 2000000000 :=
        fun t1 f1 => ⟨t1, n, u, rfl, k1.trans (Chg.of (same_upd f1)), j1.same (same_upd f1), upd_same, by omega, by omega, by omega⟩
      refine ⟨_, rfl, t, _, _, _, rfl, rfl, SqT.of ht, rfl, _, _, rfl, rfl, _, rfl, ite2 (fun _ => ?_) (fun _ => ?_)⟩
      · exact iteT (alt no)
      · refine ⟨_, rfl, t, _, _, _, rfl, rfl, SqT.of ht, rfl, _, rfl, _, _, rfl, rfl, _, rfl, ite2 (fun _ => alt no) (fun _ => ?_)⟩
        exact ⟨t, n', u', rfl, k1, j1, ht, hn', hu', hv'⟩
    clear k1 j1 ht hn' hu' hv'
    rintro σ' H4 ⟨t, n', u', rfl, k1, j1, ht, hn', hu', hv'⟩
    refine ⟨_, rfl, _, rfl, n, u, rfl, by omega, bd_lt (by omega) (by decide), bd_lt (by omega) (by decide), fun x fx => ?_⟩
    have s1 := same_upd (o := .tup [V.int (fr n u).1, .int (fr n u).2]) fx
    have ht1 := s1 _ _ ht
    refine ⟨_, rfl, t, _, _, _, rfl, rfl, SqT.of ht1, rfl, _, rfl, t, _, _, _, rfl, rfl, SqT.of ht1, rfl, n', u', rfl, by omega, bd_lt (by omega) (by decide), bd_lt (by omega) (by decide), fun y fy => ?_⟩
    have s2 := same_upd (o := .tup [V.int (fr n' u').1, .int (fr n' u').2]) fy
    refine ⟨by show 2 ≤ sizeLine; decide, fun r fr' => ?_⟩
    have s3 := same_upd (o := .tup [V.ref x, .ref y]) fr'
    have sa := (s1.trans s2).trans s3
    exact q r (.ref x) (.ref y) _ _ _ _ _ (k1.trans (Chg.of sa)) (j1.same sa) upd_same (frAt_of (by omega) (by omega) (by omega) (s3 _ _ (s2 _ _ upd_same))) (frAt_of (by omega) (by omega) (by omega) (s3 _ _ upd_same))
end
end Am
namespace Am
open PySem PySem.Spec PyProof.Rows L2
abbrev sAmount : Stmt := top 24
abbrev sSigns : Stmt := top 25
abbrev sDue : Stmt := top 26
abbrev sUnlike : Stmt := top 27
theorem fr_scale {n u : Int} (h : Low n u) : fr (n * 3) (u * 3) = (n, u) := by
  have e : sg (n * 3) (u * 3) = 3 := by
    unfold sg gc
    have := h.1
    rw [if_neg (by omega), Int.natAbs_mul, Int.natAbs_mul, show (3 : Int).natAbs = 3 from rfl, Nat.gcd_mul_right, h.2]
    rfl
  unfold fr
  rw [e, Int.mul_fdiv_cancel _ (by decide), Int.mul_fdiv_cancel _ (by decide)]
def spAmount (C : Addr) : Sp := fun vs H Q _ => ∃ (p : Addr) (x : V) (n u N : Int), vs = [.ref p, x] ∧ JarAt H p N ∧ N ≤ 9000 ∧ FrAt H x n u ∧ ∀ v H', Chg p H H' → JarAt H' p (N + 1) → AmV C H' v n u → Q v H'
def six (n u n' u' : Int) : List Bool := [decide (n = n' ∧ u = u'), !decide (n = n' ∧ u = u'), decide (n * u' < n' * u), decide (n * u' ≤ n' * u), decide (n' * u < n * u'), decide (n' * u ≤ n * u')]
def B40 (n u n' u' : Int) : Prop := (Bd 40 n ∧ Bd 40 u) ∧ Bd 40 n' ∧ Bd 40 u'
def Two (C : Addr) (H : Hp) (x y : V) (n u n' u' : Int) : Prop := ((AmAt C H x n u ∧ AmV C H y n' u') ∨ ((x = .int n ∧ u = 1) ∧ AmAt C H y n' u')) ∧ B40 n u n' u'
theorem Two.same {C : Addr} {H H' : Hp} {x y : V} {n u n' u' : Int} (e : Same H H') (h : Two C H x y n u n' u') : Two C H' x y n u n' u' :=
  ⟨h.1.elim (fun z => .inl ⟨z.1.same e, z.2.same e⟩) (fun z => .inr ⟨z.1, z.2.same e⟩), h.2⟩
theorem Two.of {C : Addr} {H : Hp} {x y : V} {n u n' u' : Int} (h : (AmAt C H x n u ∧ AmV C H y n' u') ∨ (AmV C H x n u ∧ AmAt C H y n' u')) (b : B40 n u n' u') : Two C H x y n u n' u' := by
  refine ⟨?_, b⟩
  rcases h with h | ⟨h | h, h'⟩
  · exact .inl h
  · exact .inl ⟨h, .inl h'⟩
  · exact .inr ⟨h, h'⟩
def spSigns (C : Addr) : Sp := fun vs H Q _ => ∃ (x y : V) (n u n' u' : Int), vs = [x, y] ∧ Two C H x y n u n' u' ∧ ∀ l H', Same H H' → H' l = some (.lst ((six n u n' u').map V.bl)) → Q (.ref l) H'
def spDue : Sp := fun vs H Q _ => ∃ (x y : V) (n u n' u' : Int), vs = [x, y] ∧ FrAt H x n u ∧ FrAt H y n' u' ∧ ∀ l H', Same H H' → H' l = some (.lst ((six n u n' u').map V.bl)) → Q (.ref l) H'
def spUnlike (C : Addr) : Sp := fun vs H Q _ => ∃ (m o : V) (n u : Int), vs = [m, o] ∧ AmAt C H m n u ∧ (∃ T, Bk H o T) ∧ isI o = false ∧ ∀ H', Same H H' → Q (.bl true) H'
section
variable {C : Addr} {H : Hp} {x y : V} {n u n' u' : Int} {Q : VK}
theorem read_eq (h : Two C H x y n u n' u') (q : ∀ H', Same H H' → Q (.bl (decide (n = n' ∧ u = u'))) H') : rCmp C (spEq C) E0 x y H Q ∨ rRef C PInt (spEq C) E0 x y H Q := by
  obtain ⟨⟨hx, hy⟩ | ⟨⟨rfl, rfl⟩, hy⟩, _⟩ := h
  · exact .inl ⟨hx.inst, hy.orB, x, y, n, u, rfl, hx, .inl ⟨n', u', hy, q⟩⟩
  · refine .inr ⟨⟨n, rfl⟩, hy.inst, y, _, n', u', rfl, hy, .inl ⟨n, 1, .inr ⟨rfl, rfl⟩, fun H' e => ?_⟩⟩
    rw [show decide (n' = n ∧ u' = 1) = decide (n = n' ∧ 1 = u') from decide_eq_decide.mpr (by omega)]
    exact q H' e
theorem read_ne (h : Two C H x y n u n' u') (q : ∀ H', Same H H' → Q (.bl (!decide (n = n' ∧ u = u'))) H') : rNeC C (spEq C) E0 x y H Q ∨ rRefN C PInt (spEq C) E0 x y H Q := by
  obtain ⟨⟨hx, hy⟩ | ⟨⟨rfl, rfl⟩, hy⟩, _⟩ := h
  · exact .inl ⟨hx.inst, hy.orB, x, y, n, u, rfl, hx, .inl ⟨n', u', hy, fun H' e => ⟨_, rfl, q H' e⟩⟩⟩
  · refine .inr ⟨⟨n, rfl⟩, hy.inst, y, _, n', u', rfl, hy, .inl ⟨n, 1, .inr ⟨rfl, rfl⟩, fun H' e => ⟨_, rfl, ?_⟩⟩⟩
    rw [show decide (n' = n ∧ u' = 1) = decide (n = n' ∧ 1 = u') from decide_eq_decide.mpr (by omega)]
    exact q H' e
theorem sign_lt {a b : Int} (hb : 0 < b) : (fr a b).1 < 0 ↔ a < 0 := decide_eq_decide.mp (fr_pos_lt hb)
theorem sign_le {a b : Int} (hb : 0 < b) : (fr a b).1 ≤ 0 ↔ a ≤ 0 := decide_eq_decide.mp (fr_pos_le hb)
theorem read_cmp {r r' : Int → Bool} {b : Bool} (h : Two C H x y n u n' u') (h1 : Low n u → Low n' u' → r (fr (n * u' + -n' * u) (u * u')).1 = b) (h2 : Low n u → Low n' u' → r' (fr (n' * u + -n * u') (u' * u)).1 = b) (q : ∀ H', Same H H' → Q (.bl b) H') :
    rCmp C (spCmp C r) E0 x y H Q ∨ rRef C PInt (spCmp C r') E0 x y H Q := by
  obtain ⟨⟨hx, hy⟩ | ⟨⟨rfl, rfl⟩, hy⟩, ⟨b1, b2⟩, b3, b4⟩ := h
  · refine .inl ⟨hx.inst, hy.orB, x, y, n, u, n', u', rfl, hx, hy, ⟨b1.mono (by decide), b2.mono (by decide), b3.mono (by decide), b4.mono (by decide)⟩, fun H' e => ?_⟩
    rw [h1 hx.low hy.low]
    exact q H' e
  · refine .inr ⟨⟨n, rfl⟩, hy.inst, y, _, n', u', n, 1, rfl, hy, .inr ⟨rfl, rfl⟩, ⟨b3.mono (by decide), b4.mono (by decide), b1.mono (by decide), b2.mono (by decide)⟩, fun H' e => ?_⟩
    rw [h2 (low_one n) hy.low]
    exact q H' e
theorem low_pos (h : Low n u) (h' : Low n' u') : 0 < u * u' := Int.mul_pos h.1 h'.1
theorem c_lt (h : Low n u) (h' : Low n' u') : decide ((fr (n * u' + -n' * u) (u * u')).1 < 0) = decide (n * u' < n' * u) := decide_eq_decide.mpr (by rw [sign_lt (low_pos h h'), Int.neg_mul]; omega)
theorem c_le (h : Low n u) (h' : Low n' u') : decide ((fr (n * u' + -n' * u) (u * u')).1 ≤ 0) = decide (n * u' ≤ n' * u) := decide_eq_decide.mpr (by rw [sign_le (low_pos h h'), Int.neg_mul]; omega)
theorem c_gt (h : Low n u) (h' : Low n' u') : decide (0 < (fr (n * u' + -n' * u) (u * u')).1) = decide (n' * u < n * u') := decide_eq_decide.mpr (by have := sign_le (a := n * u' + -n' * u) (low_pos h h'); rw [Int.neg_mul] at *; omega)
theorem c_ge (h : Low n u) (h' : Low n' u') : decide (0 ≤ (fr (n * u' + -n' * u) (u * u')).1) = decide (n' * u ≤ n * u') := decide_eq_decide.mpr (by have := sign_lt (a := n * u' + -n' * u) (low_pos h h'); rw [Int.neg_mul] at *; omega)
end
section
variable {P : Program} {w : World} {K : PySem.W.Frag} {mg : Str → Option Value} {base : Heap} {C : Addr}
theorem scAmount : FnScope ["_law_jar_here", "_law_pair"] ["_law_jar_here", "_law_pair"] (defScope sAmount) := ⟨rfl, rfl, rfl, by decide +kernel, rfl, by decide +kernel, by decide +kernel⟩
theorem ok_amount {f : Addr} {fd : FuncData} (F : Fun K "_law_amount" "_law_amount" sAmount f fd) (T : Nm mg) (TC : Txt K mg C) (GT : GotF P w K mg base "_law_take" 1 ["_law_jar_here", "_law_upto"] spTake) (GI : GotI P w K mg base C) : FnOk P w K mg base CX0 4 f fd ["_law_jar_here", "_law_pair"] (spAmount C) := by
  obtain ⟨fT, fdT, GT, bT, mT, kT⟩ := GT
  obtain ⟨fI, fdI, GI, bI, _, M⟩ := GI
  refine F.ok scAmount (fun vs H Q E h => ?_) (fun cdv A outer s H vs Q E hr h => ?_)
  · obtain ⟨p, x, n, u, N, rfl, _⟩ := h
    rfl
  · obtain ⟨p, x, n, u, N, rfl, hj, hN, ⟨⟨lo, bn, bu⟩, a, rfl, ha⟩, q⟩ := h
    have hr1 : Room 1 _ := hr.mono (by decide)
    refine ⟨_, C8.pss_cut (ps_if (PW.pt (pw_and (pt_cmpR op_eq (pe_ix ix_tup (pv 1) pe_int (fun _ _ => rfl)) pe_int (nomark _)) (pw_and1 (pt_cmpR op_eq (pe_call GT hr1 (by rfl) mT kT bT .nil pass0 (pa_cons (pv 0) (pa_cons pe_int pa_nil))) pe_int (nomark _)))))
        (pss_one (ps_ret (pe_ix ix_tup (pv 1) pe_int (fun _ _ => rfl)))) pss_nil)
      (pss_one (ps_ret (pe_ifExp (pt_chain op_lt op_gt (pe_callB call_abs (by rfl) T.abs b_abs (pa_cons (pe_ix ix_tup (pv 1) pe_int (fun _ _ => rfl)) pa_nil)) pe_int (pe_ix ix_tup (pv 1) pe_int (fun _ _ => rfl)))
        (pe_make M GI hr (by rfl) TC.mgC bI .nil pass0 (pa_cons (pe_op op_mul (pe_ix ix_tup (pv 1) pe_int (fun _ _ => rfl)) pe_int) (pa_cons (pe_op op_mul (pe_ix ix_tup (pv 1) pe_int (fun _ _ => rfl)) pe_int) pa_nil)))
        (pe_make M GI hr (by rfl) TC.mgC bI .nil pass0 (pa_cons (pe_ix ix_tup (pv 1) pe_int (fun _ _ => rfl)) (pa_cons (pe_ix ix_tup (pv 1) pe_int (fun _ _ => rfl)) pa_nil)))))), ?_⟩
    refine ⟨fun σ' H' => σ' = [some (.ref p), some (.ref a)] ∧ Chg p H H' ∧ JarAt H' p (N + 1) ∧ H' a = some (.tup [.int n, .int u]), ?_, ?_⟩
    · refine ⟨_, rfl, a, _, _, _, rfl, rfl, SqT.of ha, rfl, rfl, _, rfl, ite2 (fun c => ?_) (fun c => ?_)⟩
      · have hu1 : u = 1 := V.int.inj (of_decide_eq_true c)
        refine ⟨_, rfl, p, _, N, rfl, ⟨by decide, by decide⟩, hj, by omega, fun d H1 hd k1 j1 => ?_⟩
        have ha1 := tup_chg hj k1 ha
        refine ⟨rfl, _, rfl, ite2 (fun _ => ?_) (fun _ => ?_)⟩
        · exact ⟨_, rfl, a, _, _, _, rfl, rfl, SqT.of ha1, rfl, q _ _ k1 j1 (.inr ⟨rfl, hu1⟩)⟩
        · exact ⟨rfl, k1, j1, ha1⟩
      · exact ⟨rfl, Chg.refl _ _, hj.mono (by omega), ha⟩
    · rintro σ' H1 ⟨rfl, k1, j1, ha1⟩
      have make : ∀ m v : Int, fr m v = (n, u) → v ≠ 0 → Bd 8900 m → Bd 8900 v → ∀ x dx, H1 x = none → H1 dx = none → dx ≠ x → spInit C [.ref x, .int m, .int v] (upd (upd H1 dx (.own x)) x (.ins C dx [])) (fun v H2 => v = .non ∧ Q (.ref x) H2) E0 := by
        intro m v e hv bm bv
        refine make_read hv bm bv fun z H' s' h' => ?_
        rw [e] at h'
        exact q z H' (k1.trans (Chg.of s')) (j1.same s') (.inl h')
      have m3 : ∀ {z : Int}, Bd 40 z → (-(2 ^ 64) : Int) < z ∧ z < 2 ^ 64 := fun {z} h => by unfold Bd at h; omega
      have no : tMake C (spInit C) [] E0 (tCons (tOp (rIxT K) (tVar 1) (tC (.int 0))) (tCons (tOp (rIxT K) (tVar 1) (tC (.int 1))) tNil)) [some (.ref p), some (.ref a)] H1 Q := by
        refine ⟨_, rfl, a, _, _, _, rfl, rfl, SqT.of ha1, rfl, _, rfl, a, _, _, _, rfl, rfl, SqT.of ha1, rfl, ?_⟩
        exact make n u (fr_of_low lo) lo.ne (bn.mono (by decide)) (bu.mono (by decide))
      refine ⟨_, rfl, a, _, _, _, rfl, rfl, SqT.of ha1, rfl, _, rfl, _, _, rfl, rfl, _, rfl, ite2 (fun _ => ?_) (fun _ => ?_)⟩
      · refine ⟨_, rfl, a, _, _, _, rfl, rfl, SqT.of ha1, rfl, _, _, rfl, rfl, _, rfl, ite2 (fun _ => ?_) (fun _ => no)⟩
        refine ⟨_, rfl, a, _, _, _, rfl, rfl, SqT.of ha1, rfl, _, _, rfl, rfl, .inr (by decide), _, rfl, a, _, _, _, rfl, rfl, SqT.of ha1, rfl, _, _, rfl, rfl, .inr (by decide), ?_⟩
        refine make _ _ (fr_scale lo) (by have := lo.1; omega) ?_ ?_
        · unfold Bd at *; omega
        · unfold Bd at *; omega
      · exact ⟨false, rfl, no⟩
end
end Am
namespace Am
open PySem PySem.Spec PyProof.Rows L2
/-- the six comparisons of the class -/
structure Cmps (P : Program) (w : World) (K : PySem.W.Frag) (mg : Str → Option Value) (base : Heap) (C : Addr) : Prop where
  eq : GotM P w K mg base C "__eq__" 3 ["self", "other"] (spEq C)
  lt : GotM P w K mg base C "__lt__" 6 ["self", "other"] (spCmp C fun i => decide (i < 0))
  le : GotM P w K mg base C "__le__" 6 ["self", "other"] (spCmp C fun i => decide (i ≤ 0))
  gt : GotM P w K mg base C "__gt__" 6 ["self", "other"] (spCmp C fun i => decide (0 < i))
  ge : GotM P w K mg base C "__ge__" 6 ["self", "other"] (spCmp C fun i => decide (0 ≤ i))
theorem frat_same {H H' : Hp} {x : V} {n u : Int} (e : Same H H') (h : FrAt H x n u) : FrAt H' x n u := ⟨h.1, by obtain ⟨a, rfl, ha⟩ := h.2; exact ⟨a, rfl, e _ _ ha⟩⟩
section
variable {P : Program} {w : World} {K : PySem.W.Frag} {mg : Str → Option Value} {base : Heap} {C : Addr}
theorem scSigns : FnScope ["_law_one", "_law_other"] ["_law_one", "_law_other"] (defScope sSigns) := ⟨rfl, rfl, rfl, by decide +kernel, rfl, by decide +kernel, by decide +kernel⟩
theorem ok_signs {f : Addr} {fd : FuncData} (F : Fun K "_law_signs" "_law_signs" sSigns f fd) (TC : Txt K mg C) (G : Cmps P w K mg base C) : FnOk P w K mg base CX0 7 f fd ["_law_one", "_law_other"] (spSigns C) := by
  obtain ⟨⟨f1, d1, G1, b1, h1, i1⟩, ⟨f2, d2, G2, b2, h2, i2⟩, ⟨f3, d3, G3, b3, h3, i3⟩, ⟨f4, d4, G4, b4, h4, i4⟩, ⟨f5, d5, G5, b5, h5, i5⟩⟩ := G
  refine F.ok scSigns (fun vs H Q E h => ?_) (fun cdv A outer s H vs Q E hr h => ?_)
  · obtain ⟨x, y, n, u, n', u', rfl, _⟩ := h
    rfl
  · obtain ⟨x, y, n, u, n', u', rfl, h, q⟩ := h
    have hr3 : Room 3 _ := hr.mono (by decide)
    have hr4 : Room 4 _ := hr.mono (by decide)
    refine ⟨_, pss_one (ps_ret (pe_lst
      (pa_cons (pe_cmpR (OpR.or (op_cmpC (op := .Eq) (fun _ _ => rfl) TC.op ⟨h1, i1⟩ G1 hr3 b1 pass0) (op_refC (op := .Eq) (fun _ _ => rfl) dec_intEq TC.op ⟨h1, i1⟩ G1 hr3 b1 pass0)) (pv 0) (pv 1) (nomark _))
      (pa_cons (pe_cmpR (OpR.or (op_neC TC.op ⟨h1, i1⟩ G1 hr4 b1 pass0) (op_refN dec_intNotEq TC.op ⟨h1, i1⟩ G1 hr4 b1 pass0)) (pv 0) (pv 1) (nomark _))
      (pa_cons (pe_cmpR (OpR.or (op_cmpC (op := .Lt) (fun _ _ => rfl) TC.op ⟨h2, i2⟩ G2 hr b2 pass0) (op_refC (op := .Lt) (fun _ _ => rfl) dec_intLt TC.op ⟨h4, i4⟩ G4 hr b4 pass0)) (pv 0) (pv 1) (nomark _))
      (pa_cons (pe_cmpR (OpR.or (op_cmpC (op := .LtE) (fun _ _ => rfl) TC.op ⟨h3, i3⟩ G3 hr b3 pass0) (op_refC (op := .LtE) (fun _ _ => rfl) dec_intLtE TC.op ⟨h5, i5⟩ G5 hr b5 pass0)) (pv 0) (pv 1) (nomark _))
      (pa_cons (pe_cmpR (OpR.or (op_cmpC (op := .Gt) (fun _ _ => rfl) TC.op ⟨h4, i4⟩ G4 hr b4 pass0) (op_refC (op := .Gt) (fun _ _ => rfl) dec_intGt TC.op ⟨h2, i2⟩ G2 hr b2 pass0)) (pv 0) (pv 1) (nomark _))
      (pa_cons (pe_cmpR (OpR.or (op_cmpC (op := .GtE) (fun _ _ => rfl) TC.op ⟨h5, i5⟩ G5 hr b5 pass0) (op_refC (op := .GtE) (fun _ _ => rfl) dec_intGtE TC.op ⟨h3, i3⟩ G3 hr b3 pass0)) (pv 0) (pv 1) (nomark _))
      pa_nil)))))))), ?_⟩
    refine ⟨_, rfl, _, rfl, read_eq h fun H1 s1 => ?_⟩
    refine ⟨_, rfl, _, rfl, read_ne (h.same s1) fun H2 s2 => ?_⟩
    have e2 := s1.trans s2
    refine ⟨_, rfl, _, rfl, read_cmp (h.same e2) c_lt (fun a b => c_gt b a) fun H3 s3 => ?_⟩
    have e3 := e2.trans s3
    refine ⟨_, rfl, _, rfl, read_cmp (h.same e3) c_le (fun a b => c_ge b a) fun H4 s4 => ?_⟩
    have e4 := e3.trans s4
    refine ⟨_, rfl, _, rfl, read_cmp (h.same e4) c_gt (fun a b => c_lt b a) fun H5 s5 => ?_⟩
    have e5 := e4.trans s5
    refine ⟨_, rfl, _, rfl, read_cmp (h.same e5) c_ge (fun a b => c_le b a) fun H6 s6 => ?_⟩
    have e6 := e5.trans s6
    exact ⟨by show 6 ≤ sizeLine; decide, fun l fl => q l _ (e6.trans (same_upd fl)) upd_same⟩
theorem scDue : FnScope ["_law_left", "_law_right", "_law_is_less_here", "_law_is_more"] ["_law_left", "_law_right"] (defScope sDue) := ⟨rfl, rfl, rfl, by decide +kernel, rfl, by decide +kernel, by decide +kernel⟩
theorem ok_due {f : Addr} {fd : FuncData} (F : Fun K "_law_due" "_law_due" sDue f fd) (GL : GotF P w K mg base "_law_is_less" 1 ["_law_one", "_law_other"] spLess) : FnOk P w K mg base CX0 2 f fd ["_law_left", "_law_right"] spDue := by
  obtain ⟨fL, dL, GL, bL, mL, kL⟩ := GL
  refine F.ok scDue (fun vs H Q E h => ?_) (fun cdv A outer s H vs Q E hr h => ?_)
  · obtain ⟨x, y, n, u, n', u', rfl, _⟩ := h
    rfl
  · obtain ⟨x, y, n, u, n', u', rfl, ⟨⟨_, b1, b2⟩, a, rfl, ha⟩, ⟨⟨_, b3, b4⟩, b, rfl, hb⟩, q⟩ := h
    refine ⟨_, pss_cons (ps_par (by rfl) scDue.nd (i := 2) (j := 3) rfl rfl (by decide) rfl rfl (pa_cons (pe_call GL hr (by rfl) mL kL bL .nil pass0 (pa_cons (pv 0) (pa_cons (pv 1) pa_nil))) (pa_cons (pe_call GL hr (by rfl) mL kL bL .nil pass0 (pa_cons (pv 1) (pa_cons (pv 0) pa_nil))) pa_nil)) (by rfl))
      (pss_one (ps_ret (pe_lst (pa_cons (pe_cmpR (op_eqD hr.units) (pv 0) (pv 1) (nomark _)) (pa_cons (pe_cmpR (op_neD hr.units) (pv 0) (pv 1) (nomark _)) (pa_cons (pv 2) (pa_cons (pe_not (pv 3)) (pa_cons (pv 3) (pa_cons (pe_not (pv 2)) pa_nil))))))))), ?_⟩
    have B1 := b1.mono (j := 4000) (by decide)
    have B2 := b2.mono (j := 4000) (by decide)
    have B3 := b3.mono (j := 4000) (by decide)
    have B4 := b4.mono (j := 4000) (by decide)
    refine ⟨_, rfl, _, rfl, a, b, n, u, n', u', rfl, ha, hb, ⟨B1, B2, B3, B4⟩, ?_⟩
    refine ⟨_, rfl, _, rfl, b, a, n', u', n, u, rfl, hb, ha, ⟨B3, B4, B1, B2⟩, _, _, rfl, ?_⟩
    have da : Dp K H (.ref a) (.tuple [.int n, .int u]) := .tup (SqT.of ha) (.cons (.int n) (.cons (.int u) .nil))
    have db : Dp K H (.ref b) (.tuple [.int n', .int u']) := .tup (SqT.of hb) (.cons (.int n') (.cons (.int u') .nil))
    refine ⟨_, rfl, _, rfl, _, _, da, db, rfl, rfl, _, rfl, _, rfl, _, _, da, db, rfl, rfl, ?_⟩
    rw [eqv_two]
    refine ⟨_, rfl, _, rfl, _, rfl, _, rfl, _, rfl, _, rfl, (by show 6 ≤ sizeLine; decide), fun l fl => ?_⟩
    refine q l _ (same_upd fl) ?_
    rw [upd_same]
    have e1 : (!decide (n' * u < n * u')) = decide (n * u' ≤ n' * u) := by
      rw [← decide_not]; exact decide_eq_decide.mpr (by omega)
    have e2 : (!decide (n * u' < n' * u)) = decide (n' * u ≤ n * u') := by
      rw [← decide_not]; exact decide_eq_decide.mpr (by omega)
    rw [e1, e2]
    rfl
theorem scUnlike : FnScope ["_law_made", "_law_odd"] ["_law_made", "_law_odd"] (defScope sUnlike) := ⟨rfl, rfl, rfl, by decide +kernel, rfl, by decide +kernel, by decide +kernel⟩
theorem ok_unlike {f : Addr} {fd : FuncData} (F : Fun K "_law_is_unlike" "_law_is_unlike" sUnlike f fd) (TC : Txt K mg C) (G : Cmps P w K mg base C) : FnOk P w K mg base CX0 5 f fd ["_law_made", "_law_odd"] (spUnlike C) := by
  obtain ⟨f1, d1, G1, b1, h1, i1⟩ := G.eq
  refine F.ok scUnlike (fun vs H Q E h => ?_) (fun cdv A outer s H vs Q E hr h => ?_)
  · obtain ⟨m, o, n, u, rfl, _⟩ := h
    rfl
  · obtain ⟨m, o, n, u, rfl, hm, ho, hi, q⟩ := h
    have hr3 : Room 3 _ := hr.mono (by decide)
    refine ⟨_, pss_one (ps_ret (pe_and (pe_not (pe_cmpR (op_cmpC (op := .Eq) (fun _ _ => rfl) TC.op ⟨h1, i1⟩ G1 hr3 b1 pass0) (pv 0) (pv 1) (nomark _)))
      (pe_and (pe_not (pe_cmpR (op_refC (op := .Eq) (fun _ _ => rfl) dec_bkEq TC.op ⟨h1, i1⟩ G1 hr3 b1 pass0) (pv 1) (pv 0) (nomark _)))
      (pe_and (pe_cmpR (op_neC TC.op ⟨h1, i1⟩ G1 hr b1 pass0) (pv 0) (pv 1) (nomark _))
      (pe_one (pe_cmpR (op_refN dec_bkNotEq TC.op ⟨h1, i1⟩ G1 hr b1 pass0) (pv 1) (pv 0) (nomark _))))))), ?_⟩
    have ob : OrB C H o := .inr ho
    have sp : ∀ {Q' : VK} {E' : XK}, Q' (.bl false) H → spEq C [m, o] H Q' E' := fun z => ⟨m, o, n, u, rfl, hm, .inr ⟨ho, hi, z⟩⟩
    refine ⟨_, rfl, _, rfl, hm.inst, ob, sp ⟨_, rfl, _, rfl, iteT ?_⟩⟩
    refine ⟨_, rfl, _, rfl, ho, hm.inst, sp ⟨_, rfl, _, rfl, iteT ?_⟩⟩
    refine ⟨_, rfl, _, rfl, hm.inst, ob, sp ⟨_, rfl, _, rfl, iteT ?_⟩⟩
    exact ⟨_, rfl, _, rfl, ho, hm.inst, sp ⟨_, rfl, q H (Same.refl H)⟩⟩
end
end Am
namespace Am
open PySem PySem.Spec PyProof.Rows L2
abbrev sFine : Stmt := top 28
abbrev sLaw : Stmt := top 29
/-- the data of a list of truth values -/
def dbs (bs : List Bool) : PyData := .list (bs.map .bool)
theorem dpAll_bools {K : PySem.W.Frag} {H : Hp} : ∀ bs : List Bool, DpAll K H (bs.map V.bl) (bs.map .bool)
  | [] => .nil
  | b :: bs => .cons (.bl b) (dpAll_bools bs)
theorem six_len (b1 b2 b3 b4 b5 b6 : Bool) : (dbs [b1, b2, b3, b4, b5, b6]).shown.length ≤ 100 := by
  cases b1 <;> cases b2 <;> cases b3 <;> cases b4 <;> cases b5 <;> cases b6 <;> decide +kernel
theorem six_sh (n u n' u' : Int) : (dbs (six n u n' u')).showable = true := by simp [dbs, six, PyData.showable, PyData.showableAll]
theorem six_nd (n u n' u' : Int) : (dbs (six n u n' u')).hasDict = false := by simp [dbs, six, PyData.hasDict, PyData.hasDictAll]
theorem six_dp (n u n' u' : Int) : (dbs (six n u n' u')).depth ≤ 60 := by simp [dbs, six, PyData.depth, PyData.depthAll]
theorem six_sz (n u n' u' : Int) : (dbs (six n u n' u')).shown.length ≤ sizeLine := Nat.le_trans (six_len _ _ _ _ _ _) (by decide)
theorem bk_chg {p : Addr} {H H' : Hp} {v : V} {T : String} (h : Bk H v T) (n : ∀ a, v = .ref a → a ≠ p) (k : Chg p H H') : Bk H' v T := by
  cases h with
  | non => exact .non
  | bl b => exact .bl b
  | int i => exact .int i
  | str z => exact .str z
  | lst h => exact .lst (k _ _ h (n _ rfl))
  | tup h => exact .tup (k _ _ h (n _ rfl))
  | dK h => exact .dK (k _ _ h (n _ rfl))
theorem low_half : Low 1 2 := ⟨by decide, by decide⟩
theorem bd_lit {k : Nat} {n : Int} (h : n.natAbs < 2 ^ 10 := by decide) (hk : 10 ≤ k := by decide) : Bd k n := Nat.lt_of_lt_of_le h (Nat.pow_le_pow_right (by decide) hk)
def spFine : Sp := fun vs H Q _ => ∃ p : Addr, vs = [.ref p] ∧ JarAt H p 0 ∧ ∀ H', Chg p H H' → Q (.bl true) H'
section
variable {P : Program} {w : World} {K : PySem.W.Frag} {mg : Str → Option Value} {base : Heap} {C : Addr}
theorem scFine : FnScope ["_law_jar_here", "_law_lap", "_law_left", "_law_right", "_law_one", "_law_other", "_law_odd", "_law_made"] ["_law_jar_here"] (defScope sFine) := ⟨rfl, rfl, rfl, by decide +kernel, rfl, by decide +kernel, by decide +kernel⟩
theorem ok_fine {f : Addr} {fd : FuncData} (F : Fun K "_law_fine" "_law_fine" sFine f fd) (T : Nm mg) (TC : Txt K mg C) (GI : GotI P w K mg base C) (GN : GotF P w K mg base "_law_near" 2 ["_law_jar_here"] spNear)
    (GA : GotF P w K mg base "_law_amount" 4 ["_law_jar_here", "_law_pair"] (spAmount C)) (GS : GotF P w K mg base "_law_signs" 7 ["_law_one", "_law_other"] (spSigns C)) (GD : GotF P w K mg base "_law_due" 2 ["_law_left", "_law_right"] spDue)
    (GO : GotF P w K mg base "_law_of" 2 ["_law_jar_here", "_law_some"] spOf) (GU : GotF P w K mg base "_law_is_unlike" 5 ["_law_made", "_law_odd"] (spUnlike C)) : Gu.FnG P w K mg base CX0 8 f fd ["_law_jar_here"] spFine := by
  obtain ⟨fI, dI, GI, bI, ⟨ds, hds, bI1⟩, M⟩ := GI
  obtain ⟨fN, dN, GN, bN, mN, kN⟩ := GN
  obtain ⟨fA, dA, GA, bA, mA, kA⟩ := GA
  obtain ⟨fS, dS, GS, bS, mS, kS⟩ := GS
  obtain ⟨fD, dD, GD, bD, mD, kD⟩ := GD
  obtain ⟨fO, dO, GO, bO, mO, kO⟩ := GO
  obtain ⟨fU, dU, GU, bU, mU, kU⟩ := GU
  refine Gu.okG0 F scFine (fun vs H Q E h => ?_) (fun cdv A outer s H vs Q E free hr h => ?_)
  · obtain ⟨p, rfl, _⟩ := h
    rfl
  · obtain ⟨p, rfl, hj, q⟩ := h
    have hr2 : Room 2 _ := hr.mono (by decide)
    have hr3 : Room 3 _ := hr.mono (by decide)
    have hr4 : Room 4 _ := hr.mono (by decide)
    have hr5 : Room 5 _ := hr.mono (by decide)
    refine ⟨_, pss_cons (ps_for PassesOwn.never rfl (pi_range1 (by rfl) T.range (pa_cons pe_int pa_nil)) (pg_name (i := 1) scFine.nd rfl (.inl rfl))
        (pss_cons (ps_asg (pe_call GN hr2 (by rfl) mN kN bN .nil pass0 (pa_cons (pv 0) pa_nil)) (pg_tup rfl (pgs_cons (pg_name (i := 2) scFine.nd rfl (.inl rfl)) (pgs_cons (pg_name (i := 3) scFine.nd rfl (.inl rfl)) pgs_nil))))
        (pss_cons (ps_par (by rfl) scFine.nd (i := 4) (j := 5) rfl rfl (by decide) rfl rfl (pa_cons (pe_make M GI hr3 (by rfl) TC.mgC bI .nil pass0 (pa_cons (pe_ix ix_tup (pv 2) pe_int (fun _ _ => rfl)) (pa_cons (pe_ix ix_tup (pv 2) pe_int (fun _ _ => rfl)) pa_nil))) (pa_cons (pe_call GA hr4 (by rfl) mA kA bA .nil pass0 (pa_cons (pv 0) (pa_cons (pv 3) pa_nil))) pa_nil)) (by rfl))
        (pss_cons (ps_if (pt_cmpR op_ne (pe_callB (Gu.call_reprD free hr.units) (by rfl) T.repr b_repr (pa_cons (pe_call GS hr (by rfl) mS kS bS .nil pass0 (pa_cons (pv 4) (pa_cons (pv 5) pa_nil))) pa_nil)) (pe_callB (Gu.call_reprD free hr.units) (by rfl) T.repr b_repr (pa_cons (pe_call GD hr2 (by rfl) mD kD bD .nil pass0 (pa_cons (pv 2) (pa_cons (pv 3) pa_nil))) pa_nil)) (nomark _)) (pss_one (ps_ret pe_bl)) pss_nil)
        (pss_one (ps_if (pt_cmpR op_ne (pe_callB (Gu.call_reprD free hr.units) (by rfl) T.repr b_repr (pa_cons (pe_call GS hr (by rfl) mS kS bS .nil pass0 (pa_cons (pv 5) (pa_cons (pv 4) pa_nil))) pa_nil)) (pe_callB (Gu.call_reprD free hr.units) (by rfl) T.repr b_repr (pa_cons (pe_call GD hr2 (by rfl) mD kD bD .nil pass0 (pa_cons (pv 3) (pa_cons (pv 2) pa_nil))) pa_nil)) (nomark _)) (pss_one (ps_ret pe_bl)) pss_nil))))))
      (C8.pss_cut (ps_set (i := 6) scFine.nd rfl (.inl rfl) (pe_call GO hr2 (by rfl) mO kO bO .nil pass0 (pa_cons (pv 0) (pa_cons (pe_lst (pa_cons pe_non (pa_cons pe_bl (pa_cons pe_bl (pa_cons pe_str (pa_cons pe_str (pa_cons (pe_tup pa_nil) (pa_cons (pe_tup (pa_cons pe_int pa_nil)) (pa_cons (pe_lst pa_nil) (pa_cons (pe_lst (pa_cons (pe_make M GI hr3 (by rfl) TC.mgC bI1 hds pass0 (pa_cons pe_int pa_nil)) pa_nil)) (pa_cons pe_dnewK pa_nil))))))))))) pa_nil))))
      (pss_cons (ps_set (i := 7) scFine.nd rfl (.inl rfl) (pe_call GO hr2 (by rfl) mO kO bO .nil pass0 (pa_cons (pv 0) (pa_cons (pe_lst (pa_cons (pe_make M GI hr3 (by rfl) TC.mgC bI1 hds pass0 (pa_cons pe_int pa_nil)) (pa_cons (pe_make M GI hr3 (by rfl) TC.mgC bI1 hds pass0 (pa_cons pe_int pa_nil)) (pa_cons (pe_make M GI hr3 (by rfl) TC.mgC bI .nil pass0 (pa_cons pe_int (pa_cons pe_int pa_nil))) (pa_cons (pe_make M GI hr3 (by rfl) TC.mgC bI .nil pass0 (pa_cons (pe_un un_neg pe_int) (pa_cons pe_int pa_nil))) pa_nil))))) pa_nil))))
      (pss_one (ps_ret (pe_call GU hr5 (by rfl) mU kU bU .nil pass0 (pa_cons (pv 7) (pa_cons (pv 6) pa_nil))))))), ?_⟩
    refine ⟨8, rfl, by decide, by decide, for_range (n := 8) (fun i σ H' => ∃ v1 v2 v3 v4 v5 : Option V, σ = [some (.ref p), v1, v2, v3, v4, v5, none, none] ∧ Chg p H H' ∧ JarAt H' p (7 * i)) ⟨none, none, none, none, none, rfl, Chg.refl _ _, hj.mono (by omega)⟩ ?_ ?_⟩
    · rintro i σ H1 hi ⟨v1, v2, v3, v4, v5, rfl, k1, j1⟩
      refine ⟨_, rfl, p, 7 * i, rfl, j1, by omega, fun t x y n u n' u' H2 k2 j2 ht hx hy => ?_⟩
      refine ⟨t, [x, y], rfl, SqT.of ht, rfl, _, _, rfl, _, _, rfl, rfl, ?_⟩
      obtain ⟨a, rfl, ha⟩ := id hx.2
      refine ⟨_, rfl, a, _, _, _, rfl, rfl, SqT.of ha, rfl, _, rfl, a, _, _, _, rfl, rfl, SqT.of ha, rfl, ?_⟩
      intro v0 dv nv ndv nev
      refine ⟨v0, dv, n, u, rfl, upd_same, hx.1.1.ne, hx.1.2.1.mono (by decide), hx.1.2.2.mono (by decide), fun H3 h3 k3 => ⟨rfl, ?_⟩⟩
      have s3 := Same.made nv ndv k3
      have hv : AmAt C H3 (.ref v0) n u := by rw [fr_of_low hx.1.1] at h3; exact ⟨hx.1.1, v0, dv, rfl, h3⟩
      clear k3 nv ndv nev h3
      refine ⟨_, rfl, _, rfl, p, y, n', u', _, rfl, j2.same s3, by omega, frat_same s3 hy, fun z H4 k4 j4 hz => ?_⟩
      refine ⟨_, _, rfl, ?_⟩
      have frc : ∀ {w : V} {m r : Int}, FrAt H3 w m r → FrAt H4 w m r := fun {w m r} z => ⟨z.1, by obtain ⟨b, rfl, hb⟩ := z.2; exact ⟨b, rfl, tup_chg (j2.same s3) k4 hb⟩⟩
      have hx4 := frc (frat_same s3 hx)
      have hy4 := frc (frat_same s3 hy)
      have hv4 := hv.chg (j2.same s3) k4
      have kk : Chg p H H4 := ((k1.trans k2).trans (Chg.of s3)).trans k4
      have jj : JarAt H4 p (7 * ((i + 1 : Nat) : Int)) := j4.mono (by omega)
      clear k1 j1 k2 j2 ht ha s3 hv hx hy k4 j4 frc
      refine ⟨_, rfl, _, rfl, .ref v0, z, n, u, n', u', rfl, Two.of (.inl ⟨hv4, hz⟩) ⟨hx4.1.2, hy4.1.2⟩, fun l5 H5 s5 h5 => ⟨l5, dbs (six n u n' u'), rfl, .lst (SqL.of h5) (dpAll_bools _), six_sh _ _ _ _, six_nd _ _ _ _, six_dp _ _ _ _, six_sz _ _ _ _, ?_⟩⟩
      refine ⟨_, rfl, _, rfl, _, _, n, u, n', u', rfl, frat_same s5 hx4, frat_same s5 hy4, fun l6 H6 s6 h6 => ⟨l6, dbs (six n u n' u'), rfl, .lst (SqL.of h6) (dpAll_bools _), six_sh _ _ _ _, six_nd _ _ _ _, six_dp _ _ _ _, six_sz _ _ _ _, ?_⟩⟩
      have e : (!decide (V.str (dbs (six n u n' u')).shown = V.str (dbs (six n u n' u')).shown)) = false := by simp
      refine ⟨rfl, _, rfl, ?_⟩
      rw [e]
      have s56 := s5.trans s6
      refine iteF ⟨_, rfl, _, rfl, z, .ref v0, n', u', n, u, rfl, Two.of (.inr ⟨hz.same s56, hv4.same s56⟩) ⟨hy4.1.2, hx4.1.2⟩, fun l7 H7 s7 h7 => ⟨l7, dbs (six n' u' n u), rfl, .lst (SqL.of h7) (dpAll_bools _), six_sh _ _ _ _, six_nd _ _ _ _, six_dp _ _ _ _, six_sz _ _ _ _, ?_⟩⟩
      have s57 := s56.trans s7
      refine ⟨_, rfl, _, rfl, _, _, n', u', n, u, rfl, frat_same s57 hy4, frat_same s57 hx4, fun l8 H8 s8 h8 => ⟨l8, dbs (six n' u' n u), rfl, .lst (SqL.of h8) (dpAll_bools _), six_sh _ _ _ _, six_nd _ _ _ _, six_dp _ _ _ _, six_sz _ _ _ _, ?_⟩⟩
      have e : (!decide (V.str (dbs (six n' u' n u)).shown = V.str (dbs (six n' u' n u)).shown)) = false := by simp
      refine ⟨rfl, _, rfl, ?_⟩
      rw [e]
      have s58 := s57.trans s8
      exact iteF ⟨_, _, _, _, _, rfl, kk.trans (Chg.of s58), jj.same s58⟩
    · rintro σ H1 ⟨v1, v2, v3, v4, v5, rfl, k1, j1⟩
      refine ⟨fun σ' H' => ∃ o : V, σ' = [some (.ref p), v1, v2, v3, v4, v5, some o, none] ∧ Chg p H H' ∧ JarAt H' p 100 ∧ (∃ T, Bk H' o T) ∧ isI o = false ∧ ∀ a, o = .ref a → a ≠ p, ?_, ?_⟩
      · refine ⟨_, rfl, Nat.zero_le _, fun t1 f1 => ⟨by show 1 ≤ sizeLine; decide, fun t2 f2 => ⟨Nat.zero_le _, fun t3 f3 => ?_⟩⟩⟩
        have s1 := same_upd (o := .tup []) f1
        have s2 := same_upd (o := .tup [V.int 1]) f2
        have s3 := same_upd (o := .lst []) f3
        have b1 := upd_same (H := H1) (a := t1) (o := .tup [])
        generalize upd H1 t1 (.tup []) = H2 at f2 s1 s2 b1 f3 s3 ⊢
        have b2 := upd_same (H := H2) (a := t2) (o := .tup [V.int 1])
        generalize upd H2 t2 (.tup [V.int 1]) = H3 at s2 b2 f3 s3 ⊢
        have b3 := upd_same (H := H3) (a := t3) (o := .lst [])
        generalize upd H3 t3 (.lst []) = H4 at s3 b3 ⊢
        intro z dz nz ndz nez
        refine ⟨z, dz, 1, 1, rfl, upd_same, by decide, bd_lit, bd_lit, fun H5 h5 k5 => ⟨rfl, ?_⟩⟩
        have s5 := Same.made nz ndz k5
        refine ⟨by show 1 ≤ sizeLine; decide, fun t6 f6 => ?_⟩
        have s6 := same_upd (o := .lst [V.ref z]) f6
        have b6 := upd_same (H := H5) (a := t6) (o := .lst [V.ref z])
        generalize upd H5 t6 (.lst [V.ref z]) = H6 at s6 b6 ⊢
        intro t7 f7
        have s7 := same_upd (o := .dK []) f7
        have b7 := upd_same (H := H6) (a := t7) (o := .dK [])
        generalize upd H6 t7 (.dK []) = H7 at s7 b7 ⊢
        refine ⟨by show 10 ≤ sizeLine; decide, fun l fl => ?_⟩
        have s8 := same_upd (o := .lst [V.non, .bl true, .bl false, .str "", .str "1", .ref t1, .ref t2, .ref t3, .ref t6, .ref t7]) fl
        have b8 := upd_same (H := H7) (a := l) (o := .lst [V.non, .bl true, .bl false, .str "", .str "1", .ref t1, .ref t2, .ref t3, .ref t6, .ref t7])
        have S7 : Same H1 H7 := (((((s1.trans s2).trans s3).trans s5).trans s6).trans s7)
        obtain ⟨xs, hp⟩ := j1.lst
        have np : ∀ {t : Addr} {G : Hp}, Same H1 G → G t = none → t ≠ p := fun {t G} e f => (ne_of_none (e _ _ hp) f).symm
        have n1 := np (Same.refl _) f1
        have n2 := np s1 f2
        have n3 := np (s1.trans s2) f3
        have n6 := np (((s1.trans s2).trans s3).trans s5) f6
        have n7 := np ((((s1.trans s2).trans s3).trans s5).trans s6) f7
        have nl := np S7 fl
        have B1 := s8 _ _ (s7 _ _ (s6 _ _ (s5 _ _ (s3 _ _ (s2 _ _ b1)))))
        have B2 := s8 _ _ (s7 _ _ (s6 _ _ (s5 _ _ (s3 _ _ b2))))
        have B3 := s8 _ _ (s7 _ _ (s6 _ _ (s5 _ _ b3)))
        have B6 := s8 _ _ (s7 _ _ b6)
        have B7 := s8 _ _ b7
        refine ⟨p, l, _, 7 * 8, rfl, b8, nl, ⟨by show 0 < 10; decide, by show 10 ≤ 1000; decide⟩, j1.same (S7.trans s8), by omega, fun v H9 mv k9 j9 => ?_⟩
        refine ⟨v, rfl, (k1.trans (Chg.of (S7.trans s8))).trans k9, j9.mono (by omega), ?_⟩
        simp only [List.mem_cons, List.not_mem_nil, or_false] at mv
        rcases mv with rfl | rfl | rfl | rfl | rfl | rfl | rfl | rfl | rfl | rfl
        · exact ⟨⟨_, .non⟩, rfl, fun a e => by cases e⟩
        · exact ⟨⟨_, .bl _⟩, rfl, fun a e => by cases e⟩
        · exact ⟨⟨_, .bl _⟩, rfl, fun a e => by cases e⟩
        · exact ⟨⟨_, .str _⟩, rfl, fun a e => by cases e⟩
        · exact ⟨⟨_, .str _⟩, rfl, fun a e => by cases e⟩
        · exact ⟨⟨_, .tup (k9 _ _ B1 n1)⟩, rfl, fun a e => by cases e; exact n1⟩
        · exact ⟨⟨_, .tup (k9 _ _ B2 n2)⟩, rfl, fun a e => by cases e; exact n2⟩
        · exact ⟨⟨_, .lst (k9 _ _ B3 n3)⟩, rfl, fun a e => by cases e; exact n3⟩
        · exact ⟨⟨_, .lst (k9 _ _ B6 n6)⟩, rfl, fun a e => by cases e; exact n6⟩
        · exact ⟨⟨_, .dK (k9 _ _ B7 n7)⟩, rfl, fun a e => by cases e; exact n7⟩
      clear k1 j1
      rintro σ' H1 ⟨o, rfl, k1, j1, ⟨Ty, bo⟩, io, no⟩
      refine ⟨_, rfl, ?_⟩
      intro x1 d1 nx1 nd1 ne1
      refine ⟨x1, d1, 1, 1, rfl, upd_same, by decide, bd_lit, bd_lit, fun H2 h2 k2 => ⟨rfl, ?_⟩⟩
      have s2 := Same.made nx1 nd1 k2
      intro x2 d2 nx2 nd2 ne2
      refine ⟨x2, d2, 0, 1, rfl, upd_same, by decide, bd_lit, bd_lit, fun H3 h3 k3 => ⟨rfl, ?_⟩⟩
      have s3 := Same.made nx2 nd2 k3
      intro x3 d3 nx3 nd3 ne3
      refine ⟨x3, d3, 1, 2, rfl, upd_same, by decide, bd_lit, bd_lit, fun H4 h4 k4 => ⟨rfl, ?_⟩⟩
      have s4 := Same.made nx3 nd3 k4
      refine ⟨_, rfl, ?_⟩
      intro x4 d4 nx4 nd4 ne4
      refine ⟨x4, d4, -7, 3, rfl, upd_same, by decide, bd_lit, bd_lit, fun H5 h5 k5 => ⟨rfl, ?_⟩⟩
      have s5 := Same.made nx4 nd4 k5
      refine ⟨by show 4 ≤ sizeLine; decide, fun l fl => ?_⟩
      have s6 := same_upd (o := .lst [V.ref x1, .ref x2, .ref x3, .ref x4]) fl
      have b6 := upd_same (H := H5) (a := l) (o := .lst [V.ref x1, .ref x2, .ref x3, .ref x4])
      generalize upd H5 l (.lst [V.ref x1, .ref x2, .ref x3, .ref x4]) = H6 at s6 b6 ⊢
      have S6 := ((((s2.trans s3).trans s4).trans s5).trans s6)
      have jj := j1.same S6
      obtain ⟨xs, hp⟩ := j1.lst
      have nl : l ≠ p := (ne_of_none (((((s2.trans s3).trans s4).trans s5)) _ _ hp) fl).symm
      refine ⟨p, l, _, 100, rfl, b6, nl, ⟨by show 0 < 4; decide, by show 4 ≤ 1000; decide⟩, jj, by omega, fun v H7 mv k7 j7 => ?_⟩
      have am : ∃ n u, AmAt C H6 v n u := by
        simp only [List.mem_cons, List.not_mem_nil, or_false] at mv
        rcases mv with rfl | rfl | rfl | rfl
        · exact ⟨_, _, fr_low (by decide), x1, d1, rfl, s6 _ _ (s5 _ _ (s4 _ _ (s3 _ _ h2)))⟩
        · exact ⟨_, _, fr_low (by decide), x2, d2, rfl, s6 _ _ (s5 _ _ (s4 _ _ h3))⟩
        · exact ⟨_, _, fr_low (by decide), x3, d3, rfl, s6 _ _ (s5 _ _ h4)⟩
        · exact ⟨_, _, fr_low (by decide), x4, d4, rfl, s6 _ _ h5⟩
      obtain ⟨n, u, am⟩ := am
      refine ⟨_, rfl, _, rfl, v, o, n, u, rfl, am.chg jj k7, ⟨Ty, bk_chg (bo.same S6) no k7⟩, io, fun H8 s8 => ?_⟩
      exact q _ (((k1.trans (Chg.of S6)).trans k7).trans (Chg.of s8))
end
end Am
namespace Am
open PySem PySem.Spec PyProof.Rows L2
def spLaw (K : PySem.W.Frag) : Sp := fun vs H Q _ => ∃ (a : Addr) (ns : List Int), vs = [.ref a] ∧ SqL K H a (ns.map V.int) ∧ ns.length ≤ 63 ∧ ∀ H', Q (.bl true) H'
section
variable {P : Program} {w : World} {K : PySem.W.Frag} {mg : Str → Option Value} {base : Heap} {C : Addr}
theorem scLaw : FnScope ["_law_script", "_law_k"] ["_law_script"] (defScope sLaw) := ⟨rfl, rfl, rfl, by decide +kernel, rfl, by decide +kernel, by decide +kernel⟩
theorem ok_law {f : Addr} {fd : FuncData} (F : Fun K "law" "law" sLaw f fd) (T : Nm mg) (GJ : GotF P w K mg base "_law_jar" 1 ["_law_script", "_law_k"] (spJar K))
    (GF : ∃ f fd, Gu.FnG P w K mg base CX0 8 f fd ["_law_jar_here"] spFine ∧ Binds K fd ["_law_jar_here"] [] ∧ mg "_law_fine" = some (.ref f) ∧ PySem.W.keepIn K (.ref f) = true) : Gu.FnG P w K mg base CX0 9 f fd ["_law_script"] (spLaw K) := by
  obtain ⟨fJ, dJ, GJ, bJ, mJ, kJ⟩ := GJ
  obtain ⟨fF, dF, GF, bF, mF, kF⟩ := GF
  refine Gu.okG0 F scLaw (fun vs H Q E h => ?_) (fun cdv A outer s H vs Q E free hr h => ?_)
  · obtain ⟨a, ns, rfl, _⟩ := h
    rfl
  · obtain ⟨a, ns, rfl, hS, hl, q⟩ := h
    have hr1 : Room 1 _ := hr.mono (by decide)
    refine ⟨_, pss_one (ps_ret (pe_callB (cr_all rfl) (by rfl) T.all b_all (pa_cons (pe_lc (own := [("_law_k", 1)]) (g := gName 1) (tt := tYes) rfl scLaw.nd
      (pi_range1 (by rfl) T.range (pa_cons (pe_callB (call_max2 rfl) (by rfl) T.max b_max (pa_cons pe_int (pa_cons (pe_callB (call_min2 rfl) (by rfl) T.min b_min (pa_cons pe_int (pa_cons (pe_callB call_len_seq (by rfl) T.len PySem.boot_len (pa_cons (pv 0) pa_nil)) pa_nil))) pa_nil))) pa_nil))
      (blkOk_by (N := ["_law_script", "_law_k"]) (sc := defScope sLaw) (by decide +kernel)) (fun _ _ _ _ _ => pg_name (i := 1) scLaw.nd rfl (Or.inl rfl)) (fun _ _ _ _ _ => pts_nil)
      (fun _ _ _ _ _ => Gu.pe_callG GF free hr (by rfl) mF kF bF pass0 (pa_cons (pe_call GJ hr1 (by rfl) mJ kJ bJ .nil pass0 (pa_cons (pv 0) (pa_cons (pv 1) pa_nil))) pa_nil))) pa_nil))), ?_⟩
    have bnd : ∀ m : Nat, m ≤ 63 → (if (if ((m : Int) < 6) then (m : Int) else 6) > 1 then (if ((m : Int) < 6) then (m : Int) else 6) else 1 : Int) ≤ 6 ∧ 1 ≤ (if (if ((m : Int) < 6) then (m : Int) else 6) > 1 then (if ((m : Int) < 6) then (m : Int) else 6) else 1 : Int) := by
      intro m hm
      split <;> split <;> omega
    have bb := bnd (ns.map V.int).length (by rw [List.length_map]; exact hl)
    refine ⟨_, rfl, a, _, rfl, .inl hS, _, _, rfl, _, _, rfl, _, rfl, by omega, by omega, ?_⟩
    generalize (if (if (((ns.map V.int).length : Int) < 6) then ((ns.map V.int).length : Int) else 6) > 1 then (if (((ns.map V.int).length : Int) < 6) then ((ns.map V.int).length : Int) else 6) else 1 : Int) = m at bb ⊢
    intro D nD
    refine lc_range (lo := 0) (n := m.toNat) (fun i H' => Same H H' ∧ H' D = some (.lst ((List.replicate i true).map V.bl))) ⟨same_upd nD, upd_same⟩ ?_ ?_
    · rintro i H1 hi ⟨s1, h1⟩
      refine ⟨rfl, ?_⟩
      unfold tYes
      refine iteT ?_
      refine ⟨_, rfl, _, rfl, a, ns, _, rfl, s1.seq hS, by omega, by omega, fun p H2 s2 np jj => ⟨p, rfl, jj, fun H3 c3 => ?_⟩⟩
      have nDp : D ≠ p := ne_of_none h1 np
      refine ⟨_, c3 _ _ (s2 _ _ h1) nDp, ?_, fun b u e => ?_, ?_⟩
      · rw [List.length_map, List.length_replicate]
        exact Nat.lt_of_lt_of_le hi (Nat.le_trans (show m.toNat ≤ 6 by omega) (by decide))
      · have e1 := s1 _ _ e
        rw [upd_ne (ne_of_none e nD)]
        exact c3 _ _ (s2 _ _ e1) (ne_of_none e1 np)
      · rw [upd_same, List.replicate_succ', List.map_append]
        rfl
    · rintro H1 ⟨s1, h1⟩
      refine ⟨D, List.replicate m.toNat true, rfl, SqL.of h1, ?_⟩
      rw [show (List.replicate m.toNat true).all id = true by simp]
      exact q H1
end
end Am
namespace Am
open PySem PySem.Spec PyProof.Rows L2
/-- a def of the module as the head writes it -/
def FactF (K : PySem.W.Frag) (x : Str) (st : Stmt) : Prop := ∃ (f : Addr) (oc : Value) (od : Option Addr) (kV dc pm : Value) (an : Option Addr) (cd ct : Value) (sl : Array (Option Value)),
  PySem.W.nsIn K mainGlobals x = some (some (.ref f)) ∧ K.lookup f = some ⟨oc, od, .func (PySem.W.fnOf x x (defArgs st) (defBody st) (defScope st) .none kV dc pm an cd ct), sl⟩ ∧ PySem.W.codeIn K cd x = true ∧ PySem.W.keepIn K (.ref f) = true
theorem mkF {K : PySem.W.Frag} {x : Str} {st : Stmt} {f : Addr} {oc : Value} {od : Option Addr} {kV dc pm : Value} {an : Option Addr} {cd ct : Value} {sl : Array (Option Value)}
    (a : PySem.W.nsIn K mainGlobals x = some (some (.ref f))) (l : K.lookup f = some ⟨oc, od, .func (PySem.W.fnOf x x (defArgs st) (defBody st) (defScope st) .none kV dc pm an cd ct), sl⟩) (c : PySem.W.codeIn K cd x = true) (k : PySem.W.keepIn K (.ref f) = true) : FactF K x st :=
  ⟨f, oc, od, kV, dc, pm, an, cd, ct, sl, a, l, c, k⟩
/-- a method of the class -/
def FactM (K : PySem.W.Frag) (C : Addr) (x q : Str) (st : Stmt) : Prop := ∃ (f : Addr) (oc : Value) (od : Option Addr) (kV dc pm : Value) (an : Option Addr) (cd ct : Value) (sl : Array (Option Value)),
  PySem.W.findIn K (.ref C) x = some (some (.ref f)) ∧ PySem.W.isFn K (.ref f) = true ∧ K.lookup f = some ⟨oc, od, .func (PySem.W.fnOf x q (defArgs st) (defBody st) (defScope st) .none kV dc pm an cd ct), sl⟩ ∧ PySem.W.codeIn K cd q = true ∧ PySem.W.keepIn K (.ref f) = true
theorem mkM {K : PySem.W.Frag} {C : Addr} {x q : Str} {st : Stmt} {f : Addr} {oc : Value} {od : Option Addr} {kV dc pm : Value} {an : Option Addr} {cd ct : Value} {sl : Array (Option Value)}
    (a : PySem.W.findIn K (.ref C) x = some (some (.ref f))) (i : PySem.W.isFn K (.ref f) = true) (l : K.lookup f = some ⟨oc, od, .func (PySem.W.fnOf x q (defArgs st) (defBody st) (defScope st) .none kV dc pm an cd ct), sl⟩) (c : PySem.W.codeIn K cd q = true)
    (k : PySem.W.keepIn K (.ref f) = true) : FactM K C x q st := ⟨f, oc, od, kV, dc, pm, an, cd, ct, sl, a, i, l, c, k⟩
/-- the class's __init__, with its default -/
def FactI (K : PySem.W.Frag) (C : Addr) : Prop := ∃ (f T : Addr) (oc : Value) (od : Option Addr) (kV dc pm : Value) (an : Option Addr) (cd ct : Value) (sl : Array (Option Value)) (o : Obj) (n : Nat) (t : Nat),
  PySem.W.findIn K (.ref C) "__init__" = some (some (.ref f)) ∧ PySem.W.isFn K (.ref f) = true ∧ K.lookup f = some ⟨oc, od, .func (PySem.W.fnOf "__init__" "Amount.__init__" (defArgs sInit) (defBody sInit) (defScope sInit) (.ref T) kV dc pm an cd ct), sl⟩ ∧ PySem.W.codeIn K cd "Amount.__init__" = true ∧
  PySem.W.keepIn K (.ref f) = true ∧ K.lookup T = some o ∧ o.data = .seq [Value.int 1 t].toArray n
theorem mkI {K : PySem.W.Frag} {C f T : Addr} {oc : Value} {od : Option Addr} {kV dc pm : Value} {an : Option Addr} {cd ct : Value} {sl : Array (Option Value)} {o : Obj} {n t : Nat}
    (a : PySem.W.findIn K (.ref C) "__init__" = some (some (.ref f))) (i : PySem.W.isFn K (.ref f) = true) (l : K.lookup f = some ⟨oc, od, .func (PySem.W.fnOf "__init__" "Amount.__init__" (defArgs sInit) (defBody sInit) (defScope sInit) (.ref T) kV dc pm an cd ct), sl⟩)
    (c : PySem.W.codeIn K cd "Amount.__init__" = true) (k : PySem.W.keepIn K (.ref f) = true) (d : K.lookup T = some o) (e : o.data = .seq [Value.int 1 t].toArray n) : FactI K C := ⟨f, T, oc, od, kV, dc, pm, an, cd, ct, sl, o, n, t, a, i, l, c, k, d, e⟩
structure FactC (K : PySem.W.Frag) (C : Addr) : Prop where
  pg : PySem.W.plainGet K C Str.empty = true
  hd : PySem.W.hasDictIn K C = true
  po : PySem.W.plainOver K C = true
  sa : PySem.W.findIn K (.ref C) "__setattr__" = some (some (.builtin "object.__setattr__"))
  mkk : PySem.W.makesIn K C = true
  kc : PySem.W.keepIn K (.ref C) = true
  sf : PySem.W.selfFirst K C = true
  ne : PySem.W.findIn K (.ref C) "__ne__" = some (some (.builtin "object.__ne__"))
  ob : PySem.W.mroIn K C (.type "object") = some true
  ca : PySem.W.findIn K (.ref C) "__class__" = some (some (.builtin "object.__class__"))
  cn : PySem.W.specialIn K (.builtin "object.__class__") "__get__" = some (some (.builtin "getset_descriptor.__get__"))
  ct : PySem.W.takesIn K (.builtin "object.__class__") = some true
  nN : PySem.W.findIn K (.ref C) "number" = some none
  nU : PySem.W.findIn K (.ref C) "under" = some none
structure FactT (K : PySem.W.Frag) (C : Addr) : Prop where
  s1 : PySem.W.subIn K (.ref C) (.type "int") = some false
  r1 : PySem.W.subIn K (.type "int") (.ref C) = some false
  k1 : PySem.W.kitOne K (.type "int") (.ref C) = some false
  s2 : PySem.W.subIn K (.ref C) (.type "bool") = some false
  r2 : PySem.W.subIn K (.type "bool") (.ref C) = some false
  k2 : PySem.W.kitOne K (.type "bool") (.ref C) = some false
  s3 : PySem.W.subIn K (.ref C) (.type "NoneType") = some false
  r3 : PySem.W.subIn K (.type "NoneType") (.ref C) = some false
  k3 : PySem.W.kitOne K (.type "NoneType") (.ref C) = some false
  s4 : PySem.W.subIn K (.ref C) (.type "str") = some false
  r4 : PySem.W.subIn K (.type "str") (.ref C) = some false
  k4 : PySem.W.kitOne K (.type "str") (.ref C) = some false
  s5 : PySem.W.subIn K (.ref C) (.type "list") = some false
  r5 : PySem.W.subIn K (.type "list") (.ref C) = some false
  k5 : PySem.W.kitOne K (.type "list") (.ref C) = some false
  s6 : PySem.W.subIn K (.ref C) (.type "tuple") = some false
  r6 : PySem.W.subIn K (.type "tuple") (.ref C) = some false
  k6 : PySem.W.kitOne K (.type "tuple") (.ref C) = some false
  s7 : PySem.W.subIn K (.ref C) (.type "dict") = some false
  r7 : PySem.W.subIn K (.type "dict") (.ref C) = some false
  k7 : PySem.W.kitOne K (.type "dict") (.ref C) = some false
  kC : PySem.W.kitOne K (.ref C) (.ref C) = some true
  kI : PySem.W.kitOne K (.ref C) (.type "int") = some false
def FactO (K : PySem.W.Frag) (C : Addr) (nm : String) : Prop := ∃ (fo ro : Option Value) (g : Addr), PySem.W.findIn K (.type "int") (PySem.dunder nm) = some fo ∧ PySem.W.findIn K (.type "int") (PySem.dunderR nm) = some ro ∧ PySem.W.findIn K (.ref C) (PySem.dunderR nm) = some (some (.ref g))
theorem mkO {K : PySem.W.Frag} {C : Addr} {nm : String} {fo ro : Option Value} {g : Addr} (a : PySem.W.findIn K (.type "int") (PySem.dunder nm) = some fo) (b : PySem.W.findIn K (.type "int") (PySem.dunderR nm) = some ro) (c : PySem.W.findIn K (.ref C) (PySem.dunderR nm) = some (some (.ref g))) : FactO K C nm := ⟨fo, ro, g, a, b, c⟩
def Nones (K : PySem.W.Frag) : Prop := PySem.W.nsIn K mainGlobals "isinstance" = some none ∧ PySem.W.nsIn K mainGlobals "int" = some none ∧ PySem.W.nsIn K mainGlobals "bool" = some none ∧ PySem.W.nsIn K mainGlobals "len" = some none ∧ PySem.W.nsIn K mainGlobals "abs" = some none ∧ PySem.W.nsIn K mainGlobals "max" = some none ∧ PySem.W.nsIn K mainGlobals "min" = some none ∧ PySem.W.nsIn K mainGlobals "range" = some none ∧ PySem.W.nsIn K mainGlobals "all" = some none ∧ PySem.W.nsIn K mainGlobals "repr" = some none
theorem FactF.fun {K : PySem.W.Frag} {h : Heap} {mg : Str → Option Value} {x : Str} {st : Stmt} (X : K.In h) (G : h.Ns mainGlobals mg) (F : FactF K x st) : ∃ f fd, Fun K x x st f fd ∧ mg x = some (.ref f) ∧ PySem.W.keepIn K (.ref f) = true := by
  obtain ⟨f, oc, od, kV, dc, pm, an, cd, ct, sl, a, l, c, k⟩ := F
  exact ⟨f, _, fun_mk l c k, PySem.W.mg_of X G a, k⟩
theorem FactM.fun {K : PySem.W.Frag} {C : Addr} {x q : Str} {st : Stmt} (F : FactM K C x q st) : ∃ f fd, Fun K x q st f fd ∧ PySem.W.findIn K (.ref C) x = some (some (.ref f)) ∧ PySem.W.isFn K (.ref f) = true := by
  obtain ⟨f, oc, od, kV, dc, pm, an, cd, ct, sl, a, i, l, c, k⟩ := F
  exact ⟨f, _, fun_mk l c k, a, i⟩
theorem gotI {P : Program} {w : World} {K : PySem.W.Frag} {mg : Str → Option Value} {base : Heap} {C : Addr} (F : FactI K C) (T : Txt K mg C) (mk : PySem.W.makesIn K C = true) (kc : PySem.W.keepIn K (.ref C) = true) (GW : GotF P w K mg base "is_whole" 1 ["value"] (spWhole C)) : GotI P w K mg base C := by
  obtain ⟨f, Td, oc, od, kV, dc, pm, an, cd, ct, sl, o, n, t, a, i, l, c, k, d, e⟩ := F
  obtain ⟨fW, dW, GW, bW, mW, kW⟩ := GW
  have FD : FInit K f (PySem.W.fnOf "__init__" "Amount.__init__" (defArgs sInit) (defBody sInit) (defScope sInit) (.ref Td) kV dc pm an cd ct) :=
    ⟨⟨oc, od, .ref Td, kV, dc, pm, an, cd, ct, sl, rfl, l, c, .inr ⟨by simp, Td, o, [Value.int 1 t], n, rfl, d, e, .cons ⟨t, rfl⟩ .nil⟩, .inl rfl⟩, k⟩
  obtain ⟨d3, v3, b3⟩ := FD.binds1 (ps := ["self", "number", "under"]) 3 1 (by simp) rfl (fun T kV doc pm an cdv ct us its h1 h2 => by
    match us, its, h1, h2 with
    | [_, _, _], [_], _, _ => exact ⟨_, rfl, rfl⟩)
  obtain ⟨d2, v2, b2⟩ := FD.binds1 (ps := ["self", "number", "under"]) 2 0 (by simp) rfl (fun T kV doc pm an cdv ct us its h1 h2 => by
    match us, its, h1, h2 with
    | [_, _], [_], _, _ => exact ⟨_, rfl, rfl⟩)
  cases v3
  exact ⟨f, _, ok_init FD T GW bW mW kW, b3, ⟨d2, v2, b2⟩, ⟨mk, a, i, kc⟩⟩
theorem law_ok {P : Program} {w : World} {K : PySem.W.Frag} {h : Heap} {mg : Str → Option Value} {fa C : Addr} (X : K.In h) (G : h.Ns mainGlobals mg) (hfa : mg "law" = some (.ref fa)) (aC : PySem.W.nsIn K mainGlobals "Amount" = some (some (.ref C)))
    (aG : PySem.W.nsIn K mainGlobals "gcd" = some (some (.builtin "math.gcd"))) (N : Nones K) (FC : FactC K C) (FT : FactT K C) (FI : FactI K C) (OA : FactO K C "add") (OS : FactO K C "sub")
    (f0 : FactF K "is_whole" sWhole)
    (f1 : FactF K "is_amount" sIsAm)
    (f2 : FactF K "parts" sParts)
    (f3 : FactF K "_law_jar" sJar)
    (f4 : FactF K "_law_take" sTake)
    (f5 : FactF K "_law_of" sOf)
    (f6 : FactF K "_law_frac" sFrac)
    (f7 : FactF K "_law_is_less" sLess)
    (f8 : FactF K "_law_near" sNear)
    (f9 : FactF K "_law_amount" sAmount)
    (f10 : FactF K "_law_signs" sSigns)
    (f11 : FactF K "_law_due" sDue)
    (f12 : FactF K "_law_is_unlike" sUnlike)
    (f13 : FactF K "_law_fine" sFine)
    (f14 : FactF K "law" sLaw)
    (m0 : FactM K C "__eq__" "Amount.__eq__" sEq)
    (m1 : FactM K C "__lt__" "Amount.__lt__" sLt)
    (m2 : FactM K C "__le__" "Amount.__le__" sLe)
    (m3 : FactM K C "__gt__" "Amount.__gt__" sGt)
    (m4 : FactM K C "__ge__" "Amount.__ge__" sGe)
    (m5 : FactM K C "__neg__" "Amount.__neg__" sNeg)
    (m6 : FactM K C "__add__" "Amount.__add__" sAdd)
    (m7 : FactM K C "__sub__" "Amount.__sub__" sSub) :
    ∃ fd : FuncData, (∀ (s : Shared) (u : Value), BindsTo s fd ⟨[u], []⟩ [("_law_script", u)]) ∧ ∀ base : Heap, K.In base → base.Ns mainGlobals mg → Gu.FnG P w K mg base CX0 9 fa fd ["_law_script"] (spLaw K) := by
  obtain ⟨n1, n2, n3, n4, n5, n6, n7, n8, n9, n10⟩ := N
  have none_of : ∀ {x : Str}, PySem.W.nsIn K mainGlobals x = some none → mg x = none := fun e => PySem.W.mg_none_of X G e
  have T : Nm mg := ⟨none_of n4, none_of n5, none_of n2, none_of n6, none_of n7, none_of n8, none_of n9, none_of n10, none_of n1⟩
  have cl : Cls K C := ⟨FC.pg, FC.hd, FC.po, FC.sa⟩
  have op : OpC K C := ⟨FC.sf, FC.ne, FC.ob, FT.s1, FT.s2, FT.s3, FT.s4, FT.s5, FT.s6, FT.s7, FT.r1, FT.r2, FT.r3, FT.r4, FT.r5, FT.r6, FT.r7⟩
  have TC : Txt K mg C := ⟨cl, op, FC.ca, FC.cn, FC.ct, FT.kC, FT.kI, FT.k1, FT.k2, FT.k3, FT.k4, FT.k5, FT.k6, FT.k7, FC.nN, FC.nU, PySem.W.mg_of X G aC, none_of n1, none_of n2, none_of n3, PySem.W.mg_of X G aG⟩
  obtain ⟨oa1, oa2, oa3, oa4, oa5, oa6⟩ := OA
  obtain ⟨os1, os2, os3, os4, os5, os6⟩ := OS
  have cA : OpIK K C "add" := ⟨⟨_, oa4⟩, ⟨_, oa5⟩, ⟨_, oa6⟩⟩
  have cS : OpIK K C "sub" := ⟨⟨_, os4⟩, ⟨_, os5⟩, ⟨_, os6⟩⟩
  obtain ⟨a0, d0, F0, g0, k0⟩ := f0.fun X G
  have b0 := F0.binds (ps := ["value"]) fun _ _ _ _ _ _ us hl => match us, hl with | [_], _ => rfl
  obtain ⟨a1, d1, F1, g1, k1⟩ := f1.fun X G
  have b1 := F1.binds (ps := ["value"]) fun _ _ _ _ _ _ us hl => match us, hl with | [_], _ => rfl
  obtain ⟨a2, d2, F2, g2, k2⟩ := f2.fun X G
  have b2 := F2.binds (ps := ["amount"]) fun _ _ _ _ _ _ us hl => match us, hl with | [_], _ => rfl
  obtain ⟨a3, d3, F3, g3, k3⟩ := f3.fun X G
  have b3 := F3.binds (ps := ["_law_script", "_law_k"]) fun _ _ _ _ _ _ us hl => match us, hl with | [_, _], _ => rfl
  obtain ⟨a4, d4, F4, g4, k4⟩ := f4.fun X G
  have b4 := F4.binds (ps := ["_law_jar_here", "_law_upto"]) fun _ _ _ _ _ _ us hl => match us, hl with | [_, _], _ => rfl
  obtain ⟨a5, d5, F5, g5, k5⟩ := f5.fun X G
  have b5 := F5.binds (ps := ["_law_jar_here", "_law_some"]) fun _ _ _ _ _ _ us hl => match us, hl with | [_, _], _ => rfl
  obtain ⟨a6, d6, F6, g6, k6⟩ := f6.fun X G
  have b6 := F6.binds (ps := ["_law_number", "_law_under"]) fun _ _ _ _ _ _ us hl => match us, hl with | [_, _], _ => rfl
  obtain ⟨a7, d7, F7, g7, k7⟩ := f7.fun X G
  have b7 := F7.binds (ps := ["_law_one", "_law_other"]) fun _ _ _ _ _ _ us hl => match us, hl with | [_, _], _ => rfl
  obtain ⟨a8, d8, F8, g8, k8⟩ := f8.fun X G
  have b8 := F8.binds (ps := ["_law_jar_here"]) fun _ _ _ _ _ _ us hl => match us, hl with | [_], _ => rfl
  obtain ⟨a9, d9, F9, g9, k9⟩ := f9.fun X G
  have b9 := F9.binds (ps := ["_law_jar_here", "_law_pair"]) fun _ _ _ _ _ _ us hl => match us, hl with | [_, _], _ => rfl
  obtain ⟨a10, d10, F10, g10, k10⟩ := f10.fun X G
  have b10 := F10.binds (ps := ["_law_one", "_law_other"]) fun _ _ _ _ _ _ us hl => match us, hl with | [_, _], _ => rfl
  obtain ⟨a11, d11, F11, g11, k11⟩ := f11.fun X G
  have b11 := F11.binds (ps := ["_law_left", "_law_right"]) fun _ _ _ _ _ _ us hl => match us, hl with | [_, _], _ => rfl
  obtain ⟨a12, d12, F12, g12, k12⟩ := f12.fun X G
  have b12 := F12.binds (ps := ["_law_made", "_law_odd"]) fun _ _ _ _ _ _ us hl => match us, hl with | [_, _], _ => rfl
  obtain ⟨a13, d13, F13, g13, k13⟩ := f13.fun X G
  have b13 := F13.binds (ps := ["_law_jar_here"]) fun _ _ _ _ _ _ us hl => match us, hl with | [_], _ => rfl
  obtain ⟨a14, d14, F14, g14, k14⟩ := f14.fun X G
  have b14 := F14.binds (ps := ["_law_script"]) fun _ _ _ _ _ _ us hl => match us, hl with | [_], _ => rfl
  obtain ⟨p0, q0, M0, h0, i0⟩ := m0.fun
  have c0 := M0.binds (ps := ["self", "other"]) fun _ _ _ _ _ _ us hl => match us, hl with | [_, _], _ => rfl
  obtain ⟨p1, q1, M1, h1, i1⟩ := m1.fun
  have c1 := M1.binds (ps := ["self", "other"]) fun _ _ _ _ _ _ us hl => match us, hl with | [_, _], _ => rfl
  obtain ⟨p2, q2, M2, h2, i2⟩ := m2.fun
  have c2 := M2.binds (ps := ["self", "other"]) fun _ _ _ _ _ _ us hl => match us, hl with | [_, _], _ => rfl
  obtain ⟨p3, q3, M3, h3, i3⟩ := m3.fun
  have c3 := M3.binds (ps := ["self", "other"]) fun _ _ _ _ _ _ us hl => match us, hl with | [_, _], _ => rfl
  obtain ⟨p4, q4, M4, h4, i4⟩ := m4.fun
  have c4 := M4.binds (ps := ["self", "other"]) fun _ _ _ _ _ _ us hl => match us, hl with | [_, _], _ => rfl
  obtain ⟨p5, q5, M5, h5, i5⟩ := m5.fun
  have c5 := M5.binds (ps := ["self"]) fun _ _ _ _ _ _ us hl => match us, hl with | [_], _ => rfl
  obtain ⟨p6, q6, M6, h6, i6⟩ := m6.fun
  have c6 := M6.binds (ps := ["self", "other"]) fun _ _ _ _ _ _ us hl => match us, hl with | [_, _], _ => rfl
  obtain ⟨p7, q7, M7, h7, i7⟩ := m7.fun
  have c7 := M7.binds (ps := ["self", "other"]) fun _ _ _ _ _ _ us hl => match us, hl with | [_, _], _ => rfl
  have e := hfa.symm.trans g14
  cases e
  refine ⟨d14, fun s u => ?_, fun base _ _ => ?_⟩
  · obtain ⟨oc, od, kV, doc, pm, an, cdv, ct, osl, rfl, lk, hcd⟩ := F14.ex
    exact .of_eq rfl
  have G0 : GotF P w K mg base "is_whole" 1 ["value"] (spWhole C) := ⟨a0, d0, ok_whole F0 TC, b0, g0, k0⟩
  have GI : GotI P w K mg base C := gotI FI TC FC.mkk FC.kc G0
  obtain ⟨_, _, GW, bW, mW, kW⟩ := id G0
  have G1 : GotF P w K mg base "is_amount" 2 ["value"] (spIsAm C) := ⟨a1, d1, ok_isAm F1 TC GW bW mW kW, b1, g1, k1⟩
  have G2 : GotF P w K mg base "parts" 1 ["amount"] (spParts C) := ⟨a2, d2, ok_parts F2 TC, b2, g2, k2⟩
  have Gneg : GotM P w K mg base C "__neg__" 4 ["self"] (spNeg C) := ⟨p5, q5, ok_neg M5 TC GI, c5, h5, i5⟩
  have Gadd : GotM P w K mg base C "__add__" 4 ["self", "other"] (spAdd C) := ⟨p6, q6, ok_add M6 TC GI G1 G2, c6, h6, i6⟩
  have Gsub : GotM P w K mg base C "__sub__" 5 ["self", "other"] (spSub C) := ⟨p7, q7, ok_sub M7 TC G1 Gneg Gadd cA, c7, h7, i7⟩
  have Gc : Cmps P w K mg base C := ⟨⟨p0, q0, ok_eq M0 TC G1 G2, c0, h0, i0⟩, ⟨p1, q1, ok_lt M1 TC G1 Gsub cS, c1, h1, i1⟩, ⟨p2, q2, ok_le M2 TC G1 Gsub cS, c2, h2, i2⟩, ⟨p3, q3, ok_gt M3 TC G1 Gsub cS, c3, h3, i3⟩, ⟨p4, q4, ok_ge M4 TC G1 Gsub cS, c4, h4, i4⟩⟩
  have G3 : GotF P w K mg base "_law_jar" 1 ["_law_script", "_law_k"] (spJar K) := ⟨a3, d3, ok_jar F3 T, b3, g3, k3⟩
  have G4 : GotF P w K mg base "_law_take" 1 ["_law_jar_here", "_law_upto"] spTake := ⟨a4, d4, ok_take F4 T, b4, g4, k4⟩
  have G5 : GotF P w K mg base "_law_of" 2 ["_law_jar_here", "_law_some"] spOf := ⟨a5, d5, ok_of F5 T G4, b5, g5, k5⟩
  have G6 : GotF P w K mg base "_law_frac" 1 ["_law_number", "_law_under"] spFrac := ⟨a6, d6, ok_frac F6 T, b6, g6, k6⟩
  have G7 : GotF P w K mg base "_law_is_less" 1 ["_law_one", "_law_other"] spLess := ⟨a7, d7, ok_less F7, b7, g7, k7⟩
  have G8 : GotF P w K mg base "_law_near" 2 ["_law_jar_here"] spNear := ⟨a8, d8, ok_near F8 T G4 G6, b8, g8, k8⟩
  have G9 : GotF P w K mg base "_law_amount" 4 ["_law_jar_here", "_law_pair"] (spAmount C) := ⟨a9, d9, ok_amount F9 T TC G4 GI, b9, g9, k9⟩
  have G10 : GotF P w K mg base "_law_signs" 7 ["_law_one", "_law_other"] (spSigns C) := ⟨a10, d10, ok_signs F10 TC Gc, b10, g10, k10⟩
  have G11 : GotF P w K mg base "_law_due" 2 ["_law_left", "_law_right"] spDue := ⟨a11, d11, ok_due F11 G7, b11, g11, k11⟩
  have G12 : GotF P w K mg base "_law_is_unlike" 5 ["_law_made", "_law_odd"] (spUnlike C) := ⟨a12, d12, ok_unlike F12 TC Gc, b12, g12, k12⟩
  have G13 : ∃ f fd, Gu.FnG P w K mg base CX0 8 f fd ["_law_jar_here"] spFine ∧ Binds K fd ["_law_jar_here"] [] ∧ mg "_law_fine" = some (.ref f) ∧ PySem.W.keepIn K (.ref f) = true := ⟨a13, d13, ok_fine F13 T TC GI G8 G9 G10 G11 G5 G12, b13, g13, k13⟩
  exact ok_law F14 T G3 G13
end Am
open PySem PySem.W PyProof.Rows in
set_option maxRecDepth 100000 in
set_option maxHeartbeats 0 in
theorem PySem.Challenge.cw_whoseuse_k03_amounts_compared_holds : PySem.Challenge.rw_whoseuse_k03_amounts_compared.Holds := by
  w_on; o_law; k_head; (case hw => w_witness2)
  k_fill
  refine Gu.walkG (n := 63) (k := 9) (x := "_law_script") (sp := Am.spLaw) rfl (by decide) rfl ⟨rfl, by decide, by decide⟩ (fun w h Y => PySem.W.kIn_of Y) ?F (fun K H a ns hl hS => ⟨a, ns, rfl, hS, hl, fun _ => rfl⟩)
  case F =>
    intro w mg fa h KX G hmg
    refine' Am.law_ok KX G hmg ?zzaC ?zzaG ?zzN ?zzFC ?zzFT ?zzFI ?zzOA ?zzOS ?zzf0 ?zzf1 ?zzf2 ?zzf3 ?zzf4 ?zzf5 ?zzf6 ?zzf7 ?zzf8 ?zzf9 ?zzf10 ?zzf11 ?zzf12 ?zzf13 ?zzf14 ?zzm0 ?zzm1 ?zzm2 ?zzm3 ?zzm4 ?zzm5 ?zzm6 ?zzm7
    (case zzaC => k_is)
    (case zzaG => k_is)
    (case zzN => refine' ⟨?zzn0_1, ?zzn1_1, ?zzn2_1, ?zzn3_1, ?zzn4_1, ?zzn5_1, ?zzn6_1, ?zzn7_1, ?zzn8_1, ?zzn9_1⟩; (case zzn0_1 => k_is); (case zzn1_1 => k_is); (case zzn2_1 => k_is); (case zzn3_1 => k_is); (case zzn4_1 => k_is); (case zzn5_1 => k_is); (case zzn6_1 => k_is); (case zzn7_1 => k_is); (case zzn8_1 => k_is); (case zzn9_1 => k_is))
    (case zzFC => refine' ⟨?zzpg_2, ?zzhd_2, ?zzpo_2, ?zzsa_2, ?zzmkk_2, ?zzkc_2, ?zzsf_2, ?zzne_2, ?zzob_2, ?zzca_2, ?zzcn_2, ?zzct_2, ?zznN_2, ?zznU_2⟩; (case zzpg_2 => k_is); (case zzhd_2 => k_is); (case zzpo_2 => k_is); (case zzsa_2 => k_is); (case zzmkk_2 => k_is); (case zzkc_2 => k_is); (case zzsf_2 => k_is); (case zzne_2 => k_is); (case zzob_2 => k_is); (case zzca_2 => k_is); (case zzcn_2 => k_is); (case zzct_2 => k_is); (case zznN_2 => k_is); (case zznU_2 => k_is))
    (case zzFT => refine' ⟨?zzs1_3, ?zzr1_3, ?zzk1_3, ?zzs2_3, ?zzr2_3, ?zzk2_3, ?zzs3_3, ?zzr3_3, ?zzk3_3, ?zzs4_3, ?zzr4_3, ?zzk4_3, ?zzs5_3, ?zzr5_3, ?zzk5_3, ?zzs6_3, ?zzr6_3, ?zzk6_3, ?zzs7_3, ?zzr7_3, ?zzk7_3, ?zzkC_3, ?zzkI_3⟩; (case zzs1_3 => first | rfl | k_is); (case zzr1_3 => first | rfl | k_is); (case zzk1_3 => first | rfl | k_is); (case zzs2_3 => first | rfl | k_is); (case zzr2_3 => first | rfl | k_is); (case zzk2_3 => first | rfl | k_is); (case zzs3_3 => first | rfl | k_is); (case zzr3_3 => first | rfl | k_is); (case zzk3_3 => first | rfl | k_is); (case zzs4_3 => first | rfl | k_is); (case zzr4_3 => first | rfl | k_is); (case zzk4_3 => first | rfl | k_is); (case zzs5_3 => first | rfl | k_is); (case zzr5_3 => first | rfl | k_is); (case zzk5_3 => first | rfl | k_is); (case zzs6_3 => first | rfl | k_is); (case zzr6_3 => first | rfl | k_is); (case zzk6_3 => first | rfl | k_is); (case zzs7_3 => first | rfl | k_is); (case zzr7_3 => first | rfl | k_is); (case zzk7_3 => first | rfl | k_is); (case zzkC_3 => first | rfl | k_is); (case zzkI_3 => first | rfl | k_is))
    (case zzFI => refine' Am.mkI ?zza_4 ?zzi_4 ?zzl_4 ?zzc_4 ?zzk_4 ?zzd_4 ?zze_4; (case zza_4 => k_is); (case zzi_4 => k_is); (case zzl_4 => k_is); (case zzc_4 => k_is); (case zzk_4 => k_is); (case zzd_4 => k_is); (case zze_4 => rfl))
    (case zzOA => refine' Am.mkO ?zza_5 ?zzb_5 ?zzc_5; (case zza_5 => k_is); (case zzb_5 => k_is); (case zzc_5 => k_is))
    (case zzOS => refine' Am.mkO ?zza_6 ?zzb_6 ?zzc_6; (case zza_6 => k_is); (case zzb_6 => k_is); (case zzc_6 => k_is))
    (case zzf0 => refine' Am.mkF ?zza_7 ?zzl_7 ?zzc_7 ?zzk_7; (case zza_7 => k_is); (case zzl_7 => k_is); (case zzc_7 => k_is); (case zzk_7 => k_is))
    (case zzf1 => refine' Am.mkF ?zza_8 ?zzl_8 ?zzc_8 ?zzk_8; (case zza_8 => k_is); (case zzl_8 => k_is); (case zzc_8 => k_is); (case zzk_8 => k_is))
    (case zzf2 => refine' Am.mkF ?zza_9 ?zzl_9 ?zzc_9 ?zzk_9; (case zza_9 => k_is); (case zzl_9 => k_is); (case zzc_9 => k_is); (case zzk_9 => k_is))
    (case zzf3 => refine' Am.mkF ?zza_10 ?zzl_10 ?zzc_10 ?zzk_10; (case zza_10 => k_is); (case zzl_10 => k_is); (case zzc_10 => k_is); (case zzk_10 => k_is))
    (case zzf4 => refine' Am.mkF ?zza_11 ?zzl_11 ?zzc_11 ?zzk_11; (case zza_11 => k_is); (case zzl_11 => k_is); (case zzc_11 => k_is); (case zzk_11 => k_is))
    (case zzf5 => refine' Am.mkF ?zza_12 ?zzl_12 ?zzc_12 ?zzk_12; (case zza_12 => k_is); (case zzl_12 => k_is); (case zzc_12 => k_is); (case zzk_12 => k_is))
    (case zzf6 => refine' Am.mkF ?zza_13 ?zzl_13 ?zzc_13 ?zzk_13; (case zza_13 => k_is); (case zzl_13 => k_is); (case zzc_13 => k_is); (case zzk_13 => k_is))
    (case zzf7 => refine' Am.mkF ?zza_14 ?zzl_14 ?zzc_14 ?zzk_14; (case zza_14 => k_is); (case zzl_14 => k_is); (case zzc_14 => k_is); (case zzk_14 => k_is))
    (case zzf8 => refine' Am.mkF ?zza_15 ?zzl_15 ?zzc_15 ?zzk_15; (case zza_15 => k_is); (case zzl_15 => k_is); (case zzc_15 => k_is); (case zzk_15 => k_is))
    (case zzf9 => refine' Am.mkF ?zza_16 ?zzl_16 ?zzc_16 ?zzk_16; (case zza_16 => k_is); (case zzl_16 => k_is); (case zzc_16 => k_is); (case zzk_16 => k_is))
    (case zzf10 => refine' Am.mkF ?zza_17 ?zzl_17 ?zzc_17 ?zzk_17; (case zza_17 => k_is); (case zzl_17 => k_is); (case zzc_17 => k_is); (case zzk_17 => k_is))
    (case zzf11 => refine' Am.mkF ?zza_18 ?zzl_18 ?zzc_18 ?zzk_18; (case zza_18 => k_is); (case zzl_18 => k_is); (case zzc_18 => k_is); (case zzk_18 => k_is))
    (case zzf12 => refine' Am.mkF ?zza_19 ?zzl_19 ?zzc_19 ?zzk_19; (case zza_19 => k_is); (case zzl_19 => k_is); (case zzc_19 => k_is); (case zzk_19 => k_is))
    (case zzf13 => refine' Am.mkF ?zza_20 ?zzl_20 ?zzc_20 ?zzk_20; (case zza_20 => k_is); (case zzl_20 => k_is); (case zzc_20 => k_is); (case zzk_20 => k_is))
    (case zzf14 => refine' Am.mkF ?zza_21 ?zzl_21 ?zzc_21 ?zzk_21; (case zza_21 => k_is); (case zzl_21 => k_is); (case zzc_21 => k_is); (case zzk_21 => k_is))
    (case zzm0 => refine' Am.mkM ?zza_22 ?zzi_22 ?zzl_22 ?zzc_22 ?zzk_22; (case zza_22 => k_is); (case zzi_22 => k_is); (case zzl_22 => k_is); (case zzc_22 => k_is); (case zzk_22 => k_is))
    (case zzm1 => refine' Am.mkM ?zza_23 ?zzi_23 ?zzl_23 ?zzc_23 ?zzk_23; (case zza_23 => k_is); (case zzi_23 => k_is); (case zzl_23 => k_is); (case zzc_23 => k_is); (case zzk_23 => k_is))
    (case zzm2 => refine' Am.mkM ?zza_24 ?zzi_24 ?zzl_24 ?zzc_24 ?zzk_24; (case zza_24 => k_is); (case zzi_24 => k_is); (case zzl_24 => k_is); (case zzc_24 => k_is); (case zzk_24 => k_is))
    (case zzm3 => refine' Am.mkM ?zza_25 ?zzi_25 ?zzl_25 ?zzc_25 ?zzk_25; (case zza_25 => k_is); (case zzi_25 => k_is); (case zzl_25 => k_is); (case zzc_25 => k_is); (case zzk_25 => k_is))
    (case zzm4 => refine' Am.mkM ?zza_26 ?zzi_26 ?zzl_26 ?zzc_26 ?zzk_26; (case zza_26 => k_is); (case zzi_26 => k_is); (case zzl_26 => k_is); (case zzc_26 => k_is); (case zzk_26 => k_is))
    (case zzm5 => refine' Am.mkM ?zza_27 ?zzi_27 ?zzl_27 ?zzc_27 ?zzk_27; (case zza_27 => k_is); (case zzi_27 => k_is); (case zzl_27 => k_is); (case zzc_27 => k_is); (case zzk_27 => k_is))
    (case zzm6 => refine' Am.mkM ?zza_28 ?zzi_28 ?zzl_28 ?zzc_28 ?zzk_28; (case zza_28 => k_is); (case zzi_28 => k_is); (case zzl_28 => k_is); (case zzc_28 => k_is); (case zzk_28 => k_is))
    (case zzm7 => refine' Am.mkM ?zza_29 ?zzi_29 ?zzl_29 ?zzc_29 ?zzk_29; (case zza_29 => k_is); (case zzi_29 => k_is); (case zzl_29 => k_is); (case zzc_29 => k_is); (case zzk_29 => k_is))
