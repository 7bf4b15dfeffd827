import PyProof.Rows.All
import Wide.All
import OpenK.AllK
import Wide.FinOn
import HandS.Defaults
import HandS.ExcInit
import HandS.Head0
import HandS.Head1
import HandS.Head2
import HandS.HeadHook1
import HandS.HeadHook2
import HandS.Words
import PyProof.EqAt
import PyProof.EqKinds
import PyProof.NeKinds
import KE.KOpsOwn
import HandS.ForMost
import HandS.Wide
import HandS.Gcd
import HandS.IsInst
import HandS.OwnEq
import HandS.SlotsOwn
import HandS.Lambda
import HandS.Ends
import HandS.EndOwn
import PySem.Challenge.RW_whoseuse_k14_numbers_compared
import HandS.Codes
import HandS.HeadEnd
import HandS.Head3
import PyProof.StrLawsIn
import PyProof.StrBlockL
import PyProof.Rows.StrNews2
import KE.IntTextLaws
import HandS.Walk
import HandS.ForDict
import KE.KIntText
import PyProof.StrLawsRepr
import PyProof.Rows.StrDigitsNeg
import PyProof.Rows.ReprOcc
import HandS.StrMore
import HandS.Text
import KE.KUnpackStar
import HandS.SortKw
import KE.GoesEnumKw
import KE.GoesNew
import HandS.Conv
import HandS.DictComp
import HandS.RaiseMore
import HandS.ExcOwn
import HandS.Exc
import HandS.ExcValue
import HandS.ExcField
import HandS.WordsExc
import HandS.Deep
import HandS.Dict
import HandS.TupLe
import HandS.TupAny
import PyProof.FString5
import HandS.Zip
import HandS.Style
import PyProof.FitsInt
import PyProof.P3Eq
import KE.KDictPairs
import HandS.ExcIs
import HandS.Property
set_option Elab.async false
set_option linter.all false
set_option maxRecDepth 100000
set_option maxHeartbeats 8000000
/-! a head by one kernel run: the part at given addresses, facts of it as one Bool, defs by names -/
namespace Hk
open PySem PySem.Spec PyProof.Rows L2
abbrev AlX : Type := Bool × Bool × List He.FnW
def obsX (xb : PySem.W.Frag → Bool) (fn : List He.DefD) (K : PySem.W.Frag) : AlX := (xb K, fn.all (fun d => d.ok K), fn.map fun d => He.fnW K d.at_)
def valX (fn : List He.DefD) : AlX := (true, true, fn.map He.DefD.val)
structure SaysX (xb : PySem.W.Frag → Bool) (fn : List He.DefD) (K : PySem.W.Frag) : Prop where
  eq : obsX xb fn K = valX fn
def hookX (as : List Addr) (xb : PySem.W.Frag → Bool) (fn : List He.DefD) : PySem.W.Hook where
  α := AlX
  obs := fun s => obsX xb fn (He.frG s.heap.get? as)
  val := fun _ => valX fn
  says := fun _ h => ∃ K : PySem.W.Frag, K.In h ∧ SaysX xb fn K
  of := fun _ _ e => ⟨_, He.frG_in, ⟨e⟩⟩
  keeps := fun _ _ _ ⟨K, hK, c⟩ k => ⟨K, PySem.W.Frag.In.keeps hK k, c⟩
def obX (as : List Addr) (xb : PySem.W.Frag → Bool) (fn : List He.DefD) (s : PySem.W.SharedT) : AlX := obsX xb fn (He.frG (HandSHeadRun.getT s) as)
theorem obX_eq {as : List Addr} {xb : PySem.W.Frag → Bool} {fn : List He.DefD} (s : PySem.W.SharedT) : obX as xb fn s = (hookX as xb fn).obs s.abs := by
  have e : HandSHeadRun.getT s = s.abs.heap.get? := funext (HandSHeadRun.getT_eq s)
  unfold obX
  rw [e] <;> rfl
section
variable {xb : PySem.W.Frag → Bool} {fn : List He.DefD} {K : PySem.W.Frag}
theorem SaysX.x (c : SaysX xb fn K) : xb K = true := congrArg (fun z : AlX => z.1) c.eq
theorem SaysX.def_ (c : SaysX xb fn K) (i : Nat) {d : He.DefD} (h : fn[i]? = some d := by rfl) : ∃ fd, FunD K d.name d.qual d.params d.body d.scope (d.dvs K) (d.kws K) (He.fAd K d.at_) fd := by
  have c2 : (fn.all fun d => d.ok K) = true := congrArg (fun z : AlX => z.2.1) c.eq
  have e : fn.map (fun d => He.fnW K d.at_) = fn.map He.DefD.val := congrArg (fun z : AlX => z.2.2) c.eq
  have e2 : (fn.map fun d => He.fnW K d.at_)[i]? = (fn.map He.DefD.val)[i]? := by rw [e]
  rw [List.getElem?_map, List.getElem?_map, h] at e2
  exact He.DefD.funD (Option.some.inj e2) (List.all_eq_true.mp c2 d (List.mem_of_getElem? h))
theorem allAt {bs : List Bool} (h : bs.all id = true) (i : Nat) {b : Bool} (e : bs[i]? = some b) : b = true := List.all_eq_true.mp h b (List.mem_of_getElem? e)
end
/-- a class that raises ValueError's tail, as an object -/
def excX (K : PySem.W.Frag) (D : Addr) : Bool := match K.lookup D with
  | some ⟨.type "type", _, .cls cd, sl⟩ => (match cd.mro, sl.toList with
    | .ref C' :: bm, [_, _, _, _, some (.builtin n), _] => decide (C' = D) && (decide (n = "ValueError.__new__") && (!cd.hasDel && (cd.hasDict && PySem.HandSPX.refsVE bm)))
    | _, _ => false)
  | _ => false
theorem excX_ok {K : PySem.W.Frag} {D : Addr} (q : excX K D = true) : ∃ nm q N bs bm sn sub ab col dd k0 k1 k2 k3 k5, K.lookup D = some (excClassObj nm q D N bs bm true sn sub ab col dd k0 k1 k2 k3 k5 "ValueError.__new__") ∧ PySem.HandSPX.refsVE bm = true := by
  unfold excX at q
  split at q
  · rename_i dd cd sl ho
    split at q
    · rename_i C' bm k0 k1 k2 k3 n k5 hm hs
      simp only [Bool.and_eq_true, decide_eq_true_eq, Bool.not_eq_true'] at q
      obtain ⟨rfl, rfl, hdel, hd, hr⟩ := q
      obtain ⟨nm, bs, mro, ns, qn, hdct, sn, sub, ab, col, del⟩ := cd
      dsimp only at hm hdel hd
      subst hm hdel hd
      have hsl : sl = #[k0, k1, k2, k3, some (.builtin "ValueError.__new__"), k5] := by
        obtain ⟨l⟩ := sl
        simp only at hs
        rw [hs]
      subst hsl
      exact ⟨nm, qn, ns, bs, bm, sn, sub, ab, col, dd, k0, k1, k2, k3, k5, ho, hr⟩
    · cases q
  · cases q
def seqB (K : PySem.W.Frag) (x : Str) (ws : List Str) : Bool := match PySem.W.nsIn K mainGlobals x with
  | some (some (.ref T)) => (match K.lookup T with
    | some ⟨.type c, _, .seq its _, _⟩ => decide (c = "tuple") && (decide (its.size ≤ sizeLine) && He.relAll (ws.map V.str) its.toList)
    | _ => false)
  | _ => false
theorem seqB_ok {K : PySem.W.Frag} {x : Str} {ws : List Str} (h : seqB K x ws = true) : ∃ (T : Addr) (o : Obj) (its : Array Value) (n : Nat), PySem.W.nsIn K mainGlobals x = some (some (.ref T)) ∧ K.lookup T = some o ∧ o.cls = .type "tuple" ∧ o.data = .seq its n ∧ its.size ≤ sizeLine ∧ Vals (ws.map V.str) its.toList := by
  unfold seqB at h
  split at h
  · rename_i T hT
    split at h
    · rename_i c od its n sl ho
      simp only [Bool.and_eq_true, decide_eq_true_eq] at h
      obtain ⟨rfl, h2, h3⟩ := h
      exact ⟨T, _, its, n, hT, ho, rfl, rfl, h2, He.relAll_ok h3⟩
    · cases h
  · cases h
def strB (K : PySem.W.Frag) (x v : Str) : Bool := match PySem.W.nsIn K mainGlobals x with
  | some (some (.str y _)) => decide (y = v)
  | _ => false
theorem strB_ok {K : PySem.W.Frag} {x v : Str} (h : strB K x v = true) : ∃ t : Nat, PySem.W.nsIn K mainGlobals x = some (some (.str v t)) := by
  unfold strB at h
  split at h
  · rename_i y t e
    have := of_decide_eq_true h
    subst this
    exact ⟨t, e⟩
  · cases h
def intB (K : PySem.W.Frag) (x : Str) (v : Int) : Bool := match PySem.W.nsIn K mainGlobals x with
  | some (some (.int y _)) => decide (y = v)
  | _ => false
theorem intB_ok {K : PySem.W.Frag} {x : Str} {v : Int} (h : intB K x v = true) : ∃ (i : Int) (t : Nat), PySem.W.nsIn K mainGlobals x = some (some (.int i t)) ∧ i = v := by
  unfold intB at h
  split at h
  · rename_i y t e
    exact ⟨y, t, e, of_decide_eq_true h⟩
  · cases h
end Hk
/-! a head by one kernel run: functions at addresses that are told by the part itself (a method's, a getter's) -/
namespace Hk
open PySem PySem.Spec PyProof.Rows L2
def fnY (K : PySem.W.Frag) (a : Addr) : He.FnW := match K.lookup a with
  | some ob => (match ob.data with
    | .func v => some (v.name, v.qualname, v.params, v.body, v.scope, v.globals, v.closure, v.builtins)
    | _ => none)
  | none => none
structure DefY where
  ad : PySem.W.Frag → Addr
  nm : Str
  ql : Str
  st : Stmt
  df : PySem.W.Frag → List V := fun _ => []
def DefY.val (d : DefY) : He.FnW := some (d.nm, d.ql, defArgs d.st, .stmts (defBody d.st), defScope d.st, mainGlobals, [], builtinsNs)
def DefY.ok (K : PySem.W.Frag) (d : DefY) : Bool := PySem.W.keepIn K (.ref (d.ad K)) && (match K.lookup (d.ad K) with
  | some ob => (match ob.data with
    | .func v => PySem.W.codeIn K v.code d.ql && He.dflB K v.defaults (d.df K)
    | _ => false)
  | none => false)
theorem DefY.funD {K : PySem.W.Frag} {d : DefY} (e : fnY K (d.ad K) = d.val) (c : d.ok K = true) : ∃ fd, FunD K d.nm d.ql (defArgs d.st) (defBody d.st) (defScope d.st) (d.df K) [] (d.ad K) fd := by
  unfold DefY.ok at c
  obtain ⟨kp, c2⟩ := Bool.and_eq_true_iff.mp c
  unfold fnY at e
  cases hq : K.lookup (d.ad K) with
  | none =>
    rw [hq] at c2
    cases c2
  | some ob =>
    obtain ⟨oc, od, dt, osl⟩ := ob
    rw [hq] at c2 e
    cases dt with
    | func v =>
      obtain ⟨n1, n2, n3, n4, n5, n6, n7, n8, n9, n10, n11, n12, n13, n14, n15⟩ := v
      have e2 : (some (n1, n2, n3, n4, n5, n6, n7, n15) : He.FnW) = some (d.nm, d.ql, defArgs d.st, .stmts (defBody d.st), defScope d.st, mainGlobals, [], builtinsNs) := e
      simp only [Option.some.injEq, Prod.mk.injEq] at e2
      obtain ⟨h1, h2, h3, h4, h5, h6, h7, h8⟩ := e2
      have c3 : (PySem.W.codeIn K n13 d.ql && He.dflB K n8 (d.df K)) = true := c2
      obtain ⟨k1, k2⟩ := Bool.and_eq_true_iff.mp c3
      have hfd : (⟨n1, n2, n3, n4, n5, n6, n7, n8, n9, n10, n11, n12, n13, n14, n15⟩ : FuncData) = PySem.W.fnOf d.nm d.ql (defArgs d.st) (defBody d.st) (defScope d.st) n8 n9 n10 n11 n12 n13 n14 := by
        rw [h1, h2, h3, h4, h5, h6, h7, h8]
      exact ⟨_, ⟨oc, od, n8, n9, n10, n11, n12, n13, n14, osl, hfd, hq, k1, He.dflB_ok k2, .inl rfl⟩, kp⟩
    | _ => cases c2
abbrev AlY : Type := Bool × Bool × List He.FnW
def obsY (xb : PySem.W.Frag → Bool) (fn : List DefY) (K : PySem.W.Frag) : AlY := (xb K, fn.all (fun d => d.ok K), fn.map fun d => fnY K (d.ad K))
def valY (fn : List DefY) : AlY := (true, true, fn.map DefY.val)
structure SaysY (xb : PySem.W.Frag → Bool) (fn : List DefY) (K : PySem.W.Frag) : Prop where
  eq : obsY xb fn K = valY fn
def hookY (as : List Addr) (xb : PySem.W.Frag → Bool) (fn : List DefY) : PySem.W.Hook where
  α := AlY
  obs := fun s => obsY xb fn (He.frG s.heap.get? as)
  val := fun _ => valY fn
  says := fun _ h => ∃ K : PySem.W.Frag, K.In h ∧ SaysY xb fn K
  of := fun _ _ e => ⟨_, He.frG_in, ⟨e⟩⟩
  keeps := fun _ _ _ ⟨K, hK, c⟩ k => ⟨K, PySem.W.Frag.In.keeps hK k, c⟩
def obY (as : List Addr) (xb : PySem.W.Frag → Bool) (fn : List DefY) (s : PySem.W.SharedT) : AlY := obsY xb fn (He.frG (HandSHeadRun.getT s) as)
theorem obY_eq {as : List Addr} {xb : PySem.W.Frag → Bool} {fn : List DefY} (s : PySem.W.SharedT) : obY as xb fn s = (hookY as xb fn).obs s.abs := by
  have e : HandSHeadRun.getT s = s.abs.heap.get? := funext (HandSHeadRun.getT_eq s)
  unfold obY
  rw [e] <;> rfl
section
variable {xb : PySem.W.Frag → Bool} {fn : List DefY} {K : PySem.W.Frag}
theorem SaysY.x (c : SaysY xb fn K) : xb K = true := congrArg (fun z : AlY => z.1) c.eq
theorem SaysY.def_ (c : SaysY xb fn K) (i : Nat) {d : DefY} (h : fn[i]? = some d := by rfl) : ∃ fd, FunD K d.nm d.ql (defArgs d.st) (defBody d.st) (defScope d.st) (d.df K) [] (d.ad K) fd := by
  have c2 : (fn.all fun d => d.ok K) = true := congrArg (fun z : AlY => z.2.1) c.eq
  have e : fn.map (fun d => fnY K (d.ad K)) = fn.map DefY.val := congrArg (fun z : AlY => z.2.2) c.eq
  have e2 : (fn.map fun d => fnY K (d.ad K))[i]? = (fn.map DefY.val)[i]? := by rw [e]
  rw [List.getElem?_map, List.getElem?_map, h] at e2
  exact DefY.funD (Option.some.inj e2) (List.all_eq_true.mp c2 d (List.mem_of_getElem? h))
end
/-- a def of no default -/
theorem fun_of {K : PySem.W.Frag} {x q : Str} {st : Stmt} {f : Addr} {fd : FuncData} (F : FunD K x q (defArgs st) (defBody st) (defScope st) [] [] f fd) : Fun K x q st f fd := by
  obtain ⟨⟨oc, od, dV, kV, doc, pm, an, cdv, ct, osl, rfl, l, c, d, _⟩, kp⟩ := F
  rcases d with ⟨_, rfl⟩ | ⟨ne, _⟩
  · exact ⟨⟨oc, od, kV, doc, pm, an, cdv, ct, osl, rfl, l, c⟩, kp⟩
  · exact absurd rfl ne
/-- a property's getter -/
def prA (K : PySem.W.Frag) (C : Addr) (x : Str) : Addr := match PySem.W.recIn K (He.ma K C x) "property" with
  | some (.ref g :: _) => g
  | _ => 0
def prB (K : PySem.W.Frag) (C : Addr) (x : Str) : Bool := match PySem.W.recIn K (He.ma K C x) "property" with
  | some (.ref _ :: _) => true
  | _ => false
theorem prB_ok {K : PySem.W.Frag} {C : Addr} {x : Str} (h : prB K C x = true) : ∃ rest, PySem.W.recIn K (He.ma K C x) "property" = some (.ref (prA K C x) :: rest) := by
  unfold prB at h
  unfold prA
  split at h
  · rename_i g rest e
    rw [e]
    exact ⟨rest, rfl⟩
  · cases h
/-- the object that is a function's i-th default -/
def dfA (K : PySem.W.Frag) (f : Addr) (i : Nat) : Addr := match K.lookup f with
  | some ob => (match ob.data with
    | .func v => (match v.defaults with
      | .ref T => (match K.lookup T with
        | some o2 => (match o2.data with
          | .seq its _ => (match its[i]? with
            | some (.ref a) => a
            | _ => 0)
          | _ => 0)
        | none => 0)
      | _ => 0)
    | _ => 0)
  | none => 0
end Hk
/-! operators of an own class: library level -/
namespace AmL
open PySem PySem.SeqAt PySem.Calls PyProof.Rows
open AutoSeq1 (wpAny_loadPart')
open MeetsSeq

section
variable {prog : Program} {w : World} {A : Around} {E : Value → Shared → Prop} {s : Shared} {K : PySem.W.Frag} {C : Addr}

theorem refl_inst {x : Addr} {v : Value} {T id : String} {f : Addr} {op : CmpOp} {ox : Obj} {od : Option Obj} {Q : Value → Shared → Prop} (hu : A.units < cLine)
    (X : K.In s.heap) (I : PySem.W.InstAt s.heap x ox C od) (hT : s.TypeIs v T) (slot : Slot T (cmpInfo op).2.1 id)
    (dec : ∀ Q' : Value → Shared → Prop, Q' .notImplemented s → wpAny (model prog w) A (call (.builtin id) [v, .ref x]) Q' E s)
    (hsub : PySem.W.subIn K (.ref C) (.type T) = some false)
    (hs : PySem.W.findIn K (.ref C) (cmpInfo op).2.2 = some (some (.ref f))) (hf : PySem.W.isFn K (.ref f) = true)
    (h : wpAny (model prog w) A (call (.ref f) [.ref x, v]) (PySem.W.CmpBack Q) E s) : wpAny (model prog w) A (richCompare op v (.ref x)) Q E s := by
  have one : wpAny (model prog w) A (tryCompare (.ref x) (cmpInfo op).2.2 v) (fun r s' => ∃ v, r = some v ∧ Q v s') E s := by
    unfold tryCompare
    refine wpAny_bind (PySem.W.ifBound_K X I hs hf (wpAny_mono h (fun v s' hv => ?_) fun _ _ e => e))
    cases v <;> first | exact hv.elim | exact wpAny_pure ⟨_, rfl, hv⟩
  have hne : (Value.type T != Value.ref C) = true := by
    rw [bne, beq_eq_false_iff_ne.mpr (fun q => by cases q)]; rfl
  rcases hi : cmpInfo op with ⟨sym, f', r'⟩
  rw [hi] at slot one
  simp only [richCompare, hi, hT.oneThing_none]
  refine wpAny_holding ?_
  refine wpAny_bind (wpAny_cRoomFor hu ?_)
  refine wpAny_bind (wpAny_typeOf hT (wpAny_bind (I.type.here ?_)))
  simp only [hne, if_true]
  refine wpAny_bind ((PySem.W.looks_subIn X hsub).here ?_)
  simp only [Bool.false_eq_true, if_false]
  refine wpAny_bind (m := tryCompare v _ (.ref x)) (wpAny_tryCompare_declines hT slot (dec _ ⟨rfl, ?_⟩))
  simp only [Bool.not_false, if_true]
  refine wpAny_bind (wpAny_mono one (fun r s' z => ?_) fun _ _ e => e)
  obtain ⟨u, rfl, hq⟩ := z
  exact wpAny_pure hq


/-- the != that object gives: not (x == b) -/
theorem try_ne {x : Addr} {b : Value} {f : Addr} {ox : Obj} {od : Option Obj} {Q : Option Value → Shared → Prop} (hu : A.units + 1 < cLine)
    (X : K.In s.heap) (I : PySem.W.InstAt s.heap x ox C od)
    (hs : PySem.W.findIn K (.ref C) "__ne__" = some (some (.builtin "object.__ne__"))) (hobj : PySem.W.mroIn K C (.type "object") = some true)
    (he : PySem.W.findIn K (.ref C) "__eq__" = some (some (.ref f))) (hf : PySem.W.isFn K (.ref f) = true)
    (h : wpAny (model prog w) A.in1 (call (.ref f) [.ref x, b]) (fun v s' => ∃ k, v = .bool k ∧ Q (some (.bool (!k))) s') E s) : wpAny (model prog w) A (tryCompare (.ref x) "__ne__" b) Q E s := by
  have sub : PySem.W.Looks (model prog w) s.heap (isInstance (.ref x) (.type "object")) true := I.type.andThen (PySem.W.looks_mroIn X hobj)
  have main : wpAny (model prog w) A (call (.builtin "object.__ne__") [.ref x, b]) (fun v s' => ∃ k, v = .bool k ∧ Q (some (.bool k)) s') E s := by
    refine wpAny_call (codeAny_call_builtin F.slot_object_ne.plain F.entry_object_ne (@PySem.W.check_slot (model prog w) _ _ s "object.__ne__" "object" "__ne__" (.ref x) [b] [] _ F.cmpKind_ne F.cmpSplit_ne sub (F.cmpArgs_ne _ _) ?_))
    unfold Builtin.«object.__ne__»
    refine wpAny_bind (m := slotArgs _ _ _) (wpAny_pure ?_)
    refine wpAny_bind (wpAny_cRoomFor hu ?_)
    refine wpAny_bind (m := callSpecialIfBound? (.ref x) _ _) (PySem.W.ifBound_K X I he hf (wpAny_mono h (fun v s' hv => ?_) fun _ _ e => e))
    obtain ⟨k, rfl, q⟩ := hv
    refine wpAny_bind (wpAny_truthy_bool ?_)
    exact wpAny_pure ⟨_, rfl, q⟩
  unfold tryCompare
  refine wpAny_bind (m := callSpecialIfBound? (.ref x) _ _) ?_
  simp only [callSpecialIfBound?, bindSpecialIfBound?]
  refine wpAny_holding (wpAny_bind (wpAny_bind (wpAny_bind (I.type.here ((PySem.W.looks_findIn X hs).here ?_)))))
  refine wpAny_bind (wpAny_askSetting (wpAny_ite ?_))
  have bd : PySem.W.Looks (model prog w) s.heap (bindSpecial (.builtin "object.__ne__") (.ref x)) (.builtin "object.__ne__", [.ref x]) := PySem.W.Looks.of_pure (F.slot_object_ne.bind _)
  have fin : wpAny (model prog w) A (call (.builtin "object.__ne__") ([.ref x] ++ [b]) >>= fun v => pure (some v)) (fun r s' => wpAny (model prog w) A (match r with | some .notImplemented | none => pure none | some v => pure (some v)) Q E s') E s := by
    refine wpAny_bind (wpAny_mono main (fun v s' h' => ?_) fun _ _ h' => h')
    obtain ⟨k, rfl, q⟩ := h'
    exact wpAny_pure (wpAny_pure q)
  split
  · exact wpAny_bind (bd.here (wpAny_pure (by exact fin)))
  · exact wpAny_tryCatch (wpAny_bind (bd.here (wpAny_pure (by exact fin))))

/-- x != b, x an instance with an own == and no own != -/
theorem ne_inst {x : Addr} {b tb : Value} {f : Addr} {ox : Obj} {od : Option Obj} {Q : Value → Shared → Prop} (hu : A.units + 1 < cLine)
    (X : K.In s.heap) (I : PySem.W.InstAt s.heap x ox C od) (hb : PySem.W.Looks (model prog w) s.heap (typeOf b) tb) (hn : PySem.W.notFirst K C tb = true)
    (hs : PySem.W.findIn K (.ref C) "__ne__" = some (some (.builtin "object.__ne__"))) (hobj : PySem.W.mroIn K C (.type "object") = some true)
    (he : PySem.W.findIn K (.ref C) "__eq__" = some (some (.ref f))) (hf : PySem.W.isFn K (.ref f) = true)
    (h : wpAny (model prog w) A.in1 (call (.ref f) [.ref x, b]) (fun v s' => ∃ k, v = .bool k ∧ Q (.bool (!k)) s') E s) : wpAny (model prog w) A (richCompare .NotEq (.ref x) b) Q E s := by
  have one : wpAny (model prog w) A (tryCompare (.ref x) "__ne__" b) (fun r s' => ∃ v, r = some v ∧ Q v s') E s :=
    try_ne hu X I hs hobj he hf (wpAny_mono h (fun v s' ⟨k, e, q⟩ => ⟨k, e, _, rfl, q⟩) fun _ _ e => e)
  unfold richCompare
  simp only [oneThing_ref]
  refine wpAny_holding (wpAny_bind (wpAny_cRoomFor (by omega) ?_))
  refine wpAny_bind (I.type.here (wpAny_bind (hb.here ?_)))
  split
  · rename_i q
    have e : PySem.W.subIn K tb (.ref C) = some false := by
      rcases Bool.or_eq_true_iff.mp hn with e | e
      · rw [beq_iff_eq.mp e] at q; simp at q
      · exact beq_iff_eq.mp e
    refine wpAny_bind ((PySem.W.looks_subIn X e).here ?_)
    simp only [Bool.false_eq_true, if_false]
    refine wpAny_bind (wpAny_mono one (fun r s' z => ?_) fun _ _ e => e)
    obtain ⟨v, rfl, hq⟩ := z
    exact wpAny_pure hq
  · refine wpAny_bind (wpAny_pure ?_)
    simp only [Bool.false_eq_true, if_false]
    refine wpAny_bind (wpAny_mono one (fun r s' z => ?_) fun _ _ e => e)
    obtain ⟨v, rfl, hq⟩ := z
    exact wpAny_pure hq

/-- v != x, v of a built-in type that declines, x an instance -/
theorem ne_refl {x : Addr} {v : Value} {T id : String} {f : Addr} {ox : Obj} {od : Option Obj} {Q : Value → Shared → Prop} (hu : A.units + 1 < cLine)
    (X : K.In s.heap) (I : PySem.W.InstAt s.heap x ox C od) (hT : s.TypeIs v T) (slot : Slot T (cmpInfo .NotEq).2.1 id)
    (dec : ∀ Q' : Value → Shared → Prop, Q' .notImplemented s → wpAny (model prog w) A (call (.builtin id) [v, .ref x]) Q' E s)
    (hsub : PySem.W.subIn K (.ref C) (.type T) = some false)
    (hs : PySem.W.findIn K (.ref C) "__ne__" = some (some (.builtin "object.__ne__"))) (hobj : PySem.W.mroIn K C (.type "object") = some true)
    (he : PySem.W.findIn K (.ref C) "__eq__" = some (some (.ref f))) (hf : PySem.W.isFn K (.ref f) = true)
    (h : wpAny (model prog w) A.in1 (call (.ref f) [.ref x, v]) (fun v s' => ∃ k, v = .bool k ∧ Q (.bool (!k)) s') E s) : wpAny (model prog w) A (richCompare .NotEq v (.ref x)) Q E s := by
  have one : wpAny (model prog w) A (tryCompare (.ref x) (cmpInfo .NotEq).2.2 v) (fun r s' => ∃ v, r = some v ∧ Q v s') E s :=
    try_ne hu X I hs hobj he hf (wpAny_mono h (fun v s' ⟨k, e, q⟩ => ⟨k, e, _, rfl, q⟩) fun _ _ e => e)
  have hne : (Value.type T != Value.ref C) = true := by
    rw [bne, beq_eq_false_iff_ne.mpr (fun q => by cases q)]; rfl
  rcases hi : cmpInfo CmpOp.NotEq with ⟨sym, f', r'⟩
  rw [hi] at slot one
  simp only [richCompare, hi, hT.oneThing_none]
  refine wpAny_holding ?_
  refine wpAny_bind (wpAny_cRoomFor (by omega) ?_)
  refine wpAny_bind (wpAny_typeOf hT (wpAny_bind (I.type.here ?_)))
  simp only [hne, if_true]
  refine wpAny_bind ((PySem.W.looks_subIn X hsub).here ?_)
  simp only [Bool.false_eq_true, if_false]
  refine wpAny_bind (m := tryCompare v _ (.ref x)) (wpAny_tryCompare_declines hT slot (dec _ ⟨rfl, ?_⟩))
  simp only [Bool.not_false, if_true]
  refine wpAny_bind (wpAny_mono one (fun r s' z => ?_) fun _ _ e => e)
  obtain ⟨u, rfl, hq⟩ := z
  exact wpAny_pure hq

/-! ### what declines beside an instance -/
section
variable {a : Addr}
abbrev PlainAt (s : Shared) (a C : Addr) : Prop := ∃ dd sl, s.heap.get? a = some { cls := .ref C, dict := dd, data := .plain, slots := sl }
theorem dec_int_eq (b : Int) (u : Tok) (C : Addr) : Meets (Builtin.«int.__eq__» ⟨[.int b u, .ref a], []⟩) (fun _ R s => PlainAt s a C ∧ R (.ok (.ret .notImplemented)) s) :=
  .of_wp fun prog w A R s h => by obtain ⟨hp, g, d, tk, os⟩ := s; obtain ⟨⟨dd, sl, hl⟩, h⟩ := h; wp_walk using wpAny_loadPart' hl, wpAny_load hl; exact ⟨_, rfl, h⟩
theorem dec_int_ne (b : Int) (u : Tok) (C : Addr) : Meets (Builtin.«int.__ne__» ⟨[.int b u, .ref a], []⟩) (fun _ R s => PlainAt s a C ∧ R (.ok (.ret .notImplemented)) s) :=
  .of_wp fun prog w A R s h => by obtain ⟨hp, g, d, tk, os⟩ := s; obtain ⟨⟨dd, sl, hl⟩, h⟩ := h; wp_walk using wpAny_loadPart' hl, wpAny_load hl; exact ⟨_, rfl, h⟩
theorem dec_int_lt (b : Int) (u : Tok) (C : Addr) : Meets (Builtin.«int.__lt__» ⟨[.int b u, .ref a], []⟩) (fun _ R s => PlainAt s a C ∧ R (.ok (.ret .notImplemented)) s) :=
  .of_wp fun prog w A R s h => by obtain ⟨hp, g, d, tk, os⟩ := s; obtain ⟨⟨dd, sl, hl⟩, h⟩ := h; wp_walk using wpAny_loadPart' hl, wpAny_load hl; exact ⟨_, rfl, h⟩
theorem dec_int_le (b : Int) (u : Tok) (C : Addr) : Meets (Builtin.«int.__le__» ⟨[.int b u, .ref a], []⟩) (fun _ R s => PlainAt s a C ∧ R (.ok (.ret .notImplemented)) s) :=
  .of_wp fun prog w A R s h => by obtain ⟨hp, g, d, tk, os⟩ := s; obtain ⟨⟨dd, sl, hl⟩, h⟩ := h; wp_walk using wpAny_loadPart' hl, wpAny_load hl; exact ⟨_, rfl, h⟩
theorem dec_int_gt (b : Int) (u : Tok) (C : Addr) : Meets (Builtin.«int.__gt__» ⟨[.int b u, .ref a], []⟩) (fun _ R s => PlainAt s a C ∧ R (.ok (.ret .notImplemented)) s) :=
  .of_wp fun prog w A R s h => by obtain ⟨hp, g, d, tk, os⟩ := s; obtain ⟨⟨dd, sl, hl⟩, h⟩ := h; wp_walk using wpAny_loadPart' hl, wpAny_load hl; exact ⟨_, rfl, h⟩
theorem dec_int_ge (b : Int) (u : Tok) (C : Addr) : Meets (Builtin.«int.__ge__» ⟨[.int b u, .ref a], []⟩) (fun _ R s => PlainAt s a C ∧ R (.ok (.ret .notImplemented)) s) :=
  .of_wp fun prog w A R s h => by obtain ⟨hp, g, d, tk, os⟩ := s; obtain ⟨⟨dd, sl, hl⟩, h⟩ := h; wp_walk using wpAny_loadPart' hl, wpAny_load hl; exact ⟨_, rfl, h⟩
theorem dec_bool_eq (b : Bool) (C : Addr) : Meets (Builtin.«int.__eq__» ⟨[.bool b, .ref a], []⟩) (fun _ R s => PlainAt s a C ∧ R (.ok (.ret .notImplemented)) s) :=
  .of_wp fun prog w A R s h => by obtain ⟨hp, g, d, tk, os⟩ := s; obtain ⟨⟨dd, sl, hl⟩, h⟩ := h; wp_walk using wpAny_loadPart' hl, wpAny_load hl; exact ⟨_, rfl, h⟩
theorem dec_none_eq : Gives (Builtin.«NoneType.__eq__» ⟨[.none, .ref a], []⟩) (.val (Value.notImplemented)) :=
  .of_wp fun M A E s Q h => by obtain ⟨hp, g, d, tk, os⟩ := s; wp_walk; exact ⟨_, rfl, h⟩
theorem dec_str_eq (b : Str) (u : Tok) (C : Addr) : Meets (Builtin.«str.__eq__» ⟨[.str b u, .ref a], []⟩) (fun _ R s => PlainAt s a C ∧ R (.ok (.ret .notImplemented)) s) :=
  .of_wp fun prog w A R s h => by obtain ⟨hp, g, d, tk, os⟩ := s; obtain ⟨⟨dd, sl, hl⟩, h⟩ := h; wp_walk using wpAny_loadPart' hl, wpAny_load hl; exact ⟨_, rfl, h⟩
theorem dec_list_eq {l : Addr} {R : Result → Shared → Prop} (sub : PySem.W.Looks (model prog w) s.heap (isInstance (.ref a) (.type "list")) false) (h : R (.ok (.ret .notImplemented)) s) :
    wpAny (model prog w) A.in1 (Builtin.«list.__eq__» ⟨[.ref l, .ref a], []⟩) (fun fin s' => match fin with | .done f => R (.ok f) s' | .again c' => c'.quiet = true ∧ codeAny (model prog w) A c' R s') (fun e s' => R (.error e) s') s := by
  refine wpAny_bind (m := slotArgs _ _ _) (wpAny_pure ?_)
  refine wpAny_bind (m := isInstance _ _) (sub.here ?_)
  wp_walk
  exact h
theorem dec_tuple_eq {l : Addr} {R : Result → Shared → Prop} (sub : PySem.W.Looks (model prog w) s.heap (isInstance (.ref a) (.type "tuple")) false) (h : R (.ok (.ret .notImplemented)) s) :
    wpAny (model prog w) A.in1 (Builtin.«tuple.__eq__» ⟨[.ref l, .ref a], []⟩) (fun fin s' => match fin with | .done f => R (.ok f) s' | .again c' => c'.quiet = true ∧ codeAny (model prog w) A c' R s') (fun e s' => R (.error e) s') s := by
  refine wpAny_bind (m := slotArgs _ _ _) (wpAny_pure ?_)
  refine wpAny_bind (m := isInstance _ _) (sub.here ?_)
  wp_walk
  exact h
theorem dec_dict_eq {l : Addr} {R : Result → Shared → Prop} (sub : PySem.W.Looks (model prog w) s.heap (isInstance (.ref a) (.type "dict")) false) (h : R (.ok (.ret .notImplemented)) s) :
    wpAny (model prog w) A.in1 (Builtin.«dict.__eq__» ⟨[.ref l, .ref a], []⟩) (fun fin s' => match fin with | .done f => R (.ok f) s' | .again c' => c'.quiet = true ∧ codeAny (model prog w) A c' R s') (fun e s' => R (.error e) s') s := by
  have e : Builtin.Dict.dictSlotArgs "__eq__" ⟨[.ref l, .ref a], []⟩ = pure (.ref l, .ref a) := by kernel_rfl
  refine wpAny_bind (m := Builtin.Dict.dictSlotArgs _ _) ?_
  rw [e]
  refine wpAny_pure ?_
  refine wpAny_bind (m := isInstance _ _) (sub.here ?_)
  wp_walk
  exact h
theorem dec_bool_ne (b : Bool) (C : Addr) : Meets (Builtin.«int.__ne__» ⟨[.bool b, .ref a], []⟩) (fun _ R s => PlainAt s a C ∧ R (.ok (.ret .notImplemented)) s) :=
  .of_wp fun prog w A R s h => by obtain ⟨hp, g, d, tk, os⟩ := s; obtain ⟨⟨dd, sl, hl⟩, h⟩ := h; wp_walk using wpAny_loadPart' hl, wpAny_load hl; exact ⟨_, rfl, h⟩
theorem dec_none_ne : Gives (Builtin.«NoneType.__ne__» ⟨[.none, .ref a], []⟩) (.val (Value.notImplemented)) :=
  .of_wp fun M A E s Q h => by obtain ⟨hp, g, d, tk, os⟩ := s; wp_walk; exact ⟨_, rfl, h⟩
theorem dec_str_ne (b : Str) (u : Tok) (C : Addr) : Meets (Builtin.«str.__ne__» ⟨[.str b u, .ref a], []⟩) (fun _ R s => PlainAt s a C ∧ R (.ok (.ret .notImplemented)) s) :=
  .of_wp fun prog w A R s h => by obtain ⟨hp, g, d, tk, os⟩ := s; obtain ⟨⟨dd, sl, hl⟩, h⟩ := h; wp_walk using wpAny_loadPart' hl, wpAny_load hl; exact ⟨_, rfl, h⟩
theorem dec_list_ne {l : Addr} {R : Result → Shared → Prop} (sub : PySem.W.Looks (model prog w) s.heap (isInstance (.ref a) (.type "list")) false) (h : R (.ok (.ret .notImplemented)) s) :
    wpAny (model prog w) A.in1 (Builtin.«list.__ne__» ⟨[.ref l, .ref a], []⟩) (fun fin s' => match fin with | .done f => R (.ok f) s' | .again c' => c'.quiet = true ∧ codeAny (model prog w) A c' R s') (fun e s' => R (.error e) s') s := by
  refine wpAny_bind (m := slotArgs _ _ _) (wpAny_pure ?_)
  refine wpAny_bind (m := isInstance _ _) (sub.here ?_)
  wp_walk
  exact h
theorem dec_tuple_ne {l : Addr} {R : Result → Shared → Prop} (sub : PySem.W.Looks (model prog w) s.heap (isInstance (.ref a) (.type "tuple")) false) (h : R (.ok (.ret .notImplemented)) s) :
    wpAny (model prog w) A.in1 (Builtin.«tuple.__ne__» ⟨[.ref l, .ref a], []⟩) (fun fin s' => match fin with | .done f => R (.ok f) s' | .again c' => c'.quiet = true ∧ codeAny (model prog w) A c' R s') (fun e s' => R (.error e) s') s := by
  refine wpAny_bind (m := slotArgs _ _ _) (wpAny_pure ?_)
  refine wpAny_bind (m := isInstance _ _) (sub.here ?_)
  wp_walk
  exact h
theorem dec_dict_ne {l : Addr} {R : Result → Shared → Prop} (sub : PySem.W.Looks (model prog w) s.heap (isInstance (.ref a) (.type "dict")) false) (h : R (.ok (.ret .notImplemented)) s) :
    wpAny (model prog w) A.in1 (Builtin.«dict.__ne__» ⟨[.ref l, .ref a], []⟩) (fun fin s' => match fin with | .done f => R (.ok f) s' | .again c' => c'.quiet = true ∧ codeAny (model prog w) A c' R s') (fun e s' => R (.error e) s') s := by
  have e : Builtin.Dict.dictSlotArgs "__ne__" ⟨[.ref l, .ref a], []⟩ = pure (.ref l, .ref a) := by kernel_rfl
  refine wpAny_bind (m := Builtin.Dict.dictSlotArgs _ _) ?_
  rw [e]
  refine wpAny_pure ?_
  refine wpAny_bind (m := isInstance _ _) (sub.here ?_)
  wp_walk
  exact h
end
end
end AmL
/-! rules over the hand layer: operators of an own class, beside built-in values too -/
namespace Am
open PySem PySem.Spec PyProof.Rows L2

/-- values of built-in types -/
inductive Bk (H : Hp) : V → String → Prop where
  | non : Bk H .non "NoneType"
  | bl (b : Bool) : Bk H (.bl b) "bool"
  | int (i : Int) : Bk H (.int i) "int"
  | str (z : Str) : Bk H (.str z) "str"
  | lst {a : Addr} {xs : List V} (h : H a = some (.lst xs)) : Bk H (.ref a) "list"
  | tup {a : Addr} {xs : List V} (h : H a = some (.tup xs)) : Bk H (.ref a) "tuple"
  | dK {a : Addr} {kvs : List (Key × V)} (h : H a = some (.dK kvs)) : Bk H (.ref a) "dict"
def isI : V → Bool
  | .int _ => true
  | _ => false
theorem Bk.same {H H' : Hp} (e : Same H H') {x : V} {T : String} (b : Bk H x T) : Bk H' x T := by
  cases b with
  | non => exact .non
  | bl b => exact .bl b
  | int i => exact .int i
  | str z => exact .str z
  | lst h => exact .lst (e _ _ h)
  | tup h => exact .tup (e _ _ h)
  | dK h => exact .dK (e _ _ h)
theorem Bk.tyOf {K : PySem.W.Frag} {H : Hp} {x : V} {T : String} (b : Bk H x T) : TyOf K H x (.type T) := by
  cases b with
  | non => exact .non
  | bl b => exact .bl b
  | int i => exact .int i
  | str z => exact .str z
  | lst h => exact .lst h
  | tup h => exact .tup h
  | dK h => exact .dK h
section
variable {X : Cx} {pins : List (Addr × Obj)} {σ : L2.St} {H : Hp} {s : Shared}
theorem Bk.typeIs {x : V} {T : String} {u : Value} (b : Bk H x T) (I : Inv X pins σ H s) (r : RelV x u) : s.TypeIs u T := by
  cases b with
  | non => cases (show u = Value.none from r); rfl
  | bl b => cases (show u = Value.bool b from r); rfl
  | int i => obtain ⟨t, q⟩ := (show ∃ t, u = Value.int i t from r); cases q; rfl
  | str z => obtain ⟨t, q⟩ := (show ∃ t, u = Value.str z t from r); cases q; rfl
  | @lst a xs ea =>
    cases (show u = Value.ref a from r)
    obtain ⟨_, _, n, _, h1⟩ := (show ObjOk X.prog X.w H s.heap a (.lst xs) from I.hok a _ ea)
    exact ⟨_, h1, rfl⟩
  | @tup a xs ea =>
    cases (show u = Value.ref a from r)
    obtain ⟨_, _, _, o, h1, h2, _⟩ := (show ObjOk X.prog X.w H s.heap a (.tup xs) from I.hok a _ ea)
    exact ⟨o, h1, h2⟩
  | @dK a kvs ea =>
    cases (show u = Value.ref a from r)
    obtain ⟨_, _, vs, _, o, es, ep, h1, h2, _⟩ := (show ObjOk X.prog X.w H s.heap a (.dK kvs) from I.hok a _ ea)
    exact ⟨o, h1, h2.1⟩
theorem looks_typeIs {M : Model} {u : Value} {T : String} (h : s.TypeIs u T) : PySem.W.Looks M s.heap (typeOf u) (.type T) := by
  intro A Q E s' k q
  have h' : s'.TypeIs u T := by
    cases u with
    | ref a => obtain ⟨o, ho, hc⟩ := h; exact ⟨o, k _ _ ho, hc⟩
    | _ => exact h
  exact wpAny_typeOf h' q
end

/-- what the operators ask of the class -/
structure OpC (K : PySem.W.Frag) (C : Addr) : Prop where
  sf : PySem.W.selfFirst K C = true
  ne : PySem.W.findIn K (.ref C) "__ne__" = some (some (.builtin "object.__ne__"))
  ob : PySem.W.mroIn K C (.type "object") = some true
  s1 : PySem.W.subIn K (.ref C) (.type "int") = some false
  s2 : PySem.W.subIn K (.ref C) (.type "bool") = some false
  s3 : PySem.W.subIn K (.ref C) (.type "NoneType") = some false
  s4 : PySem.W.subIn K (.ref C) (.type "str") = some false
  s5 : PySem.W.subIn K (.ref C) (.type "list") = some false
  s6 : PySem.W.subIn K (.ref C) (.type "tuple") = some false
  s7 : PySem.W.subIn K (.ref C) (.type "dict") = some false
  r1 : PySem.W.subIn K (.type "int") (.ref C) = some false
  r2 : PySem.W.subIn K (.type "bool") (.ref C) = some false
  r3 : PySem.W.subIn K (.type "NoneType") (.ref C) = some false
  r4 : PySem.W.subIn K (.type "str") (.ref C) = some false
  r5 : PySem.W.subIn K (.type "list") (.ref C) = some false
  r6 : PySem.W.subIn K (.type "tuple") (.ref C) = some false
  r7 : PySem.W.subIn K (.type "dict") (.ref C) = some false
theorem OpC.sub {K : PySem.W.Frag} {C : Addr} {H : Hp} {x : V} {T : String} (c : OpC K C) (b : Bk H x T) : PySem.W.subIn K (.ref C) (.type T) = some false := by
  cases b <;> first | exact c.s1 | exact c.s2 | exact c.s3 | exact c.s4 | exact c.s5 | exact c.s6 | exact c.s7
theorem OpC.rev {K : PySem.W.Frag} {C : Addr} {H : Hp} {x : V} {T : String} (c : OpC K C) (b : Bk H x T) : PySem.W.subIn K (.type T) (.ref C) = some false := by
  cases b <;> first | exact c.r1 | exact c.r2 | exact c.r3 | exact c.r4 | exact c.r5 | exact c.r6 | exact c.r7
theorem OpC.nf {K : PySem.W.Frag} {C : Addr} {H : Hp} {x : V} {T : String} (c : OpC K C) (b : Bk H x T) : PySem.W.notFirst K C (.type T) = true := by
  unfold PySem.W.notFirst
  rw [c.rev b]
  simp
theorem nf_self {K : PySem.W.Frag} {C : Addr} : PySem.W.notFirst K C (.ref C) = true := by
  unfold PySem.W.notFirst
  simp

/-- a method that an operator calls -/
structure Om (X : Cx) (C : Addr) (name : Str) (g : Addr) : Prop where
  hs : PySem.W.findIn X.K (.ref C) name = some (some (.ref g))
  hf : PySem.W.isFn X.K (.ref g) = true
/-- an instance of C, or a value of a built-in type -/
def OrB (C : Addr) (H : Hp) (y : V) : Prop := (∃ b dy gs, y = .ref b ∧ H b = some (.ins C dy gs)) ∨ ∃ T, Bk H y T
section
variable {X : Cx} {C g : Addr} {k : Nat} {fd : FuncData} {ps : List Str} {sp : Sp} {CX : CXT} {E : XK} {pins : List (Addr × Obj)} {σ : L2.St} {H : Hp} {s : Shared}
theorem inst_of {a dx : Addr} {fs : List (Str × V)} (I : Inv X pins σ H s) (ha : H a = some (.ins C dx fs)) : ∃ od, PySem.W.InstAt s.heap a (PySem.W.instObj C dx) C (some od) := by
  obtain ⟨mA, J, _⟩ := ins_get I.hok ha
  obtain ⟨od, J, _⟩ := J.look
  exact ⟨od, J⟩
theorem plain_of {a dx : Addr} {fs : List (Str × V)} (I : Inv X pins σ H s) (ha : H a = some (.ins C dx fs)) : AmL.PlainAt s a C := by
  obtain ⟨_, _, _, h, _⟩ := (show ObjOk X.prog X.w H s.heap a (.ins C dx fs) from I.hok a _ ha)
  exact ⟨_, _, h⟩
theorem orB_type {y : V} {u : Value} (c : OpC X.K C) (I : Inv X pins σ H s) (ry : RelV y u) (h : OrB C H y) : ∃ tb, PySem.W.Looks (model X.prog X.w) s.heap (typeOf u) tb ∧ PySem.W.notFirst X.K C tb = true := by
  rcases h with ⟨b, dy, gs, rfl, hb⟩ | ⟨T, b⟩
  · cases (show u = Value.ref b from ry)
    obtain ⟨od, J⟩ := inst_of I hb
    exact ⟨.ref C, J.type, nf_self⟩
  · exact ⟨.type T, looks_typeIs (b.typeIs I ry), c.nf b⟩

/-- x op y: x an instance -/
def rCmp (C : Addr) (sp : Sp) (E : XK) : R2 := fun x y H Q => (∃ a dx fs, x = .ref a ∧ H a = some (.ins C dx fs)) ∧ OrB C H y ∧ sp [x, y] H Q E
theorem op_cmpC {op : CmpOp} (hop : ∀ a b, compareOp op a b = richCompare op a b) (c : OpC X.K C) (m : Om X C (cmpInfo op).2.1 g) (F : FnOk X.prog X.w X.K X.mg X.base CX k g fd ps sp) (hr : Room k X.A) (hb : Binds X.K fd ps [])
    (hx : Passes CX X E) : OpR X (compareOp op) (rCmp C sp E) := by
  intro pins s σ H x y v u Q I rx ry h
  obtain ⟨⟨a, dx, fs, rfl, ha⟩, hy, q⟩ := h
  cases (show v = Value.ref a from rx)
  obtain ⟨od, J⟩ := inst_of I ha
  obtain ⟨tb, ht, hn⟩ := orB_type c I ry hy
  obtain ⟨mm, hF⟩ := I.fr
  rw [hop]
  refine PySem.W.cmp_K (op := op) hr.units0 hF I.ok.mod.kin J ht hn m.hs m.hf ?_
  refine wpAny_mono (run_fn (us := [.ref a, u]) (vs := [.ref a, y]) (dvs := []) F hr hb .nil hx I (.cons rfl (.cons ry .nil)) q) (fun w s' z => ?_) fun _ _ x => x
  obtain ⟨z', H', I', rz, qz⟩ := z
  exact SlX.cmpback rz ⟨z', H', I', rz, qz⟩

theorem room_in1 {A : Around} (hr : Room (k + 1) A) : Room k A.in1 := hr.in1
/-- the callee runs one builtin below -/
theorem run_in1 {Q : VK} {us : List Value} {vs : List V} (F : FnOk X.prog X.w X.K X.mg X.base CX k g fd ps sp) (hr : Room (k + 1) X.A) (hb : Binds X.K fd ps []) (hx : Passes CX X E)
    (I : Inv X pins σ H s) (r : Vals vs us) (h : sp vs H Q E) : wpAny (model X.prog X.w) X.A.in1 (call (.ref g) us) (EP X pins σ Q) X.xe s := by
  have hl : us.length = ps.length := by rw [← r.length]; exact F.len _ _ _ _ h
  refine wpAny_call (codeAny_mono (F.run X.A.in1 X.stack s H ⟨us, []⟩ us vs Q E hr.in1 I.env0.in1 (by
    have := hb s us I.kIn (by simpa using hl)
    simpa using this) r h) fun r s' hq => ?_)
  cases r with
  | error e => exact hx pins σ H s e s' I hq
  | ok fl =>
    cases fl with
    | ret u => exact I.after hq
    | next => exact False.elim hq
    | brk => exact False.elim hq
    | cont => exact False.elim hq

/-- x != y: x an instance whose class has an own ==, that hands back a truth value -/
def rNeC (C : Addr) (sp : Sp) (E : XK) : R2 := fun x y H Q => (∃ a dx fs, x = .ref a ∧ H a = some (.ins C dx fs)) ∧ OrB C H y ∧ sp [x, y] H (fun v H' => ∃ b, v = .bl b ∧ Q (.bl (!b)) H') E
theorem op_neC (c : OpC X.K C) (m : Om X C "__eq__" g) (F : FnOk X.prog X.w X.K X.mg X.base CX k g fd ps sp) (hr : Room (k + 1) X.A) (hb : Binds X.K fd ps [])
    (hx : Passes CX X E) : OpR X (compareOp .NotEq) (rNeC C sp E) := by
  intro pins s σ H x y v u Q I rx ry h
  obtain ⟨⟨a, dx, fs, rfl, ha⟩, hy, q⟩ := h
  cases (show v = Value.ref a from rx)
  obtain ⟨od, J⟩ := inst_of I ha
  obtain ⟨tb, ht, hn⟩ := orB_type c I ry hy
  show wpAny (model X.prog X.w) X.A (richCompare .NotEq _ _) (EP X pins σ Q) X.xe s
  refine AmL.ne_inst (by have := hr.units; omega) I.kIn J ht hn c.ne c.ob m.hs m.hf ?_
  refine wpAny_mono (run_in1 (us := [.ref a, u]) (vs := [.ref a, y]) F hr hb hx I (.cons rfl (.cons ry .nil)) q) (fun w s' z => ?_) fun _ _ x => x
  obtain ⟨z', H', I', rz, b, rfl, qz⟩ := z
  cases (show w = Value.bool b from rz)
  exact ⟨b, rfl, .bl (!b), H', I', rfl, qz⟩

theorem insub {a dx : Addr} {fs : List (Str × V)} {T : String} (I : Inv X pins σ H s) (ha : H a = some (.ins C dx fs)) (h : PySem.W.subIn X.K (.ref C) (.type T) = some false) :
    PySem.W.Looks (model X.prog X.w) s.heap (isInstance (.ref a) (.type T)) false := by
  obtain ⟨od, J⟩ := inst_of I ha
  exact J.type.andThen (PySem.W.looks_subIn I.kIn h)

/-- what declines -/
structure Dec (X : Cx) (op : CmpOp) (P : Hp → V → Prop) : Prop where
  run : ∀ (pins : List (Addr × Obj)) (σ : L2.St) (H : Hp) (s : Shared) (C a dx : Addr) (fs : List (Str × V)) (x : V) (v : Value), OpC X.K C → Inv X pins σ H s → RelV x v → P H x → H a = some (.ins C dx fs) →
    ∃ T id, Bk H x T ∧ Slot T (cmpInfo op).2.1 id ∧ ∀ (E : Value → Shared → Prop) (Q' : Value → Shared → Prop), Q' .notImplemented s → wpAny (model X.prog X.w) X.A (call (.builtin id) [v, .ref a]) Q' E s

/-- x op y: x a value that declines, y an instance -/
def rRef (C : Addr) (P : Hp → V → Prop) (sp : Sp) (E : XK) : R2 := fun x y H Q => P H x ∧ (∃ a dx fs, y = .ref a ∧ H a = some (.ins C dx fs)) ∧ sp [y, x] H Q E
theorem op_refC {op : CmpOp} {P : Hp → V → Prop} (hop : ∀ a b, compareOp op a b = richCompare op a b) (d : Dec X op P) (c : OpC X.K C) (m : Om X C (cmpInfo op).2.2 g) (F : FnOk X.prog X.w X.K X.mg X.base CX k g fd ps sp) (hr : Room k X.A)
    (hb : Binds X.K fd ps []) (hx : Passes CX X E) : OpR X (compareOp op) (rRef C P sp E) := by
  intro pins s σ H x y v u Q I rx ry h
  obtain ⟨hp, ⟨a, dx, fs, rfl, ha⟩, q⟩ := h
  cases (show u = Value.ref a from ry)
  obtain ⟨od, J⟩ := inst_of I ha
  obtain ⟨T, id, bk, slot, dec⟩ := d.run pins σ H s C a dx fs x v c I rx hp ha
  rw [hop]
  refine AmL.refl_inst (op := op) hr.units0 I.kIn J (bk.typeIs I rx) slot (fun Q' q' => dec _ Q' q') (c.sub bk) m.hs m.hf ?_
  refine wpAny_mono (run_fn (us := [.ref a, v]) (vs := [.ref a, x]) (dvs := []) F hr hb .nil hx I (.cons rfl (.cons rx .nil)) q) (fun w s' z => ?_) fun _ _ x => x
  obtain ⟨z', H', I', rz, qz⟩ := z
  exact SlX.cmpback rz ⟨z', H', I', rz, qz⟩
def rRefN (C : Addr) (P : Hp → V → Prop) (sp : Sp) (E : XK) : R2 := fun x y H Q => P H x ∧ (∃ a dx fs, y = .ref a ∧ H a = some (.ins C dx fs)) ∧ sp [y, x] H (fun v H' => ∃ b, v = .bl b ∧ Q (.bl (!b)) H') E
theorem op_refN {P : Hp → V → Prop} (d : Dec X .NotEq P) (c : OpC X.K C) (m : Om X C "__eq__" g) (F : FnOk X.prog X.w X.K X.mg X.base CX k g fd ps sp) (hr : Room (k + 1) X.A)
    (hb : Binds X.K fd ps []) (hx : Passes CX X E) : OpR X (compareOp .NotEq) (rRefN C P sp E) := by
  intro pins s σ H x y v u Q I rx ry h
  obtain ⟨hp, ⟨a, dx, fs, rfl, ha⟩, q⟩ := h
  cases (show u = Value.ref a from ry)
  obtain ⟨od, J⟩ := inst_of I ha
  obtain ⟨T, id, bk, slot, dec⟩ := d.run pins σ H s C a dx fs x v c I rx hp ha
  show wpAny (model X.prog X.w) X.A (richCompare .NotEq _ _) (EP X pins σ Q) X.xe s
  refine AmL.ne_refl (by have := hr.units; omega) I.kIn J (bk.typeIs I rx) slot (fun Q' q' => dec _ Q' q') (c.sub bk) c.ne c.ob m.hs m.hf ?_
  refine wpAny_mono (run_in1 (us := [.ref a, v]) (vs := [.ref a, x]) F hr hb hx I (.cons rfl (.cons rx .nil)) q) (fun w s' z => ?_) fun _ _ x => x
  obtain ⟨z', H', I', rz, b, rfl, qz⟩ := z
  cases (show w = Value.bool b from rz)
  exact ⟨b, rfl, .bl (!b), H', I', rfl, qz⟩
end
section
variable {X : Cx}
theorem meets_call {T : String} {name : Str} {id : String} {B : Builtin} {v : Value} {rest : List Value} {A : Around} {E : Value → Shared → Prop} {s : Shared} {prog : Program} {w : World} (slot : Slot T name id) (hT : s.TypeIs v T) (entry : entryFor table id = some B) (args : argsOk id ⟨v :: rest, []⟩)
    {P : Shared → Prop} (g : PySem.Meets (B ⟨v :: rest, []⟩) (fun _ R s => P s ∧ R (.ok (.ret .notImplemented)) s)) (hp : P s) (Q' : Value → Shared → Prop) (q : Q' .notImplemented s) : wpAny (model prog w) A (call (.builtin id) (v :: rest)) Q' E s :=
  wpAny_call (codeAny_call_builtin slot.plain entry (slot.check _ _ _ _ _ _ _ _ hT args (g prog w A (wants Q' E) s ⟨hp, q⟩)))
def PInt : Hp → V → Prop := fun _ x => ∃ i, x = .int i
theorem dec_intEq : Dec X .Eq PInt := ⟨fun pins σ H s C a dx fs x v c I r hp ha => by
  obtain ⟨i, rfl⟩ := hp
  obtain ⟨t, rfl⟩ := (show ∃ t, v = Value.int i t from r)
  exact ⟨"int", _, .int i, PySem.F.slot_int_eq, fun E Q' q => meets_call PySem.F.slot_int_eq (typeIs_int s i t) PySem.F.entry_int_eq (PySem.F.args_int_eq_2 _ _) (AmL.dec_int_eq i t C) (plain_of I ha) Q' q⟩⟩
theorem dec_intNotEq : Dec X .NotEq PInt := ⟨fun pins σ H s C a dx fs x v c I r hp ha => by
  obtain ⟨i, rfl⟩ := hp
  obtain ⟨t, rfl⟩ := (show ∃ t, v = Value.int i t from r)
  exact ⟨"int", _, .int i, PySem.F.slot_int_ne, fun E Q' q => meets_call PySem.F.slot_int_ne (typeIs_int s i t) PySem.F.entry_int_ne (PySem.F.args_int_ne_2 _ _) (AmL.dec_int_ne i t C) (plain_of I ha) Q' q⟩⟩
theorem dec_intLt : Dec X .Lt PInt := ⟨fun pins σ H s C a dx fs x v c I r hp ha => by
  obtain ⟨i, rfl⟩ := hp
  obtain ⟨t, rfl⟩ := (show ∃ t, v = Value.int i t from r)
  exact ⟨"int", _, .int i, PySem.F.slot_int_lt, fun E Q' q => meets_call PySem.F.slot_int_lt (typeIs_int s i t) PySem.F.entry_int_lt (PySem.F.args_int_lt_2 _ _) (AmL.dec_int_lt i t C) (plain_of I ha) Q' q⟩⟩
theorem dec_intLtE : Dec X .LtE PInt := ⟨fun pins σ H s C a dx fs x v c I r hp ha => by
  obtain ⟨i, rfl⟩ := hp
  obtain ⟨t, rfl⟩ := (show ∃ t, v = Value.int i t from r)
  exact ⟨"int", _, .int i, PySem.F.slot_int_le, fun E Q' q => meets_call PySem.F.slot_int_le (typeIs_int s i t) PySem.F.entry_int_le (PySem.F.args_int_le_2 _ _) (AmL.dec_int_le i t C) (plain_of I ha) Q' q⟩⟩
theorem dec_intGt : Dec X .Gt PInt := ⟨fun pins σ H s C a dx fs x v c I r hp ha => by
  obtain ⟨i, rfl⟩ := hp
  obtain ⟨t, rfl⟩ := (show ∃ t, v = Value.int i t from r)
  exact ⟨"int", _, .int i, PySem.F.slot_int_gt, fun E Q' q => meets_call PySem.F.slot_int_gt (typeIs_int s i t) PySem.F.entry_int_gt (PySem.F.args_int_gt_2 _ _) (AmL.dec_int_gt i t C) (plain_of I ha) Q' q⟩⟩
theorem dec_intGtE : Dec X .GtE PInt := ⟨fun pins σ H s C a dx fs x v c I r hp ha => by
  obtain ⟨i, rfl⟩ := hp
  obtain ⟨t, rfl⟩ := (show ∃ t, v = Value.int i t from r)
  exact ⟨"int", _, .int i, PySem.F.slot_int_ge, fun E Q' q => meets_call PySem.F.slot_int_ge (typeIs_int s i t) PySem.F.entry_int_ge (PySem.F.args_int_ge_2 _ _) (AmL.dec_int_ge i t C) (plain_of I ha) Q' q⟩⟩
def PBk : Hp → V → Prop := fun H x => ∃ T, Bk H x T
theorem dec_bkEq : Dec X .Eq PBk := ⟨fun pins σ H s C a dx fs x v c I r hp ha => by
  obtain ⟨T, b⟩ := hp
  refine ⟨T, ?_⟩
  have hT := b.typeIs I r
  cases b with
  | non =>
    cases (show v = Value.none from r)
    exact ⟨_, .non, PySem.F.slot_NoneType_eq, fun E Q' q => call_gives PySem.F.slot_NoneType_eq hT PySem.F.entry_NoneType_eq (PySem.F.args_NoneType_eq_2 _ _) AmL.dec_none_eq q⟩
  | bl k =>
    cases (show v = Value.bool k from r)
    exact ⟨_, .bl k, PySem.F.slot_bool_eq, fun E Q' q => meets_call PySem.F.slot_bool_eq hT PySem.F.entry_int_eq (PySem.F.args_int_eq_2 _ _) (AmL.dec_bool_eq k C) (plain_of I ha) Q' q⟩
  | int i =>
    obtain ⟨t, rfl⟩ := (show ∃ t, v = Value.int i t from r)
    exact ⟨_, .int i, PySem.F.slot_int_eq, fun E Q' q => meets_call PySem.F.slot_int_eq hT PySem.F.entry_int_eq (PySem.F.args_int_eq_2 _ _) (AmL.dec_int_eq i t C) (plain_of I ha) Q' q⟩
  | str z =>
    obtain ⟨t, rfl⟩ := (show ∃ t, v = Value.str z t from r)
    exact ⟨_, .str z, PySem.F.slot_str_eq, fun E Q' q => meets_call PySem.F.slot_str_eq hT PySem.F.entry_str_eq (PySem.F.args_str_eq_2 _ _) (AmL.dec_str_eq z t C) (plain_of I ha) Q' q⟩
  | @lst l xs ea =>
    cases (show v = Value.ref l from r)
    exact ⟨_, .lst ea, PySem.F.slot_list_eq, fun E Q' q => GQ.call_here PySem.F.slot_list_eq hT PySem.F.entry_list_eq (PySem.F.args_list_eq_2 _ _) (AmL.dec_list_eq (R := wants Q' E) (insub I ha c.s5) q)⟩
  | @tup l xs ea =>
    cases (show v = Value.ref l from r)
    exact ⟨_, .tup ea, PySem.F.slot_tuple_eq, fun E Q' q => GQ.call_here PySem.F.slot_tuple_eq hT PySem.F.entry_tuple_eq (PySem.F.args_tuple_eq_2 _ _) (AmL.dec_tuple_eq (R := wants Q' E) (insub I ha c.s6) q)⟩
  | @dK l kvs ea =>
    cases (show v = Value.ref l from r)
    exact ⟨_, .dK ea, PySem.F.slot_dict_eq, fun E Q' q => GQ.call_here PySem.F.slot_dict_eq hT PySem.F.entry_dict_eq (PySem.F.args_dict_eq_2 _ _) (AmL.dec_dict_eq (R := wants Q' E) (insub I ha c.s7) q)⟩⟩
theorem dec_bkNotEq : Dec X .NotEq PBk := ⟨fun pins σ H s C a dx fs x v c I r hp ha => by
  obtain ⟨T, b⟩ := hp
  refine ⟨T, ?_⟩
  have hT := b.typeIs I r
  cases b with
  | non =>
    cases (show v = Value.none from r)
    exact ⟨_, .non, PySem.F.slot_NoneType_ne, fun E Q' q => call_gives PySem.F.slot_NoneType_ne hT PySem.F.entry_NoneType_ne (PySem.F.args_NoneType_ne_2 _ _) AmL.dec_none_ne q⟩
  | bl k =>
    cases (show v = Value.bool k from r)
    exact ⟨_, .bl k, PySem.F.slot_bool_ne, fun E Q' q => meets_call PySem.F.slot_bool_ne hT PySem.F.entry_int_ne (PySem.F.args_int_ne_2 _ _) (AmL.dec_bool_ne k C) (plain_of I ha) Q' q⟩
  | int i =>
    obtain ⟨t, rfl⟩ := (show ∃ t, v = Value.int i t from r)
    exact ⟨_, .int i, PySem.F.slot_int_ne, fun E Q' q => meets_call PySem.F.slot_int_ne hT PySem.F.entry_int_ne (PySem.F.args_int_ne_2 _ _) (AmL.dec_int_ne i t C) (plain_of I ha) Q' q⟩
  | str z =>
    obtain ⟨t, rfl⟩ := (show ∃ t, v = Value.str z t from r)
    exact ⟨_, .str z, PySem.F.slot_str_ne, fun E Q' q => meets_call PySem.F.slot_str_ne hT PySem.F.entry_str_ne (PySem.F.args_str_ne_2 _ _) (AmL.dec_str_ne z t C) (plain_of I ha) Q' q⟩
  | @lst l xs ea =>
    cases (show v = Value.ref l from r)
    exact ⟨_, .lst ea, PySem.F.slot_list_ne, fun E Q' q => GQ.call_here PySem.F.slot_list_ne hT PySem.F.entry_list_ne (PySem.F.args_list_ne_2 _ _) (AmL.dec_list_ne (R := wants Q' E) (insub I ha c.s5) q)⟩
  | @tup l xs ea =>
    cases (show v = Value.ref l from r)
    exact ⟨_, .tup ea, PySem.F.slot_tuple_ne, fun E Q' q => GQ.call_here PySem.F.slot_tuple_ne hT PySem.F.entry_tuple_ne (PySem.F.args_tuple_ne_2 _ _) (AmL.dec_tuple_ne (R := wants Q' E) (insub I ha c.s6) q)⟩
  | @dK l kvs ea =>
    cases (show v = Value.ref l from r)
    exact ⟨_, .dK ea, PySem.F.slot_dict_ne, fun E Q' q => GQ.call_here PySem.F.slot_dict_ne hT PySem.F.entry_dict_ne (PySem.F.args_dict_ne_2 _ _) (AmL.dec_dict_ne (R := wants Q' E) (insub I ha c.s7) q)⟩⟩
end
section
variable {X : Cx} {C g : Addr} {k : Nat} {fd : FuncData} {ps : List Str} {sp : Sp} {CX : CXT} {E : XK}
/-- what an arithmetic operator asks of the type int -/
structure OpI (X : Cx) (C : Addr) (nm : String) : Prop where
  h1 : ∃ fo, PySem.W.findIn X.K (.type "int") (PySem.dunder nm) = some fo
  h2 : ∃ ro, PySem.W.findIn X.K (.type "int") (PySem.dunderR nm) = some ro
  hr : ∃ g : Addr, PySem.W.findIn X.K (.ref C) (PySem.dunderR nm) = some (some (.ref g))
/-- x op y: x an instance, y an instance or an int -/
def OrI (C : Addr) (H : Hp) (y : V) : Prop := (∃ b dy gs, y = .ref b ∧ H b = some (.ins C dy gs)) ∨ ∃ i, y = .int i
def rBin (C : Addr) (sp : Sp) (E : XK) : R2 := fun x y H Q => (∃ a dx fs, x = .ref a ∧ H a = some (.ins C dx fs)) ∧ OrI C H y ∧ sp [x, y] H Q E
theorem op_binC {op : Operator} (c : OpC X.K C) (ci : OpI X C op.info.2) (m : Om X C (PySem.dunder op.info.2) g) (F : FnOk X.prog X.w X.K X.mg X.base CX k g fd ps sp) (hr : Room k X.A) (hb : Binds X.K fd ps [])
    (hx : Passes CX X E) : OpR X (binaryOp op) (rBin C sp E) := by
  intro pins s σ H x y v u Q I rx ry h
  obtain ⟨⟨a, dx, fs, rfl, ha⟩, hy, q⟩ := h
  cases (show v = Value.ref a from rx)
  obtain ⟨od, J⟩ := inst_of I ha
  obtain ⟨mm, hF⟩ := I.fr
  have fin : wpAny (model X.prog X.w) X.A (call (.ref g) [.ref a, u]) (PySem.W.CmpBack (EP X pins σ Q)) X.xe s := by
    refine wpAny_mono (run_fn (us := [.ref a, u]) (vs := [.ref a, y]) (dvs := []) F hr hb .nil hx I (.cons rfl (.cons ry .nil)) q) (fun w s' z => ?_) fun _ _ x => x
    obtain ⟨z', H', I', rz, qz⟩ := z
    exact SlX.cmpback rz ⟨z', H', I', rz, qz⟩
  rcases hy with ⟨b, dy, gs, rfl, hb'⟩ | ⟨i, rfl⟩
  · cases (show u = Value.ref b from ry)
    obtain ⟨od', J'⟩ := inst_of I hb'
    exact PySem.W.binop_K hF I.ok.mod.kin J J'.type c.sf m.hs m.hf fin
  · obtain ⟨t, rfl⟩ := (show ∃ t, u = Value.int i t from ry)
    obtain ⟨fo, h1⟩ := ci.h1
    obtain ⟨ro, h2⟩ := ci.h2
    obtain ⟨g', h3⟩ := ci.hr
    exact PySem.W.ksp_binT hF I.ok.mod.kin J rfl c.sf m.hs m.hf h3 (.inr ⟨g', rfl⟩) h1 h2 c.r1 fin
/-- -x -/
def rNegC (C : Addr) (sp : Sp) (E : XK) : V → Hp → VK → Prop := fun x H Q => (∃ a dx fs, x = .ref a ∧ H a = some (.ins C dx fs)) ∧ sp [x] H Q E
theorem un_negC (m : Om X C "__neg__" g) (F : FnOk X.prog X.w X.K X.mg X.base CX k g fd ps sp) (hr : Room k X.A) (hb : Binds X.K fd ps [])
    (hx : Passes CX X E) : UnR X (unaryOp .USub) (rNegC C sp E) := by
  intro pins s σ H x v Q I rx h
  obtain ⟨⟨a, dx, fs, rfl, ha⟩, q⟩ := h
  cases (show v = Value.ref a from rx)
  obtain ⟨od, J⟩ := inst_of I ha
  obtain ⟨mm, hF⟩ := I.fr
  exact PySem.W.ksp_neg hF I.ok.mod.kin J m.hs m.hf (run_fn (us := [.ref a]) (vs := [.ref a]) (dvs := []) F hr hb .nil hx I (.cons rfl .nil) q)
theorem UnR.or {f : Value → Sem Value} {r r' : V → Hp → VK → Prop} (h : UnR X f r) (h' : UnR X f r') : UnR X f (fun x H Q => r x H Q ∨ r' x H Q) := by
  intro pins s σ H x v Q I rx q
  rcases q with q | q
  · exact h pins s σ H x v Q I rx q
  · exact h' pins s σ H x v Q I rx q
end
end Am
/-! promises of defs that are run where no repr is under way (A.guards = some []): such a def may ask repr of its own objects -/
namespace Gu
open PySem PySem.Spec PyProof.Rows L2
structure FnG (P : Program) (w : World) (K : PySem.W.Frag) (mg : Str → Option Value) (base : Heap) (CX : CXT) (k : Nat) (f : Addr) (fd : FuncData) (ps : List Str) (sp : Sp) : Prop where
  len : ∀ vs H Q E, sp vs H Q E → vs.length = ps.length
  go : ∀ (A : Around) (out : List Env) (s : Shared) (H : Hp) (args : Args) (us : List Value) (vs : List V) (Q : VK) (E : XK), Room k A → A.guards = some [] → Env0 P w K mg base A out s H →
    BindsTo s fd args (ps.zip us) → Vals vs us → sp vs H Q E → codeAny (model P w) A (.call (.ref f) args) (CR CX out P w H s Q E) s
section
variable {P : Program} {w : World} {K : PySem.W.Frag} {mg : Str → Option Value} {base : Heap} {CX : CXT} {k : Nat} {f : Addr} {fd : FuncData} {N ps : List Str} {sp : Sp}
theorem FnG.of (F : FnOk P w K mg base CX k f fd ps sp) : FnG P w K mg base CX k f fd ps sp :=
  ⟨F.len, fun A out s H args us vs Q E hr _ => F.run A out s H args us vs Q E hr⟩
/-- a def by its body, where nothing is guarded -/
theorem okG {x qual : Str} {st : Stmt} (F : Fun K x qual st f fd) (S : FnScope N ps (defScope st)) (len : ∀ vs H Q E, sp vs H Q E → vs.length = ps.length)
    (body : ∀ (cdv : Value) (A : Around) (out : List Env) (s : Shared) (H : Hp) (vs : List V) (Q : VK) (E : XK), A.guards = some [] → Room k (A.deeper (envOfC qual (defScope st) s.heap.objs.size f cdv)) → sp vs H Q E →
      ∃ t, PSs (cxOf CX P w K mg base N qual (defScope st) f cdv A out s H E) (defBody st) t ∧ t { nx := fun _ H' => Q .non H', rt := Q } (start N vs) H) : FnG P w K mg base CX (k + 1) f fd ps sp := by
  obtain ⟨oc, od, kV, doc, pm, an, cdv, ct, osl, rfl, at_, code⟩ := F.ex
  constructor
  · exact len
  intro A out s H args us vs Q E room free e0 bind rel want
  have n1 := len _ _ _ _ want
  have inK : K.In s.heap := e0.mod.kin.keeps (fun b o z => (e0.bs b o z).1)
  have noLim : s.heap.NoLimit := e0.mod.nolimit.keeps (fun b o z => (e0.bs b o z).1)
  have kinds : ∀ y ∈ ps.zip us, (defScope st).names.lookup y.1 = some .local ∨ ((defScope st).names.lookup y.1 = some .cell ∧ ((cellsFrom (s.heap.objs.size + 1) (defScope st).names []).lookup y.1).isSome = true) := by
    rintro ⟨n, v⟩ hy
    exact (S.par n (List.of_mem_zip hy).1).imp id fun q => ⟨q, PySem.W.cellsFrom_some _ _ _ (.inl q)⟩
  apply codeAny_call_function room.depth (inK _ _ at_) rfl S.co S.gen rfl (PySem.W.codeRec_of inK code) (bind _ _ _ _ _)
  apply wpAny_newFunctionEnv_cells S.kind kinds
  intro env he s1 x
  subst he
  refine ⟨noLim.keeps x.toInCall.keep, codeAny_func ?_⟩
  obtain ⟨t, run, go⟩ := body cdv A out s H vs Q E free (room.deeper _) want
  have I := inv_start (CX := CX) (E := E) S room.hd e0 n1 rel x
  apply wpAny_mono (run.run [] s1 (start N vs) H _ I go)
  · intro fl s' q
    match fl, q with
    | .ret u, ⟨v, σ', H', J, rv, qv⟩ => exact ⟨v, H', J.os, J.bare, J.base, J.hok, rv, qv⟩
    | .next, ⟨σ', H', J, qv⟩ => exact ⟨.non, H', J.os, J.bare, J.base, J.hok, rfl, qv⟩
    | .brk, ⟨_, _, _, z⟩ => exact z.elim
    | .cont, ⟨_, _, _, z⟩ => exact z.elim
  · exact fun _ _ z => z
/-- the same where nothing is let out -/
theorem okG0 {x qual : Str} {st : Stmt} (F : Fun K x qual st f fd) (S : FnScope N ps (defScope st)) (len : ∀ vs H Q E, sp vs H Q E → vs.length = ps.length)
    (body : ∀ (cdv : Value) (A : Around) (out : List Env) (s : Shared) (H : Hp) (vs : List V) (Q : VK) (E : XK), A.guards = some [] → Room k (A.deeper (envOfC qual (defScope st) s.heap.objs.size f cdv)) → sp vs H Q E →
      ∃ t, PSs (cxOf CX0 P w K mg base N qual (defScope st) f cdv A out s H E).nox (defBody st) t ∧ t { nx := fun _ H' => Q .non H', rt := Q } (start N vs) H) : FnG P w K mg base CX0 (k + 1) f fd ps sp :=
  okG F S len fun cdv A out s H vs Q E free room want => let ⟨t, h, q⟩ := body cdv A out s H vs Q E free room want; ⟨t, h.nox, q⟩
end
section
variable {X : Cx} {CX : CXT} {k : Nat} {f : Addr} {fd : FuncData} {ps : List Str} {sp : Sp} {E : XK} {x : Str} {p pos : Pos} {e : Expr} {es : List Expr} {t : TA}
/-- f(e, ..): a def whose promise wants that nothing is guarded -/
theorem pe_callG (F : FnG X.prog X.w X.K X.mg X.base CX k f fd ps sp) (free : X.A.guards = some []) (hr : Room k X.A) (hg : Gl X x) (hm : X.mg x = some (.ref f)) (hk : PySem.W.keepIn X.K (.ref f) = true) (hb : Binds X.K fd ps []) (hx : Passes CX X E)
    (ha : PA X (e :: es) t) (h1 : (x == ("__debug__" : Str)) = false := by decide) (h2 : starEach (e :: es) X.env = (false, eval e X.env) :: starEach es X.env := by rfl) (h3 : (backTo pos (starEach es X.env)).any (·.1) = false := by rfl) :
    PE X (.Call (.Name x p) (e :: es) [] pos) (tCall sp [] E t) := by
  constructor
  intro pins s σ H Q I want
  refine wpAny_Call_Name_kw (ld_glob I hg hm ?_ h1)
  refine PySem.W.callWith_K (h₀ := X.base) I.ok.mod.kin hk (thn (ha.run pos pins s σ H _ I want) ?_) h2 h3
  rintro us s1 ⟨vs, H1, I1, rel, q⟩
  refine ⟨I1.kIn, wpAny_call ?_⟩
  have q' : sp vs H1 Q E := by simpa using q
  have n1 : us.length = ps.length := by rw [← rel.length]; exact F.len _ _ _ _ q'
  refine codeAny_mono (F.go X.A X.stack s1 H1 ⟨us, []⟩ us vs Q E hr free I1.env0 (by have := hb s1 us I1.kIn (by simpa using n1); simpa using this) rel q') ?_
  intro r s' z
  match r, z with
  | .error e, z => exact hx pins σ H1 s1 e s' I1 z
  | .ok (.ret u), z => exact I1.after z
end

/-- the data that a value stands for, of a heap -/
def rRepr (K : PySem.W.Frag) : List V → Hp → VK → Prop := fun xs H Q => ∃ a d, xs = [.ref a] ∧ Dp K H (.ref a) d ∧ d.showable = true ∧ d.hasDict = false ∧ d.depth ≤ 60 ∧ d.shown.length ≤ sizeLine ∧ Q (.str d.shown) H
theorem call_reprD {X : Cx} (free : X.A.guards = some []) (hu : X.A.units + 64 < cLine) : CallR X (.builtin "repr") (rRepr X.K) := by
  intro pins s σ H xs us Q I rel want
  obtain ⟨a, d, rfl, hd, sh, nd, dp, sz, q⟩ := want
  obtain ⟨u, rfl, ru⟩ := vals1 rel
  cases (show u = Value.ref a from ru)
  obtain ⟨as, r⟩ := Dp.reads I d (.ref a) _ hd rfl
  refine repr_of_reads' r sh (fun z => by rw [nd] at z; cases z) free (by omega) (fun _ _ z => z) ?_ sz
  intro h' t tk kp
  exact ⟨.str d.shown, H, I.kept kp, ⟨t, rfl⟩, q⟩
end Gu
namespace Gu
open PySem PySem.Spec PyProof.Rows L2
section
variable {P : Program} {w : World} {K : PySem.W.Frag} {mg mb : Str → Option Value} {k : Nat} {fa a : Addr} {fd : FuncData} {x : Str} {sp : Sp} {s : Shared} {vs : List Value} {ns : List Int}
/-- the script's object -/
abbrev scr (vs : List Value) : Obj := { cls := .type "list", data := .seq vs.toArray }
/-- what may be known at the law's call: nothing but the script, as it stands -/
def Bare (a : Addr) (vs : List Value) (ns : List Int) (H : Hp) : Prop := ∀ b u, H b = some u → b = a ∧ u = .frz (scr vs) (.lst (ns.map V.int))
theorem from_caller (inK : K.In s.heap) (glob : s.heap.Ns mainGlobals mg) (bi : s.heap.Ns builtinsNs mb) (hbi : ∀ x : Str, x ≠ "__name__" → mb x = bootBuiltins x) (lim : s.heap.NoLimit) (gens : s.gens = #[])
    (script : s.heap.get? a = some (scr vs)) (room : Room k callerA) (F : ∀ base : Heap, K.In base → base.Ns mainGlobals mg → FnG P w K mg base CX0 k fa fd [x] sp)
    (bind : ∀ (s : Shared) (u : Value), BindsTo s fd ⟨[u], []⟩ [(x, u)]) {H : Hp} (bare : Bare a vs ns H) (ok : HOk P w H s.heap) (off : H a ≠ none → K.lookup a = none)
    (want : sp [.ref a] H (fun v _ => v = .bl true) fun _ _ _ => False) :
    codeAny (model P w) callerA (.call (.ref fa) ⟨[.ref a], []⟩) (fun r s' => r = .ok (.ret (.bool true)) ∧ OldK s.heap s'.heap ∧ s'.os = s.os ∧ AllBare s'.gens) s := by
  -- an object whose data is a dict is not the script, so it is not known
  have apart : ∀ {b : Addr} {o : Obj} {es : Array DictEntry} {n : Nat}, s.heap.get? b = some o → o.data = .dict es n → H b = none := by
    intro b o es n e d
    cases z : H b with
    | none => rfl
    | some u =>
      obtain ⟨rfl, _⟩ := bare b u z
      rw [script] at e
      cases e
      cases (show Data.seq vs.toArray _ = Data.dict es n from d)
  have ns' : ∀ {b : Addr} {m : Str → Option Value}, s.heap.Ns b m → (hidT s.heap H).Ns b m := by
    rintro b m ⟨o, es, n, e, d, rest⟩
    exact ⟨o, es, n, hidT_get e (apart e d), d, rest⟩
  have inB : K.In (hidT s.heap H) := by
    intro b o e
    refine hidT_get (inK b o e) ?_
    cases z : H b with
    | none => rfl
    | some u =>
      obtain ⟨rfl, _⟩ := bare b u z
      rw [off (by rw [z]; exact fun q => by cases q)] at e
      cases e
  obtain ⟨mc, l1, l2⟩ := lim
  have e0 : Env0 P w K mg (hidT s.heap H) callerA [] s H := {
    frames := rfl
    mod := ⟨inB, ns' glob, ⟨mb, ns' bi, hbi⟩, ⟨mc, ns' l1, l2⟩⟩
    bs := fun b o e => of_hidT e
    bsz := Nat.le_of_eq (hidT_size _ _)
    funs := trivial
    frf := by intro b hb; cases hb
    hok := ok
    bare := .of_eq gens }
  refine codeAny_mono ((F _ inB (ns' glob)).go callerA [] s H ⟨[.ref a], []⟩ [.ref a] [.ref a] _ _ room rfl e0 (bind s (.ref a)) (.cons rfl .nil) want) ?_
  intro r s' z
  match r, z with
  | .error e, z => exact z.elim
  | .ok (.ret u), ⟨v, H', os, bare', un, ok', rv, q⟩ =>
    have q' : v = .bl true := q
    subst q'
    cases (show u = Value.bool true from rv)
    refine ⟨rfl, OldK.of_keep (fun b o e => ?_), os, bare'⟩
    cases z : H b with
    | none => exact un.keep b o e z (by intro h; cases h) (by intro h; cases h)
    | some u =>
      obtain ⟨rfl, rfl⟩ := bare b u z
      obtain ⟨e1, _⟩ := ok b _ z
      obtain ⟨e2, _⟩ := ok' b _ (un.frzs b _ _ z)
      rw [e] at e1
      cases e1
      exact e2
end
/-- the end of a law's row, from a promise of that kind -/
theorem walkG {l : PySem.W.OpenLaw} {n k : Nat} {q : Program} {loose : List Str} {XP : (Str → Option Value) → Heap → Prop} {YP : World → Heap → Prop} {d : DefRec} {K : Params → PySem.W.Frag} {sp : PySem.W.Frag → Sp} {x : Str}
    (most : l.most = some n) (small : n ≤ sizeLine) (nodef : d.params.defaults = []) (room : Room k callerA) (inK : ∀ (w : World) (h : Heap), YP w h → (K w.params).In h)
    (F : ∀ (w : World) (mg : Str → Option Value) (fa : Addr) (h : Heap), (K w.params).In h → h.Ns mainGlobals mg → mg d.name = some (.ref fa) →
      ∃ fd : FuncData, (∀ (s : Shared) (u : Value), BindsTo s fd ⟨[u], []⟩ [(x, u)]) ∧ ∀ base : Heap, (K w.params).In base → base.Ns mainGlobals mg → FnG l.prog w (K w.params) mg base CX0 k fa fd [x] (sp (K w.params)))
    (want : ∀ (K : PySem.W.Frag) (H : Hp) (a : Addr) (ns : List Int), ns.length ≤ n → SqL K H a (ns.map V.int) → sp K [.ref a] H (fun v _ => v = .bl true) fun _ _ _ => False) :
    PySem.W.WalkO q loose XP YP l.row.toRowW d [] (fun f vs => PySem.call f vs) := by
  refine Att.attach_call most nodef fun w s₀ s mg mb fa o pm cd doc a vs ns G Y ho hd hcd hmg script hints len gens => ?_
  have kin := inK w _ Y
  obtain ⟨fd, bind, hF⟩ := F w mg fa _ kin G.T.g hmg
  have rel : Vals (ns.map V.int) vs := vals_ints hints
  have small' : (ns.map V.int).length ≤ sizeLine := by rw [List.length_map]; exact Nat.le_trans len small
  have small2 : vs.toArray.size ≤ sizeLine := by rw [List.size_toArray, ← rel.length]; exact small'
  cases known : K w.params |>.lookup a with
  | some o' =>
    have e := kin a o' known
    rw [script] at e
    cases e
    refine from_caller (ns := ns) (H := fun _ => none) kin G.T.g G.T.b G.T.builtins G.T.nolimit gens script room hF bind (by intro b u z; cases z) (by intro b u z; cases z) (fun z => (z rfl).elim) ?_
    exact want _ _ a ns len (.inr ⟨_, vs.toArray, _, known, rfl, rfl, rfl, small2, by simpa using rel⟩)
  | none =>
    refine from_caller (ns := ns) (H := upd (fun _ => none) a (.frz (scr vs) (.lst (ns.map V.int)))) kin G.T.g G.T.b G.T.builtins G.T.nolimit gens script room hF bind ?_ ?_ (fun _ => known) ?_
    · intro b u z
      by_cases c : b = a
      · subst c
        rw [upd_same] at z
        exact ⟨rfl, (Option.some.inj z).symm⟩
      · rw [upd_ne c] at z
        cases z
    · intro b u z
      by_cases c : b = a
      · subst c
        rw [upd_same] at z
        cases z
        exact ⟨script, small', vs, _, rel, script⟩
      · rw [upd_ne c] at z
        cases z
    · exact want _ _ a ns len (.inl (.inr ⟨_, upd_same⟩))
end Gu
/-! the end of a law's row, from a promise of a def that may ask repr, where lambdas are made (tables of code objects) -/
namespace Gu
open PySem PySem.Spec PyProof.Rows L2
section
variable {P : Program} {w : World} {K : PySem.W.Frag} {mg mb : Str → Option Value} {k : Nat} {fa a : Addr} {fd : FuncData} {x : Str} {sp : Sp} {s : Shared} {vs : List Value} {ns : List Int} {cs : List (Addr × Addr)}
/-- known at the call: the script, as it stands, and the empty tables of cs -/
def BareT (a : Addr) (vs : List Value) (ns : List Int) (cs : List (Addr × Addr)) (H : Hp) : Prop := ∀ b u, H b = some u → (b = a ∧ u = .frz (scr vs) (.lst (ns.map V.int))) ∨ ∃ p ∈ cs, b = p.2 ∧ u = .tbl #[]
theorem from_callerT (inK : K.In s.heap) (glob : s.heap.Ns mainGlobals mg) (bi : s.heap.Ns builtinsNs mb) (hbi : ∀ x : Str, x ≠ "__name__" → mb x = bootBuiltins x) (lim : s.heap.NoLimit) (gens : s.gens = #[])
    (tabs : ∀ p ∈ cs, s.heap.get? p.2 = some (PySem.W.tabObj #[])) (offT : ∀ p ∈ cs, K.lookup p.2 = none) (heads : ∀ p ∈ cs, PySem.W.CodeHd s.heap p.1 p.2)
    (bmain : ∃ (bm : Addr) (ob : Obj), mg "__builtins__" = some (.ref bm) ∧ bm ≠ builtinsNs ∧ s.heap.get? bm = some ob ∧ ob.cls = .type "module" ∧ ob.dict = some builtinsNs ∧ ob.data = .plain)
    (script : s.heap.get? a = some (scr vs)) (room : Room k callerA) (F : ∀ base : Heap, K.In base → base.Ns mainGlobals mg → (∀ p ∈ cs, LamX.TabB base mg p.1 p.2) → FnG P w K mg base CX0 k fa fd [x] sp)
    (bind : ∀ (s : Shared) (u : Value), BindsTo s fd ⟨[u], []⟩ [(x, u)]) {H : Hp} (bare : BareT a vs ns cs H) (known : ∀ p ∈ cs, H p.2 = some (.tbl #[])) (ok : HOk P w H s.heap) (off : H a ≠ none → K.lookup a = none)
    (want : sp [.ref a] H (fun v _ => v = .bl true) fun _ _ _ => False) :
    codeAny (model P w) callerA (.call (.ref fa) ⟨[.ref a], []⟩) (fun r s' => r = .ok (.ret (.bool true)) ∧ OldK s.heap s'.heap ∧ s'.os = s.os ∧ AllBare s'.gens) s := by
  -- neither a list nor an empty table: not known
  have apart : ∀ {b : Addr} {o : Obj}, s.heap.get? b = some o → (∀ z n, o.data ≠ .seq z n) → o.data ≠ .fields #[] → H b = none := by
    intro b o e noSeq noTab
    cases z : H b with
    | none => rfl
    | some u =>
      rcases bare b u z with ⟨rfl, _⟩ | ⟨p, hp, rfl, _⟩
      · rw [script] at e
        cases e
        exact (noSeq _ _ rfl).elim
      · rw [tabs p hp] at e
        cases e
        exact (noTab rfl).elim
  have hid : ∀ {b : Addr} {o : Obj}, s.heap.get? b = some o → (∀ z n, o.data ≠ .seq z n) → o.data ≠ .fields #[] → (hidT s.heap H).get? b = some o := fun e n1 n2 => hidT_get e (apart e n1 n2)
  have space : ∀ {b : Addr} {m : Str → Option Value}, s.heap.Ns b m → (hidT s.heap H).Ns b m := by
    rintro b m ⟨o, es, n, e, d, more⟩
    exact ⟨o, es, n, hid e (fun _ _ q => by rw [d] at q; cases q) (fun q => by rw [d] at q; cases q), d, more⟩
  have inB : K.In (hidT s.heap H) := by
    intro b o e
    refine hidT_get (inK b o e) ?_
    cases z : H b with
    | none => rfl
    | some u =>
      rcases bare b u z with ⟨rfl, _⟩ | ⟨p, hp, rfl, _⟩
      · rw [off (by rw [z]; exact fun q => by cases q)] at e
        cases e
      · rw [offT p hp] at e
        cases e
  have tables : ∀ p ∈ cs, LamX.TabB (hidT s.heap H) mg p.1 p.2 := by
    intro p hp
    have tp := tabs p hp
    constructor
    case code =>
      obtain ⟨o, us, file, tf, fl, tg, fn, tx, tt, e, c1, c2, c3, more⟩ := heads p hp
      refine ⟨o, us, file, tf, fl, tg, fn, tx, tt, hid e (fun _ _ q => ?_) (fun q => ?_), c1, c2, c3, more⟩
      · rw [c2] at q; cases q
      · rw [c2] at q
        cases q
        simp at c3
    case bm =>
      obtain ⟨bm, ob, m1, m2, m3, m4, m5, m6⟩ := bmain
      have notDict : bm ≠ mainGlobals := by
        rintro rfl
        obtain ⟨o, es, n, e, d, _⟩ := glob
        rw [m3] at e
        cases e
        rw [m6] at d
        cases d
      have notTab : bm ≠ p.2 := by
        rintro rfl
        rw [tp] at m3
        cases m3
        cases m6
      exact ⟨bm, ob, m1, m2, notDict, notTab, hid m3 (fun _ _ q => by rw [m6] at q; cases q) (fun q => by rw [m6] at q; cases q), m4, m5, m6⟩
    case gP =>
      intro q
      obtain ⟨o, es, n, e, d, _⟩ := glob
      rw [q, tp] at e
      cases e
      cases d
  obtain ⟨mc, l1, l2⟩ := lim
  have e0 : Env0 P w K mg (hidT s.heap H) callerA [] s H := {
    frames := rfl
    mod := ⟨inB, space glob, ⟨mb, space bi, hbi⟩, ⟨mc, space l1, l2⟩⟩
    bs := fun b o e => of_hidT e
    bsz := Nat.le_of_eq (hidT_size _ _)
    funs := trivial
    frf := by intro b hb; cases hb
    hok := ok
    bare := .of_eq gens }
  refine codeAny_mono ((F _ inB (space glob) tables).go callerA [] s H ⟨[.ref a], []⟩ [.ref a] [.ref a] _ _ room rfl e0 (bind s (.ref a)) (.cons rfl .nil) want) ?_
  intro r s' z
  match r, z with
  | .error e, z => exact z.elim
  | .ok (.ret u), ⟨v, H', os, bare', un, ok', rv, q⟩ =>
    have q' : v = .bl true := q
    subst q'
    cases (show u = Value.bool true from rv)
    have still : ∀ b o, s.heap.get? b = some o → s'.heap.get? b = some o ∨ ∃ p ∈ cs, b = p.2 ∧ ∃ more : Array Value, s'.heap.get? p.2 = some (PySem.W.tabObj more) := by
      intro b o e
      cases z : H b with
      | none => exact .inl (un.keep b o e z (by intro h; cases h) (by intro h; cases h))
      | some u =>
        rcases bare b u z with ⟨rfl, rfl⟩ | ⟨p, hp, rfl, rfl⟩
        · obtain ⟨e1, _⟩ := ok b _ z
          obtain ⟨e2, _⟩ := ok' b _ (un.frzs b _ _ z)
          rw [e] at e1
          cases e1
          exact .inl e2
        · obtain ⟨more, grown⟩ := un.tbls p.2 _ z
          exact .inr ⟨p, hp, rfl, _, ok' p.2 _ grown⟩
    refine ⟨rfl, ⟨fun b o e => ?_, fun b o e => ?_⟩, os, bare'⟩
    · rcases still b o e with k | ⟨p, hp, rfl, more, g⟩
      · exact .inl k
      · rw [tabs p hp] at e
        cases e
        refine .inr (.inl ⟨((heads p hp).tab (tabs p hp)).isCodeTable, rfl, #[], more, rfl, ?_⟩)
        rw [Array.empty_append]
        exact g
    · rcases still b o e with k | ⟨p, hp, rfl, more, g⟩
      · exact ⟨_, k⟩
      · exact ⟨_, g⟩
end
/-- the end of a law's row, with tables -/
theorem walkGT {l : PySem.W.OpenLaw} {n k : Nat} {q : Program} {loose : List Str} {XP : (Str → Option Value) → Heap → Prop} {YP : World → Heap → Prop} {d : DefRec} {K : Params → PySem.W.Frag} {x : Str}
    (most : l.most = some n) (small : n ≤ sizeLine) (nodef : d.params.defaults = []) (room : Room k callerA) (inK : ∀ (w : World) (h : Heap), YP w h → (K w.params).In h)
    (F : ∀ (w : World) (mg : Str → Option Value) (fa : Addr) (h : Heap), YP w h → (∀ (y : Str) (b : Addr), ((recsOf q).any fun e => e.name == y) = true → mg y = some (.ref b) → LamX.OwnTab (K w.params) b h) → (K w.params).In h → h.Ns mainGlobals mg → mg d.name = some (.ref fa) →
      ∃ (fd : FuncData) (cs : List (Addr × Addr)) (sp : Sp), (∀ p ∈ cs, h.get? p.2 = some (PySem.W.tabObj #[])) ∧ (∀ p ∈ cs, (K w.params).lookup p.2 = none) ∧ (∀ p ∈ cs, PySem.W.CodeHd h p.1 p.2) ∧ (∀ (s : Shared) (u : Value), BindsTo s fd ⟨[u], []⟩ [(x, u)]) ∧
        (∀ (H : Hp) (a : Addr) (ns : List Int), ns.length ≤ n → (∀ p ∈ cs, H p.2 = some (.tbl #[])) → SqL (K w.params) H a (ns.map V.int) → sp [.ref a] H (fun v _ => v = .bl true) fun _ _ _ => False) ∧
        ∀ base : Heap, (K w.params).In base → base.Ns mainGlobals mg → (∀ p ∈ cs, LamX.TabB base mg p.1 p.2) → FnG l.prog w (K w.params) mg base CX0 k fa fd [x] sp) :
    PySem.W.WalkO q loose XP YP l.row.toRowW d [] (fun f vs => PySem.call f vs) := by
  refine Att.attach_call most nodef fun w s₀ s mg mb fa o pm cd doc a vs ns G Y ho hd hcd hmg script hints len gens => ?_
  have kin := inK w _ Y
  have own : ∀ (y : Str) (b : Addr), ((recsOf q).any fun e => e.name == y) = true → mg y = some (.ref b) → LamX.OwnTab (K w.params) b s.heap := by
    intro y b hy hb c P o1 fd1 e dd vs1 sl k1 k2 k3 k4 k5
    obtain ⟨dL, hm, hn1⟩ := List.any_eq_true.mp hy
    have hn2 : dL.name = y := beq_iff_eq.mp hn1
    obtain ⟨a', o', fd', c', P', h1, h2, h3, h4, h5, h6⟩ := G.T.tab dL hm
    rw [hn2, hb] at h1
    cases h1
    have g1 := kin _ _ k1
    rw [g1] at h2
    cases h2
    rw [k2] at h3
    cases h3
    rw [k3] at h4
    cases h4
    obtain ⟨⟨oc, vc, e1, _, e3, e4⟩, hP⟩ := h6
    have g2 := kin _ _ k4
    rw [g2] at e1
    cases e1
    cases e3
    rw [k5] at e4
    cases e4
    exact hP
  obtain ⟨fd, cs, sp, tabs, offT, heads, bind, want, hF⟩ := F w mg fa _ Y own kin G.T.g hmg
  have rel : Vals (ns.map V.int) vs := vals_ints hints
  have small' : (ns.map V.int).length ≤ sizeLine := by rw [List.length_map]; exact Nat.le_trans len small
  have small2 : vs.toArray.size ≤ sizeLine := by rw [List.size_toArray, ← rel.length]; exact small'
  have aT : ∀ p ∈ cs, p.2 ≠ a := by
    rintro p hp rfl
    have e := tabs p hp
    rw [script] at e
    cases e
  let T : Hp := fun b => if b ∈ cs.map (·.2) then some (.tbl #[]) else none
  have inT : ∀ p ∈ cs, T p.2 = some (.tbl #[]) := fun p hp => if_pos (List.mem_map_of_mem hp)
  have ofT : ∀ b u, T b = some u → ∃ p ∈ cs, b = p.2 ∧ u = .tbl #[] := by
    intro b u e
    by_cases c : b ∈ cs.map (·.2)
    · obtain ⟨p, hp, rfl⟩ := List.mem_map.mp c
      rw [inT p hp] at e
      cases e
      exact ⟨p, hp, rfl, rfl⟩
    · rw [show T b = none from if_neg c] at e
      cases e
  have Ta : T a = none := by
    refine if_neg fun c => ?_
    obtain ⟨p, hp, e⟩ := List.mem_map.mp c
    exact aT p hp e
  cases known : K w.params |>.lookup a with
  | some o' =>
    have e := kin a o' known
    rw [script] at e
    cases e
    refine from_callerT (ns := ns) (H := T) kin G.T.g G.T.b G.T.builtins G.T.nolimit gens tabs offT heads G.T.bmain script room hF bind (fun b u z => .inr (ofT b u z)) inT ?_ (fun z => (z Ta).elim) ?_
    · intro b u z
      obtain ⟨p, hp, rfl, rfl⟩ := ofT b u z
      exact tabs p hp
    · exact want _ a ns len inT (.inr ⟨_, vs.toArray, _, known, rfl, rfl, rfl, small2, by simpa using rel⟩)
  | none =>
    refine from_callerT (ns := ns) (H := upd T a (.frz (scr vs) (.lst (ns.map V.int)))) kin G.T.g G.T.b G.T.builtins G.T.nolimit gens tabs offT heads G.T.bmain script room hF bind ?_ ?_ ?_ (fun _ => known) ?_
    · intro b u z
      by_cases c : b = a
      · subst c
        rw [upd_same] at z
        exact .inl ⟨rfl, (Option.some.inj z).symm⟩
      · rw [upd_ne c] at z
        exact .inr (ofT b u z)
    · exact fun p hp => (upd_ne (aT p hp)).trans (inT p hp)
    · intro b u z
      by_cases c : b = a
      · subst c
        rw [upd_same] at z
        cases z
        exact ⟨script, small', vs, _, rel, script⟩
      · rw [upd_ne c] at z
        obtain ⟨p, hp, rfl, rfl⟩ := ofT b u z
        exact tabs p hp
    · exact want _ a ns len (fun p hp => (upd_ne (aT p hp)).trans (inT p hp)) (.inl (.inr ⟨_, upd_same⟩))
end Gu
/-! the head by one kernel run, where lambdas are made: the empty tables of code objects are no part of what is told -/
namespace Hk
open PySem PySem.Spec PyProof.Rows L2
def emptyT (o : Obj) : Bool := match o.data with
  | .fields vs => vs.size == 0
  | _ => false
def frT (g : Addr → Option Obj) (as : List Addr) : PySem.W.Frag := He.frG (fun a => match g a with
  | some o => if emptyT o then none else some o
  | none => none) as
theorem frT_in {as : List Addr} {h : Heap} : (frT h.get? as).In h := by
  intro a o e
  have z : (match h.get? a with
    | some o => if emptyT o then none else some o
    | none => none) = some o := He.frG_at as e
  split at z
  · rename_i o2 e2
    split at z
    · cases z
    · cases z
      exact e2
  · cases z
def hookT (as : List Addr) (xb : PySem.W.Frag → Bool) (fn : List DefY) : PySem.W.Hook where
  α := AlY
  obs := fun s => obsY xb fn (frT s.heap.get? as)
  val := fun _ => valY fn
  says := fun _ h => ∃ K : PySem.W.Frag, K.In h ∧ SaysY xb fn K
  of := fun _ _ e => ⟨_, frT_in, ⟨e⟩⟩
  keeps := fun _ _ _ ⟨K, hK, c⟩ k => ⟨K, PySem.W.Frag.In.keeps hK k, c⟩
def obT (as : List Addr) (xb : PySem.W.Frag → Bool) (fn : List DefY) (s : PySem.W.SharedT) : AlY := obsY xb fn (frT (HandSHeadRun.getT s) as)
theorem obT_eq {as : List Addr} {xb : PySem.W.Frag → Bool} {fn : List DefY} (s : PySem.W.SharedT) : obT as xb fn s = (hookT as xb fn).obs s.abs := by
  have e : HandSHeadRun.getT s = s.abs.heap.get? := funext (HandSHeadRun.getT_eq s)
  unfold obT
  rw [e] <;> rfl
/-- a def whose code object has a table that is not told -/
def lamB (K : PySem.W.Frag) (f : Addr) : Bool := match K.lookup f with
  | some ob => (match ob.data with
    | .func v => (match v.code with
      | .ref c => (match K.lookup c with
        | some o2 => (match o2.data with
          | .fields vs => (match vs[11]? with
            | some (Value.ref P) => PySem.W.codeHdIn K c P && (K.lookup P).isNone
            | _ => false)
          | _ => false)
        | none => false)
      | _ => false)
    | _ => false)
  | none => false
theorem lam_ok {K : PySem.W.Frag} {x q : Str} {st : Stmt} {f : Addr} {fd : FuncData} (F : Fun K x q st f fd) (b : lamB K f = true) : ∃ (c P : Addr) (oc : Value) (od : Option Addr) (kV doc pm : Value) (an : Option Addr) (ct : Value) (osl : Array (Option Value)),
    fd = PySem.W.fnOf x q (defArgs st) (defBody st) (defScope st) .none kV doc pm an (.ref c) ct ∧ K.lookup f = some ⟨oc, od, .func fd, osl⟩ ∧ PySem.W.codeIn K (.ref c) q = true ∧
    (∃ (e : Value) (dd : Option Addr) (vs : Array Value) (sl : Array (Option Value)), K.lookup c = some ⟨e, dd, .fields vs, sl⟩ ∧ vs[11]? = some (.ref P)) ∧ PySem.W.codeHdIn K c P = true ∧ K.lookup P = none := by
  obtain ⟨oc, od, kV, doc, pm, an, cdv, ct, osl, rfl, lk, hcd⟩ := F.ex
  unfold lamB at b
  rw [lk] at b
  cases cdv with
  | ref c =>
    have b1 : (match K.lookup c with
        | some o2 => (match o2.data with
          | .fields vs => (match vs[11]? with
            | some (Value.ref P) => PySem.W.codeHdIn K c P && (K.lookup P).isNone
            | _ => false)
          | _ => false)
        | none => false) = true := b
    split at b1
    · rename_i o2 e2
      split at b1
      · rename_i vs e3
        split at b1
        · rename_i P e4
          obtain ⟨h1, h2⟩ := Bool.and_eq_true_iff.mp b1
          obtain ⟨z1, z2, z3, z4⟩ := o2
          cases (show z3 = Data.fields vs from e3)
          exact ⟨c, P, oc, od, kV, doc, pm, an, ct, osl, rfl, lk, hcd, ⟨z1, z2, vs, z4, e2, e4⟩, h1, Option.isNone_iff_eq_none.mp h2⟩
        · cases b1
      · cases b1
    · cases b1
  | _ => exact absurd b Bool.false_ne_true
/-- the end of a law's row, with tables, over a part that the Hook found -/
theorem walkGTE {l : PySem.W.OpenLaw} {n k : Nat} {q : Program} {loose : List Str} {XP : (Str → Option Value) → Heap → Prop} {YP : World → Heap → Prop} {d : DefRec} {x : Str}
    (most : l.most = some n) (small : n ≤ sizeLine) (nodef : d.params.defaults = []) (room : Room k callerA)
    (F : ∀ (w : World) (mg : Str → Option Value) (fa : Addr) (h : Heap), YP w h → (∀ K : PySem.W.Frag, K.In h → ∀ (y : Str) (b : Addr), ((recsOf q).any fun e => e.name == y) = true → mg y = some (.ref b) → LamX.OwnTab K b h) → h.Ns mainGlobals mg → mg d.name = some (.ref fa) →
      ∃ (K : PySem.W.Frag) (fd : FuncData) (cs : List (Addr × Addr)) (sp : Sp), K.In h ∧ (∀ p ∈ cs, h.get? p.2 = some (PySem.W.tabObj #[])) ∧ (∀ p ∈ cs, K.lookup p.2 = none) ∧ (∀ p ∈ cs, PySem.W.CodeHd h p.1 p.2) ∧ (∀ (s : Shared) (u : Value), BindsTo s fd ⟨[u], []⟩ [(x, u)]) ∧
        (∀ (H : Hp) (a : Addr) (ns : List Int), ns.length ≤ n → (∀ p ∈ cs, H p.2 = some (.tbl #[])) → SqL K H a (ns.map V.int) → sp [.ref a] H (fun v _ => v = .bl true) fun _ _ _ => False) ∧
        ∀ base : Heap, K.In base → base.Ns mainGlobals mg → (∀ p ∈ cs, LamX.TabB base mg p.1 p.2) → Gu.FnG l.prog w K mg base CX0 k fa fd [x] sp) :
    PySem.W.WalkO q loose XP YP l.row.toRowW d [] (fun f vs => PySem.call f vs) := by
  refine Att.attach_call most nodef fun w s₀ s mg mb fa o pm cd doc a vs ns G Y ho hd hcd hmg script hints len gens => ?_
  have own : ∀ K : PySem.W.Frag, K.In s.heap → ∀ (y : Str) (b : Addr), ((recsOf q).any fun e => e.name == y) = true → mg y = some (.ref b) → LamX.OwnTab K b s.heap := by
    intro K kin
    intro y b hy hb c P o1 fd1 e dd vs1 sl k1 k2 k3 k4 k5
    obtain ⟨dL, hm, hn1⟩ := List.any_eq_true.mp hy
    have hn2 : dL.name = y := beq_iff_eq.mp hn1
    obtain ⟨a', o', fd', c', P', h1, h2, h3, h4, h5, h6⟩ := G.T.tab dL hm
    rw [hn2, hb] at h1
    cases h1
    have g1 := kin _ _ k1
    rw [g1] at h2
    cases h2
    rw [k2] at h3
    cases h3
    rw [k3] at h4
    cases h4
    obtain ⟨⟨oc, vc, e1, _, e3, e4⟩, hP⟩ := h6
    have g2 := kin _ _ k4
    rw [g2] at e1
    cases e1
    cases e3
    rw [k5] at e4
    cases e4
    exact hP
  obtain ⟨K, fd, cs, sp, kin, tabs, offT, heads, bind, want, hF⟩ := F w mg fa _ Y own G.T.g hmg
  have rel : Vals (ns.map V.int) vs := vals_ints hints
  have small' : (ns.map V.int).length ≤ sizeLine := by rw [List.length_map]; exact Nat.le_trans len small
  have small2 : vs.toArray.size ≤ sizeLine := by rw [List.size_toArray, ← rel.length]; exact small'
  have aT : ∀ p ∈ cs, p.2 ≠ a := by
    rintro p hp rfl
    have e := tabs p hp
    rw [script] at e
    cases e
  let T : Hp := fun b => if b ∈ cs.map (·.2) then some (.tbl #[]) else none
  have inT : ∀ p ∈ cs, T p.2 = some (.tbl #[]) := fun p hp => if_pos (List.mem_map_of_mem hp)
  have ofT : ∀ b u, T b = some u → ∃ p ∈ cs, b = p.2 ∧ u = .tbl #[] := by
    intro b u e
    by_cases c : b ∈ cs.map (·.2)
    · obtain ⟨p, hp, rfl⟩ := List.mem_map.mp c
      rw [inT p hp] at e
      cases e
      exact ⟨p, hp, rfl, rfl⟩
    · rw [show T b = none from if_neg c] at e
      cases e
  have Ta : T a = none := by
    refine if_neg fun c => ?_
    obtain ⟨p, hp, e⟩ := List.mem_map.mp c
    exact aT p hp e
  cases known : K.lookup a with
  | some o' =>
    have e := kin a o' known
    rw [script] at e
    cases e
    refine Gu.from_callerT (ns := ns) (H := T) kin G.T.g G.T.b G.T.builtins G.T.nolimit gens tabs offT heads G.T.bmain script room hF bind (fun b u z => .inr (ofT b u z)) inT ?_ (fun z => (z Ta).elim) ?_
    · intro b u z
      obtain ⟨p, hp, rfl, rfl⟩ := ofT b u z
      exact tabs p hp
    · exact want _ a ns len inT (.inr ⟨_, vs.toArray, _, known, rfl, rfl, rfl, small2, by simpa using rel⟩)
  | none =>
    refine Gu.from_callerT (ns := ns) (H := upd T a (.frz (Gu.scr vs) (.lst (ns.map V.int)))) kin G.T.g G.T.b G.T.builtins G.T.nolimit gens tabs offT heads G.T.bmain script room hF bind ?_ ?_ ?_ (fun _ => known) ?_
    · intro b u z
      by_cases c : b = a
      · subst c
        rw [upd_same] at z
        exact .inl ⟨rfl, (Option.some.inj z).symm⟩
      · rw [upd_ne c] at z
        exact .inr (ofT b u z)
    · exact fun p hp => (upd_ne (aT p hp)).trans (inT p hp)
    · intro b u z
      by_cases c : b = a
      · subst c
        rw [upd_same] at z
        cases z
        exact ⟨script, small', vs, _, rel, script⟩
      · rw [upd_ne c] at z
        obtain ⟨p, hp, rfl, rfl⟩ := ofT b u z
        exact tabs p hp
    · exact want _ a ns len (fun p hp => (upd_ne (aT p hp)).trans (inT p hp)) (.inl (.inr ⟨_, upd_same⟩))
end Hk
namespace Am
open PySem PySem.Spec PyProof.Rows L2
def top (i : Nat) : Stmt := PySem.Challenge.pw_whoseuse_k14_numbers_compared.main.body.getD i (.Pass ⟨0, 0, 0, 0⟩)
abbrev sF__wall : Stmt := top 0
abbrev sInitE : Stmt := inClass (top 2) 0
abbrev sWhole : Stmt := top 13
abbrev sIsName : Stmt := top 14
abbrev sDec : Stmt := top 15
abbrev sAsc : Stmt := top 16
abbrev sClimbs : Stmt := top 17
abbrev sF_is_meter : Stmt := top 19
abbrev sF_is_morning : Stmt := top 20
abbrev sF_is_reading : Stmt := top 21
abbrev sNumbers_init : Stmt := inClass (top 24) 0
abbrev sNumbers_house : Stmt := inClass (top 24) 1
abbrev sNumbers_rows : Stmt := inClass (top 24) 2
abbrev sNumbers_stretches : Stmt := inClass (top 24) 3
abbrev sNumbers_put : Stmt := inClass (top 24) 4
abbrev sNumbers_only : Stmt := inClass (top 24) 5
abbrev sNumbers_without : Stmt := inClass (top 24) 6
abbrev sNumbers_getitem : Stmt := inClass (top 24) 7
abbrev sNumbers_iter : Stmt := inClass (top 24) 8
abbrev sNumbers_contains : Stmt := inClass (top 24) 9
abbrev sNumbers_len : Stmt := inClass (top 24) 10
abbrev sNumbers_eq : Stmt := inClass (top 24) 11
abbrev sNumbers_le : Stmt := inClass (top 24) 12
abbrev sNumbers_lt : Stmt := inClass (top 24) 13
abbrev sNumbers_ge : Stmt := inClass (top 24) 14
abbrev sNumbers_gt : Stmt := inClass (top 24) 15
abbrev sNumbers_check : Stmt := inClass (top 24) 16
abbrev sF_are_rows : Stmt := top 25
abbrev sF_is_row : Stmt := top 26
abbrev sF_is_row_morning : Stmt := top 27
abbrev sF_is_number : Stmt := top 28
abbrev sF_are_places : Stmt := top 29
abbrev sF_holds_all : Stmt := top 30
abbrev sF_stretches_of : Stmt := top 31
abbrev sHInit : Stmt := inClass (top 35) 0
abbrev sHText : Stmt := inClass (top 35) 1
abbrev sHLives : Stmt := inClass (top 35) 2
abbrev sHRoom : Stmt := inClass (top 35) 3
abbrev sHPrice : Stmt := inClass (top 35) 4
abbrev sHIsUse : Stmt := inClass (top 35) 5
abbrev sHEq : Stmt := inClass (top 35) 6
abbrev sHIsPlace : Stmt := inClass (top 35) 7
abbrev sHIsDay : Stmt := inClass (top 35) 8
abbrev sHIsPU : Stmt := inClass (top 35) 9
abbrev sDrInit : Stmt := inClass (top 36) 0
abbrev sDrTake : Stmt := inClass (top 36) 1
abbrev sDrDays : Stmt := inClass (top 36) 2
abbrev sDrPlace : Stmt := inClass (top 36) 3
abbrev sDrPrice : Stmt := inClass (top 36) 4
abbrev sDrStay : Stmt := inClass (top 36) 5
abbrev sDrHasP : Stmt := inClass (top 36) 6
abbrev sDrHasF : Stmt := inClass (top 36) 7
abbrev sDrIsLet : Stmt := inClass (top 36) 8
abbrev sDrafted : Stmt := top 37
abbrev sTenants : Stmt := top 38
abbrev sPricesOf : Stmt := top 39
abbrev sJar : Stmt := top 41
abbrev sTake : Stmt := top 42
abbrev sOf : Stmt := top 43
abbrev sL_places : Stmt := top 44
abbrev sL_stays : Stmt := top 45
abbrev sL_meters : Stmt := top 46
abbrev sL_ordered : Stmt := top 47
abbrev sL_titles : Stmt := top 48
abbrev sL_many_uses : Stmt := top 49
abbrev sL_prices : Stmt := top 50
abbrev sL_small : Stmt := top 51
abbrev sL_page : Stmt := top 52
abbrev sL_is_covered : Stmt := top 53
abbrev sL_a_use : Stmt := top 54
abbrev sL_units : Stmt := top 55
abbrev sL_seats : Stmt := top 56
abbrev sL_read : Stmt := top 57
abbrev sL_misread : Stmt := top 58
abbrev sL_any_rows : Stmt := top 59
abbrev sL_heard : Stmt := top 60
abbrev sL_other_rows : Stmt := top 61
abbrev sL_compared : Stmt := top 62
abbrev sL_right : Stmt := top 63
abbrev sLaw : Stmt := top 64
end Am
/-! the row's head: the facts as Bools, the one run -/
namespace Ds
open PySem PySem.Spec PyProof.Rows L2 Am
def abc0 : Str := "abcdefghijklmnopqrstuvwxyz"
def bs0 (K : PySem.W.Frag) : Bool := (decide (PySem.W.nsIn K mainGlobals "House" = some (some (.ref (He.ga K "House")))) && (decide (PySem.W.nsIn K mainGlobals "Draft" = some (some (.ref (He.ga K "Draft")))) && (decide (PySem.W.nsIn K mainGlobals "Numbers" = some (some (.ref (He.ga K "Numbers")))) && (decide (PySem.W.nsIn K mainGlobals "OtherHouse" = some (some (.ref (He.ga K "OtherHouse")))) && (decide (PySem.W.nsIn K mainGlobals "MeterError" = some (some (.ref (He.ga K "MeterError")))) && (decide (PySem.W.nsIn K mainGlobals "len" = some none) && (decide (PySem.W.nsIn K mainGlobals "abs" = some none) && (decide (PySem.W.nsIn K mainGlobals "int" = some none) && (decide (PySem.W.nsIn K mainGlobals "max" = some none) && (decide (PySem.W.nsIn K mainGlobals "min" = some none) && (decide (PySem.W.nsIn K mainGlobals "range" = some none) && (decide (PySem.W.nsIn K mainGlobals "all" = some none) && (decide (PySem.W.nsIn K mainGlobals "repr" = some none) && (decide (PySem.W.nsIn K mainGlobals "isinstance" = some none) && (decide (PySem.W.nsIn K mainGlobals "bool" = some none) && (decide (PySem.W.nsIn K mainGlobals "str" = some none) && (decide (PySem.W.nsIn K mainGlobals "any" = some none) && (decide (PySem.W.nsIn K mainGlobals "tuple" = some none) && (decide (PySem.W.nsIn K mainGlobals "sorted" = some none) && (decide (PySem.W.nsIn K mainGlobals "enumerate" = some none) && (decide (PySem.W.nsIn K mainGlobals "zip" = some none) && (decide (PySem.W.nsIn K mainGlobals "sum" = some none) && (decide (PySem.W.nsIn K mainGlobals "list" = some none) && decide (PySem.W.nsIn K mainGlobals "dict" = some none))))))))))))))))))))))))
def bs1 (K : PySem.W.Frag) : Bool := (decide (PySem.W.plainGet K (He.ga K "House") Str.empty = true) && (decide (PySem.W.hasDictIn K (He.ga K "House") = true) && (decide (PySem.W.plainOver K (He.ga K "House") = true) && (decide (PySem.W.findIn K (.ref (He.ga K "House")) "__setattr__" = some (some (.builtin "object.__setattr__"))) && (decide (PySem.W.makesIn K (He.ga K "House") = true) && (decide (PySem.W.keepIn K (.ref (He.ga K "House")) = true) && (decide (PySem.W.findIn K (.ref (He.ga K "House")) "_text" = some none) && (decide (PySem.W.findIn K (.ref (He.ga K "House")) "days" = some none) && (decide (PySem.W.findIn K (.ref (He.ga K "House")) "flats" = some none) && (decide (PySem.W.findIn K (.ref (He.ga K "House")) "meters" = some none) && (decide (PySem.W.findIn K (.ref (He.ga K "House")) "people" = some none) && (decide (PySem.W.findIn K (.ref (He.ga K "House")) "_rooms" = some none) && (decide (PySem.W.findIn K (.ref (He.ga K "House")) "_tenants" = some none) && (decide (PySem.W.findIn K (.ref (He.ga K "House")) "_prices" = some none) && (decide (PySem.W.plainGet K (He.ga K "Draft") Str.empty = true) && (decide (PySem.W.hasDictIn K (He.ga K "Draft") = true) && (decide (PySem.W.plainOver K (He.ga K "Draft") = true) && (decide (PySem.W.findIn K (.ref (He.ga K "Draft")) "__setattr__" = some (some (.builtin "object.__setattr__"))) && (decide (PySem.W.makesIn K (He.ga K "Draft") = true) && (decide (PySem.W.keepIn K (.ref (He.ga K "Draft")) = true) && (decide (PySem.W.findIn K (.ref (He.ga K "Draft")) "days" = some none) && (decide (PySem.W.findIn K (.ref (He.ga K "Draft")) "places" = some none) && (decide (PySem.W.findIn K (.ref (He.ga K "Draft")) "tariffs" = some none) && decide (PySem.W.findIn K (.ref (He.ga K "Draft")) "stays" = some none))))))))))))))))))))))))
def bs2 (K : PySem.W.Frag) : Bool := (decide (Hk.seqB K "TAKEN" ["main", "house", "rest"] = true) && (decide (Hk.strB K "LETTERS" abc0 = true) && (decide (Hk.intB K "FIRST_PRICE" 1 = true) && (decide (Hk.strB K "NOBODY" "house" = true) && (decide (PySem.W.findIn K (.ref (He.ga K "Draft")) "__init__" = some (some (.ref (He.ma K (He.ga K "Draft") "__init__")))) && (decide (PySem.W.isFn K (.ref (He.ma K (He.ga K "Draft") "__init__")) = true) && (decide (PySem.W.findIn K (.ref (He.ga K "Draft")) "take" = some (some (.ref (He.ma K (He.ga K "Draft") "take")))) && (decide (PySem.W.isFn K (.ref (He.ma K (He.ga K "Draft") "take")) = true) && (decide (PySem.W.findIn K (.ref (He.ga K "Draft")) "take_days" = some (some (.ref (He.ma K (He.ga K "Draft") "take_days")))) && (decide (PySem.W.isFn K (.ref (He.ma K (He.ga K "Draft") "take_days")) = true) && (decide (PySem.W.findIn K (.ref (He.ga K "Draft")) "take_place" = some (some (.ref (He.ma K (He.ga K "Draft") "take_place")))) && (decide (PySem.W.isFn K (.ref (He.ma K (He.ga K "Draft") "take_place")) = true) && (decide (PySem.W.findIn K (.ref (He.ga K "Draft")) "take_price" = some (some (.ref (He.ma K (He.ga K "Draft") "take_price")))) && (decide (PySem.W.isFn K (.ref (He.ma K (He.ga K "Draft") "take_price")) = true) && (decide (PySem.W.findIn K (.ref (He.ga K "Draft")) "take_stay" = some (some (.ref (He.ma K (He.ga K "Draft") "take_stay")))) && (decide (PySem.W.isFn K (.ref (He.ma K (He.ga K "Draft") "take_stay")) = true) && (decide (PySem.W.findIn K (.ref (He.ga K "Draft")) "has_place" = some (some (.ref (He.ma K (He.ga K "Draft") "has_place")))) && (decide (PySem.W.isFn K (.ref (He.ma K (He.ga K "Draft") "has_place")) = true) && (decide (PySem.W.findIn K (.ref (He.ga K "Draft")) "has_flat" = some (some (.ref (He.ma K (He.ga K "Draft") "has_flat")))) && (decide (PySem.W.isFn K (.ref (He.ma K (He.ga K "Draft") "has_flat")) = true) && (decide (PySem.W.findIn K (.ref (He.ga K "Draft")) "is_let" = some (some (.ref (He.ma K (He.ga K "Draft") "is_let")))) && (decide (PySem.W.isFn K (.ref (He.ma K (He.ga K "Draft") "is_let")) = true) && (decide (PySem.W.findIn K (.ref (He.ga K "House")) "__init__" = some (some (.ref (He.ma K (He.ga K "House") "__init__")))) && decide (PySem.W.isFn K (.ref (He.ma K (He.ga K "House") "__init__")) = true))))))))))))))))))))))))
def bs3 (K : PySem.W.Frag) : Bool := (decide (PySem.W.nsIn K mainGlobals "is_name" = some (some (.ref (He.ga K "is_name")))) && (decide (PySem.W.nsIn K mainGlobals "decimal" = some (some (.ref (He.ga K "decimal")))) && (decide (PySem.W.nsIn K mainGlobals "ascending" = some (some (.ref (He.ga K "ascending")))) && (decide (PySem.W.nsIn K mainGlobals "drafted" = some (some (.ref (He.ga K "drafted")))) && (decide (PySem.W.nsIn K mainGlobals "tenants" = some (some (.ref (He.ga K "tenants")))) && (decide (PySem.W.nsIn K mainGlobals "prices" = some (some (.ref (He.ga K "prices")))) && (decide (PySem.W.plainGet K (He.ga K "Numbers") Str.empty = true) && (decide (PySem.W.hasDictIn K (He.ga K "Numbers") = true) && (decide (PySem.W.plainOver K (He.ga K "Numbers") = true) && (decide (PySem.W.findIn K (.ref (He.ga K "Numbers")) "__setattr__" = some (some (.builtin "object.__setattr__"))) && (decide (PySem.W.makesIn K (He.ga K "Numbers") = true) && (decide (PySem.W.keepIn K (.ref (He.ga K "Numbers")) = true) && (decide (PySem.W.findIn K (.ref (He.ga K "Numbers")) "_house" = some none) && (decide (PySem.W.findIn K (.ref (He.ga K "Numbers")) "_rows" = some none) && (decide (PySem.W.findIn K (.ref (He.ga K "Numbers")) "_table" = some none) && (decide (PySem.W.findIn K (.ref (He.ga K "Numbers")) "_stretches" = some none) && (decide (Hk.intB K "GREATEST" 9999 = true) && (decide (PySem.W.specialIn K (.builtin "object.__class__") "__get__" = some (some (.builtin "getset_descriptor.__get__"))) && (decide (PySem.W.takesIn K (.builtin "object.__class__") = some true) && (decide (PySem.W.selfFirst K (He.ga K "House") = true) && (decide (PySem.W.findIn K (.ref (He.ga K "House")) "__ne__" = some (some (.builtin "object.__ne__"))) && (decide (PySem.W.mroIn K (He.ga K "House") (.type "object") = some true) && (decide (PySem.W.subIn K (.ref (He.ga K "House")) (.type "int") = some false) && decide (PySem.W.subIn K (.ref (He.ga K "House")) (.type "bool") = some false))))))))))))))))))))))))
def bs4 (K : PySem.W.Frag) : Bool := (decide (PySem.W.subIn K (.ref (He.ga K "House")) (.type "NoneType") = some false) && (decide (PySem.W.subIn K (.ref (He.ga K "House")) (.type "str") = some false) && (decide (PySem.W.subIn K (.ref (He.ga K "House")) (.type "list") = some false) && (decide (PySem.W.subIn K (.ref (He.ga K "House")) (.type "tuple") = some false) && (decide (PySem.W.subIn K (.ref (He.ga K "House")) (.type "dict") = some false) && (decide (PySem.W.subIn K (.type "int") (.ref (He.ga K "House")) = some false) && (decide (PySem.W.subIn K (.type "bool") (.ref (He.ga K "House")) = some false) && (decide (PySem.W.subIn K (.type "NoneType") (.ref (He.ga K "House")) = some false) && (decide (PySem.W.subIn K (.type "str") (.ref (He.ga K "House")) = some false) && (decide (PySem.W.subIn K (.type "list") (.ref (He.ga K "House")) = some false) && (decide (PySem.W.subIn K (.type "tuple") (.ref (He.ga K "House")) = some false) && (decide (PySem.W.subIn K (.type "dict") (.ref (He.ga K "House")) = some false) && (decide (PySem.W.findIn K (.ref (He.ga K "House")) "__class__" = some (some (.builtin "object.__class__"))) && (decide (PySem.W.selfFirst K (He.ga K "Numbers") = true) && (decide (PySem.W.findIn K (.ref (He.ga K "Numbers")) "__ne__" = some (some (.builtin "object.__ne__"))) && (decide (PySem.W.mroIn K (He.ga K "Numbers") (.type "object") = some true) && (decide (PySem.W.subIn K (.ref (He.ga K "Numbers")) (.type "int") = some false) && (decide (PySem.W.subIn K (.ref (He.ga K "Numbers")) (.type "bool") = some false) && (decide (PySem.W.subIn K (.ref (He.ga K "Numbers")) (.type "NoneType") = some false) && (decide (PySem.W.subIn K (.ref (He.ga K "Numbers")) (.type "str") = some false) && (decide (PySem.W.subIn K (.ref (He.ga K "Numbers")) (.type "list") = some false) && (decide (PySem.W.subIn K (.ref (He.ga K "Numbers")) (.type "tuple") = some false) && (decide (PySem.W.subIn K (.ref (He.ga K "Numbers")) (.type "dict") = some false) && decide (PySem.W.subIn K (.type "int") (.ref (He.ga K "Numbers")) = some false))))))))))))))))))))))))
def bs5 (K : PySem.W.Frag) : Bool := (decide (PySem.W.subIn K (.type "bool") (.ref (He.ga K "Numbers")) = some false) && (decide (PySem.W.subIn K (.type "NoneType") (.ref (He.ga K "Numbers")) = some false) && (decide (PySem.W.subIn K (.type "str") (.ref (He.ga K "Numbers")) = some false) && (decide (PySem.W.subIn K (.type "list") (.ref (He.ga K "Numbers")) = some false) && (decide (PySem.W.subIn K (.type "tuple") (.ref (He.ga K "Numbers")) = some false) && (decide (PySem.W.subIn K (.type "dict") (.ref (He.ga K "Numbers")) = some false) && (decide (PySem.W.findIn K (.ref (He.ga K "Numbers")) "__class__" = some (some (.builtin "object.__class__"))) && (decide (PySem.W.kitOne K (.ref (He.ga K "House")) (.ref (He.ga K "House")) = some true) && (decide (PySem.W.notFirst K (He.ga K "Numbers") (.ref (He.ga K "House")) = true) && (decide (PySem.W.kitOne K (.ref (He.ga K "Numbers")) (.ref (He.ga K "Numbers")) = some true) && (decide (PySem.W.kitOne K (.ref (He.ga K "House")) (.ref (He.ga K "Numbers")) = some false) && (decide (PySem.W.kitOne K (.type "int") (.ref (He.ga K "Numbers")) = some false) && (decide (PySem.W.kitOne K (.type "bool") (.ref (He.ga K "Numbers")) = some false) && (decide (PySem.W.kitOne K (.type "NoneType") (.ref (He.ga K "Numbers")) = some false) && (decide (PySem.W.kitOne K (.type "str") (.ref (He.ga K "Numbers")) = some false) && (decide (PySem.W.kitOne K (.type "list") (.ref (He.ga K "Numbers")) = some false) && (decide (PySem.W.kitOne K (.type "tuple") (.ref (He.ga K "Numbers")) = some false) && (decide (PySem.W.kitOne K (.type "dict") (.ref (He.ga K "Numbers")) = some false) && (decide (PySem.W.findIn K (.ref (He.ga K "MeterError")) "__init__" = some (some (.ref (He.ma K (He.ga K "MeterError") "__init__")))) && (decide (PySem.W.isFn K (.ref (He.ma K (He.ga K "MeterError") "__init__")) = true) && (decide (Hk.excX K (He.ga K "OtherHouse") = true) && (decide (PySem.W.findIn K (.ref (He.ga K "OtherHouse")) "__setattr__" = some (some (.builtin "object.__setattr__"))) && (decide (PySem.W.subIn K (.ref (He.ga K "OtherHouse")) (.type "BaseException") = some true) && decide (PySem.W.typeIn K (.ref (He.ga K "OtherHouse")) = some (.type "type")))))))))))))))))))))))))
def bs6 (K : PySem.W.Frag) : Bool := (decide (PySem.W.keepIn K (.ref (He.ga K "OtherHouse")) = true) && (decide (PySem.W.findIn K (.ref (He.ga K "OtherHouse")) "__getattribute__" = some (some (.builtin "BaseException.__getattribute__"))) && (decide (PySem.W.findIn K (.ref (He.ga K "OtherHouse")) "__getattr__" = some none) && (decide (PySem.W.hasDictIn K (He.ga K "OtherHouse") = true) && (decide (PySem.W.findIn K (.ref (He.ga K "OtherHouse")) "__init__" = some (some (.ref (He.ma K (He.ga K "MeterError") "__init__")))) && (decide (PySem.W.typeIn K (.ref (He.ma K (He.ga K "MeterError") "__init__")) = some (.type "function")) && (decide (PySem.W.findIn K (.ref (He.ga K "OtherHouse")) "value" = some none) && (decide (PySem.W.exmOne K (.ref (He.ga K "OtherHouse")) (.ref (He.ga K "OtherHouse")) = some true) && (decide (PySem.W.nsIn K mainGlobals "is_whole" = some (some (.ref (He.ga K "is_whole")))) && (decide (PySem.W.nsIn K mainGlobals "is_meter" = some (some (.ref (He.ga K "is_meter")))) && (decide (PySem.W.nsIn K mainGlobals "is_morning" = some (some (.ref (He.ga K "is_morning")))) && (decide (PySem.W.nsIn K mainGlobals "are_rows" = some (some (.ref (He.ga K "are_rows")))) && (decide (PySem.W.nsIn K mainGlobals "is_row" = some (some (.ref (He.ga K "is_row")))) && (decide (PySem.W.nsIn K mainGlobals "is_row_morning" = some (some (.ref (He.ga K "is_row_morning")))) && (decide (PySem.W.nsIn K mainGlobals "is_number" = some (some (.ref (He.ga K "is_number")))) && (decide (PySem.W.nsIn K mainGlobals "stretches_of" = some (some (.ref (He.ga K "stretches_of")))) && (decide (PySem.W.nsIn K mainGlobals "climbs" = some (some (.ref (He.ga K "climbs")))) && (decide (PySem.W.nsIn K mainGlobals "holds_all" = some (some (.ref (He.ga K "holds_all")))) && (decide (PySem.W.nsIn K mainGlobals "_law_jar" = some (some (.ref (He.ga K "_law_jar")))) && (decide (PySem.W.nsIn K mainGlobals "_law_take" = some (some (.ref (He.ga K "_law_take")))) && (decide (PySem.W.nsIn K mainGlobals "_law_of" = some (some (.ref (He.ga K "_law_of")))) && (decide (PySem.W.nsIn K mainGlobals "_law_titles" = some (some (.ref (He.ga K "_law_titles")))) && (decide (PySem.W.nsIn K mainGlobals "_law_many_uses" = some (some (.ref (He.ga K "_law_many_uses")))) && decide (PySem.W.nsIn K mainGlobals "_law_prices" = some (some (.ref (He.ga K "_law_prices")))))))))))))))))))))))))))
def bs7 (K : PySem.W.Frag) : Bool := (decide (PySem.W.nsIn K mainGlobals "_law_places" = some (some (.ref (He.ga K "_law_places")))) && (decide (PySem.W.nsIn K mainGlobals "_law_stays" = some (some (.ref (He.ga K "_law_stays")))) && (decide (PySem.W.nsIn K mainGlobals "_law_meters" = some (some (.ref (He.ga K "_law_meters")))) && (decide (PySem.W.nsIn K mainGlobals "_law_ordered" = some (some (.ref (He.ga K "_law_ordered")))) && (decide (PySem.W.nsIn K mainGlobals "_law_small" = some (some (.ref (He.ga K "_law_small")))) && (decide (PySem.W.nsIn K mainGlobals "_law_page" = some (some (.ref (He.ga K "_law_page")))) && (decide (PySem.W.nsIn K mainGlobals "_law_is_covered" = some (some (.ref (He.ga K "_law_is_covered")))) && (decide (PySem.W.nsIn K mainGlobals "_law_a_use" = some (some (.ref (He.ga K "_law_a_use")))) && (decide (PySem.W.nsIn K mainGlobals "_law_units" = some (some (.ref (He.ga K "_law_units")))) && (decide (PySem.W.nsIn K mainGlobals "_law_seats" = some (some (.ref (He.ga K "_law_seats")))) && (decide (PySem.W.nsIn K mainGlobals "_law_read" = some (some (.ref (He.ga K "_law_read")))) && (decide (PySem.W.nsIn K mainGlobals "_law_misread" = some (some (.ref (He.ga K "_law_misread")))) && (decide (PySem.W.nsIn K mainGlobals "_law_any_rows" = some (some (.ref (He.ga K "_law_any_rows")))) && (decide (PySem.W.nsIn K mainGlobals "_law_heard" = some (some (.ref (He.ga K "_law_heard")))) && (decide (PySem.W.nsIn K mainGlobals "_law_other_rows" = some (some (.ref (He.ga K "_law_other_rows")))) && (decide (PySem.W.nsIn K mainGlobals "_law_compared" = some (some (.ref (He.ga K "_law_compared")))) && (decide (PySem.W.nsIn K mainGlobals "_law_right" = some (some (.ref (He.ga K "_law_right")))) && (decide (Hk.lamB K (He.ga K "_law_right") = true) && (decide (PySem.W.nsIn K mainGlobals "law" = some (some (.ref (He.ga K "law")))) && (decide (PySem.W.findIn K (.ref (He.ga K "Numbers")) "__init__" = some (some (.ref (He.ma K (He.ga K "Numbers") "__init__")))) && (decide (PySem.W.isFn K (.ref (He.ma K (He.ga K "Numbers") "__init__")) = true) && (decide (PySem.W.findIn K (.ref (He.ga K "Numbers")) "__eq__" = some (some (.ref (He.ma K (He.ga K "Numbers") "__eq__")))) && (decide (PySem.W.isFn K (.ref (He.ma K (He.ga K "Numbers") "__eq__")) = true) && decide (PySem.W.findIn K (.ref (He.ga K "Numbers")) "__le__" = some (some (.ref (He.ma K (He.ga K "Numbers") "__le__")))))))))))))))))))))))))))
def bs8 (K : PySem.W.Frag) : Bool := (decide (PySem.W.isFn K (.ref (He.ma K (He.ga K "Numbers") "__le__")) = true) && (decide (PySem.W.findIn K (.ref (He.ga K "Numbers")) "__lt__" = some (some (.ref (He.ma K (He.ga K "Numbers") "__lt__")))) && (decide (PySem.W.isFn K (.ref (He.ma K (He.ga K "Numbers") "__lt__")) = true) && (decide (PySem.W.findIn K (.ref (He.ga K "Numbers")) "__ge__" = some (some (.ref (He.ma K (He.ga K "Numbers") "__ge__")))) && (decide (PySem.W.isFn K (.ref (He.ma K (He.ga K "Numbers") "__ge__")) = true) && (decide (PySem.W.findIn K (.ref (He.ga K "Numbers")) "__gt__" = some (some (.ref (He.ma K (He.ga K "Numbers") "__gt__")))) && (decide (PySem.W.isFn K (.ref (He.ma K (He.ga K "Numbers") "__gt__")) = true) && (decide (PySem.W.findIn K (.ref (He.ga K "Numbers")) "_check" = some (some (.ref (He.ma K (He.ga K "Numbers") "_check")))) && (decide (PySem.W.isFn K (.ref (He.ma K (He.ga K "Numbers") "_check")) = true) && (decide (PySem.W.findIn K (.ref (He.ga K "House")) "__eq__" = some (some (.ref (He.ma K (He.ga K "House") "__eq__")))) && (decide (PySem.W.isFn K (.ref (He.ma K (He.ga K "House") "__eq__")) = true) && (decide (PySem.W.findIn K (.ref (He.ga K "Numbers")) "rows" = some (some (.ref (He.ma K (He.ga K "Numbers") "rows")))) && (decide (PySem.W.specialIn K (.ref (He.ma K (He.ga K "Numbers") "rows")) "__get__" = some (some (.builtin "property.__get__"))) && (decide (PySem.W.takesIn K (.ref (He.ma K (He.ga K "Numbers") "rows")) = some true) && (decide (Hk.prB K (He.ga K "Numbers") "rows" = true) && (decide (PySem.W.findIn K (.ref (He.ga K "Numbers")) "house" = some (some (.ref (He.ma K (He.ga K "Numbers") "house")))) && (decide (PySem.W.specialIn K (.ref (He.ma K (He.ga K "Numbers") "house")) "__get__" = some (some (.builtin "property.__get__"))) && (decide (PySem.W.takesIn K (.ref (He.ma K (He.ga K "Numbers") "house")) = some true) && decide (Hk.prB K (He.ga K "Numbers") "house" = true)))))))))))))))))))
def xb (K : PySem.W.Frag) : Bool := (bs0 K && (bs1 K && (bs2 K && (bs3 K && (bs4 K && (bs5 K && (bs6 K && (bs7 K && bs8 K))))))))
def dd0 : Hk.DefY := ⟨fun K => (He.ma K (He.ga K "Draft") "__init__"), "__init__", "Draft.__init__", sDrInit, fun K => []⟩
def dd1 : Hk.DefY := ⟨fun K => (He.ma K (He.ga K "Draft") "take"), "take", "Draft.take", sDrTake, fun K => []⟩
def dd2 : Hk.DefY := ⟨fun K => (He.ma K (He.ga K "Draft") "take_days"), "take_days", "Draft.take_days", sDrDays, fun K => []⟩
def dd3 : Hk.DefY := ⟨fun K => (He.ma K (He.ga K "Draft") "take_place"), "take_place", "Draft.take_place", sDrPlace, fun K => []⟩
def dd4 : Hk.DefY := ⟨fun K => (He.ma K (He.ga K "Draft") "take_price"), "take_price", "Draft.take_price", sDrPrice, fun K => []⟩
def dd5 : Hk.DefY := ⟨fun K => (He.ma K (He.ga K "Draft") "take_stay"), "take_stay", "Draft.take_stay", sDrStay, fun K => []⟩
def dd6 : Hk.DefY := ⟨fun K => (He.ma K (He.ga K "Draft") "has_place"), "has_place", "Draft.has_place", sDrHasP, fun K => []⟩
def dd7 : Hk.DefY := ⟨fun K => (He.ma K (He.ga K "Draft") "has_flat"), "has_flat", "Draft.has_flat", sDrHasF, fun K => []⟩
def dd8 : Hk.DefY := ⟨fun K => (He.ma K (He.ga K "Draft") "is_let"), "is_let", "Draft.is_let", sDrIsLet, fun K => []⟩
def dd9 : Hk.DefY := ⟨fun K => (He.ma K (He.ga K "House") "__init__"), "__init__", "House.__init__", sHInit, fun K => []⟩
def dd10 : Hk.DefY := ⟨fun K => (He.ga K "is_name"), "is_name", "is_name", sIsName, fun K => []⟩
def dd11 : Hk.DefY := ⟨fun K => (He.ga K "decimal"), "decimal", "decimal", sDec, fun K => []⟩
def dd12 : Hk.DefY := ⟨fun K => (He.ga K "ascending"), "ascending", "ascending", sAsc, fun K => []⟩
def dd13 : Hk.DefY := ⟨fun K => (He.ga K "drafted"), "drafted", "drafted", sDrafted, fun K => []⟩
def dd14 : Hk.DefY := ⟨fun K => (He.ga K "tenants"), "tenants", "tenants", sTenants, fun K => []⟩
def dd15 : Hk.DefY := ⟨fun K => (He.ga K "prices"), "prices", "prices", sPricesOf, fun K => []⟩
def dd16 : Hk.DefY := ⟨fun K => (He.ma K (He.ga K "MeterError") "__init__"), "__init__", "MeterError.__init__", sInitE, fun K => []⟩
def dd17 : Hk.DefY := ⟨fun K => (He.ga K "is_whole"), "is_whole", "is_whole", sWhole, fun K => []⟩
def dd18 : Hk.DefY := ⟨fun K => (He.ga K "is_meter"), "is_meter", "is_meter", sF_is_meter, fun K => []⟩
def dd19 : Hk.DefY := ⟨fun K => (He.ga K "is_morning"), "is_morning", "is_morning", sF_is_morning, fun K => []⟩
def dd20 : Hk.DefY := ⟨fun K => (He.ga K "are_rows"), "are_rows", "are_rows", sF_are_rows, fun K => []⟩
def dd21 : Hk.DefY := ⟨fun K => (He.ga K "is_row"), "is_row", "is_row", sF_is_row, fun K => []⟩
def dd22 : Hk.DefY := ⟨fun K => (He.ga K "is_row_morning"), "is_row_morning", "is_row_morning", sF_is_row_morning, fun K => []⟩
def dd23 : Hk.DefY := ⟨fun K => (He.ga K "is_number"), "is_number", "is_number", sF_is_number, fun K => []⟩
def dd24 : Hk.DefY := ⟨fun K => (He.ga K "stretches_of"), "stretches_of", "stretches_of", sF_stretches_of, fun K => []⟩
def dd25 : Hk.DefY := ⟨fun K => (He.ga K "climbs"), "climbs", "climbs", sClimbs, fun K => []⟩
def dd26 : Hk.DefY := ⟨fun K => (He.ga K "holds_all"), "holds_all", "holds_all", sF_holds_all, fun K => []⟩
def dd27 : Hk.DefY := ⟨fun K => (He.ga K "_law_jar"), "_law_jar", "_law_jar", sJar, fun K => []⟩
def dd28 : Hk.DefY := ⟨fun K => (He.ga K "_law_take"), "_law_take", "_law_take", sTake, fun K => []⟩
def dd29 : Hk.DefY := ⟨fun K => (He.ga K "_law_of"), "_law_of", "_law_of", sOf, fun K => []⟩
def dd30 : Hk.DefY := ⟨fun K => (He.ga K "_law_titles"), "_law_titles", "_law_titles", sL_titles, fun K => []⟩
def dd31 : Hk.DefY := ⟨fun K => (He.ga K "_law_many_uses"), "_law_many_uses", "_law_many_uses", sL_many_uses, fun K => []⟩
def dd32 : Hk.DefY := ⟨fun K => (He.ga K "_law_prices"), "_law_prices", "_law_prices", sL_prices, fun K => []⟩
def dd33 : Hk.DefY := ⟨fun K => (He.ga K "_law_places"), "_law_places", "_law_places", sL_places, fun K => []⟩
def dd34 : Hk.DefY := ⟨fun K => (He.ga K "_law_stays"), "_law_stays", "_law_stays", sL_stays, fun K => []⟩
def dd35 : Hk.DefY := ⟨fun K => (He.ga K "_law_meters"), "_law_meters", "_law_meters", sL_meters, fun K => []⟩
def dd36 : Hk.DefY := ⟨fun K => (He.ga K "_law_ordered"), "_law_ordered", "_law_ordered", sL_ordered, fun K => []⟩
def dd37 : Hk.DefY := ⟨fun K => (He.ga K "_law_small"), "_law_small", "_law_small", sL_small, fun K => []⟩
def dd38 : Hk.DefY := ⟨fun K => (He.ga K "_law_page"), "_law_page", "_law_page", sL_page, fun K => []⟩
def dd39 : Hk.DefY := ⟨fun K => (He.ga K "_law_is_covered"), "_law_is_covered", "_law_is_covered", sL_is_covered, fun K => []⟩
def dd40 : Hk.DefY := ⟨fun K => (He.ga K "_law_a_use"), "_law_a_use", "_law_a_use", sL_a_use, fun K => []⟩
def dd41 : Hk.DefY := ⟨fun K => (He.ga K "_law_units"), "_law_units", "_law_units", sL_units, fun K => []⟩
def dd42 : Hk.DefY := ⟨fun K => (He.ga K "_law_seats"), "_law_seats", "_law_seats", sL_seats, fun K => []⟩
def dd43 : Hk.DefY := ⟨fun K => (He.ga K "_law_read"), "_law_read", "_law_read", sL_read, fun K => []⟩
def dd44 : Hk.DefY := ⟨fun K => (He.ga K "_law_misread"), "_law_misread", "_law_misread", sL_misread, fun K => []⟩
def dd45 : Hk.DefY := ⟨fun K => (He.ga K "_law_any_rows"), "_law_any_rows", "_law_any_rows", sL_any_rows, fun K => []⟩
def dd46 : Hk.DefY := ⟨fun K => (He.ga K "_law_heard"), "_law_heard", "_law_heard", sL_heard, fun K => []⟩
def dd47 : Hk.DefY := ⟨fun K => (He.ga K "_law_other_rows"), "_law_other_rows", "_law_other_rows", sL_other_rows, fun K => []⟩
def dd48 : Hk.DefY := ⟨fun K => (He.ga K "_law_compared"), "_law_compared", "_law_compared", sL_compared, fun K => []⟩
def dd49 : Hk.DefY := ⟨fun K => (He.ga K "_law_right"), "_law_right", "_law_right", sL_right, fun K => []⟩
def dd50 : Hk.DefY := ⟨fun K => (He.ga K "law"), "law", "law", sLaw, fun K => []⟩
def dd51 : Hk.DefY := ⟨fun K => (He.ma K (He.ga K "Numbers") "__init__"), "__init__", "Numbers.__init__", sNumbers_init, fun K => [.ref (Hk.dfA K (He.ma K (He.ga K "Numbers") "__init__") 0)]⟩
def dd52 : Hk.DefY := ⟨fun K => (He.ma K (He.ga K "Numbers") "__eq__"), "__eq__", "Numbers.__eq__", sNumbers_eq, fun K => []⟩
def dd53 : Hk.DefY := ⟨fun K => (He.ma K (He.ga K "Numbers") "__le__"), "__le__", "Numbers.__le__", sNumbers_le, fun K => []⟩
def dd54 : Hk.DefY := ⟨fun K => (He.ma K (He.ga K "Numbers") "__lt__"), "__lt__", "Numbers.__lt__", sNumbers_lt, fun K => []⟩
def dd55 : Hk.DefY := ⟨fun K => (He.ma K (He.ga K "Numbers") "__ge__"), "__ge__", "Numbers.__ge__", sNumbers_ge, fun K => []⟩
def dd56 : Hk.DefY := ⟨fun K => (He.ma K (He.ga K "Numbers") "__gt__"), "__gt__", "Numbers.__gt__", sNumbers_gt, fun K => []⟩
def dd57 : Hk.DefY := ⟨fun K => (He.ma K (He.ga K "Numbers") "_check"), "_check", "Numbers._check", sNumbers_check, fun K => []⟩
def dd58 : Hk.DefY := ⟨fun K => (He.ma K (He.ga K "House") "__eq__"), "__eq__", "House.__eq__", sHEq, fun K => []⟩
def dd59 : Hk.DefY := ⟨fun K => (Hk.prA K (He.ga K "Numbers") "rows"), "rows", "Numbers.rows", sNumbers_rows, fun K => []⟩
def dd60 : Hk.DefY := ⟨fun K => (Hk.prA K (He.ga K "Numbers") "house"), "house", "Numbers.house", sNumbers_house, fun K => []⟩
def fnD : List Hk.DefY := [dd0, dd1, dd2, dd3, dd4, dd5, dd6, dd7, dd8, dd9, dd10, dd11, dd12, dd13, dd14, dd15, dd16, dd17, dd18, dd19, dd20, dd21, dd22, dd23, dd24, dd25, dd26, dd27, dd28, dd29, dd30, dd31, dd32, dd33, dd34, dd35, dd36, dd37, dd38, dd39, dd40, dd41, dd42, dd43, dd44, dd45, dd46, dd47, dd48, dd49, dd50, dd51, dd52, dd53, dd54, dd55, dd56, dd57, dd58, dd59, dd60]
def ksA : List Addr := (List.range 1100).map fun i => i + 2
def nm0 : List PySem.Str := ["_wall", "MeterError", "BadHouse", "NoFlat", "BadDay", "OtherHouse", "BadNumbers", "NoNumber", "BadPlaces", "LETTERS", "TAKEN", "is_whole", "is_name", "decimal", "ascending", "climbs", "is_meter", "is_morning", "is_reading", "GREATEST", "Numbers", "are_rows", "is_row", "is_row_morning", "is_number", "are_places", "holds_all", "stretches_of", "NOBODY", "FIRST_PRICE"]
def nm1 : List PySem.Str := ["House", "Draft", "drafted", "tenants", "prices", "_law_jar", "_law_take", "_law_of", "_law_places", "_law_stays", "_law_meters", "_law_ordered", "_law_titles", "_law_many_uses", "_law_prices", "_law_small", "_law_page", "_law_is_covered", "_law_a_use", "_law_units", "_law_seats", "_law_read", "_law_misread", "_law_any_rows", "_law_heard", "_law_other_rows", "_law_compared"]
def names : List PySem.Str := nm0 ++ (nm1)
end Ds
namespace Ds
open PySem PySem.W PySem.Calls PyProof.Rows
abbrev R : OpenRow := OpenLaw.row PySem.Challenge.rw_whoseuse_k14_numbers_compared
abbrev qv : Program := view R.prog [63, 64]
theorem run (w : World) : HandSHeadRun.RunEq R qv (Hk.hookT ksA xb fnD) (Hk.obT ksA xb fnD) 12000 names w := by
  unfold HandSHeadRun.RunEq
  intro os; kernel_rfl
end Ds
namespace Am
/-! fractions in least terms -/
def gc (n u : Int) : Int := ((Nat.gcd n.natAbs u.natAbs : Nat) : Int)
def sg (n u : Int) : Int := if u < 0 then -gc n u else gc n u
def fr (n u : Int) : Int × Int := (n.fdiv (sg n u), u.fdiv (sg n u))
def Low (n u : Int) : Prop := 0 < u ∧ Nat.gcd n.natAbs u.natAbs = 1

theorem gc_pos {n u : Int} (hu : u ≠ 0) : 0 < gc n u := by
  unfold gc
  have : 0 < Nat.gcd n.natAbs u.natAbs := Nat.gcd_pos_of_pos_right _ (by omega)
  omega
theorem gc_dvd_l (n u : Int) : gc n u ∣ n := by
  unfold gc
  exact Int.ofNat_dvd_left.mpr (Nat.gcd_dvd_left _ _)
theorem gc_dvd_r (n u : Int) : gc n u ∣ u := by
  unfold gc
  exact Int.ofNat_dvd_left.mpr (Nat.gcd_dvd_right _ _)
theorem sg_ne {n u : Int} (hu : u ≠ 0) : sg n u ≠ 0 := by
  have := gc_pos (n := n) hu
  unfold sg
  split <;> omega
theorem sg_dvd_l (n u : Int) : sg n u ∣ n := by
  unfold sg
  split
  · exact Int.neg_dvd.mpr (gc_dvd_l n u)
  · exact gc_dvd_l n u
theorem sg_dvd_r (n u : Int) : sg n u ∣ u := by
  unfold sg
  split
  · exact Int.neg_dvd.mpr (gc_dvd_r n u)
  · exact gc_dvd_r n u
theorem fdiv_mul {a b : Int} (h : b ∣ a) : a.fdiv b * b = a := by
  obtain ⟨c, rfl⟩ := h
  by_cases hb : b = 0
  · subst hb; simp
  · rw [Int.mul_fdiv_cancel_left _ hb, Int.mul_comm]
theorem fr_l {n u : Int} : (fr n u).1 * sg n u = n := fdiv_mul (sg_dvd_l n u)
theorem fr_r {n u : Int} : (fr n u).2 * sg n u = u := fdiv_mul (sg_dvd_r n u)
theorem natAbs_sg (n u : Int) : (sg n u).natAbs = Nat.gcd n.natAbs u.natAbs := by
  unfold sg gc
  split <;> omega
theorem fr_low {n u : Int} (hu : u ≠ 0) : Low (fr n u).1 (fr n u).2 := by
  have hg := gc_pos (n := n) hu
  have h1 := fr_l (n := n) (u := u)
  have h2 := fr_r (n := n) (u := u)
  have a1 : (fr n u).1.natAbs * Nat.gcd n.natAbs u.natAbs = n.natAbs := by
    rw [← natAbs_sg, ← Int.natAbs_mul, h1]
  have a2 : (fr n u).2.natAbs * Nat.gcd n.natAbs u.natAbs = u.natAbs := by
    rw [← natAbs_sg, ← Int.natAbs_mul, h2]
  have gp : 0 < Nat.gcd n.natAbs u.natAbs := Nat.gcd_pos_of_pos_right _ (by omega)
  refine ⟨?_, ?_⟩
  · by_cases c : u < 0
    · have e : sg n u = -gc n u := if_pos c
      rw [e] at h2
      refine Int.lt_of_not_ge fun q => ?_
      have : 0 ≤ (fr n u).2 * -gc n u := by
        have := Int.mul_nonneg (a := -(fr n u).2) (b := gc n u) (by omega) (by omega)
        rw [Int.neg_mul] at this
        rw [Int.mul_neg]
        exact this
      omega
    · have e : sg n u = gc n u := if_neg c
      rw [e] at h2
      refine Int.lt_of_not_ge fun q => ?_
      have : 0 ≤ -((fr n u).2 * gc n u) := by
        have := Int.mul_nonneg (a := -(fr n u).2) (b := gc n u) (by omega) (by omega)
        rw [Int.neg_mul] at this
        exact this
      omega
  · have k : Nat.gcd ((fr n u).1.natAbs * Nat.gcd n.natAbs u.natAbs) ((fr n u).2.natAbs * Nat.gcd n.natAbs u.natAbs) = Nat.gcd n.natAbs u.natAbs := by
      rw [a1, a2]
    rw [Nat.gcd_mul_right] at k
    have k' : Nat.gcd (fr n u).1.natAbs (fr n u).2.natAbs * Nat.gcd n.natAbs u.natAbs = 1 * Nat.gcd n.natAbs u.natAbs := by rw [k, Nat.one_mul]
    exact Nat.eq_of_mul_eq_mul_right gp k'
theorem Low.ne {n u : Int} (h : Low n u) : u ≠ 0 := by have := h.1; omega
theorem low_one (n : Int) : Low n 1 := ⟨by decide, by simp⟩
theorem Low.neg {n u : Int} (h : Low n u) : Low (-n) u := ⟨h.1, by rw [Int.natAbs_neg]; exact h.2⟩
theorem fr_of_low {n u : Int} (h : Low n u) : fr n u = (n, u) := by
  have e : sg n u = 1 := by
    unfold sg gc
    rw [h.2, if_neg (by have := h.1; omega)]
    rfl
  unfold fr
  rw [e, Int.fdiv_one, Int.fdiv_one]
theorem fr_pos_lt {n u : Int} (hu : 0 < u) : decide ((fr n u).1 < 0) = decide (n < 0) := by
  have e : sg n u = gc n u := if_neg (by omega)
  have hg := gc_pos (n := n) (u := u) (by omega)
  have h := fr_l (n := n) (u := u)
  rw [e] at h
  refine decide_eq_decide.mpr ⟨fun q => ?_, fun q => ?_⟩
  · have := Int.mul_neg_of_neg_of_pos q hg
    omega
  · refine Int.lt_of_not_ge fun z => ?_
    have := Int.mul_nonneg z (Int.le_of_lt hg)
    omega
theorem fr_pos_le {n u : Int} (hu : 0 < u) : decide ((fr n u).1 ≤ 0) = decide (n ≤ 0) := by
  have e : sg n u = gc n u := if_neg (by omega)
  have hg := gc_pos (n := n) (u := u) (by omega)
  have h := fr_l (n := n) (u := u)
  rw [e] at h
  refine decide_eq_decide.mpr ⟨fun q => ?_, fun q => ?_⟩
  · have := Int.mul_nonneg (a := -(fr n u).1) (b := gc n u) (by omega) (by omega)
    rw [Int.neg_mul] at this
    omega
  · refine Int.le_of_not_gt fun z => ?_
    have := Int.mul_pos z hg
    omega
theorem le_of_mul {a b c : Nat} (h : a * b = c) (hb : 0 < b) : a ≤ c := by
  rw [← h]
  exact Nat.le_mul_of_pos_right a hb
theorem fr_le1 {n u : Int} (hu : u ≠ 0) : (fr n u).1.natAbs ≤ n.natAbs := by
  have gp : 0 < Nat.gcd n.natAbs u.natAbs := Nat.gcd_pos_of_pos_right _ (by omega)
  exact le_of_mul (b := Nat.gcd n.natAbs u.natAbs) (by rw [← natAbs_sg, ← Int.natAbs_mul, fr_l]) gp
theorem fr_le2 {n u : Int} (hu : u ≠ 0) : (fr n u).2.natAbs ≤ u.natAbs := by
  have gp : 0 < Nat.gcd n.natAbs u.natAbs := Nat.gcd_pos_of_pos_right _ (by omega)
  exact le_of_mul (b := Nat.gcd n.natAbs u.natAbs) (by rw [← natAbs_sg, ← Int.natAbs_mul, fr_r]) gp
theorem sg_le {n u : Int} (hu : u ≠ 0) : (sg n u).natAbs ≤ u.natAbs := by
  rw [natAbs_sg]
  exact Nat.le_of_dvd (by omega) (Nat.gcd_dvd_right _ _)
/-- the law's own fraction: the sign ahead, then // by the greatest divisor -/
theorem law_fr {n u : Int} (hu : u ≠ 0) : fr n u = (((if u > 0 then 1 else -1) * n).fdiv (gc n u), ((if u > 0 then 1 else -1) * u).fdiv (gc n u)) := by
  unfold fr sg
  by_cases c : u < 0
  · rw [if_pos c, if_neg (by omega)]
    have e : ∀ x : Int, x.fdiv (-gc n u) = (-1 * x).fdiv (gc n u) := fun x => by
      have := Int.neg_fdiv_neg (-x) (gc n u)
      rw [Int.neg_neg] at this
      rw [this]
      congr 1
      omega
    rw [e, e]
  · rw [if_neg c, if_pos (by omega), Int.one_mul, Int.one_mul]
end Am
namespace Am
open PySem PySem.Spec PyProof.Rows L2

/-! ### data -/
def pf (n u : Int) : List (Str × V) := putF "under" (.int u) (putF "number" (.int n) [])
theorem nu_ : ¬ (("number" : Str) = "under") := by decide +kernel
theorem un_ : ¬ (("under" : Str) = "number") := by decide +kernel
theorem pf_number (n u : Int) : (pf n u).lookup ("number" : Str) = some (.int n) := by
  unfold pf
  rw [lookup_putF, if_neg nu_, lookup_putF, if_pos rfl]
theorem pf_under (n u : Int) : (pf n u).lookup ("under" : Str) = some (.int u) := by
  unfold pf
  rw [lookup_putF, if_pos rfl]
/-- an Amount in least terms -/
def AmAt (C : Addr) (H : Hp) (v : V) (n u : Int) : Prop := Low n u ∧ ∃ a dx, v = .ref a ∧ H a = some (.ins C dx (pf n u))
/-- an Amount or an integer -/
def AmV (C : Addr) (H : Hp) (v : V) (n u : Int) : Prop := AmAt C H v n u ∨ (v = .int n ∧ u = 1)
theorem AmAt.same {C : Addr} {H H' : Hp} {v : V} {n u : Int} (e : Same H H') (h : AmAt C H v n u) : AmAt C H' v n u := by
  obtain ⟨l, a, dx, rfl, h⟩ := h
  exact ⟨l, a, dx, rfl, e _ _ h⟩
theorem AmV.same {C : Addr} {H H' : Hp} {v : V} {n u : Int} (e : Same H H') (h : AmV C H v n u) : AmV C H' v n u := h.elim (fun h => .inl (h.same e)) .inr
theorem AmAt.low {C : Addr} {H : Hp} {v : V} {n u : Int} (h : AmAt C H v n u) : Low n u := h.1
theorem AmV.low {C : Addr} {H : Hp} {v : V} {n u : Int} (h : AmV C H v n u) : Low n u := h.elim (fun h => h.1) fun ⟨_, e⟩ => by rw [e]; exact low_one n
theorem AmAt.inst {C : Addr} {H : Hp} {v : V} {n u : Int} (h : AmAt C H v n u) : ∃ a dx fs, v = .ref a ∧ H a = some (.ins C dx fs) := by
  obtain ⟨l, a, dx, rfl, h⟩ := h
  exact ⟨a, dx, _, rfl, h⟩
theorem AmV.orB {C : Addr} {H : Hp} {v : V} {n u : Int} (h : AmV C H v n u) : OrB C H v := by
  rcases h with h | ⟨rfl, _⟩
  · obtain ⟨a, dx, fs, rfl, ha⟩ := h.inst
    exact .inl ⟨a, dx, fs, rfl, ha⟩
  · exact .inr ⟨_, .int n⟩
theorem AmV.orI {C : Addr} {H : Hp} {v : V} {n u : Int} (h : AmV C H v n u) : OrI C H v := by
  rcases h with h | ⟨rfl, _⟩
  · obtain ⟨a, dx, fs, rfl, ha⟩ := h.inst
    exact .inl ⟨a, dx, fs, rfl, ha⟩
  · exact .inr ⟨n, rfl⟩
def Bd (k : Nat) (n : Int) : Prop := n.natAbs < 2 ^ k
theorem same_upd {H : Hp} {p : Addr} {o : HO} (h : H p = none) : Same H (upd H p o) := fun b u e => by rw [upd_ne (ne_of_none e h)]; exact e

/-! ### facts of the text -/
structure Txt (K : PySem.W.Frag) (mg : Str → Option Value) (C : Addr) : Prop where
  cl : Cls K C
  op : OpC K C
  ca : PySem.W.findIn K (.ref C) "__class__" = some (some (.builtin "object.__class__"))
  cn : PySem.W.specialIn K (.builtin "object.__class__") "__get__" = some (some (.builtin "getset_descriptor.__get__"))
  ct : PySem.W.takesIn K (.builtin "object.__class__") = some true
  kC : PySem.W.kitOne K (.ref C) (.ref C) = some true
  kI : PySem.W.kitOne K (.ref C) (.type "int") = some false
  k1 : PySem.W.kitOne K (.type "int") (.ref C) = some false
  k2 : PySem.W.kitOne K (.type "bool") (.ref C) = some false
  k3 : PySem.W.kitOne K (.type "NoneType") (.ref C) = some false
  k4 : PySem.W.kitOne K (.type "str") (.ref C) = some false
  k5 : PySem.W.kitOne K (.type "list") (.ref C) = some false
  k6 : PySem.W.kitOne K (.type "tuple") (.ref C) = some false
  k7 : PySem.W.kitOne K (.type "dict") (.ref C) = some false
  nN : NoAttr K C "number"
  nU : NoAttr K C "under"
  mgC : mg "Amount" = some (.ref C)
  isi : mg "isinstance" = none
  int : mg "int" = none
  bool : mg "bool" = none
  gcd : mg "gcd" = some (.builtin "math.gcd")
theorem Txt.kOf {K : PySem.W.Frag} {mg : Str → Option Value} {C : Addr} {H : Hp} {x : V} {T : String} (t : Txt K mg C) (b : Bk H x T) : PySem.W.kitOne K (.type T) (.ref C) = some false := by
  cases b <;> first | exact t.k1 | exact t.k2 | exact t.k3 | exact t.k4 | exact t.k5 | exact t.k6 | exact t.k7
def isIB : V → Bool
  | .int _ => true
  | .bl _ => true
  | _ => false
def isB : V → Bool
  | .bl _ => true
  | _ => false
theorem kB_int {K : PySem.W.Frag} {H : Hp} {x : V} {T : String} (b : Bk H x T) : PySem.W.kitOne K (.type T) (.type "int") = some (isIB x) := by
  cases b with
  | non => exact kit_ty (show kitB "NoneType" "int" = some false by decide +kernel)
  | bl => exact kit_ty (show kitB "bool" "int" = some true by decide +kernel)
  | int => exact kit_ty (show kitB "int" "int" = some true by decide +kernel)
  | str => exact kit_ty (show kitB "str" "int" = some false by decide +kernel)
  | lst => exact kit_ty (show kitB "list" "int" = some false by decide +kernel)
  | tup => exact kit_ty (show kitB "tuple" "int" = some false by decide +kernel)
  | dK => exact kit_ty (show kitB "dict" "int" = some false by decide +kernel)
theorem kB_bool {K : PySem.W.Frag} {H : Hp} {x : V} {T : String} (b : Bk H x T) : PySem.W.kitOne K (.type T) (.type "bool") = some (isB x) := by
  cases b with
  | non => exact kit_ty (show kitB "NoneType" "bool" = some false by decide +kernel)
  | bl => exact kit_ty (show kitB "bool" "bool" = some true by decide +kernel)
  | int => exact kit_ty (show kitB "int" "bool" = some false by decide +kernel)
  | str => exact kit_ty (show kitB "str" "bool" = some false by decide +kernel)
  | lst => exact kit_ty (show kitB "list" "bool" = some false by decide +kernel)
  | tup => exact kit_ty (show kitB "tuple" "bool" = some false by decide +kernel)
  | dK => exact kit_ty (show kitB "dict" "bool" = some false by decide +kernel)
theorem Txt.tyC {K : PySem.W.Frag} {mg : Str → Option Value} {C a dx : Addr} {H : Hp} {fs : List (Str × V)} (t : Txt K mg C) (h : H a = some (.ins C dx fs)) : TyX K H (.ref a) (.ref C) :=
  .base (.ins h t.cl t.ca t.cn t.ct t.op.ob)

/-! ### promises -/
def spWhole (C : Addr) : Sp := fun vs H Q _ => ∃ v, vs = [v] ∧ ((∃ T, Bk H v T) ∨ ∃ a dx fs, v = .ref a ∧ H a = some (.ins C dx fs)) ∧ Q (.bl (isI v)) H
def IsAm (C : Addr) (H : Hp) (v : V) (b : Bool) : Prop := ((∃ T, Bk H v T) ∧ b = isI v) ∨ ((∃ a dx fs, v = .ref a ∧ H a = some (.ins C dx fs)) ∧ b = true)
def spIsAm (C : Addr) : Sp := fun vs H Q _ => ∃ v b, vs = [v] ∧ IsAm C H v b ∧ Q (.bl b) H
theorem AmV.isAm {C : Addr} {H : Hp} {y : V} {n u : Int} (h : AmV C H y n u) : IsAm C H y true := by
  rcases h with h | ⟨rfl, _⟩
  · exact .inr ⟨h.inst, rfl⟩
  · exact .inl ⟨⟨_, .int n⟩, rfl⟩
def spParts (C : Addr) : Sp := fun vs H Q _ => ∃ v n u, vs = [v] ∧ AmV C H v n u ∧ ∀ p, H p = none → Q (.ref p) (upd H p (.tup [.int n, .int u]))
def spInit (C : Addr) : Sp := fun vs H Q _ => ∃ x dx n u, vs = [.ref x, .int n, .int u] ∧ H x = some (.ins C dx []) ∧ u ≠ 0 ∧ Bd 8900 n ∧ Bd 8900 u ∧
  ∀ H' : Hp, H' x = some (.ins C dx (pf (fr n u).1 (fr n u).2)) → (∀ b o, H b = some o → b ≠ x → H' b = some o) → Q .non H'
/-- // by any divisor below 2 ^ 9000 -/
theorem op_fdivX {X : Cx} : OpR X (binaryOp .FloorDiv) (rI (fun _ j => j ≠ 0 ∧ j.natAbs.log2 < 9000) fun i j => .int (i.fdiv j)) := opI fun i j _ _ _ _ _ hc q =>
  floordiv_int hc.1 q (.inl (PyProof.noPylong_of_log2 hc.2))

section
variable {P : Program} {w : World} {K : PySem.W.Frag} {mg : Str → Option Value} {base : Heap}
theorem b_isi : bootBuiltins "isinstance" = some (.builtin "isinstance") := by decide +kernel
theorem b_int : bootBuiltins "int" = some (.type "int") := by decide +kernel
theorem b_bool : bootBuiltins "bool" = some (.type "bool") := by decide +kernel

end
end Am
/-! texts as lists of signs: one sign found, cut at, parted at -/
namespace SL
open PySem PySem.StrLaws PySem.Builtin PySem.Builtin.Str
abbrev ofL (l : List Nat) : Str := ⟨l.toArray⟩
theorem ofL_toList (x : Str) : ofL x.cps.toList = x := by cases x; simp [ofL]
theorem toList_ofL (l : List Nat) : (ofL l).cps.toList = l := by simp [ofL]
theorem len_toList (x : Str) : x.cps.toList.length = x.length := Array.length_toList
theorem ext {x y : Str} (h : x.cps.toList = y.cps.toList) : x = y := by rw [← ofL_toList x, ← ofL_toList y, h]
/-- where the sign stands -/
def idxs (c : Nat) : List Nat → Nat → List Nat
  | [], _ => []
  | y :: ys, k => if y = c then k :: idxs c ys (k + 1) else idxs c ys (k + 1)
theorem occ_run (x : Str) (c limit : Nat) : ∀ (m : List Nat) (i : Nat) (acc : Array Nat) (free : Nat), x.cps.toList.drop i = m → i + m.length = x.length → acc.size ≤ limit → free ≤ i →
    (forIn (List.range' i (m.length + 1)) (acc, free) (occBody x ⟨#[c]⟩ x.length limit)).run.fst.toList = acc.toList ++ (idxs c m i).take (limit - acc.size)
  | [], i, acc, free, hd, hl, hs, hf => by
    have hl' : i = x.length := by simpa using hl
    subst hl'
    rw [show List.range' x.length (([] : List Nat).length + 1) = [x.length] from rfl, List.forIn_cons]
    unfold occBody
    rw [if_neg (by rintro ⟨⟨_, h⟩, _⟩; have : (⟨#[c]⟩ : Str).length = 1 := rfl; omega)]
    simp [idxs]
  | y :: m, i, acc, free, hd, hl, hs, hf => by
    have hi : x.cps.toList[i]? = some y := by
      have e := congrArg (·[0]?) hd
      simpa using e
    have hd' : x.cps.toList.drop (i + 1) = m := by
      have e := congrArg List.tail hd
      simpa using e
    have hl' : (i + 1) + m.length = x.length := by simp only [List.length_cons] at hl; omega
    rw [List.length_cons, List.range'_succ, List.forIn_cons]
    unfold occBody
    by_cases hc : y = c
    · subst hc
      have hat := (subAt_one x y i).mpr hi
      by_cases hlt : acc.size < limit
      · rw [if_pos ⟨⟨⟨hlt, hf⟩, hat.1⟩, hat.2⟩]
        have ih := occ_run x y limit m (i + 1) (acc.push i) (i + (⟨#[y]⟩ : Str).length) hd' hl' (by rw [Array.size_push]; omega) (Nat.le_refl _)
        refine Eq.trans ih ?_
        have e : limit - acc.size = (limit - (acc.push i).size) + 1 := by rw [Array.size_push]; omega
        rw [e]
        simp [idxs]
      · rw [if_neg (by rintro ⟨⟨⟨h, _⟩, _⟩, _⟩; exact hlt h)]
        have ih := occ_run x y limit m (i + 1) acc free hd' hl' hs (by omega)
        refine Eq.trans ih ?_
        have e : limit - acc.size = 0 := by omega
        rw [e]
        simp
    · rw [if_neg (by rintro ⟨⟨_, h1⟩, h2⟩; have h3 := (subAt_one x c i).mp ⟨h1, h2⟩; rw [hi] at h3; exact hc (Option.some.inj h3))]
      have ih := occ_run x c limit m (i + 1) acc free hd' hl' hs (by omega)
      refine Eq.trans ih ?_
      simp [idxs, hc]
theorem occ_sign (x : Str) (c limit : Nat) : occurrences x ⟨#[c]⟩ 0 x.length limit = (idxs c x.cps.toList 0).take limit := by
  rw [occ_eq]
  have h := occ_run x c limit x.cps.toList 0 #[] 0 (by simp) (by rw [len_toList]; omega) (Nat.zero_le _) (Nat.le_refl _)
  have e : x.length + 1 - 0 = x.cps.toList.length + 1 := by rw [len_toList]; omega
  rw [e, h]
  simp
theorem idxs_len (c : Nat) : ∀ (m : List Nat) (k : Nat), (idxs c m k).length ≤ m.length
  | [], _ => Nat.le_refl _
  | y :: m, k => by
    have := idxs_len c m (k + 1)
    unfold idxs
    split <;> simp <;> omega
theorem idxs_none {c : Nat} : ∀ {m : List Nat} {k : Nat}, c ∉ m → idxs c m k = []
  | [], _, _ => rfl
  | y :: m, k, h => by
    unfold idxs
    rw [if_neg (fun e => h (by rw [e]; exact List.mem_cons_self ..))]
    exact idxs_none (fun z => h (List.mem_cons_of_mem _ z))
theorem idxs_app {c : Nat} {r : List Nat} : ∀ {p : List Nat} {k : Nat}, c ∉ p → idxs c (p ++ c :: r) k = (k + p.length) :: idxs c r (k + p.length + 1)
  | [], k, _ => by simp [idxs]
  | y :: p, k, h => by
    have ih := idxs_app (r := r) (k := k + 1) (fun z => h (List.mem_cons_of_mem _ z) : c ∉ p)
    rw [List.cons_append, idxs, if_neg (fun e => h (by rw [e]; exact List.mem_cons_self ..)), ih, List.length_cons]
    rw [show k + 1 + p.length = k + (p.length + 1) by omega]
/-- the list cut at each c -/
def cutAt (c : Nat) : List Nat → List (List Nat)
  | [] => [[]]
  | y :: ys => if y = c then [] :: cutAt c ys else match cutAt c ys with
    | [] => [[y]]
    | w :: ws => (y :: w) :: ws
theorem cut_ne (c : Nat) (l : List Nat) : cutAt c l ≠ [] := by
  cases l with
  | nil => simp [cutAt]
  | cons y ys =>
    unfold cutAt
    split
    · simp
    · split <;> simp
theorem cut_none {c : Nat} : ∀ {l : List Nat}, c ∉ l → cutAt c l = [l]
  | [], _ => rfl
  | y :: ys, h => by
    unfold cutAt
    rw [if_neg (fun e => h (by rw [e]; exact List.mem_cons_self ..)), cut_none (fun z => h (List.mem_cons_of_mem _ z))]
theorem cut_app {c : Nat} {r : List Nat} : ∀ {p : List Nat}, c ∉ p → cutAt c (p ++ c :: r) = p :: cutAt c r
  | [], _ => by simp [cutAt]
  | y :: p, h => by
    have ih := cut_app (r := r) (fun z => h (List.mem_cons_of_mem _ z) : c ∉ p)
    rw [List.cons_append, cutAt, if_neg (fun e => h (by rw [e]; exact List.mem_cons_self ..)), ih]
theorem first_c {c : Nat} : ∀ {l : List Nat}, c ∈ l → ∃ p r, l = p ++ c :: r ∧ c ∉ p
  | [], h => by cases h
  | y :: ys, h => by
    by_cases e : y = c
    · exact ⟨[], ys, by rw [e]; rfl, by simp⟩
    · rcases List.mem_cons.mp h with z | z
      · exact (e z.symm).elim
      · obtain ⟨p, r, h1, h2⟩ := first_c z
        refine ⟨y :: p, r, by rw [h1]; rfl, ?_⟩
        intro z
        rcases List.mem_cons.mp z with z | z
        · exact e z.symm
        · exact h2 z
theorem sub_ofL (x : Str) (a b : Nat) : strSub x a b = ofL ((x.cps.toList.drop a).take (b - a)) := ext (by rw [strSub_toList, toList_ofL])
theorem parts_eq (x : Str) (c : Nat) : ∀ (n : Nat) (m : List Nat) (a : Nat), m.length ≤ n → x.cps.toList.drop a = m → a + m.length = x.length →
    ((a :: (idxs c m a).map (· + 1)).zip (idxs c m a ++ [x.length])).map (fun p => strSub x p.1 p.2) = (cutAt c m).map ofL := by
  intro n
  induction n with
  | zero =>
    intro m a hn hd hl
    have e : m = [] := List.eq_nil_of_length_eq_zero (by omega)
    subst e
    simp [idxs, cutAt, sub_ofL, hd]
  | succ n ih =>
    intro m a hn hd hl
    by_cases hc : c ∈ m
    · obtain ⟨p, r, e, hp⟩ := first_c hc
      subst e
      have hl2 : a + (p.length + (r.length + 1)) = x.length := by simpa using hl
      have hd2 : x.cps.toList.drop (a + p.length + 1) = r := by
        have e : x.cps.toList.drop (a + p.length + 1) = (x.cps.toList.drop a).drop (p.length + 1) := by rw [List.drop_drop]; congr 1
        rw [e, hd]
        simp
      rw [idxs_app hp, cut_app hp]
      have h := ih r (a + p.length + 1) (by simp only [List.length_append, List.length_cons] at hn; omega) hd2 (by omega)
      show strSub x a (a + p.length) :: List.map (fun p => strSub x p.1 p.2) (((a + p.length + 1) :: (idxs c r (a + p.length + 1)).map (· + 1)).zip (idxs c r (a + p.length + 1) ++ [x.length])) = ofL p :: (cutAt c r).map ofL
      rw [h, sub_ofL, hd]
      have e : a + p.length - a = p.length := by omega
      rw [e]
      simp
    · rw [idxs_none hc, cut_none hc]
      show [strSub x a x.length] = [ofL m]
      rw [sub_ofL, hd]
      have e : x.length - a = m.length := by omega
      rw [e]
      simp
theorem split_sign (x : Str) (c : Nat) (h0 : x.length ≠ 0 → strKind x ≥ strKind ⟨#[c]⟩) : Txt.split x ⟨#[c]⟩ = (cutAt c x.cps.toList).map ofL := by
  unfold Txt.split
  have l1 : (⟨#[c]⟩ : Str).length = 1 := rfl
  rw [occ_sign, l1]
  by_cases hx : x.length = 0
  · have e : x.cps.toList = [] := List.eq_nil_of_length_eq_zero (by rw [len_toList]; exact hx)
    have hlt : (decide (x.length < 1) || decide (strKind x < strKind ⟨#[c]⟩)) = true := by rw [hx]; simp
    rw [if_pos hlt, e]
    show [x] = [ofL []]
    rw [← e, ofL_toList]
  · have hlt : ¬ (decide (x.length < 1) || decide (strKind x < strKind ⟨#[c]⟩)) = true := by
      have := h0 hx
      simp only [Bool.or_eq_true, decide_eq_true_eq]
      omega
    rw [if_neg hlt]
    have hlen : (idxs c x.cps.toList 0).take (x.length + 1) = idxs c x.cps.toList 0 := by
      refine List.take_of_length_le ?_
      have := idxs_len c x.cps.toList 0
      rw [len_toList] at this
      omega
    rw [hlen]
    have key := parts_eq x c x.cps.toList.length x.cps.toList 0 (Nat.le_refl _) (by simp) (by rw [len_toList]; omega)
    by_cases hem : (idxs c x.cps.toList 0).isEmpty = true
    · rw [if_pos hem]
      have e : idxs c x.cps.toList 0 = [] := List.isEmpty_iff.mp hem
      rw [e] at key
      rw [← key]
      show [x] = [strSub x 0 x.length]
      rw [sub_ofL]
      have e2 : (x.cps.toList.drop 0).take (x.length - 0) = x.cps.toList := by
        rw [List.drop_zero]
        exact List.take_of_length_le (by rw [len_toList]; omega)
      rw [e2, ofL_toList]
    · rw [if_neg hem, ← key]
      rfl
theorem part_sign (x : Str) (c : Nat) (p r : List Nat) (h : x.cps.toList = p ++ c :: r) (hp : c ∉ p) : Txt.partition x ⟨#[c]⟩ = (ofL p, ⟨#[c]⟩, ofL r) := by
  unfold Txt.partition
  rw [occ_sign, h, idxs_app hp]
  show (strSub x 0 (0 + p.length), (⟨#[c]⟩ : Str), strSub x (0 + p.length + 1) x.length) = _
  rw [sub_ofL, sub_ofL, h]
  have l : x.length = p.length + (r.length + 1) := by rw [← len_toList, h]; simp
  congr 1
  · simp
  · congr 1
    rw [l]
    have e : (p ++ c :: r).drop (0 + p.length + 1) = r := by
      have e : (0 + p.length + 1) = p.length + 1 := by omega
      rw [e]
      simp
    rw [e]
    congr 2
    refine List.take_of_length_le ?_
    omega
theorem part_none (x : Str) (c : Nat) (h : c ∉ x.cps.toList) : Txt.partition x ⟨#[c]⟩ = (x, Str.empty, Str.empty) := by
  unfold Txt.partition
  rw [occ_sign, idxs_none h]
  rfl
end SL
/-! houses: what their text tells, and how the program keeps it while it reads -/
namespace Hs
open PySem PySem.Spec PyProof.Rows L2
structure Pl where
  name : Str
  room : Nat
  inner : Bool
structure St where
  who : Str
  pl : Str
  a : Nat
  b : Nat
structure Lore where
  days : Nat
  places : List Pl
  prices : List (Nat × Nat)
  stays : List St
def plO (p : Pl) : HO := .tup [.str p.name, .int p.room, .bl p.inner]
def prO (p : Nat × Nat) : HO := .tup [.int p.1, .int p.2]
def stO (s : St) : HO := .tup [.str s.who, .str s.pl, .int s.a, .int s.b]
/-- objects one by one -/
def Refs {α : Type} (f : α → HO) (H : Hp) (rs : List Addr) (xs : List α) : Prop := rs.length = xs.length ∧ ∀ (i : Nat) (r : Addr) (x : α), rs[i]? = some r → xs[i]? = some x → H r = some (f x)
def LstAt {α : Type} (f : α → HO) (H : Hp) (l : Addr) (xs : List α) : Prop := ∃ rs : List Addr, H l = some (.lst (rs.map V.ref)) ∧ Refs f H rs xs
section
variable {α : Type} {f : α → HO} {H H' : Hp} {l : Addr} {xs : List α} {rs : List Addr}
theorem Refs.same (h : Refs f H rs xs) (e : Same H H') : Refs f H' rs xs := ⟨h.1, fun i r x a b => e _ _ (h.2 i r x a b)⟩
theorem LstAt.same (h : LstAt f H l xs) (e : Same H H') : LstAt f H' l xs := by
  obtain ⟨rs, a, b⟩ := h
  exact ⟨rs, e _ _ a, b.same e⟩
theorem Refs.at (h : Refs f H rs xs) {i : Nat} {v : V} (hv : (rs.map V.ref)[i]? = some v) : ∃ r x, v = .ref r ∧ rs[i]? = some r ∧ xs[i]? = some x ∧ H r = some (f x) := by
  rw [List.getElem?_map] at hv
  cases hr : rs[i]? with
  | none => rw [hr] at hv; cases hv
  | some r =>
    rw [hr] at hv
    have e : V.ref r = v := Option.some.inj hv
    have hi : i < xs.length := by
      rw [← h.1]
      exact (List.getElem?_eq_some_iff.mp hr).1
    exact ⟨r, xs[i], e.symm, rfl, List.getElem?_eq_getElem hi, h.2 i r _ hr (List.getElem?_eq_getElem hi)⟩
theorem Refs.nil : Refs f H [] [] := ⟨rfl, fun i r x a => by simp at a⟩
theorem Refs.snoc {r : Addr} {x : α} (h : Refs f H rs xs) (hr : H r = some (f x)) : Refs f H (rs ++ [r]) (xs ++ [x]) := by
  refine ⟨by simp [h.1], fun i q y a b => ?_⟩
  by_cases c : i < rs.length
  · rw [List.getElem?_append_left c] at a
    rw [List.getElem?_append_left (by rw [← h.1]; exact c)] at b
    exact h.2 i q y a b
  · rw [List.getElem?_append_right (by omega)] at a
    rw [List.getElem?_append_right (by rw [← h.1]; omega), ← h.1] at b
    by_cases z : i - rs.length = 0
    · rw [z] at a b
      simp at a b
      rw [← a, ← b]
      exact hr
    · have : ([r] : List Addr)[i - rs.length]? = none := List.getElem?_eq_none (by simp; omega)
      rw [this] at a
      cases a
end
/-- all but what is named stands as it did -/
def Fr (ms : List Addr) (H H' : Hp) : Prop := ∀ b u, H b = some u → b ∉ ms → H' b = some u
theorem Fr.same {ms : List Addr} {H H' : Hp} (e : Same H H') : Fr ms H H' := fun b u h _ => e b u h
theorem Fr.trans {ms : List Addr} {H H1 H2 : Hp} (a : Fr ms H H1) (b : Fr ms H1 H2) : Fr ms H H2 := fun c u e n => b c u (a c u e n) n
def dfs (days : Nat) (lp lt ls : Addr) : List (Str × V) := putF "stays" (.ref ls) (putF "tariffs" (.ref lt) (putF "places" (.ref lp) (putF "days" (.int days) [])))
/-- a draft, its lists -/
structure DraftAt (C : Addr) (H : Hp) (d lp lt ls : Addr) (L : Lore) : Prop where
  ob : ∃ dx, H d = some (.ins C dx (dfs L.days lp lt ls))
  pl : LstAt plO H lp L.places
  pr : LstAt prO H lt L.prices
  st : LstAt stO H ls L.stays
  n1 : lp ≠ lt
  n2 : lp ≠ ls
  n3 : lt ≠ ls
theorem DraftAt.same {C : Addr} {H H' : Hp} {d lp lt ls : Addr} {L : Lore} (h : DraftAt C H d lp lt ls L) (e : Same H H') : DraftAt C H' d lp lt ls L :=
  ⟨by obtain ⟨dx, z⟩ := h.ob; exact ⟨dx, e _ _ z⟩, h.pl.same e, h.pr.same e, h.st.same e, h.n1, h.n2, h.n3⟩
theorem n_dp : ¬ (("days" : Str) = "places") := by decide +kernel
theorem n_dt : ¬ (("days" : Str) = "tariffs") := by decide +kernel
theorem n_ds : ¬ (("days" : Str) = "stays") := by decide +kernel
theorem n_pt : ¬ (("places" : Str) = "tariffs") := by decide +kernel
theorem n_ps : ¬ (("places" : Str) = "stays") := by decide +kernel
theorem n_ts : ¬ (("tariffs" : Str) = "stays") := by decide +kernel
theorem dfs_days (n : Nat) (lp lt ls : Addr) : (dfs n lp lt ls).lookup ("days" : Str) = some (.int n) := by
  unfold dfs
  rw [lookup_putF, if_neg n_ds, lookup_putF, if_neg n_dt, lookup_putF, if_neg n_dp, lookup_putF, if_pos rfl]
theorem dfs_pl (n : Nat) (lp lt ls : Addr) : (dfs n lp lt ls).lookup ("places" : Str) = some (.ref lp) := by
  unfold dfs
  rw [lookup_putF, if_neg n_ps, lookup_putF, if_neg n_pt, lookup_putF, if_pos rfl]
theorem dfs_ta (n : Nat) (lp lt ls : Addr) : (dfs n lp lt ls).lookup ("tariffs" : Str) = some (.ref lt) := by
  unfold dfs
  rw [lookup_putF, if_neg n_ts, lookup_putF, if_pos rfl]
theorem dfs_st (n : Nat) (lp lt ls : Addr) : (dfs n lp lt ls).lookup ("stays" : Str) = some (.ref ls) := by
  unfold dfs
  rw [lookup_putF, if_pos rfl]
theorem dfs_set (n m : Nat) (lp lt ls : Addr) : putF "days" (.int m) (dfs n lp lt ls) = dfs m lp lt ls := by
  have e : dfs n lp lt ls = [(("days" : Str), V.int n), (("places" : Str), V.ref lp), (("tariffs" : Str), V.ref lt), (("stays" : Str), V.ref ls)] := by
    unfold dfs
    simp only [putF, if_neg n_dp, if_neg n_dt, if_neg n_ds, if_neg n_pt, if_neg n_ps, if_neg n_ts]
  have e2 : dfs m lp lt ls = [(("days" : Str), V.int m), (("places" : Str), V.ref lp), (("tariffs" : Str), V.ref lt), (("stays" : Str), V.ref ls)] := by
    unfold dfs
    simp only [putF, if_neg n_dp, if_neg n_dt, if_neg n_ds, if_neg n_pt, if_neg n_ps, if_neg n_ts]
  rw [e, e2]
  simp [putF]
/-- what the class Draft must have -/
structure DC (K : PySem.W.Frag) (C : Addr) : Prop where
  cl : Cls K C
  nD : NoAttr K C "days"
  nP : NoAttr K C "places"
  nT : NoAttr K C "tariffs"
  nS : NoAttr K C "stays"
end Hs
/-! the questions of a draft -/
namespace Hs
open PySem PySem.Spec PyProof.Rows L2 Am
theorem b_any : bootBuiltins "any" = some (.builtin "any") := by decide +kernel
/-- what is asked in vain: nothing but new objects -/
def hasP (L : Lore) (x : Str) : Bool := L.places.any fun p => decide (p.name = x)
def hasF (L : Lore) : Bool := L.places.any fun p => p.inner
def letS (L : Lore) (x : Str) (a b : Nat) : Bool := L.stays.any fun s => decide (s.pl = x) && (decide (s.a < b) && decide (a < s.b))
def Small (L : Lore) : Prop := L.places.length ≤ 4 ∧ L.prices.length ≤ 3 ∧ L.stays.length ≤ 8
def spHasP (C : Addr) : Sp := fun vs H Q _ => ∃ (d lp lt ls : Addr) (L : Lore) (x : Str), vs = [.ref d, .str x] ∧ DraftAt C H d lp lt ls L ∧ Small L ∧ ∀ H', Same H H' → Q (.bl (hasP L x)) H'
def spHasF (C : Addr) : Sp := fun vs H Q _ => ∃ (d lp lt ls : Addr) (L : Lore), vs = [.ref d] ∧ DraftAt C H d lp lt ls L ∧ Small L ∧ ∀ H', Same H H' → Q (.bl (hasF L)) H'
def spIsLet (C : Addr) : Sp := fun vs H Q _ => ∃ (d lp lt ls : Addr) (L : Lore) (x : Str) (a b : Nat), vs = [.ref d, .str x, .int a, .int b] ∧ DraftAt C H d lp lt ls L ∧ Small L ∧ ∀ H', Same H H' → Q (.bl (letS L x a b)) H'
theorem any_map {α : Type} (g : α → Bool) (xs : List α) : (xs.map g).any id = xs.any g := by rw [List.any_map]; rfl
theorem str_eq (x y : Str) : decide (V.str x = V.str y) = decide (x = y) := decide_eq_decide.mpr ⟨V.str.inj, fun h => by rw [h]⟩
/-- what a comprehension holds between its turns -/
def Tk (H1 : Hp) (D : Addr) (ys : List V) (i : Nat) (H : Hp) : Prop := Same H1 H ∧ H D = some (.lst (ys.take i))
theorem Tk.start {H1 : Hp} {D : Addr} {ys : List V} (nD : H1 D = none) : Tk H1 D ys 0 (upd H1 D (.lst [])) := ⟨same_upd nD, by rw [upd_same]; rfl⟩
theorem Tk.step {H1 H H' : Hp} {D : Addr} {ys : List V} {i : Nat} {y : V} (nD : H1 D = none) (h : Tk H1 D ys i H) (e : Same H H') (hy : ys[i]? = some y) (hn : ys.length ≤ 1000) :
    ∃ acc, H' D = some (.lst acc) ∧ acc.length < sizeLine ∧ Tk H1 D ys (i + 1) (upd H' D (.lst (acc ++ [y]))) := by
  refine ⟨_, e _ _ h.2, ?_, ?_, ?_⟩
  · rw [List.length_take]
    exact Nat.lt_of_le_of_lt (Nat.le_trans (Nat.min_le_right _ _) hn) (by decide)
  · intro b o z
    rw [upd_ne (ne_of_none z nD)]
    exact e _ _ (h.1 _ _ z)
  · rw [upd_same, List.take_add_one, hy]
    rfl
theorem Tk.done {H1 H : Hp} {D : Addr} {ys : List V} {n : Nat} (h : Tk H1 D ys n H) (hn : n = ys.length) : H D = some (.lst ys) := by
  have := h.2
  rw [hn, List.take_length] at this
  exact this
section
variable {P : Program} {w : World} {K : PySem.W.Frag} {mg : Str → Option Value} {base : Heap} {C : Addr}
theorem scHasP : FnScope ["self", "name", "place", "room", "inner"] ["self", "name"] (defScope sDrHasP) := ⟨rfl, rfl, rfl, by decide +kernel, rfl, by decide +kernel, by decide +kernel⟩
theorem ok_hasP {f : Addr} {fd : FuncData} (F : Fun K "has_place" "Draft.has_place" sDrHasP f fd) (dc : DC K C) (na : mg "any" = none) : FnOk P w K mg base CX0 1 f fd ["self", "name"] (spHasP C) := by
  refine F.ok scHasP (fun vs H Q E h => ?_) (fun cdv A outer s H vs Q E hr h => ?_)
  · obtain ⟨d, lp, lt, ls, L, x, rfl, _⟩ := h
    rfl
  · obtain ⟨d, lp, lt, ls, L, x, rfl, hd, sm, q⟩ := h
    refine ⟨_, pss_one (ps_ret (pe_callB (cr_any rfl) (by rfl) na b_any (pa_cons (pe_lc (own := [("place", 2), ("room", 3), ("inner", 4)]) (g := gTup K 3 (gCons (gName 2) (gCons (gName 3) (gCons (gName 4) gNil)))) (tt := tYes) rfl scHasP.nd (pi_list (pe_fld (pv 0) rfl))
      (blkOk_by (N := ["self", "name", "place", "room", "inner"]) (sc := defScope sDrHasP) (by decide +kernel))
      (fun _ _ _ _ _ => pg_tup rfl (pgs_cons (pg_name (i := 2) scHasP.nd rfl (.inl rfl)) (pgs_cons (pg_name (i := 3) scHasP.nd rfl (.inl rfl)) (pgs_cons (pg_name (i := 4) scHasP.nd rfl (.inl rfl)) pgs_nil)))) (fun _ _ _ _ _ => pts_nil)
      (fun _ _ _ _ _ => pe_cmpR op_eq (pv 2) (pv 1) (nomark _))) pa_nil))), ?_⟩
    obtain ⟨dx, ob⟩ := hd.ob
    obtain ⟨rs, hl, hrs⟩ := hd.pl
    refine ⟨_, rfl, d, C, dx, _, _, rfl, ob, dc.cl, dc.nP, dfs_pl _ _ _ _, lp, rfl, ⟨_, SqL.of hl⟩, fun D nD => ?_⟩
    refine lc_it (walk_list (xs := rs.map V.ref)) (Pv := Tk H D (L.places.map fun p => V.bl (decide (p.name = x)))) (Tk.start nD) (fun i H' _ hh => SqL.of (hh.1 _ _ hl)) ?_ ?_
    · rintro i v H1 H2 hi hk ⟨rfl, hv⟩
      obtain ⟨r, p, rfl, hr', hp, ho⟩ := hrs.at hv
      refine ⟨r, _, rfl, SqT.of (hk.1 _ _ ho), rfl, _, _, rfl, _, _, rfl, _, _, rfl, rfl, rfl, ?_⟩
      unfold tYes
      refine iteT ⟨_, rfl, _, rfl, rfl, ?_⟩
      rw [str_eq]
      exact hk.step nD (Same.refl _) (by rw [List.getElem?_map, hp]; rfl) (by rw [List.length_map]; have := sm.1; omega)
    · rintro H1 hk
      refine ⟨D, L.places.map fun p => decide (p.name = x), rfl, SqL.of ?_, ?_⟩
      · rw [List.map_map]
        exact hk.done (by simp [hrs.1])
      · rw [any_map]
        exact q H1 hk.1
theorem scHasF : FnScope ["self", "name", "room", "inner"] ["self"] (defScope sDrHasF) := ⟨rfl, rfl, rfl, by decide +kernel, rfl, by decide +kernel, by decide +kernel⟩
theorem ok_hasF {f : Addr} {fd : FuncData} (F : Fun K "has_flat" "Draft.has_flat" sDrHasF f fd) (dc : DC K C) (na : mg "any" = none) : FnOk P w K mg base CX0 1 f fd ["self"] (spHasF C) := by
  refine F.ok scHasF (fun vs H Q E h => ?_) (fun cdv A outer s H vs Q E hr h => ?_)
  · obtain ⟨d, lp, lt, ls, L, rfl, _⟩ := h
    rfl
  · obtain ⟨d, lp, lt, ls, L, rfl, hd, sm, q⟩ := h
    refine ⟨_, pss_one (ps_ret (pe_callB (cr_any rfl) (by rfl) na b_any (pa_cons (pe_lc (own := [("name", 1), ("room", 2), ("inner", 3)]) (g := gTup K 3 (gCons (gName 1) (gCons (gName 2) (gCons (gName 3) gNil)))) (tt := tYes) rfl scHasF.nd (pi_list (pe_fld (pv 0) rfl))
      (blkOk_by (N := ["self", "name", "room", "inner"]) (sc := defScope sDrHasF) (by decide +kernel))
      (fun _ _ _ _ _ => pg_tup rfl (pgs_cons (pg_name (i := 1) scHasF.nd rfl (.inl rfl)) (pgs_cons (pg_name (i := 2) scHasF.nd rfl (.inl rfl)) (pgs_cons (pg_name (i := 3) scHasF.nd rfl (.inl rfl)) pgs_nil)))) (fun _ _ _ _ _ => pts_nil)
      (fun _ _ _ _ _ => pv 3)) pa_nil))), ?_⟩
    obtain ⟨dx, ob⟩ := hd.ob
    obtain ⟨rs, hl, hrs⟩ := hd.pl
    refine ⟨_, rfl, d, C, dx, _, _, rfl, ob, dc.cl, dc.nP, dfs_pl _ _ _ _, lp, rfl, ⟨_, SqL.of hl⟩, fun D nD => ?_⟩
    refine lc_it (walk_list (xs := rs.map V.ref)) (Pv := Tk H D (L.places.map fun p => V.bl p.inner)) (Tk.start nD) (fun i H' _ hh => SqL.of (hh.1 _ _ hl)) ?_ ?_
    · rintro i v H1 H2 hi hk ⟨rfl, hv⟩
      obtain ⟨r, p, rfl, hr', hp, ho⟩ := hrs.at hv
      refine ⟨r, _, rfl, SqT.of (hk.1 _ _ ho), rfl, _, _, rfl, _, _, rfl, _, _, rfl, rfl, rfl, ?_⟩
      unfold tYes
      refine iteT ⟨_, rfl, ?_⟩
      exact hk.step nD (Same.refl _) (by rw [List.getElem?_map, hp]; rfl) (by rw [List.length_map]; have := sm.1; omega)
    · rintro H1 hk
      refine ⟨D, L.places.map fun p => p.inner, rfl, SqL.of ?_, ?_⟩
      · rw [List.map_map]
        exact hk.done (by simp [hrs.1])
      · rw [any_map]
        exact q H1 hk.1
theorem scIsLet : FnScope ["self", "name", "first", "behind", "person", "place", "start", "end"] ["self", "name", "first", "behind"] (defScope sDrIsLet) := ⟨rfl, rfl, rfl, by decide +kernel, rfl, by decide +kernel, by decide +kernel⟩
theorem ok_isLet {f : Addr} {fd : FuncData} (F : Fun K "is_let" "Draft.is_let" sDrIsLet f fd) (dc : DC K C) (na : mg "any" = none) : FnOk P w K mg base CX0 1 f fd ["self", "name", "first", "behind"] (spIsLet C) := by
  refine F.ok scIsLet (fun vs H Q E h => ?_) (fun cdv A outer s H vs Q E hr h => ?_)
  · obtain ⟨d, lp, lt, ls, L, x, a, b, rfl, _⟩ := h
    rfl
  · obtain ⟨d, lp, lt, ls, L, x, a, b, rfl, hd, sm, q⟩ := h
    refine ⟨_, pss_one (ps_ret (pe_callB (cr_any rfl) (by rfl) na b_any (pa_cons (pe_lc (own := [("person", 4), ("place", 5), ("start", 6), ("end", 7)]) (g := gTup K 4 (gCons (gName 4) (gCons (gName 5) (gCons (gName 6) (gCons (gName 7) gNil))))) (tt := tYes) rfl scIsLet.nd (pi_list (pe_fld (pv 0) rfl))
      (blkOk_by (N := ["self", "name", "first", "behind", "person", "place", "start", "end"]) (sc := defScope sDrIsLet) (by decide +kernel))
      (fun _ _ _ _ _ => pg_tup rfl (pgs_cons (pg_name (i := 4) scIsLet.nd rfl (.inl rfl)) (pgs_cons (pg_name (i := 5) scIsLet.nd rfl (.inl rfl)) (pgs_cons (pg_name (i := 6) scIsLet.nd rfl (.inl rfl)) (pgs_cons (pg_name (i := 7) scIsLet.nd rfl (.inl rfl)) pgs_nil))))) (fun _ _ _ _ _ => pts_nil)
      (fun _ _ _ _ _ => pe_and (pe_cmpR op_eq (pv 5) (pv 1) (nomark _)) (pe_and (pe_cmpR op_lt (pv 6) (pv 3) (nomark _)) (pe_one (pe_cmpR op_lt (pv 2) (pv 7) (nomark _)))))) pa_nil))), ?_⟩
    obtain ⟨dx, ob⟩ := hd.ob
    obtain ⟨rs, hl, hrs⟩ := hd.st
    refine ⟨_, rfl, d, C, dx, _, _, rfl, ob, dc.cl, dc.nS, dfs_st _ _ _ _, ls, rfl, ⟨_, SqL.of hl⟩, fun D nD => ?_⟩
    refine lc_it (walk_list (xs := rs.map V.ref)) (Pv := Tk H D (L.stays.map fun s => V.bl (decide (s.pl = x) && (decide (s.a < b) && decide (a < s.b))))) (Tk.start nD) (fun i H' _ hh => SqL.of (hh.1 _ _ hl)) ?_ ?_
    · rintro i v H1 H2 hi hk ⟨rfl, hv⟩
      obtain ⟨r, p, rfl, hr', hp, ho⟩ := hrs.at hv
      refine ⟨r, _, rfl, SqT.of (hk.1 _ _ ho), rfl, _, _, rfl, _, _, rfl, _, _, rfl, _, _, rfl, rfl, rfl, ?_⟩
      unfold tYes
      refine iteT ⟨_, rfl, _, rfl, rfl, _, rfl, ?_⟩
      rw [str_eq]
      have fin : ∀ y : Bool, (decide (p.pl = x) && (decide (p.a < b) && decide (a < p.b))) = y → ∃ acc, H2 D = some (.lst acc) ∧ acc.length < sizeLine ∧ Tk H D (L.stays.map fun s => V.bl (decide (s.pl = x) && (decide (s.a < b) && decide (a < s.b)))) (i + 1) (upd H2 D (.lst (acc ++ [V.bl y]))) := by
        rintro y rfl
        exact hk.step nD (Same.refl _) (by rw [List.getElem?_map, hp]; rfl) (by rw [List.length_map]; have := sm.2.2; omega)
      have d1 : decide ((p.a : Int) < (b : Int)) = decide (p.a < b) := decide_eq_decide.mpr (by omega)
      have d2 : decide ((a : Int) < (p.b : Int)) = decide (a < p.b) := decide_eq_decide.mpr (by omega)
      cases c : decide (p.pl = x) with
      | false => exact iteF (fin _ (by rw [c]; rfl))
      | true =>
        refine iteT ⟨_, rfl, _, rfl, _, _, rfl, rfl, _, rfl, ?_⟩
        rw [d1]
        cases c2 : decide (p.a < b) with
        | false => exact iteF (fin _ (by rw [c, c2]; rfl))
        | true =>
          exact iteT ⟨_, rfl, _, rfl, _, _, rfl, rfl, fin (decide ((a : Int) < (p.b : Int))) (by rw [c, c2, d2]; rfl)⟩
    · rintro H1 hk
      refine ⟨D, L.stays.map fun s => (decide (s.pl = x) && (decide (s.a < b) && decide (a < s.b))), rfl, SqL.of ?_, ?_⟩
      · rw [List.map_map]
        exact hk.done (by simp [hrs.1])
      · rw [any_map]
        exact q H1 hk.1
end
end Hs
namespace Am
open PySem PySem.Spec PyProof.Rows L2
theorem log2_lt {n : Nat} {k : Nat} (hk : 0 < k) (h : n < 2 ^ k) : n.log2 < k := PySem.Flt.log2_lt_of hk h
def GotF (P : Program) (w : World) (K : PySem.W.Frag) (mg : Str → Option Value) (base : Heap) (x : Str) (k : Nat) (ps : List Str) (sp : Sp) : Prop :=
  ∃ (f : Addr) (fd : FuncData), FnOk P w K mg base CX0 k f fd ps sp ∧ Binds K fd ps [] ∧ mg x = some (.ref f) ∧ PySem.W.keepIn K (.ref f) = true
/-- a method of the class -/
def GotM (P : Program) (w : World) (K : PySem.W.Frag) (mg : Str → Option Value) (base : Heap) (C : Addr) (x : Str) (k : Nat) (ps : List Str) (sp : Sp) : Prop :=
  ∃ (f : Addr) (fd : FuncData), FnOk P w K mg base CX0 k f fd ps sp ∧ Binds K fd ps [] ∧ PySem.W.findIn K (.ref C) x = some (some (.ref f)) ∧ PySem.W.isFn K (.ref f) = true
/-- the making of an Amount -/
def GotI (P : Program) (w : World) (K : PySem.W.Frag) (mg : Str → Option Value) (base : Heap) (C : Addr) : Prop :=
  ∃ (f : Addr) (fd : FuncData), FnOk P w K mg base CX0 2 f fd ["self", "number", "under"] (spInit C) ∧ Binds K fd ["self", "number", "under"] [] ∧ (∃ ds, Vals [V.int 1] ds ∧ Binds K fd ["self", "number", "under"] ds) ∧ Mk K C f
theorem Bd.mono {k j : Nat} {n : Int} (h : Bd k n) (hj : k ≤ j) : Bd j n := Nat.lt_of_lt_of_le h (Nat.pow_le_pow_right (by decide) hj)
theorem Bd.neg {k : Nat} {n : Int} (h : Bd k n) : Bd k (-n) := by unfold Bd; rw [Int.natAbs_neg]; exact h
theorem Bd.mul {k j : Nat} {n m : Int} (h : Bd k n) (h' : Bd j m) : Bd (k + j) (n * m) := wide_lt h h'
theorem Bd.add {k : Nat} {n m : Int} (h : Bd k n) (h' : Bd k m) : Bd (k + 1) (n + m) := by
  unfold Bd at *
  have e : 2 ^ (k + 1) = 2 ^ k + 2 ^ k := by omega
  have := Int.natAbs_add_le n m
  omega
theorem Bd.cmul {k : Nat} {n m : Int} (h : Bd k n) (h' : Bd k m) (h0 : 0 < k) (hk : k ≤ 5000) : CMulW n m := wide_mul h h' h0 h0 (by omega)

end Am
/-! texts of amounts: what is read, and what is written -/
namespace Mt
open PySem PySem.NumText SL
/-- the figures of a number -/
def dg (m : Nat) : List Nat := (Nat.toDigits 10 m).map Char.toNat
theorem dg_str (m : Nat) : (Str.ofString (toString ((m : Nat) : Int))).cps.toList = dg m := PySem.W.KIN.signs_num m
theorem dg_val (m : Nat) : digitsVal (dg m) = m := PySem.W.KIN.val_back m
theorem dg_all (m : Nat) : AllDigits (dg m) := by
  intro c hc
  obtain ⟨ch, hch, e⟩ := List.mem_map.mp hc
  have r := PyProof.Rows.digit_range (Nat.isDigit_of_mem_toDigits (by decide) (by decide) hch)
  rw [← e]
  exact r
theorem dg_lt {d : Nat} (h : d < 10) : dg d = [48 + d] := by
  have e := Nat.toDigits_of_lt_base (b := 10) h
  unfold dg
  rw [e]
  match d, h with
  | 0, _ | 1, _ | 2, _ | 3, _ | 4, _ | 5, _ | 6, _ | 7, _ | 8, _ | 9, _ => rfl
theorem dg_step {m d : Nat} (hm : 0 < m) (hd : d < 10) : dg (10 * m + d) = dg m ++ [48 + d] := by
  rw [← dg_lt hd]
  unfold dg
  rw [← List.map_append, Nat.toDigits_append_toDigits (by decide) hm hd]
theorem dg_ne (m : Nat) : dg m ≠ [] := by
  by_cases h : m < 10
  · rw [dg_lt h]; simp
  · have e : m = 10 * (m / 10) + m % 10 := by omega
    rw [e, dg_step (by omega) (by omega)]
    simp
/-- zeros ahead, to k signs -/
def zpad (k : Nat) (l : List Nat) : List Nat := List.replicate (k - l.length) 48 ++ l
theorem dg_len : ∀ (k m : Nat), m < 10 ^ (k + 1) → (dg m).length ≤ k + 1
  | 0, m, h => by rw [dg_lt (by simpa using h)]; simp
  | k + 1, m, h => by
    by_cases c : m < 10
    · rw [dg_lt c]; simp
    · have e : m = 10 * (m / 10) + m % 10 := by omega
      have h2 : m / 10 < 10 ^ (k + 1) := by rw [Nat.pow_succ] at h; omega
      have := dg_len k (m / 10) h2
      rw [e, dg_step (by omega) (by omega)]
      simp only [List.length_append, List.length_cons, List.length_nil]
      omega
theorem dg_block {q : Nat} (hq : 0 < q) : ∀ (k b : Nat), b < 10 ^ (k + 1) → dg (q * 10 ^ (k + 1) + b) = dg q ++ zpad (k + 1) (dg b)
  | 0, b, h => by
    have hb : b < 10 := by simpa using h
    have e : q * 10 ^ (0 + 1) + b = 10 * q + b := by rw [show 10 ^ (0 + 1) = 10 from rfl]; omega
    rw [e, dg_step hq hb, dg_lt hb]
    rfl
  | k + 1, b, h => by
    have hd : b % 10 < 10 := by omega
    have hb : b / 10 < 10 ^ (k + 1) := by rw [Nat.pow_succ] at h; omega
    have e : q * 10 ^ (k + 1 + 1) + b = 10 * (q * 10 ^ (k + 1) + b / 10) + b % 10 := by rw [Nat.pow_succ 10 (k + 1), ← Nat.mul_assoc]; omega
    have pos : 0 < q * 10 ^ (k + 1) + b / 10 := Nat.lt_of_lt_of_le (Nat.mul_pos hq (Nat.pow_pos (by decide))) (Nat.le_add_right _ _)
    rw [e, dg_step pos hd, dg_block hq k (b / 10) hb, List.append_assoc]
    congr 1
    by_cases z : b < 10
    · have e0 : b / 10 = 0 := by omega
      have e1 : b % 10 = b := by omega
      rw [e0, e1, dg_lt z, dg_lt (by decide : 0 < 10)]
      unfold zpad
      show List.replicate (k + 1 - 1) 48 ++ [48] ++ [48 + b] = List.replicate (k + 1 + 1 - 1) 48 ++ [48 + b]
      rw [show k + 1 - 1 = k from rfl, show k + 1 + 1 - 1 = k + 1 from rfl, List.replicate_succ']
    · have e2 : b = 10 * (b / 10) + b % 10 := by omega
      have e3 : dg b = dg (b / 10) ++ [48 + b % 10] := by rw [e2, dg_step (by omega) (by omega)]; congr 2 <;> omega
      have l3 := dg_len k (b / 10) hb
      rw [e3]
      unfold zpad
      rw [List.length_append, List.length_cons, List.length_nil, List.append_assoc]
      congr 2
      omega
theorem fold_lt : ∀ (cs : List Nat) (a : Nat), AllDigits cs → cs.foldl (fun acc c => acc * 10 + (c - 48)) a < (a + 1) * 10 ^ cs.length
  | [], a, _ => by simp
  | c :: cs, a, h => by
    have ih := fold_lt cs (a * 10 + (c - 48)) h.tail
    have hc := h.head
    rw [List.length_cons, Nat.pow_succ, Nat.mul_comm (10 ^ cs.length) 10, ← Nat.mul_assoc]
    exact Nat.lt_of_lt_of_le ih (Nat.mul_le_mul_right _ (by omega))
theorem val_lt {cs : List Nat} (h : AllDigits cs) : digitsVal cs < 10 ^ cs.length := by
  have := fold_lt cs 0 h
  simpa [digitsVal] using this
def digB (c : Nat) : Bool := decide (48 ≤ c ∧ c ≤ 57)
/-- the number that a word writes; -1 if it writes none -/
def num (l : List Nat) : Int := if (!l.isEmpty && l.all digB) = true then (if (l.head? = some 48 ∧ l ≠ [48]) then -1 else (digitsVal l : Int)) else -1
theorem all_dig {l : List Nat} (h : l.all digB = true) : AllDigits l := fun c hc => by
  have := List.all_eq_true.mp h c hc
  exact of_decide_eq_true this
theorem num_lt {l : List Nat} {k : Nat} (h : l.length ≤ k) : (num l).natAbs < 10 ^ k ∨ num l = -1 := by
  unfold num
  split
  · rename_i c
    rw [Bool.and_eq_true] at c
    split
    · exact .inr rfl
    · exact .inl (Nat.lt_of_lt_of_le (val_lt (all_dig c.2)) (Nat.pow_le_pow_right (by decide) h))
  · exact .inr rfl
theorem num_ge (l : List Nat) : -1 ≤ num l := by
  unfold num
  split
  · split
    · omega
    · omega
  · omega
theorem num_not {l : List Nat} {c : Nat} (h : c ∈ l) (hc : digB c = false) : num l = -1 := by
  unfold num
  rw [if_neg]
  intro z
  rw [Bool.and_eq_true] at z
  have := List.all_eq_true.mp z.2 c h
  rw [hc] at this
  cases this
theorem num_dg (m : Nat) : num (dg m) = m := by
  have h : (!(dg m).isEmpty && (dg m).all digB) = true := by
    rw [Bool.and_eq_true]
    refine ⟨?_, List.all_eq_true.mpr fun c hc => decide_eq_true (dg_all m c hc)⟩
    have := dg_ne m
    cases e : dg m with
    | nil => exact absurd e this
    | cons a r => rfl
  unfold num
  rw [if_pos h, if_neg, dg_val]
  rintro ⟨h1, h2⟩
  by_cases z : m < 10
  · rw [dg_lt z] at h1 h2
    have e : 48 + m = 48 := by simpa using h1
    exact h2 (by rw [e])
  · -- the first figure is no nought
    have key : ∀ n, 0 < n → (dg n).head? ≠ some 48 := by
      intro n
      induction n using Nat.strongRecOn with
      | _ n ih =>
        intro hn
        by_cases z : n < 10
        · rw [dg_lt z]
          simp
          omega
        · have e : n = 10 * (n / 10) + n % 10 := by omega
          rw [e, dg_step (by omega) (by omega), List.head?_append]
          have := ih (n / 10) (by omega) (by omega)
          cases q : (dg (n / 10)).head? with
          | none => exact absurd (List.head?_eq_none_iff.mp q) (dg_ne _)
          | some v => rw [q] at this; simpa using this
    exact key m (by omega) h1
/-- the sign ahead left out -/
def bare (l : List Nat) : List Nat := if l.head? = some 45 then l.tail else l
def sgn (l : List Nat) : Bool := decide (l.head? = some 45)
/-- the text of a whole number -/
def intL (n : Int) : List Nat := (Str.ofString (toString n)).cps.toList
def textT (n u : Int) : Str := Str.ofString (toString n) ++ (if u = 1 then ("" : Str) else ("/" : Str) ++ Str.ofString (toString u))
def fin (neg : Bool) (number under : Int) (x : Str) : Option (Int × Int) := if textT (Am.fr (if neg then -number else number) under).1 (Am.fr (if neg then -number else number) under).2 = x then some (Am.fr (if neg then -number else number) under) else none
def readB (x : Str) (l : List Nat) (top : List Nat) (under : Int) : Option (Int × Int) := if num (bare top) < 0 ∨ under < 1 then none else fin (sgn l) (num (bare top)) under x
/-- what the text is read as -/
def readT (x : Str) : Option (Int × Int) :=
  if 47 ∈ x.cps.toList then readB x x.cps.toList (x.cps.toList.takeWhile (fun c => decide (c ≠ 47))) (num (x.cps.toList.dropWhile (fun c => decide (c ≠ 47))).tail)
  else readB x x.cps.toList x.cps.toList 1
theorem intL_pos {n : Int} (h : 0 ≤ n) : intL n = dg n.natAbs := by
  obtain ⟨m, rfl⟩ := Int.eq_ofNat_of_zero_le h
  exact dg_str m
theorem intL_neg {n : Int} (h : n < 0) : intL n = 45 :: dg n.natAbs := by
  unfold intL
  rw [PyProof.Rows.toString_neg h, Int.zero_sub]
  have e : ∀ a b : String, (Str.ofString (a ++ b)).cps.toList = (Str.ofString a).cps.toList ++ (Str.ofString b).cps.toList := fun a b => by
    rw [Str.ofString_eq_toList, Str.ofString_eq_toList, Str.ofString_eq_toList]
    simp
  rw [e]
  have e2 : (Str.ofString (toString (-n))).cps.toList = dg n.natAbs := by
    have z := intL_pos (n := -n) (by omega)
    unfold intL at z
    rw [z, Int.natAbs_neg]
  rw [e2]
  rfl
theorem not_dig {c : Nat} (h : digB c = false) (m : Nat) : c ∉ dg m := fun z => by
  have := dg_all m c z
  unfold digB at h
  rw [decide_eq_true this] at h
  cases h
theorem dg_head {m : Nat} : (dg m).head? ≠ some 45 := by
  intro z
  have : 45 ∈ dg m := List.mem_of_head? z
  exact not_dig (by decide) m this
theorem bare_int (n : Int) : bare (intL n) = dg n.natAbs ∧ sgn (intL n) = decide (n < 0) := by
  by_cases c : n < 0
  · rw [intL_neg c]
    refine ⟨rfl, ?_⟩
    rw [decide_eq_true c]
    rfl
  · rw [intL_pos (by omega)]
    unfold bare sgn
    rw [if_neg dg_head, decide_eq_false c, decide_eq_false dg_head]
    exact ⟨rfl, rfl⟩
theorem no_slash (n : Int) : 47 ∉ intL n := by
  by_cases c : n < 0
  · rw [intL_neg c]
    intro z
    rcases List.mem_cons.mp z with z | z
    · cases z
    · exact not_dig (by decide) _ z
  · rw [intL_pos (by omega)]
    exact not_dig (by decide) _
theorem textT_L (n u : Int) : (textT n u).cps.toList = intL n ++ (if u = 1 then [] else 47 :: intL u) := by
  unfold textT
  rw [Str.cps_append]
  by_cases c : u = 1
  · rw [if_pos c, if_pos c]
    show ((Str.ofString (toString n)).cps ++ #[]).toList = _
    simp [intL]
  · rw [if_neg c, if_neg c, Str.cps_append]
    show ((Str.ofString (toString n)).cps ++ (#[47] ++ (Str.ofString (toString u)).cps)).toList = _
    simp [intL]
theorem take_ne {p r : List Nat} (hp : 47 ∉ p) : (p ++ 47 :: r).takeWhile (fun c => decide (c ≠ 47)) = p ∧ ((p ++ 47 :: r).dropWhile (fun c => decide (c ≠ 47))).tail = r := by
  induction p with
  | nil => simp
  | cons y p ih =>
    have hy : y ≠ 47 := fun e => hp (by rw [e]; exact List.mem_cons_self ..)
    obtain ⟨h1, h2⟩ := ih (fun z => hp (List.mem_cons_of_mem _ z))
    constructor
    · rw [List.cons_append, List.takeWhile_cons, if_pos (decide_eq_true hy), h1]
    · rw [List.cons_append, List.dropWhile_cons, if_pos (decide_eq_true hy), h2]
theorem readT_no {x : Str} (h : 47 ∉ x.cps.toList) : readT x = readB x x.cps.toList x.cps.toList 1 := if_neg h
theorem readT_yes {x : Str} {p r : List Nat} (h : x.cps.toList = p ++ 47 :: r) (hp : 47 ∉ p) : readT x = readB x x.cps.toList p (num r) := by
  unfold readT
  rw [if_pos (by rw [h]; simp), h, (take_ne hp).1, (take_ne hp).2]
theorem sgn_app {p r : List Nat} : sgn (p ++ 47 :: r) = sgn p := by
  cases p with
  | nil => rfl
  | cons y p => rfl
theorem bare_app {p r : List Nat} : bare (p ++ 47 :: r) = bare p ++ 47 :: r := by
  cases p with
  | nil => rfl
  | cons y p =>
    unfold bare
    by_cases c : y = 45
    · rw [if_pos (by rw [c]; rfl), if_pos (by rw [c]; rfl)]
      rfl
    · rw [if_neg (by show ¬ some y = some 45; simpa using c), if_neg (by show ¬ some y = some 45; simpa using c)]
theorem bare_mem {p : List Nat} {c : Nat} (h : c ∈ bare p) : c ∈ p := by
  unfold bare at h
  split at h
  · exact List.mem_of_mem_tail h
  · exact h
theorem bare_len (p : List Nat) : (bare p).length ≤ p.length := by
  unfold bare
  split
  · simp
  · exact Nat.le_refl _
/-- a text that was written is read -/
theorem read_written {n u : Int} (h : Am.Low n u) : readT (textT n u) = some (n, u) := by
  have hL := textT_L n u
  obtain ⟨b1, b2⟩ := bare_int n
  have abs : (if decide (n < 0) = true then -(n.natAbs : Int) else (n.natAbs : Int)) = n := by
    by_cases c : n < 0
    · rw [if_pos (decide_eq_true c)]; omega
    · rw [if_neg (by simpa using c)]; omega
  by_cases c : u = 1
  · subst c
    rw [if_pos rfl, List.append_nil] at hL
    rw [readT_no (by rw [hL]; exact no_slash n)]
    unfold readB
    rw [hL, b1, b2, num_dg, if_neg (by omega)]
    unfold fin
    rw [abs, Am.fr_of_low h, if_pos rfl]
  · rw [if_neg c] at hL
    have hu := h.1
    rw [readT_yes hL (no_slash n)]
    have e : num (intL u) = u := by rw [intL_pos (by omega), num_dg]; omega
    unfold readB
    rw [hL, sgn_app, b1, b2, num_dg, e, if_neg (by omega)]
    unfold fin
    rw [abs, Am.fr_of_low h, if_pos rfl]
/-- the law's own words for the same -/
theorem due_eq (x : Str) : (if (cutAt 47 (bare x.cps.toList)).length > 2 ∨ num ((cutAt 47 (bare x.cps.toList)).headD []) < 0 ∨ (if (cutAt 47 (bare x.cps.toList)).length = 2 then num ((cutAt 47 (bare x.cps.toList)).getLastD []) else 1) < 1 then none
    else fin (sgn x.cps.toList) (num ((cutAt 47 (bare x.cps.toList)).headD [])) (if (cutAt 47 (bare x.cps.toList)).length = 2 then num ((cutAt 47 (bare x.cps.toList)).getLastD []) else 1) x) = readT x := by
  by_cases h : 47 ∈ x.cps.toList
  · obtain ⟨p, r, e, hp⟩ := first_c h
    rw [readT_yes e hp]
    have hb : 47 ∉ bare p := fun z => hp (bare_mem z)
    rw [e, bare_app, sgn_app, cut_app hb]
    by_cases h2 : 47 ∈ r
    · obtain ⟨p2, r2, e2, hp2⟩ := first_c h2
      have l : (bare p :: cutAt 47 r).length > 2 := by
        rw [e2, cut_app hp2]
        have := cut_ne 47 r2
        have : 0 < (cutAt 47 r2).length := List.length_pos_iff.mpr this
        simp only [List.length_cons]
        omega
      rw [if_pos (.inl l)]
      unfold readB
      rw [num_not h2 (by decide), if_pos (.inr (by decide))]
    · rw [cut_none h2]
      have l : ([bare p, r] : List (List Nat)).length = 2 := rfl
      have hd : ([bare p, r] : List (List Nat)).headD [] = bare p := rfl
      have hl : ([bare p, r] : List (List Nat)).getLastD [] = r := rfl
      rw [if_pos l, hd, hl]
      unfold readB
      rw [sgn_app]
      by_cases z : num (bare p) < 0 ∨ num r < 1
      · rw [if_pos z, if_pos (.inr z)]
      · rw [if_neg z, if_neg (by
          rintro (y | y)
          · rw [l] at y; omega
          · exact z y)]
  · rw [readT_no h]
    have hb : 47 ∉ bare x.cps.toList := fun z => h (bare_mem z)
    rw [cut_none hb]
    have l1 : ¬ ([bare x.cps.toList] : List (List Nat)).length = 2 := by simp
    have hd : ([bare x.cps.toList] : List (List Nat)).headD [] = bare x.cps.toList := rfl
    rw [if_neg l1, hd]
    unfold readB
    by_cases z : num (bare x.cps.toList) < 0
    · rw [if_pos (.inr (.inl z)), if_pos (.inl z)]
    · have l3 : ([bare x.cps.toList] : List (List Nat)).length = 1 := rfl
      rw [if_neg (by rw [l3]; omega), if_neg (by omega)]
end Mt
namespace Am
open PySem PySem.Spec PyProof.Rows L2
/-- decimal(word) -/
def spDec : Sp := fun vs H Q _ => ∃ x : Str, vs = [.str x] ∧ x.length ≤ 640 ∧ Q (.int (Mt.num x.cps.toList)) H
theorem digit_asc : ∀ c, c < 128 → Unicode.isDigit c = Mt.digB c := by
  have h : ∀ c : Fin 128, Unicode.isDigit c.val = Mt.digB c.val := by decide +kernel
  exact fun c hc => h ⟨c, hc⟩
theorem ascB (x : Str) : Txt.isascii x = x.cps.toList.all (fun c => decide (c < 128)) := by
  unfold Txt.isascii
  rw [← Array.all_toList]
theorem digB_asc {c : Nat} (h : Mt.digB c = true) : c < 128 := by
  have := of_decide_eq_true h
  omega
theorem decimal_test (x : Str) : (Txt.isascii x && Txt.isdigit x) = (!x.cps.toList.isEmpty && x.cps.toList.all Mt.digB) := by
  rw [ascB]
  unfold Txt.isdigit
  rw [← Array.all_toList]
  have e0 : decide (x.length > 0) = !x.cps.toList.isEmpty := by
    rw [← SL.len_toList]
    cases x.cps.toList <;> simp
  rw [e0]
  generalize x.cps.toList = l
  cases ha : l.all (fun c => decide (c < 128)) with
  | true =>
    have e : l.all Unicode.isDigit = l.all Mt.digB := by
      rw [Bool.eq_iff_iff, List.all_eq_true, List.all_eq_true]
      have h := List.all_eq_true.mp ha
      exact ⟨fun z c hc => by rw [← digit_asc c (of_decide_eq_true (h c hc))]; exact z c hc, fun z c hc => by rw [digit_asc c (of_decide_eq_true (h c hc))]; exact z c hc⟩
    rw [e, Bool.true_and]
  | false =>
    cases hd : l.all Mt.digB with
    | false => simp
    | true =>
      have h := List.all_eq_true.mp hd
      have : l.all (fun c => decide (c < 128)) = true := List.all_eq_true.mpr fun c hc => decide_eq_true (digB_asc (h c hc))
      rw [ha] at this
      cases this
theorem starts0 (x : Str) : Txt.startswith x "0" = decide (x.cps.toList.head? = some 48) := by
  unfold Txt.startswith
  have e : ("0" : Str) = ⟨#[48]⟩ := by decide +kernel
  rw [e]
  have h := StrLaws.subAt_one x 48 0
  rw [Bool.eq_iff_iff, Bool.and_eq_true, decide_eq_true_eq, decide_eq_true_eq, h, List.head?_eq_getElem?]
theorem is0 (x : Str) : decide (V.str x = V.str ("0" : Str)) = decide (x.cps.toList = [48]) := by
  have e : ("0" : Str) = ⟨#[48]⟩ := by decide +kernel
  rw [e]
  refine decide_eq_decide.mpr ⟨fun h => ?_, fun h => ?_⟩
  · rw [V.str.inj h]
  · rw [SL.ext (x := x) (y := ⟨#[48]⟩) h]
section
variable {P : Program} {w : World} {K : PySem.W.Frag} {mg : Str → Option Value} {base : Heap} {C D : Addr}
theorem scDec : FnScope ["word"] ["word"] (defScope sDec) := ⟨rfl, rfl, rfl, by decide +kernel, rfl, by decide +kernel, by decide +kernel⟩
theorem ok_dec {f : Addr} {fd : FuncData} (F : Fun K "decimal" "decimal" sDec f fd) (ni : mg "int" = none) : FnOk P w K mg base CX0 1 f fd ["word"] spDec := by
  refine F.ok scDec (fun vs H Q E h => ?_) (fun cdv A outer s H vs Q E hr h => ?_)
  · obtain ⟨x, rfl, _⟩ := h
    rfl
  · obtain ⟨x, rfl, hl, q⟩ := h
    refine ⟨_, pss_cons (ps_if (pt_not (PW.pt (pw_and (pt_val (pe_bm0 PySem.F.plainAttrs_str PySem.F.slot_str_isascii PySem.F.type_str_isascii mt_isascii (pv 0))) (pw_and1 (pt_val (pe_bm0 PySem.F.plainAttrs_str PySem.F.slot_str_isdigit PySem.F.type_str_isdigit mt_isdigit (pv 0)))))))
        (pss_one (ps_ret (pe_un un_neg pe_int))) pss_nil)
      (pss_cons (ps_if (PW.pt (pw_and (pt_val (pe_bm PySem.F.plainAttrs_str PySem.F.slot_str_startswith PySem.F.type_str_startswith mt_startswith (pv 0) (pa_cons pe_str pa_nil))) (pw_and1 (pt_cmpR op_ne (pv 0) pe_str (nomark _)))))
        (pss_one (ps_ret (pe_un un_neg pe_int))) pss_nil)
      (pss_one (ps_ret (pe_callTy (call_int_str) (by rfl) ni b_int (pa_cons (pv 0) pa_nil))))), ?_⟩
    have key : Mt.num x.cps.toList = if (Txt.isascii x && Txt.isdigit x) = true then (if (x.cps.toList.head? = some 48 ∧ x.cps.toList ≠ [48]) then -1 else (NumText.digitsVal x.cps.toList : Int)) else -1 := by rw [decimal_test]; rfl
    rw [key] at q
    refine ⟨_, rfl, rfl, x, rfl, rfl, trivial, _, rfl, ?_⟩
    cases ha : Txt.isascii x with
    | false =>
      refine iteF (iteT ?_)
      rw [ha, Bool.false_and, if_neg (by decide)] at q
      exact ⟨_, rfl, q⟩
    | true =>
      refine iteT ⟨_, rfl, rfl, x, rfl, rfl, trivial, _, rfl, ?_⟩
      cases hd : Txt.isdigit x with
      | false =>
        refine iteT ?_
        rw [ha, hd, Bool.and_false, if_neg (by decide)] at q
        exact ⟨_, rfl, q⟩
      | true =>
        refine iteF ?_
        have hT : (!x.cps.toList.isEmpty && x.cps.toList.all Mt.digB) = true := by rw [← decimal_test, ha, hd]; rfl
        rw [Bool.and_eq_true] at hT
        have hne : x.cps.toList ≠ [] := by
          intro e
          rw [e] at hT
          exact absurd hT.1 (by decide)
        have hI : PySem.intText? x = some (NumText.digitsVal x.cps.toList : Int) := PySem.intText_digits (Mt.all_dig hT.2) hne (by omega)
        rw [ha, hd, if_pos (by decide)] at q
        have fin : ¬ (x.cps.toList.head? = some 48 ∧ x.cps.toList ≠ [48]) → tRet (tCB (fun xs H Q => ∃ a n, xs = [V.str a] ∧ intText? a = some n ∧ a.length ≤ 640 ∧ Q (V.int n) H) (tCons (tVar 0) tNil)) { nx := fun x H' => Q V.non H', rt := Q } [some (V.str x)] H := by
          intro z
          rw [if_neg z] at q
          exact ⟨_, rfl, x, _, rfl, hI, hl, q⟩
        refine ⟨_, rfl, rfl, x, _, rfl, rfl, _, rfl, ?_⟩
        rw [starts0]
        by_cases h0 : x.cps.toList.head? = some 48
        · rw [decide_eq_true h0]
          refine iteT ⟨_, rfl, rfl, _, rfl, ?_⟩
          rw [is0]
          by_cases h1 : x.cps.toList = [48]
          · rw [decide_eq_true h1]
            exact iteF (fin fun z => z.2 h1)
          · rw [decide_eq_false h1]
            refine iteT ⟨_, rfl, ?_⟩
            rw [if_pos ⟨h0, h1⟩] at q
            exact q
        · rw [decide_eq_false h0]
          exact iteF (iteF (fin fun z => h0 z.1))
end
end Am
namespace Am
open PySem PySem.Spec PyProof.Rows L2
/-- all but p stands as it did -/
def Chg (p : Addr) (H H' : Hp) : Prop := ∀ b u, H b = some u → b ≠ p → H' b = some u
theorem Chg.refl (p : Addr) (H : Hp) : Chg p H H := fun _ _ e _ => e
theorem Chg.trans {p : Addr} {H H1 H2 : Hp} (a : Chg p H H1) (b : Chg p H1 H2) : Chg p H H2 := fun c u e n => b c u (a c u e n) n
theorem Chg.of {p : Addr} {H H' : Hp} (s : Same H H') : Chg p H H' := fun b u e _ => s b u e
theorem Chg.upd {p : Addr} {H : Hp} {o : HO} : Chg p H (upd H p o) := fun b u e n => by rw [upd_ne n]; exact e
/-- the law's jar: what is left of the cell's own digits, the mixed number, how often it was asked -/
def JarAt (H : Hp) (p : Addr) (N : Int) : Prop := ∃ o m c : Int, H p = some (.lst [.int o, .int m, .int c]) ∧ 0 ≤ o ∧ (0 ≤ m ∧ m < 2 ^ 61) ∧ 0 ≤ c ∧ c ≤ N
theorem JarAt.mono {H : Hp} {p : Addr} {N M : Int} (h : JarAt H p N) (l : N ≤ M) : JarAt H p M := by
  obtain ⟨o, m, c, h, a, b, d, e⟩ := h
  exact ⟨o, m, c, h, a, b, d, Int.le_trans e l⟩
theorem JarAt.same {H H' : Hp} {p : Addr} {N : Int} (h : JarAt H p N) (e : Same H H') : JarAt H' p N := by
  obtain ⟨o, m, c, h, r⟩ := h
  exact ⟨o, m, c, e _ _ h, r⟩
theorem JarAt.lst {H : Hp} {p : Addr} {N : Int} (h : JarAt H p N) : ∃ xs, H p = some (.lst xs) := by
  obtain ⟨o, m, c, h, _⟩ := h
  exact ⟨_, h⟩
theorem AmAt.chg {C p : Addr} {H H' : Hp} {N : Int} {v : V} {n u : Int} (j : JarAt H p N) (e : Chg p H H') (h : AmAt C H v n u) : AmAt C H' v n u := by
  obtain ⟨l, a, dx, rfl, h⟩ := h
  obtain ⟨xs, hp⟩ := j.lst
  exact ⟨l, a, dx, rfl, e _ _ h (ne_of h hp (by intro z; cases z))⟩
theorem AmV.chg {C p : Addr} {H H' : Hp} {N : Int} {v : V} {n u : Int} (j : JarAt H p N) (e : Chg p H H') (h : AmV C H v n u) : AmV C H' v n u := h.elim (fun h => .inl (h.chg j e)) .inr
theorem tup_chg {p a : Addr} {H H' : Hp} {N : Int} {xs : List V} (j : JarAt H p N) (e : Chg p H H') (h : H a = some (.tup xs)) : H' a = some (.tup xs) := by
  obtain ⟨ys, hp⟩ := j.lst
  exact e _ _ h (ne_of h hp (by intro z; cases z))
theorem atI_in {xs : List V} {i : Int} (h0 : 0 ≤ i) (h1 : i < xs.length) : ∃ v, atI xs i = some v ∧ v ∈ xs := by
  obtain ⟨j, rfl⟩ := Int.eq_ofNat_of_zero_le h0
  have hj : j < xs.length := by omega
  exact ⟨xs[j], atI_nat (List.getElem?_eq_getElem hj), List.getElem_mem hj⟩
structure Nm (mg : Str → Option Value) : Prop where
  len : mg "len" = none
  abs : mg "abs" = none
  int : mg "int" = none
  max : mg "max" = none
  min : mg "min" = none
  range : mg "range" = none
  all : mg "all" = none
  repr : mg "repr" = none
  isi : mg "isinstance" = none
theorem b_abs : bootBuiltins "abs" = some (.builtin "abs") := by decide +kernel
theorem b_repr : bootBuiltins "repr" = some (.builtin "repr") := by decide +kernel
theorem b_max : bootBuiltins "max" = some (.builtin "max") := by decide +kernel
theorem b_min : bootBuiltins "min" = some (.builtin "min") := by decide +kernel
theorem b_all : bootBuiltins "all" = some (.builtin "all") := by decide +kernel
/-- ** of a written base of any size -/
theorem op_powX {X : Cx} : OpR X (binaryOp .Pow) (rI (fun i j => 0 ≤ j ∧ (Builtin.Int.intBits i : Int) * j ≤ 2 ^ 27) fun i j => .int (i ^ j.toNat)) := opI fun i j _ _ _ _ _ hc q => pow_int hc.1 hc.2 q
theorem b01 (b : Bool) : (-(2 ^ 64) : Int) < (if b = true then 1 else 0) ∧ (if b = true then (1 : Int) else 0) < 2 ^ 64 := by cases b <;> decide
theorem b01n (b : Bool) : (0 : Int) ≤ (if b = true then 1 else 0) := by cases b <;> decide
def spJar (K : PySem.W.Frag) : Sp := fun vs H Q _ => ∃ (a : Addr) (ns : List Int) (k : Int), vs = [.ref a, .int k] ∧ SqL K H a (ns.map V.int) ∧ 0 ≤ k ∧ k ≤ 63 ∧ ∀ p H', Same H H' → H p = none → JarAt H' p 0 → Q (.ref p) H'
def spTake : Sp := fun vs H Q _ => ∃ (p : Addr) (u N : Int), vs = [.ref p, .int u] ∧ (0 < u ∧ u < 1073741824) ∧ JarAt H p N ∧ N ≤ 9999 ∧ ∀ d H', (0 ≤ d ∧ d < u) → Chg p H H' → JarAt H' p (N + 1) → Q (.int d) H'
def spOf : Sp := fun vs H Q _ => ∃ (p l : Addr) (xs : List V) (N : Int), vs = [.ref p, .ref l] ∧ H l = some (.lst xs) ∧ l ≠ p ∧ (0 < xs.length ∧ xs.length ≤ 1000) ∧ JarAt H p N ∧ N ≤ 9999 ∧ ∀ v H', v ∈ xs → Chg p H H' → JarAt H' p (N + 1) → Q v H'
theorem sq_bound {k c : Int} (hk : 0 ≤ k) (hk2 : k ≤ 200000) (h0 : 0 ≤ c) (h1 : c ≤ 10000) : 0 ≤ k * c * c ∧ k * c * c ≤ 20000000000000 := by
  have a : 0 ≤ k * c := Int.mul_nonneg hk h0
  refine ⟨Int.mul_nonneg a h0, ?_⟩
  have b : k * c ≤ 200000 * 10000 := Int.mul_le_mul hk2 h1 h0 (by decide)
  have d : k * c * c ≤ 200000 * 10000 * 10000 := Int.mul_le_mul b h1 h0 (by decide)
  omega
section
variable {P : Program} {w : World} {K : PySem.W.Frag} {mg : Str → Option Value} {base : Heap} {C : Addr}
theorem scJar : FnScope ["_law_script", "_law_k", "_law_cell", "_law_own", "_law_mixed"] ["_law_script", "_law_k"] (defScope sJar) := ⟨rfl, rfl, rfl, by decide +kernel, rfl, by decide +kernel, by decide +kernel⟩
theorem ok_jar {f : Addr} {fd : FuncData} (F : Fun K "_law_jar" "_law_jar" sJar f fd) (T : Nm mg) : FnOk P w K mg base CX0 1 f fd ["_law_script", "_law_k"] (spJar K) := by
  refine F.ok scJar (fun vs H Q E h => ?_) (fun cdv A outer s H vs Q E hr h => ?_)
  · obtain ⟨a, ns, k, rfl, _⟩ := h
    rfl
  · obtain ⟨a, ns, k, rfl, hS, h0, h1, q⟩ := h
    refine ⟨_, C8.pss_cut (ps_set (i := 2) scJar.nd rfl (.inl rfl) (pe_ifExp (pt_cmpR op_lt (pv 1) (pe_callB call_len_seq (by rfl) T.len PySem.boot_len (pa_cons (pv 0) pa_nil)) (nomark _)) (pe_ix ix_list (pv 0) (pv 1) (fun _ _ => rfl)) (pe_op op_add (pe_op op_mul pe_int (pv 1)) pe_int)))
      (pss_cons (ps_set (i := 3) scJar.nd rfl (.inl rfl) (pe_op op_mul (pe_op op_mod (pe_callTy call_int1 (by rfl) T.int b_int (pa_cons (pe_callB call_abs (by rfl) T.abs b_abs (pa_cons (pv 2) pa_nil)) pa_nil)) (pe_op op_powX (pe_op op_pow pe_int pe_int) pe_int))
        (pe_callTy call_int1 (by rfl) T.int b_int (pa_cons (pe_cmpR op_ge (pe_callB call_abs (by rfl) T.abs b_abs (pa_cons (pv 2) pa_nil)) (pe_op op_pow pe_int pe_int) (nomark _)) pa_nil))))
      (pss_cons (ps_set (i := 4) scJar.nd rfl (.inl rfl) (pe_callTy call_int1 (by rfl) T.int b_int (pa_cons (pe_op op_add (pe_op op_add (pe_op op_mul (pe_op op_mod (pe_callTy call_int1 (by rfl) T.int b_int (pa_cons (pv 2) pa_nil)) pe_int) pe_int) (pe_op op_mul (pe_op op_mul pe_int (pv 1)) (pv 1))) pe_int) pa_nil)))
      (pss_one (ps_ret (pe_lst (pa_cons (pv 3) (pa_cons (pe_op op_mod (pv 4) pe_int) (pa_cons pe_int pa_nil)))))))), ?_⟩
    refine ⟨fun σ' H' => ∃ cell : Int, σ' = [some (.ref a), some (.int k), some (.int cell), none, none] ∧ H' = H, ?_, ?_⟩
    · refine ⟨_, rfl, _, rfl, a, _, rfl, .inl hS, _, _, rfl, rfl, _, rfl, ite2 (fun c => ?_) (fun c => ?_)⟩
      · have c' := of_decide_eq_true c
        rw [List.length_map] at c'
        obtain ⟨v, hv, mv⟩ := atI_in (xs := ns.map V.int) h0 (by rw [List.length_map]; exact c')
        obtain ⟨z, _, rfl⟩ := List.mem_map.mp mv
        exact ⟨_, rfl, _, rfl, a, _, _, _, rfl, rfl, hS, hv, z, rfl, rfl⟩
      · exact ⟨_, rfl, _, _, rfl, rfl, .inl (by decide), _, _, rfl, rfl, _, rfl, rfl⟩
    · rintro σ' H' ⟨cell, rfl, rfl⟩
      have own0 : ∀ x : Int, 0 ≤ x % (((10 : Int) ^ (60 : Int).toNat) ^ (5 : Int).toNat) := fun x => Int.emod_nonneg _ (by decide +kernel)
      refine ⟨_, rfl, cell, rfl, .inl ⟨_, rfl, _, _, rfl, rfl, ⟨by decide, by decide, by decide⟩, _, _, rfl, rfl, (by decide +kernel), _, _, rfl, rfl, (by show (0 : Int) < (10 ^ (60 : Int).toNat) ^ (5 : Int).toNat; decide +kernel), ?_⟩⟩
      refine ⟨_, rfl, cell, rfl, _, _, rfl, rfl, ⟨by decide, by decide, by decide⟩, _, _, rfl, rfl, .inr ⟨_, rfl, _, _, rfl, rfl, .inr (b01 _), ?_⟩⟩
      refine ⟨_, rfl, .inl ⟨_, rfl, _, _, rfl, rfl, (by show (0 : Int) < 2305843009213693951; decide), _, _, rfl, rfl, .inr (by decide), ?_⟩⟩
      refine ⟨_, rfl, _, _, rfl, rfl, .inl (by decide), _, rfl, _, _, rfl, rfl, .inr (by omega), _, _, rfl, rfl, _, _, rfl, rfl, .inl ⟨_, rfl, ?_⟩⟩
      refine ⟨_, rfl, _, rfl, _, _, rfl, rfl, (by show (0 : Int) < 2305843009213693921; decide), (by show 3 ≤ sizeLine; decide), fun p np => ?_⟩
      refine q p _ (same_upd np) np ⟨_, _, _, upd_same, ?_, ⟨Int.emod_nonneg _ (by decide), Int.lt_of_lt_of_le (Int.emod_lt_of_pos _ (by decide)) (by decide)⟩, Int.le_refl _, Int.le_refl _⟩
      exact Int.mul_nonneg (own0 _) (b01n _)
theorem scTake : FnScope ["_law_jar_here", "_law_upto", "_law_digit", "_law_prime", "_law_mixed"] ["_law_jar_here", "_law_upto"] (defScope sTake) := ⟨rfl, rfl, rfl, by decide +kernel, rfl, by decide +kernel, by decide +kernel⟩
theorem ok_take {f : Addr} {fd : FuncData} (F : Fun K "_law_take" "_law_take" sTake f fd) (T : Nm mg) : FnOk P w K mg base CX0 1 f fd ["_law_jar_here", "_law_upto"] spTake := by
  refine F.ok scTake (fun vs H Q E h => ?_) (fun cdv A outer s H vs Q E hr h => ?_)
  · obtain ⟨p, u, N, rfl, _⟩ := h
    rfl
  · obtain ⟨p, u, N, rfl, ⟨u0, u1⟩, ⟨o, m, c, hp, o0, ⟨m0, m1⟩, c0, c1⟩, hN, q⟩ := h
    refine ⟨_, pss_cons (ps_if (pt_cmpR op_gt (pe_ix ix_list (pv 0) pe_int (fun _ _ => rfl)) pe_int (nomark _))
        (pss_cons (ps_set (i := 2) scTake.nd rfl (.inl rfl) (pe_op op_mod (pe_callTy call_int1 (by rfl) T.int b_int (pa_cons (pe_ix ix_list (pv 0) pe_int (fun _ _ => rfl)) pa_nil)) (pv 1)))
        (pss_cons (ps_asg (pe_op op_fdiv (pe_ix ix_list (pv 0) pe_int (fun _ _ => rfl)) (pv 1)) (pg_sub (pv 0) pe_int set_list))
        (pss_one (ps_ret (pv 2))))) pss_nil)
      (pss_cons (ps_asg (pe_op op_add (pe_ix ix_list (pv 0) pe_int (fun _ _ => rfl)) pe_int) (pg_sub (pv 0) pe_int set_list))
      (pss_cons (ps_set (i := 3) scTake.nd rfl (.inl rfl) (pe_ix ix_list (pe_lst (pa_cons pe_int (pa_cons pe_int (pa_cons pe_int (pa_cons pe_int (pa_cons pe_int pa_nil)))))) (pe_op op_mod (pe_callTy call_int1 (by rfl) T.int b_int (pa_cons (pe_ix ix_list (pv 0) pe_int (fun _ _ => rfl)) pa_nil)) pe_int) (fun _ _ => rfl)))
      (pss_cons (ps_set (i := 4) scTake.nd rfl (.inl rfl) (pe_op op_mod (pe_callTy call_int1 (by rfl) T.int b_int (pa_cons (pe_op op_pow (pe_callTy call_int1 (by rfl) T.int b_int (pa_cons (pe_op op_add (pe_op op_add (pe_ix ix_list (pv 0) pe_int (fun _ _ => rfl)) (pe_op op_mul (pe_op op_mul pe_int (pe_ix ix_list (pv 0) pe_int (fun _ _ => rfl))) (pe_ix ix_list (pv 0) pe_int (fun _ _ => rfl)))) pe_int) pa_nil)) pe_int) pa_nil)) (pv 3)))
      (pss_one (ps_ret (pe_op op_mod (pe_callTy call_int1 (by rfl) T.int b_int (pa_cons (pe_op op_fdiv (pe_op op_mul (pv 4) (pe_op op_add (pe_op op_mod (pe_callTy call_int1 (by rfl) T.int b_int (pa_cons (pv 4) pa_nil)) pe_int) (pe_op op_mul pe_int (pe_ix ix_list (pv 0) pe_int (fun _ _ => rfl))))) pe_int) pa_nil)) (pv 1))))))), ?_⟩
    refine ⟨_, rfl, p, _, _, _, rfl, rfl, SqL.of hp, rfl, _, _, rfl, rfl, _, rfl, ite2 (fun z => ?_) (fun _ => ?_)⟩
    · refine ⟨_, rfl, p, _, _, _, rfl, rfl, SqL.of hp, rfl, .inl ⟨_, rfl, _, rfl, _, _, rfl, rfl, u0, ?_⟩⟩
      refine ⟨_, rfl, p, _, _, _, rfl, rfl, SqL.of hp, rfl, _, rfl, _, _, rfl, rfl, ⟨u0, u1⟩, _, rfl, p, _, _, 0, rfl, rfl, hp, rfl, ?_⟩
      refine ⟨_, rfl, q _ _ ⟨Int.emod_nonneg _ (by omega), Int.emod_lt_of_pos _ u0⟩ Chg.upd ⟨_, _, _, upd_same, Int.ediv_nonneg o0 (by omega), ⟨m0, m1⟩, c0, by omega⟩⟩
    · refine ⟨_, rfl, p, _, _, _, rfl, rfl, SqL.of hp, rfl, _, _, rfl, rfl, _, rfl, p, _, _, 2, rfl, rfl, hp, rfl, ?_⟩
      have hp1 : (upd H p (.lst ([V.int o, .int m, .int c].set 2 (.int (c + 1))))) p = some (.lst [V.int o, .int m, .int (c + 1)]) := upd_same
      have k1 : Chg p H (upd H p (.lst ([V.int o, .int m, .int c].set 2 (.int (c + 1))))) := Chg.upd
      generalize (upd H p (.lst ([V.int o, .int m, .int c].set 2 (.int (c + 1))))) = H1 at hp1 k1 ⊢
      refine ⟨by show 5 ≤ sizeLine; decide, fun l nl => ?_⟩
      have npl : p ≠ l := ne_of_none hp1 nl
      have hp2 : ∀ o, (upd H1 l o) p = some (.lst [V.int _, .int m, .int (c + 1)]) := fun o => by rw [upd_ne npl]; exact hp1
      refine ⟨_, rfl, p, _, _, _, rfl, rfl, SqL.of (hp2 _), rfl, .inl ⟨_, rfl, _, _, rfl, rfl, (by show (0 : Int) < 5; decide), ?_⟩⟩
      obtain ⟨v, hv, mv⟩ := atI_in (xs := [V.int 2147483647, .int 2147483629, .int 2147483587, .int 2147483579, .int 2147483563]) (i := (c + 1) % 5) (Int.emod_nonneg _ (by decide)) (Int.emod_lt_of_pos _ (by decide))
      obtain ⟨pr, rfl, pr0⟩ : ∃ pr : Int, v = .int pr ∧ 0 < pr := by
        simp only [List.mem_cons, List.not_mem_nil, or_false] at mv
        rcases mv with rfl | rfl | rfl | rfl | rfl <;> exact ⟨_, rfl, by decide⟩
      refine ⟨l, _, _, _, rfl, rfl, SqL.of upd_same, hv, ?_⟩
      have sq := fun (k : Int) (a : 0 ≤ k) (b : k ≤ 200000) => sq_bound (k := k) (c := c + 1) a b (by omega) (by omega)
      refine ⟨_, rfl, p, _, _, _, rfl, rfl, SqL.of (hp2 _), rfl, ?_⟩
      refine ⟨_, rfl, p, _, _, _, rfl, rfl, SqL.of (hp2 _), rfl, _, _, rfl, rfl, .inl (by decide), ?_⟩
      refine ⟨_, rfl, p, _, _, _, rfl, rfl, SqL.of (hp2 _), rfl, _, _, rfl, rfl, .inr (by omega), ?_⟩
      refine ⟨_, _, rfl, rfl, _, _, rfl, rfl, .inl ⟨_, rfl, _, _, rfl, rfl, ⟨by decide, by decide, ?_⟩, .inl ⟨_, rfl, _, rfl, _, _, rfl, rfl, pr0, ?_⟩⟩⟩
      · have := sq 120017 (by decide) (by decide)
        omega
      refine ⟨_, rfl, _, rfl, .inl ⟨_, rfl, _, _, rfl, rfl, (by show (0 : Int) < 10007; decide), ?_⟩⟩
      refine ⟨_, rfl, p, _, _, _, rfl, rfl, SqL.of (hp2 _), rfl, _, _, rfl, rfl, .inl (by decide), _, _, rfl, rfl, _, _, rfl, rfl, .inr ?_, _, _, rfl, rfl, ⟨by decide, by decide⟩, .inl ⟨_, rfl, _, rfl, _, _, rfl, rfl, u0, ?_⟩⟩
      · have g0 := fun x : Int => Int.emod_nonneg x (b := 10007) (by decide)
        have g1 := fun x : Int => Int.emod_lt_of_pos x (b := 10007) (by decide)
        have := g0 (((m + 120017 * (c + 1) * (c + 1) + 59) ^ (3 : Int).toNat) % pr)
        have := g1 (((m + 120017 * (c + 1) * (c + 1) + 59) ^ (3 : Int).toNat) % pr)
        constructor <;> omega
      · have np1 := hp2 (.lst [V.int 2147483647, .int 2147483629, .int 2147483587, .int 2147483579, .int 2147483563])
        exact q _ _ ⟨Int.emod_nonneg _ (by omega), Int.emod_lt_of_pos _ u0⟩ (k1.trans (Chg.of (same_upd nl))) ⟨_, _, _, np1, o0, ⟨m0, m1⟩, by omega, by omega⟩
theorem scOf : FnScope ["_law_jar_here", "_law_some"] ["_law_jar_here", "_law_some"] (defScope sOf) := ⟨rfl, rfl, rfl, by decide +kernel, rfl, by decide +kernel, by decide +kernel⟩
theorem ok_of {f : Addr} {fd : FuncData} (F : Fun K "_law_of" "_law_of" sOf f fd) (T : Nm mg) (GT : GotF P w K mg base "_law_take" 1 ["_law_jar_here", "_law_upto"] spTake) : FnOk P w K mg base CX0 2 f fd ["_law_jar_here", "_law_some"] spOf := by
  obtain ⟨fT, fdT, GT, bT, mT, kT⟩ := GT
  refine F.ok scOf (fun vs H Q E h => ?_) (fun cdv A outer s H vs Q E hr h => ?_)
  · obtain ⟨p, l, xs, N, rfl, _⟩ := h
    rfl
  · obtain ⟨p, l, xs, N, rfl, hl, nlp, ⟨x0, x1⟩, hj, hN, q⟩ := h
    refine ⟨_, pss_one (ps_ret (pe_ix ix_list (pv 1) (pe_call GT hr (by rfl) mT kT bT .nil pass0 (pa_cons (pv 0) (pa_cons (pe_callB call_len_seq (by rfl) T.len PySem.boot_len (pa_cons (pv 1) pa_nil)) pa_nil))) (fun _ _ => rfl))), ?_⟩
    refine ⟨_, rfl, _, rfl, _, rfl, l, _, rfl, .inl (SqL.of hl), ?_⟩
    refine ⟨p, _, N, rfl, ⟨by omega, by omega⟩, hj, hN, fun d H' hd k j => ?_⟩
    obtain ⟨v, hv, mv⟩ := atI_in hd.1 hd.2
    exact ⟨l, xs, d, v, rfl, rfl, SqL.of (k _ _ hl nlp), hv, q v H' mv k j⟩
end
end Am
/-! names, and the lines of a house, one by one -/
namespace Hs
open PySem PySem.Spec PyProof.Rows L2 Am
def abc : Str := "abcdefghijklmnopqrstuvwxyz"
def letB (c : Nat) : Bool := decide (97 ≤ c ∧ c ≤ 122)
/-- a name -/
def nameB (x : Str) : Bool := (decide (1 ≤ x.length) && decide (x.length ≤ 8)) && (!(decide (x = "main") || (decide (x = "house") || decide (x = "rest"))) && x.cps.toList.all letB)
theorem in_abc (c : Nat) : decide (c ∈ abc.cps.toList) = letB c := by
  have e : abc.cps.toList = [97, 98, 99, 100, 101, 102, 103, 104, 105, 106, 107, 108, 109, 110, 111, 112, 113, 114, 115, 116, 117, 118, 119, 120, 121, 122] := by decide +kernel
  rw [e]
  refine decide_eq_decide.mpr ⟨fun h => ?_, fun h => ?_⟩
  · simp only [List.mem_cons, List.not_mem_nil, or_false] at h
    omega
  · simp only [List.mem_cons, List.not_mem_nil, or_false]
    omega
/-- the module's words -/
structure Wd (K : PySem.W.Frag) (mg : Str → Option Value) : Prop where
  tk : ∃ T, mg "TAKEN" = some (.ref T) ∧ ∀ H, SqT K H T [V.str "main", V.str "house", V.str "rest"]
  lt : ∃ t, mg "LETTERS" = some (.str abc t)
def spIsName : Sp := fun vs H Q _ => ∃ x : Str, vs = [.str x] ∧ x.length ≤ 900 ∧ ∀ H', Same H H' → Q (.bl (nameB x)) H'
theorem taken_in (x : Str) : inV (V.str x) [V.str "main", V.str "house", V.str "rest"] = (decide (x = "main") || (decide (x = "house") || decide (x = "rest"))) := by
  have e : ∀ y : Str, eqV (V.str y) (V.str x) = decide (x = y) := fun y => by
    show (y == x) = _
    rw [Bool.eq_iff_iff, beq_iff_eq, decide_eq_true_eq]
    exact eq_comm
  show (eqV (V.str "main") (V.str x) || (eqV (V.str "house") (V.str x) || (eqV (V.str "rest") (V.str x) || false))) = _
  rw [e, e, e, Bool.or_false]
section
variable {P : Program} {w : World} {K : PySem.W.Frag} {mg : Str → Option Value} {base : Heap} {C : Addr}
theorem kstr {K : PySem.W.Frag} : PySem.W.kitOne K (.type "str") (.type "str") = some true := kit_ty (show kitB "str" "str" = some true by decide +kernel)
theorem scIsName : FnScope ["value", "letter"] ["value"] (defScope sIsName) := ⟨rfl, rfl, rfl, by decide +kernel, rfl, by decide +kernel, by decide +kernel⟩
theorem ok_isName {f : Addr} {fd : FuncData} (F : Fun K "is_name" "is_name" sIsName f fd) (W : Wd K mg) (T : Nm mg) (ns : mg "str" = none) : FnOk P w K mg base CX0 1 f fd ["value"] spIsName := by
  obtain ⟨⟨tkA, mT, tk⟩, tl, mL⟩ := W
  refine F.ok scIsName (fun vs H Q E h => ?_) (fun cdv A outer s H vs Q E hr h => ?_)
  · obtain ⟨x, rfl, _⟩ := h
    rfl
  · obtain ⟨x, rfl, hl, q⟩ := h
    have b_str : bootBuiltins "str" = some (.type "str") := by decide +kernel
    refine ⟨_, pss_cons (ps_if (PW.pt (pw_or (pt_not (pt_val (pe_callB call_isi (by rfl) T.isi b_isi (pa_cons (pv 0) (pa_cons (pe_bltn (v := .ty "str") (by rfl) ns b_str rfl) pa_nil)))))
          (pw_or1 (pt_not (pt_chain op_le op_le pe_int (pe_callB call_len_str (by rfl) T.len PySem.boot_len (pa_cons (pv 0) pa_nil)) pe_int)))))
        (pss_one (ps_ret pe_bl)) pss_nil)
      (pss_one (ps_ret (pe_and (pe_cmpR op_notIn_seq (pv 0) (pe_glob (v := .ref tkA) (by rfl) mT rfl) (by rfl))
        (pe_one (pe_callB (cr_all rfl) (by rfl) T.all b_all (pa_cons (pe_lc (own := [("letter", 1)]) (g := gName 1) (tt := tYes) rfl scIsName.nd
          (pi_str (pv 0)) (blkOk_by (N := ["value", "letter"]) (sc := defScope sIsName) (by decide +kernel)) (fun _ _ _ _ _ => pg_name (i := 1) scIsName.nd rfl (Or.inl rfl)) (fun _ _ _ _ _ => pts_nil)
          (fun _ _ _ _ _ => pe_cmpR op_in_sign (pv 1) (pe_glob (v := .str abc) (by rfl) mL ⟨_, rfl⟩) (by rfl))) pa_nil)))))), ?_⟩
    have big : ∀ {k : Nat}, k ≤ 4000 → k ≤ sizeLine := fun h => Nat.le_trans h (by decide)
    have no : nameB x = false → tRet (tC (V.bl false)) { nx := fun x H' => Q V.non H', rt := Q } [some (V.str x), none] H := fun e => by
      have := q H (Same.refl _)
      rw [e] at this
      exact this
    refine ⟨_, rfl, .str x, .ty "str", .type "str", .type "str", _, rfl, .ty _, .base (Bk.tyOf (.str x)), kstr, _, rfl, iteF ?_⟩
    refine ⟨_, rfl, x, rfl, big (by omega), _, _, rfl, rfl, _, rfl, ?_⟩
    have d1 : decide ((1 : Int) ≤ (x.length : Int)) = decide (1 ≤ x.length) := decide_eq_decide.mpr (by omega)
    have d2 : decide ((x.length : Int) ≤ (8 : Int)) = decide (x.length ≤ 8) := decide_eq_decide.mpr (by omega)
    rw [d1]
    cases c1 : decide (1 ≤ x.length) with
    | false =>
      refine iteF ⟨_, rfl, iteT (no ?_)⟩
      unfold nameB
      rw [c1]
      rfl
    | true =>
      refine iteT ⟨_, _, rfl, rfl, _, rfl, ?_⟩
      rw [d2]
      cases c2 : decide (x.length ≤ 8) with
      | false =>
        refine iteT (no ?_)
        unfold nameB
        rw [c1, c2]
        rfl
      | true =>
        refine iteF ?_
        refine ⟨_, rfl, tkA, _, rfl, .inr (tk H), rfl, rfl, _, rfl, ?_⟩
        rw [if_pos rfl, taken_in]
        cases c3 : (decide (x = "main") || (decide (x = "house") || decide (x = "rest"))) with
        | true =>
          refine iteF ?_
          have := q H (Same.refl _)
          unfold nameB at this
          rw [c1, c2, c3] at this
          exact this
        | false =>
          refine iteT ⟨_, rfl, x, rfl, fun D nD => ?_⟩
          have hsz : x.cps.size = x.cps.toList.length := by simp
          refine lc_it (walk_str (z := x)) (Pv := Tk H D (x.cps.toList.map fun c => V.bl (letB c))) (Tk.start nD) (fun _ _ _ _ => trivial) ?_ ?_
          · rintro i v H1 H2 hi hk ⟨rfl, c, hc, rfl⟩
            refine ⟨rfl, ?_⟩
            unfold tYes
            refine iteT ⟨_, rfl, c, _, rfl, rfl, ?_⟩
            rw [in_abc]
            have hc' : x.cps.toList[i]? = some c := by rw [Array.getElem?_toList]; exact hc
            exact hk.step nD (Same.refl _) (by rw [List.getElem?_map, hc']; rfl) (by rw [List.length_map, SL.len_toList]; omega)
          · rintro H1 hk
            refine ⟨D, x.cps.toList.map letB, rfl, SqL.of ?_, ?_⟩
            · rw [List.map_map]
              exact hk.done (by rw [hsz, List.length_map])
            · have := q H1 hk.1
              unfold nameB at this
              rw [c1, c2, c3] at this
              rw [List.all_map]
              exact this
end
end Hs
/-! a, *b = a list -/
namespace Stt
open PySem PySem.Spec PyProof.Rows L2
section
variable {prog : Program} {w : World} {A : Around} {E : Value → Shared → Prop} {s : Shared}
theorem parts_of_list {l : Addr} {v0 : Value} {vr : List Value} {R : List Value → Shared → Prop} (at_ : s.heap.IsList l (v0 :: vr).toArray) (calm : A.handled = none) (small : vr.length ≤ 16000)
    (next : ∀ (hp : Heap) (tk : Nat), (∀ b o, s.heap.get? b = some o → hp.get? b = some o) → R [v0, .ref hp.objs.size] { s with heap := hp.push { cls := .type "list", data := .seq vr.toArray }, toks := tk }) :
    wpAny (model prog w) A (unpackItems (.ref l) 2 (some 1)) R E s := by
  obtain ⟨ol, eol, _⟩ := id at_
  have below := Heap.lt_size eol
  have apart : l ≠ s.heap.objs.size := Nat.ne_of_lt below
  have iter0 : wpAny (model prog w) A (notIterableAtAll (.ref l)) (fun b s' => b = false ∧ s' = s) E s := by
    unfold notIterableAtAll
    exact wpAny_bind (wpAny_specialOf at_.typeIs slot_list_iter.lookup (wpAny_pure ⟨rfl, rfl⟩))
  unfold unpackItems
  refine wpAny_bind (wpAny_mono iter0 (fun b s' z => ?_) fun _ _ z => z)
  obtain ⟨rfl, rfl⟩ := z
  simp only [Bool.false_eq_true, if_false]
  refine wpAny_bind (wpAny_holding (wpAny_pyIter_list at_ ?_))
  have size2 : (v0 :: vr).toArray.size = vr.length + 1 := by simp
  refine wpAny_bind (wpAny_holding (PySem.W.kun_draw apart 1 0 _ _ ⟨_, Heap.get?_push_size _ rfl, rfl, rfl⟩ (at_.push _) (by rw [size2]; omega) ?_))
  intro g1 it1 sb1
  have at1 : g1.IsList l (v0 :: vr).toArray := (at_.push _).extBut sb1.extBut apart
  obtain ⟨o1, eo1, _⟩ := id at1
  obtain ⟨oi, eoi, _⟩ := id it1
  rw [if_neg (show ¬ (((v0 :: vr).toArray.toList.drop 0).take 1).length < 1 by simp)]
  have k1 : 1 ≤ (v0 :: vr).toArray.size := by rw [size2]; omega
  have z1 : (v0 :: vr).toArray.size ≤ sizeLine := by rw [size2]; exact Nat.le_trans (show _ ≤ 16001 by omega) (by decide)
  refine wpAny_bind (wpAny_holding (PySem.W.kun_collect (s := { s' with heap := g1 }) (T := "list_iterator") (.inr (.inr (.inl rfl))) (Walks.list (A := A.in1) calm s'.heap.objs.size l apart _) (fun j u st => st.1.typeIs) k1 ⟨it1, at1⟩ (Heap.lt_size eoi) (Heap.lt_size eo1) ?_ z1))
  intro g2 tk keep
  have whole : ∀ b o, s'.heap.get? b = some o → g2.get? b = some o := fun b o e => by
    have nb : b ≠ s'.heap.objs.size := Nat.ne_of_lt (Heap.lt_size e)
    exact keep b o nb (sb1.extBut b o nb (Heap.get?_push_of_some _ e))
  have e1 : (v0 :: vr).toArray.toList.drop 1 = vr := by simp
  have e0 : ((v0 :: vr).toArray.toList.drop 0).take 1 = [v0] := by simp
  rw [e1, e0]
  rw [if_neg (show ¬ vr.length < 2 - 1 - 1 by omega)]
  have et : vr.take (vr.length - (2 - 1 - 1)) = vr := List.take_of_length_le (by omega)
  have ed : vr.drop (vr.length - (2 - 1 - 1)) = [] := List.drop_of_length_le (by omega)
  rw [et, ed]
  refine wpAny_bind (wpAny_newList (wpAny_pure ?_) (Nat.le_trans small (by decide)))
  exact next g2 tk whole
end
section
variable {X : Cx}
theorem pgs_star {t : Expr} {sp : Pos} {g : TG} (h : PG X t g) (hs : (assignEach [.Starred t sp] X.env).map (·.2) = [assign t X.env] := by rfl) : PGs X [.Starred t sp] (gCons g gNil) := by
  refine ⟨fun pins s σ H vs us Q I r want => ?_⟩
  obtain ⟨v, vr, rfl, want⟩ := want
  cases r with
  | cons r rr =>
    rw [hs]
    refine assignInOrder_cons (thn (h.run pins s σ H _ _ _ I r want) fun _ s1 ⟨σ1, H1, I1, e, q1⟩ => ?_)
    subst e
    cases rr
    exact assignInOrder_nil ⟨σ1, H1, I1, q1⟩
/-- the first of a list, and a new list of the others -/
def gStar (K : PySem.W.Frag) (t : TGs) : TG := fun v σ H Q => ∃ l x xs, v = .ref l ∧ SqL K H l (x :: xs) ∧ xs.length ≤ 1000 ∧ ∀ D, H D = none → t [x, .ref D] σ (upd H D (.lst xs)) Q
theorem pg_star {es : List Expr} {k : Nat} {t : TGs} {pos : Pos} (hc : X.calm = true) (h : PGs X es t) (hn : (assignEach es X.env).length = 2 := by rfl) (hst : (assignEach es X.env).findIdx? (·.1) = some 1 := by rfl) : PG X (.Tuple es k pos) (gStar X.K t) := by
  refine ⟨fun pins s σ H v u Q I r want => ?_⟩
  obtain ⟨l, x, xs, rfl, hl, hx, want⟩ := want
  cases r
  obtain ⟨its, rv, pl, hz⟩ := I.list hl
  cases rv with
  | cons r0 rr =>
    rename_i v0 vr
    rw [assign_Tuple]
    refine wpAny_bind (wpAny_standAt ?_)
    unfold unpack
    rw [hn, hst]
    refine wpAny_bind (wpAny_holding (parts_of_list pl.isList (I.ok.hd hc) (by rw [← rr.length]; omega) fun hp tk keep => ?_))
    have I1 : Inv X pins σ H { s with heap := hp, toks := tk } := I.kept keep
    have hf : H hp.objs.size = none := I1.hok.fresh (Nat.le_refl _)
    refine h.run pins _ σ _ [x, .ref hp.objs.size] [v0, .ref hp.objs.size] Q (I1.laid (t' := tk) (o := .lst xs) (fun b u e => Heap.get?_push_of_some _ e) (Nat.le_refl _) ?_) (.cons r0 (.cons rfl .nil)) (want _ hf)
    exact ⟨Nat.le_trans hx (by decide), vr, 0, rr, Heap.get?_push_size _ rfl⟩
end
end Stt
/-! the lines of a house -/
namespace Hs
open PySem PySem.Spec PyProof.Rows L2 Am
/-- a list of texts -/
def WdAt (H : Hp) (l : Addr) (ws : List Str) : Prop := H l = some (.lst (ws.map V.str))
def spDays (C : Addr) : Sp := fun vs H Q _ => ∃ (d lp lt ls lw : Addr) (L : Lore) (w : Str) (n : Nat), vs = [.ref d, .ref lw] ∧ DraftAt C H d lp lt ls L ∧ WdAt H lw [w] ∧ L.days = 0 ∧ w.length ≤ 600 ∧ Mt.num w.cps.toList = n ∧ (1 ≤ n ∧ n ≤ 14) ∧
  ∀ H', Fr [d] H H' → DraftAt C H' d lp lt ls { L with days := n } → Q (.bl true) H'
theorem Fr.upd {ms : List Addr} {H : Hp} {d : Addr} {o : HO} (h : d ∈ ms) : Fr ms H (upd H d o) := fun b u e n => by
  rw [upd_ne (fun z => n (by rw [z]; exact h))]
  exact e
theorem Fr.mono {ms ns : List Addr} {H H' : Hp} (h : Fr ms H H') (e : ∀ x ∈ ms, x ∈ ns) : Fr ns H H' := fun b u z n => h b u z (fun y => n (e b y))
theorem dfs_len (n : Nat) (lp lt ls : Addr) : (dfs n lp lt ls).length = 4 := by
  unfold dfs
  simp only [putF, if_neg n_dp, if_neg n_dt, if_neg n_ds, if_neg n_pt, if_neg n_ps, if_neg n_ts]
  rfl
section
variable {P : Program} {w : World} {K : PySem.W.Frag} {mg : Str → Option Value} {base : Heap} {C : Addr}
theorem DraftAt.fld {H : Hp} {d lp lt ls : Addr} {L : Lore} (h : DraftAt C H d lp lt ls L) : ∃ dx, H d = some (.ins C dx (dfs L.days lp lt ls)) := h.ob
theorem DraftAt.d_ne {H : Hp} {d lp lt ls : Addr} {L : Lore} (h : DraftAt C H d lp lt ls L) : d ≠ lp ∧ d ≠ lt ∧ d ≠ ls := by
  obtain ⟨dx, ob⟩ := h.ob
  obtain ⟨r1, l1, _⟩ := h.pl
  obtain ⟨r2, l2, _⟩ := h.pr
  obtain ⟨r3, l3, _⟩ := h.st
  exact ⟨ne_of ob l1 (by intro z; cases z), ne_of ob l2 (by intro z; cases z), ne_of ob l3 (by intro z; cases z)⟩
theorem LstAt.keep {α : Type} {f : α → HO} {H H' : Hp} {l : Addr} {xs : List α} {ms : List Addr} (h : LstAt f H l xs) (e : Fr ms H H') (hl : l ∉ ms) (ho : ∀ r x, H r = some (f x) → r ∉ ms) : LstAt f H' l xs := by
  obtain ⟨rs, a, b, c⟩ := h
  exact ⟨rs, e _ _ a hl, b, fun i r x h1 h2 => e _ _ (c i r x h1 h2) (ho r x (c i r x h1 h2))⟩
theorem scDays : FnScope ["self", "words", "days"] ["self", "words"] (defScope sDrDays) := ⟨rfl, rfl, rfl, by decide +kernel, rfl, by decide +kernel, by decide +kernel⟩
theorem ok_days {f : Addr} {fd : FuncData} (F : Fun K "take_days" "Draft.take_days" sDrDays f fd) (dc : DC K C) (T : Nm mg) (GD : GotF P w K mg base "decimal" 1 ["word"] spDec) : FnOk P w K mg base CX0 2 f fd ["self", "words"] (spDays C) := by
  obtain ⟨fD, fdD, GD, bD, mD, kD⟩ := GD
  refine F.ok scDays (fun vs H Q E h => ?_) (fun cdv A outer s H vs Q E hr h => ?_)
  · obtain ⟨d, lp, lt, ls, lw, L, x, n, rfl, _⟩ := h
    rfl
  · obtain ⟨d, lp, lt, ls, lw, L, x, n, rfl, hd, hw, z0, lx, hn, ⟨n1, n14⟩, q⟩ := h
    refine ⟨_, pss_cons (ps_if (PW.pt (pw_or (pt_cmpR op_gt (pe_fld (pv 0) rfl) pe_int (nomark _)) (pw_or1 (pt_cmpR op_ne (pe_callB call_len_seq (by rfl) T.len PySem.boot_len (pa_cons (pv 1) pa_nil)) pe_int (nomark _))))) (pss_one (ps_ret pe_bl)) pss_nil)
      (pss_cons (ps_set (i := 2) scDays.nd rfl (.inl rfl) (pe_call GD hr (by rfl) mD kD bD .nil pass0 (pa_cons (pe_ix ix_list (pv 1) pe_int (fun _ _ => rfl)) pa_nil)))
      (pss_cons (ps_if (pt_not (pt_chain op_le op_le pe_int (pv 2) pe_int)) (pss_one (ps_ret pe_bl)) pss_nil)
      (pss_cons (ps_fld (pv 0) (pv 2) rfl)
      (pss_one (ps_ret pe_bl))))), ?_⟩
    obtain ⟨dx, ob⟩ := hd.ob
    refine ⟨_, rfl, d, C, dx, _, _, rfl, ob, dc.cl, dc.nD, dfs_days _ _ _ _, _, _, rfl, rfl, _, rfl, ?_⟩
    rw [z0, show decide (((0 : Nat) : Int) > 0) = false from rfl]
    refine iteF ⟨_, rfl, lw, _, rfl, .inl (SqL.of hw), rfl, _, rfl, iteF ?_⟩
    refine ⟨_, rfl, lw, _, _, _, rfl, rfl, SqL.of hw, rfl, x, rfl, by omega, ?_⟩
    rw [hn]
    refine ⟨_, rfl, _, _, rfl, rfl, _, rfl, ?_⟩
    rw [show decide ((1 : Int) ≤ (n : Int)) = true from decide_eq_true (by omega)]
    refine iteT ⟨_, _, rfl, rfl, _, rfl, ?_⟩
    rw [show decide ((n : Int) ≤ (14 : Int)) = true from decide_eq_true (by omega)]
    refine iteF ?_
    obtain ⟨ne1, ne2, ne3⟩ := hd.d_ne
    refine ⟨_, rfl, _, rfl, d, C, dx, _, rfl, ob, dc.cl, dc.nD, by rw [dfs_len]; decide, ?_⟩
    rw [dfs_set]
    have no : ∀ {α : Type} {f : α → HO} (hf : ∀ x, f x ≠ .ins C dx (dfs L.days lp lt ls)) (r : Addr) (x : α), H r = some (f x) → r ∉ [d] := by
      intro α f hf r x e z
      rw [List.mem_singleton.mp z, ob] at e
      exact hf x (Option.some.inj e).symm
    have fr : Fr [d] H (upd H d (.ins C dx (dfs n lp lt ls))) := Fr.upd (by simp)
    refine q _ fr ⟨⟨dx, upd_same⟩, ?_, ?_, ?_, hd.n1, hd.n2, hd.n3⟩
    · exact hd.pl.keep fr (by simpa using ne1.symm) (no (fun x z => by unfold plO at z; cases z))
    · exact hd.pr.keep fr (by simpa using ne2.symm) (no (fun x z => by unfold prO at z; cases z))
    · exact hd.st.keep fr (by simpa using ne3.symm) (no (fun x z => by unfold stO at z; cases z))
end
end Hs
namespace Hs
open PySem PySem.Spec PyProof.Rows L2 Am
def spPlace (C : Addr) : Sp := fun vs H Q _ => ∃ (d lp lt ls lw : Addr) (L : Lore) (x r : Str) (n : Nat) (inner : Bool), vs = [.ref d, .ref lw, .bl inner] ∧ DraftAt C H d lp lt ls L ∧ Small L ∧ WdAt H lw [x, r] ∧ L.days ≠ 0 ∧ L.prices = [] ∧ L.stays = [] ∧ x.length ≤ 600 ∧ r.length ≤ 600 ∧
  nameB x = true ∧ hasP L x = false ∧ Mt.num r.cps.toList = n ∧ (1 ≤ n ∧ n ≤ 9) ∧ L.places.length < 4 ∧ (L.places.length = 3 → inner = true ∨ hasF L = true) ∧
  ∀ H', Fr [lp] H H' → DraftAt C H' d lp lt ls { L with places := L.places ++ [⟨x, n, inner⟩] } → Q (.bl true) H'
def spPrice (C : Addr) : Sp := fun vs H Q _ => ∃ (d lp lt ls lw : Addr) (L : Lore) (x y : Str) (a n : Nat), vs = [.ref d, .ref lw] ∧ DraftAt C H d lp lt ls L ∧ Small L ∧ WdAt H lw [x, y] ∧ hasF L = true ∧ L.stays = [] ∧ L.prices.length < 3 ∧ x.length ≤ 600 ∧ y.length ≤ 600 ∧
  Mt.num x.cps.toList = a ∧ Mt.num y.cps.toList = n ∧ (∀ p, L.prices.getLast? = some p → p.1 < a) ∧ a < L.days ∧ n ≤ 99 ∧
  ∀ H', Fr [lt] H H' → DraftAt C H' d lp lt ls { L with prices := L.prices ++ [(a, n)] } → Q (.bl true) H'
def spStay (C : Addr) : Sp := fun vs H Q _ => ∃ (d lp lt ls lw : Addr) (L : Lore) (x y u v : Str) (a b : Nat), vs = [.ref d, .ref lw] ∧ DraftAt C H d lp lt ls L ∧ Small L ∧ WdAt H lw [x, y, u, v] ∧ hasF L = true ∧ L.stays.length < 8 ∧ x.length ≤ 600 ∧ y.length ≤ 600 ∧ u.length ≤ 600 ∧ v.length ≤ 600 ∧
  nameB x = true ∧ hasP L y = true ∧ Mt.num u.cps.toList = a ∧ Mt.num v.cps.toList = b ∧ a < b ∧ b ≤ L.days ∧ letS L y a b = false ∧
  ∀ H', Fr [ls] H H' → DraftAt C H' d lp lt ls { L with stays := L.stays ++ [⟨x, y, a, b⟩] } → Q (.bl true) H'
/-- a method of Draft, its promise known -/
def GotD (P : Program) (w : World) (K : PySem.W.Frag) (mg : Str → Option Value) (base : Heap) (C : Addr) (x : Str) (k : Nat) (ps : List Str) (sp : Sp) : Prop :=
  ∃ (f : Addr) (fd : FuncData), FnOk P w K mg base CX0 k f fd ps sp ∧ Binds K fd ps [] ∧ Meth K C x f
theorem dfs_none {x : Str} (n : Nat) (lp lt ls : Addr) (h1 : ¬ x = "days") (h2 : ¬ x = "places") (h3 : ¬ x = "tariffs") (h4 : ¬ x = "stays") : (dfs n lp lt ls).lookup x = none := by
  unfold dfs
  rw [lookup_putF, if_neg h4, lookup_putF, if_neg h3, lookup_putF, if_neg h2, lookup_putF, if_neg h1]
  rfl
section
variable {P : Program} {w : World} {K : PySem.W.Frag} {mg : Str → Option Value} {base : Heap} {C : Addr}
theorem dfs_m (n : Nat) (lp lt ls : Addr) : (dfs n lp lt ls).lookup ("has_place" : Str) = none ∧ (dfs n lp lt ls).lookup ("has_flat" : Str) = none ∧ (dfs n lp lt ls).lookup ("is_let" : Str) = none ∧ (dfs n lp lt ls).lookup ("take_days" : Str) = none ∧
    (dfs n lp lt ls).lookup ("take_place" : Str) = none ∧ (dfs n lp lt ls).lookup ("take_price" : Str) = none ∧ (dfs n lp lt ls).lookup ("take_stay" : Str) = none ∧ (dfs n lp lt ls).lookup ("take" : Str) = none :=
  ⟨dfs_none _ _ _ _ (by decide +kernel) (by decide +kernel) (by decide +kernel) (by decide +kernel), dfs_none _ _ _ _ (by decide +kernel) (by decide +kernel) (by decide +kernel) (by decide +kernel), dfs_none _ _ _ _ (by decide +kernel) (by decide +kernel) (by decide +kernel) (by decide +kernel),
   dfs_none _ _ _ _ (by decide +kernel) (by decide +kernel) (by decide +kernel) (by decide +kernel), dfs_none _ _ _ _ (by decide +kernel) (by decide +kernel) (by decide +kernel) (by decide +kernel), dfs_none _ _ _ _ (by decide +kernel) (by decide +kernel) (by decide +kernel) (by decide +kernel),
   dfs_none _ _ _ _ (by decide +kernel) (by decide +kernel) (by decide +kernel) (by decide +kernel), dfs_none _ _ _ _ (by decide +kernel) (by decide +kernel) (by decide +kernel) (by decide +kernel)⟩
/-- the truth of a list -/
theorem tru_lst {X : Cx} {H : Hp} {l : Addr} {xs : List V} (h : H l = some (.lst xs)) : TruV X.K (.ref l) H (!xs.isEmpty) := .inl ⟨xs, SqL.of h, rfl⟩
theorem int_eq (x y : Int) : decide (V.int x = V.int y) = decide (x = y) := decide_eq_decide.mpr ⟨V.int.inj, fun h => by rw [h]⟩
/-- a list grows by a new object -/
theorem LstAt.grow {α : Type} {f : α → HO} {H : Hp} {l : Addr} {xs : List α} {rs : List Addr} {D : Addr} {x : α} (hl : H l = some (.lst (rs.map V.ref))) (h : Refs f H rs xs) (nD : H D = none) (hf : ∀ x ys, f x ≠ .lst ys) :
    LstAt f (upd (upd H D (f x)) l (.lst (rs.map V.ref ++ [.ref D]))) l (xs ++ [x]) ∧ Fr [l] H (upd (upd H D (f x)) l (.lst (rs.map V.ref ++ [.ref D]))) := by
  have nl : D ≠ l := fun z => by rw [← z, nD] at hl; cases hl
  have fr : Fr [l] H (upd (upd H D (f x)) l (.lst (rs.map V.ref ++ [.ref D]))) := fun b u e n => by
    rw [upd_ne (fun z => n (by rw [z]; simp)), upd_ne (ne_of_none e nD)]
    exact e
  refine ⟨⟨rs ++ [D], by rw [upd_same, List.map_append]; rfl, Refs.snoc ⟨h.1, fun i r y a b => fr _ _ (h.2 i r y a b) ?_⟩ (by rw [upd_ne nl, upd_same])⟩, fr⟩
  intro z
  have e := h.2 i r y a b
  rw [List.mem_singleton.mp z, hl] at e
  exact hf y _ (Option.some.inj e).symm
theorem plO_nl (x : Pl) (ys : List V) : plO x ≠ .lst ys := fun z => by unfold plO at z; cases z
theorem prO_nl (x : Nat × Nat) (ys : List V) : prO x ≠ .lst ys := fun z => by unfold prO at z; cases z
theorem stO_nl (x : St) (ys : List V) : stO x ≠ .lst ys := fun z => by unfold stO at z; cases z
theorem at_nl {α : Type} {f : α → HO} {H : Hp} {l : Addr} {zs : List V} (hl : H l = some (.lst zs)) (hf : ∀ x ys, f x ≠ .lst ys) (r : Addr) (x : α) (e : H r = some (f x)) : r ∉ [l] := fun z => by
  rw [List.mem_singleton.mp z, hl] at e
  exact hf x _ (Option.some.inj e).symm
theorem DraftAt.pushP {H : Hp} {d lp lt ls D : Addr} {L : Lore} {rp : List Addr} {p : Pl} (h : DraftAt C H d lp lt ls L) (hl : H lp = some (.lst (rp.map V.ref))) (hr : Refs plO H rp L.places) (nD : H D = none) :
    DraftAt C (upd (upd H D (plO p)) lp (.lst (rp.map V.ref ++ [.ref D]))) d lp lt ls { L with places := L.places ++ [p] } ∧ Fr [lp] H (upd (upd H D (plO p)) lp (.lst (rp.map V.ref ++ [.ref D]))) := by
  obtain ⟨a, fr⟩ := LstAt.grow (x := p) hl hr nD plO_nl
  obtain ⟨dx, ob⟩ := h.ob
  obtain ⟨e1, e2, e3⟩ := h.d_ne
  exact ⟨⟨⟨dx, fr _ _ ob (by simpa using e1)⟩, a, h.pr.keep fr (by simpa using h.n1.symm) (at_nl hl prO_nl), h.st.keep fr (by simpa using h.n2.symm) (at_nl hl stO_nl), h.n1, h.n2, h.n3⟩, fr⟩
theorem DraftAt.pushT {H : Hp} {d lp lt ls D : Addr} {L : Lore} {rp : List Addr} {p : Nat × Nat} (h : DraftAt C H d lp lt ls L) (hl : H lt = some (.lst (rp.map V.ref))) (hr : Refs prO H rp L.prices) (nD : H D = none) :
    DraftAt C (upd (upd H D (prO p)) lt (.lst (rp.map V.ref ++ [.ref D]))) d lp lt ls { L with prices := L.prices ++ [p] } ∧ Fr [lt] H (upd (upd H D (prO p)) lt (.lst (rp.map V.ref ++ [.ref D]))) := by
  obtain ⟨a, fr⟩ := LstAt.grow (x := p) hl hr nD prO_nl
  obtain ⟨dx, ob⟩ := h.ob
  obtain ⟨e1, e2, e3⟩ := h.d_ne
  exact ⟨⟨⟨dx, fr _ _ ob (by simpa using e2)⟩, h.pl.keep fr (by simpa using h.n1) (at_nl hl plO_nl), a, h.st.keep fr (by simpa using h.n3.symm) (at_nl hl stO_nl), h.n1, h.n2, h.n3⟩, fr⟩
theorem DraftAt.pushS {H : Hp} {d lp lt ls D : Addr} {L : Lore} {rp : List Addr} {p : St} (h : DraftAt C H d lp lt ls L) (hl : H ls = some (.lst (rp.map V.ref))) (hr : Refs stO H rp L.stays) (nD : H D = none) :
    DraftAt C (upd (upd H D (stO p)) ls (.lst (rp.map V.ref ++ [.ref D]))) d lp lt ls { L with stays := L.stays ++ [p] } ∧ Fr [ls] H (upd (upd H D (stO p)) ls (.lst (rp.map V.ref ++ [.ref D]))) := by
  obtain ⟨a, fr⟩ := LstAt.grow (x := p) hl hr nD stO_nl
  obtain ⟨dx, ob⟩ := h.ob
  obtain ⟨e1, e2, e3⟩ := h.d_ne
  exact ⟨⟨⟨dx, fr _ _ ob (by simpa using e3)⟩, h.pl.keep fr (by simpa using h.n2) (at_nl hl plO_nl), h.pr.keep fr (by simpa using h.n3) (at_nl hl prO_nl), a, h.n1, h.n2, h.n3⟩, fr⟩
theorem Fr.of {ms : List Addr} {H H1 H2 : Hp} (a : Same H H1) (b : Fr ms H1 H2) : Fr ms H H2 := fun c u e n => b c u (a c u e) n
theorem scPlace : FnScope ["self", "words", "inner", "name", "room", "many"] ["self", "words", "inner"] (defScope sDrPlace) := ⟨rfl, rfl, rfl, by decide +kernel, rfl, by decide +kernel, by decide +kernel⟩
theorem ok_place {f : Addr} {fd : FuncData} (F : Fun K "take_place" "Draft.take_place" sDrPlace f fd) (dc : DC K C) (T : Nm mg) (GD : GotF P w K mg base "decimal" 1 ["word"] spDec) (GN : GotF P w K mg base "is_name" 1 ["value"] spIsName) (GP : GotD P w K mg base C "has_place" 1 ["self", "name"] (spHasP C)) (GFl : GotD P w K mg base C "has_flat" 1 ["self"] (spHasF C)) :
    FnOk P w K mg base CX0 2 f fd ["self", "words", "inner"] (spPlace C) := by
  obtain ⟨fD, fdD, GD, bD, mD, kD⟩ := GD
  obtain ⟨fN, fdN, GN, bN, mN, kN⟩ := GN
  obtain ⟨fP, fdP, GP, bP, mP⟩ := GP
  obtain ⟨fL, fdL, GFl, bL, mL⟩ := GFl
  refine F.ok scPlace (fun vs H Q E h => ?_) (fun cdv A outer s H vs Q E hr h => ?_)
  · obtain ⟨d, lp, lt, ls, lw, L, x, r, n, inner, rfl, _⟩ := h
    rfl
  · obtain ⟨d, lp, lt, ls, lw, L, x, r, n, inner, rfl, hd, sm, hw, nz, p0, s0, lx, lr, hx, hp, hn, ⟨n1, n9⟩, l4, l3, q⟩ := h
    refine ⟨_, pss_cons (ps_if (PW.pt (pw_or (pt_cmpR op_eq (pe_fld (pv 0) rfl) pe_int (nomark _)) (pw_or (pt_truth (pe_fld (pv 0) rfl) (fun _ => rfl)) (pw_or (pt_truth (pe_fld (pv 0) rfl) (fun _ => rfl)) (pw_or1 (pt_cmpR op_ne (pe_callB call_len_seq (by rfl) T.len PySem.boot_len (pa_cons (pv 1) pa_nil)) pe_int (nomark _))))))) (pss_one (ps_ret pe_bl)) pss_nil)
      (pss_cons (ps_par (by rfl) scPlace.nd (i := 3) (j := 4) rfl rfl (by decide) rfl rfl (pa_cons (pe_ix ix_list (pv 1) pe_int (fun _ _ => rfl)) (pa_cons (pe_call GD hr (by rfl) mD kD bD .nil pass0 (pa_cons (pe_ix ix_list (pv 1) pe_int (fun _ _ => rfl)) pa_nil)) pa_nil)) (by rfl))
      (pss_cons (ps_if (PW.pt (pw_or (pt_not (pt_val (pe_call GN hr (by rfl) mN kN bN .nil pass0 (pa_cons (pv 3) pa_nil)))) (pw_or (pt_val (pe_meth (pv 0) dc.cl mP GP hr bP .nil pass0 (pa_cons (pv 3) pa_nil))) (pw_or1 (pt_not (pt_chain op_le op_le pe_int (pv 4) pe_int)))))) (pss_one (ps_ret pe_bl)) pss_nil)
      (pss_cons (ps_set (i := 5) scPlace.nd rfl (.inl rfl) (pe_callB call_len_seq (by rfl) T.len PySem.boot_len (pa_cons (pe_fld (pv 0) rfl) pa_nil)))
      (pss_cons (ps_if (PW.pt (pw_or (pt_cmpR op_eq (pv 5) pe_int (nomark _)) (pw_or1 (PW.pt (pw_and (pt_cmpR op_eq (pv 5) pe_int (nomark _)) (pw_and (pt_not (pt_val (pv 2))) (pw_and1 (pt_not (pt_val (pe_meth0 (pv 0) dc.cl mL GFl hr bL .nil pass0)))))))))) (pss_one (ps_ret pe_bl)) pss_nil)
      (pss_cons (ps_expr (pe_bm PySem.F.plainAttrs_list PySem.F.slot_list_append PySem.F.type_list_append mt_append (pe_fld (pv 0) rfl) (pa_cons (pe_tup (pa_cons (pv 3) (pa_cons (pv 4) (pa_cons (pv 2) pa_nil)))) pa_nil)))
      (pss_one (ps_ret pe_bl))))))), ?_⟩
    obtain ⟨dx, ob⟩ := hd.ob
    obtain ⟨rp, hlp, hrp⟩ := hd.pl
    obtain ⟨rt, hlt, hrt⟩ := hd.pr
    obtain ⟨rs, hls, hrs⟩ := hd.st
    obtain rfl : rt = [] := by have := hrt.1; rw [p0] at this; exact List.eq_nil_of_length_eq_zero this
    obtain rfl : rs = [] := by have := hrs.1; rw [s0] at this; exact List.eq_nil_of_length_eq_zero this
    obtain ⟨m1, m2, m3, m4, m5, m6, m7, m8⟩ := dfs_m L.days lp lt ls
    refine ⟨_, rfl, d, C, dx, _, _, rfl, ob, dc.cl, dc.nD, dfs_days _ _ _ _, rfl, _, rfl, ?_⟩
    rw [int_eq, show decide ((L.days : Int) = 0) = false from decide_eq_false (by omega)]
    refine iteF ⟨_, rfl, d, C, dx, _, _, rfl, ob, dc.cl, dc.nT, dfs_ta _ _ _ _, false, tru_lst hlt, iteF ?_⟩
    refine ⟨_, rfl, d, C, dx, _, _, rfl, ob, dc.cl, dc.nS, dfs_st _ _ _ _, false, tru_lst hls, iteF ?_⟩
    refine ⟨_, rfl, lw, _, rfl, .inl (SqL.of hw), rfl, _, rfl, iteF ?_⟩
    refine ⟨_, rfl, lw, _, _, _, rfl, rfl, SqL.of hw, rfl, ?_⟩
    refine ⟨_, rfl, lw, _, _, _, rfl, rfl, SqL.of hw, rfl, r, rfl, by omega, ?_⟩
    rw [hn]
    refine ⟨_, _, rfl, _, rfl, x, rfl, by omega, fun H1 e1 => ⟨_, rfl, ?_⟩⟩
    rw [hx]
    refine iteF ⟨_, rfl, d, dx, _, rfl, e1 _ _ ob, m1, _, rfl, d, lp, lt, ls, L, x, rfl, hd.same e1, sm, fun H2 e2 => ⟨_, rfl, ?_⟩⟩
    rw [hp]
    have e02 := e1.trans e2
    refine iteF ⟨_, rfl, _, _, rfl, rfl, _, rfl, ?_⟩
    rw [show decide ((1 : Int) ≤ (n : Int)) = true from decide_eq_true (by omega)]
    refine iteT ⟨_, _, rfl, rfl, _, rfl, ?_⟩
    rw [show decide ((n : Int) ≤ (9 : Int)) = true from decide_eq_true (by omega)]
    refine iteF ?_
    refine ⟨_, rfl, d, C, dx, _, _, rfl, e02 _ _ ob, dc.cl, dc.nP, dfs_pl _ _ _ _, lp, _, rfl, .inl (SqL.of (e02 _ _ hlp)), ?_⟩
    rw [List.length_map, hrp.1]
    refine ⟨_, rfl, rfl, _, rfl, ?_⟩
    rw [int_eq, show decide ((L.places.length : Int) = 4) = false from decide_eq_false (by omega)]
    refine iteF ⟨_, rfl, rfl, _, rfl, ?_⟩
    rw [int_eq]
    cases c3 : decide ((L.places.length : Int) = 3) with
    | false => 
      refine iteF (iteF ?_)
      have e03 := e02
      refine ⟨_, rfl, d, C, dx, _, _, rfl, e03 _ _ ob, dc.cl, dc.nP, dfs_pl _ _ _ _, .inl ⟨rfl, _, SqL.of (e03 _ _ hlp)⟩, ?_⟩
      refine ⟨_, rfl, _, rfl, _, rfl, (show 3 ≤ sizeLine by decide), fun D nD => ?_⟩
      obtain ⟨hd', fr⟩ := (hd.same e03).pushP (p := ⟨x, n, inner⟩) (e03 _ _ hlp) (hrp.same e03) nD
      refine ⟨lp, _, _, rfl, rfl, ?_, ?_, q _ (Fr.of e03 fr) hd'⟩
      · rw [upd_ne (ne_of_none (e03 _ _ hlp) nD)]
        exact e03 _ _ hlp
      · rw [List.length_map, hrp.1]
        exact Nat.lt_of_lt_of_le l4 (by decide)
    | true => 
      refine iteT ⟨_, rfl, _, rfl, ?_⟩
      have l3' : L.places.length = 3 := by have := of_decide_eq_true c3; omega
      cases inner with
      | true => 
        refine iteF (iteF ?_)
        have e03 := e02
        refine ⟨_, rfl, d, C, dx, _, _, rfl, e03 _ _ ob, dc.cl, dc.nP, dfs_pl _ _ _ _, .inl ⟨rfl, _, SqL.of (e03 _ _ hlp)⟩, ?_⟩
        refine ⟨_, rfl, _, rfl, _, rfl, (show 3 ≤ sizeLine by decide), fun D nD => ?_⟩
        obtain ⟨hd', fr⟩ := (hd.same e03).pushP (p := ⟨x, n, true⟩) (e03 _ _ hlp) (hrp.same e03) nD
        refine ⟨lp, _, _, rfl, rfl, ?_, ?_, q _ (Fr.of e03 fr) hd'⟩
        · rw [upd_ne (ne_of_none (e03 _ _ hlp) nD)]
          exact e03 _ _ hlp
        · rw [List.length_map, hrp.1]
          exact Nat.lt_of_lt_of_le l4 (by decide)
      | false =>
        refine iteT ⟨_, rfl, d, dx, _, rfl, e02 _ _ ob, m2, d, lp, lt, ls, L, rfl, hd.same e02, sm, fun H3 e3 => ⟨_, rfl, ?_⟩⟩
        have e03 := e02.trans e3
        rw [(l3 l3').resolve_left (by decide)]
        refine iteF ?_
        refine ⟨_, rfl, d, C, dx, _, _, rfl, e03 _ _ ob, dc.cl, dc.nP, dfs_pl _ _ _ _, .inl ⟨rfl, _, SqL.of (e03 _ _ hlp)⟩, ?_⟩
        refine ⟨_, rfl, _, rfl, _, rfl, (show 3 ≤ sizeLine by decide), fun D nD => ?_⟩
        obtain ⟨hd', fr⟩ := (hd.same e03).pushP (p := ⟨x, n, false⟩) (e03 _ _ hlp) (hrp.same e03) nD
        refine ⟨lp, _, _, rfl, rfl, ?_, ?_, q _ (Fr.of e03 fr) hd'⟩
        · rw [upd_ne (ne_of_none (e03 _ _ hlp) nD)]
          exact e03 _ _ hlp
        · rw [List.length_map, hrp.1]
          exact Nat.lt_of_lt_of_le l4 (by decide)
end
end Hs
namespace Hs
open PySem PySem.Spec PyProof.Rows L2 Am
section
variable {P : Program} {w : World} {K : PySem.W.Frag} {mg : Str → Option Value} {base : Heap} {C : Addr}
theorem scPrice : FnScope ["self", "words", "day", "number", "ahead"] ["self", "words"] (defScope sDrPrice) := ⟨rfl, rfl, rfl, by decide +kernel, rfl, by decide +kernel, by decide +kernel⟩
theorem atI_last {xs : List V} {v : V} : atI (xs ++ [v]) (-1) = some v := by
  have e : ixN (xs.length + 1) (-1) = some xs.length := by
    unfold ixN
    rw [if_neg (by decide), if_pos (by omega)]
    exact congrArg some (by omega)
  simp only [atI, List.length_append, List.length_singleton, e, Option.bind_some]
  simp
theorem if_val {c : Bool} {tA tB : TE} {σ : L2.St} {H : Hp} {Q : VK} (v : V) (h : Q v H) (hA : c = true → ∀ Q', Q' v H → tA σ H Q') (hB : c = false → ∀ Q', Q' v H → tB σ H Q') : if c = true then tA σ H Q else tB σ H Q := by
  cases c with
  | true => exact iteT (hA rfl _ h)
  | false => exact iteF (hB rfl _ h)
def ahd (ps : List (Nat × Nat)) : Int := match ps.getLast? with | some p => (p.1 : Int) | none => -1
theorem ok_price {f : Addr} {fd : FuncData} (F : Fun K "take_price" "Draft.take_price" sDrPrice f fd) (dc : DC K C) (T : Nm mg) (GD : GotF P w K mg base "decimal" 1 ["word"] spDec) (GFl : GotD P w K mg base C "has_flat" 1 ["self"] (spHasF C)) :
    FnOk P w K mg base CX0 2 f fd ["self", "words"] (spPrice C) := by
  obtain ⟨fD, fdD, GD, bD, mD, kD⟩ := GD
  obtain ⟨fL, fdL, GFl, bL, mL⟩ := GFl
  refine F.ok scPrice (fun vs H Q E h => ?_) (fun cdv A outer s H vs Q E hr h => ?_)
  · obtain ⟨d, lp, lt, ls, lw, L, x, y, a, n, rfl, _⟩ := h
    rfl
  · obtain ⟨d, lp, lt, ls, lw, L, x, y, a, n, rfl, hd, sm, hw, hf, s0, l3, lx, ly, hx, hy, hlast, ha, hn, q⟩ := h
    refine ⟨_, pss_cons (ps_if (PW.pt (pw_or (pt_not (pt_val (pe_meth0 (pv 0) dc.cl mL GFl hr bL .nil pass0))) (pw_or (pt_truth (pe_fld (pv 0) rfl) (fun _ => rfl)) (pw_or (pt_cmpR op_eq (pe_callB call_len_seq (by rfl) T.len PySem.boot_len (pa_cons (pe_fld (pv 0) rfl) pa_nil)) pe_int (nomark _)) (pw_or1 (pt_cmpR op_ne (pe_callB call_len_seq (by rfl) T.len PySem.boot_len (pa_cons (pv 1) pa_nil)) pe_int (nomark _))))))) (pss_one (ps_ret pe_bl)) pss_nil)
      (pss_cons (ps_par (by rfl) scPrice.nd (i := 2) (j := 3) rfl rfl (by decide) rfl rfl (pa_cons (pe_call GD hr (by rfl) mD kD bD .nil pass0 (pa_cons (pe_ix ix_list (pv 1) pe_int (fun _ _ => rfl)) pa_nil)) (pa_cons (pe_call GD hr (by rfl) mD kD bD .nil pass0 (pa_cons (pe_ix ix_list (pv 1) pe_int (fun _ _ => rfl)) pa_nil)) pa_nil)) (by rfl))
      (pss_cons (ps_set (i := 4) scPrice.nd rfl (.inl rfl) (pe_ifExp (pt_truth (pe_fld (pv 0) rfl) (fun _ => rfl)) (pe_ix ix_tup (pe_ix ix_list (pe_fld (pv 0) rfl) (pe_un un_neg pe_int) (fun _ _ => rfl)) pe_int (fun _ _ => rfl)) (pe_un un_neg pe_int)))
      (pss_cons (ps_if (PW.pt (pw_or (pt_not (pt_chain op_lt op_lt (pv 4) (pv 2) (pe_fld (pv 0) rfl))) (pw_or1 (pt_not (pt_chain op_le op_le pe_int (pv 3) pe_int))))) (pss_one (ps_ret pe_bl)) pss_nil)
      (pss_cons (ps_expr (pe_bm PySem.F.plainAttrs_list PySem.F.slot_list_append PySem.F.type_list_append mt_append (pe_fld (pv 0) rfl) (pa_cons (pe_tup (pa_cons (pv 2) (pa_cons (pv 3) pa_nil))) pa_nil)))
      (pss_one (ps_ret pe_bl)))))), ?_⟩
    obtain ⟨dx, ob⟩ := hd.ob
    obtain ⟨rt, hlt, hrt⟩ := hd.pr
    obtain ⟨rs, hls, hrs⟩ := hd.st
    obtain rfl : rs = [] := by have := hrs.1; rw [s0] at this; exact List.eq_nil_of_length_eq_zero this
    obtain ⟨m1, m2, m3, m4, m5, m6, m7, m8⟩ := dfs_m L.days lp lt ls
    refine ⟨_, rfl, d, dx, _, rfl, ob, m2, d, lp, lt, ls, L, rfl, hd, sm, fun H1 e1 => ⟨_, rfl, ?_⟩⟩
    rw [hf]
    refine iteF ⟨_, rfl, d, C, dx, _, _, rfl, e1 _ _ ob, dc.cl, dc.nS, dfs_st _ _ _ _, false, tru_lst (e1 _ _ hls), iteF ?_⟩
    refine ⟨_, rfl, d, C, dx, _, _, rfl, e1 _ _ ob, dc.cl, dc.nT, dfs_ta _ _ _ _, lt, _, rfl, .inl (SqL.of (e1 _ _ hlt)), ?_⟩
    rw [List.length_map, hrt.1]
    refine ⟨rfl, _, rfl, ?_⟩
    rw [int_eq, show decide ((L.prices.length : Int) = 3) = false from decide_eq_false (by omega)]
    refine iteF ⟨_, rfl, lw, _, rfl, .inl (SqL.of (e1 _ _ hw)), rfl, _, rfl, iteF ?_⟩
    refine ⟨_, rfl, lw, _, _, _, rfl, rfl, SqL.of (e1 _ _ hw), rfl, x, rfl, by omega, ?_⟩
    refine ⟨_, rfl, lw, _, _, _, rfl, rfl, SqL.of (e1 _ _ hw), rfl, y, rfl, by omega, ?_⟩
    rw [hx, hy]
    refine ⟨_, _, rfl, _, rfl, d, C, dx, _, _, rfl, e1 _ _ ob, dc.cl, dc.nT, dfs_ta _ _ _ _, _, tru_lst (e1 _ _ hlt), ?_⟩
    refine if_val (V.int (ahd L.prices)) ?_ (fun hc Q' q' => ?_) (fun hc Q' q' => ?_)
    · have lt1 : ahd L.prices < (a : Int) := by
        unfold ahd
        cases hg : L.prices.getLast? with
        | none => show (-1 : Int) < _; omega
        | some p => have := hlast p hg; show (p.1 : Int) < _; omega
      refine ⟨_, rfl, _, rfl, _, _, rfl, rfl, _, rfl, ?_⟩
      rw [show decide (ahd L.prices < (a : Int)) = true from decide_eq_true lt1]
      refine iteT ⟨_, rfl, d, C, dx, _, _, rfl, e1 _ _ ob, dc.cl, dc.nD, dfs_days _ _ _ _, _, _, rfl, rfl, _, rfl, ?_⟩
      rw [show decide ((a : Int) < (L.days : Int)) = true from decide_eq_true (by omega)]
      refine iteF ⟨_, rfl, _, _, rfl, rfl, _, rfl, ?_⟩
      rw [show decide ((0 : Int) ≤ (n : Int)) = true from decide_eq_true (by omega)]
      refine iteT ⟨_, _, rfl, rfl, _, rfl, ?_⟩
      rw [show decide ((n : Int) ≤ (99 : Int)) = true from decide_eq_true (by omega)]
      refine iteF ?_
      refine ⟨_, rfl, d, C, dx, _, _, rfl, e1 _ _ ob, dc.cl, dc.nT, dfs_ta _ _ _ _, .inl ⟨rfl, _, SqL.of (e1 _ _ hlt)⟩, ?_⟩
      refine ⟨_, rfl, _, rfl, (show 2 ≤ sizeLine by decide), fun D nD => ?_⟩
      obtain ⟨hd', fr⟩ := (hd.same e1).pushT (p := (a, n)) (e1 _ _ hlt) (hrt.same e1) nD
      refine ⟨lt, _, _, rfl, rfl, ?_, ?_, q _ (Fr.of e1 fr) hd'⟩
      · rw [upd_ne (ne_of_none (e1 _ _ hlt) nD)]
        exact e1 _ _ hlt
      · rw [List.length_map, hrt.1]
        exact Nat.lt_of_lt_of_le l3 (by decide)
    · rcases List.eq_nil_or_concat L.prices with hz | ⟨ys, p, hz⟩
      · obtain rfl : rt = [] := by have := hrt.1; rw [hz] at this; exact List.eq_nil_of_length_eq_zero this
        cases hc
      · rw [List.concat_eq_append] at hz
        obtain ⟨hle, hat⟩ := id hrt
        rcases List.eq_nil_or_concat rt with hz2 | ⟨rs, r, hz2⟩
        · rw [hz, hz2] at hle
          simp at hle
        rw [List.concat_eq_append] at hz2
        subst hz2
        rw [hz] at hle hat
        have hle' : rs.length = ys.length := by simpa using hle
        have ho := hat rs.length r p (by simp) (by rw [hle']; simp)
        have ev : ahd L.prices = (p.1 : Int) := by
          unfold ahd
          rw [hz, List.getLast?_append]
          rfl
        rw [ev] at q'
        refine ⟨_, rfl, d, C, dx, _, _, rfl, e1 _ _ ob, dc.cl, dc.nT, dfs_ta _ _ _ _, _, rfl, lt, _, _, .ref r, rfl, rfl, SqL.of (e1 _ _ hlt), by rw [List.map_append]; exact atI_last, r, _, _, _, rfl, rfl, SqT.of (e1 _ _ ho), rfl, q'⟩
    · rcases List.eq_nil_or_concat L.prices with hz | ⟨ys, p, hz⟩
      · rw [hz] at q'
        exact ⟨_, rfl, q'⟩
      · have := hrt.1
        rw [hz, List.concat_eq_append, List.length_append, List.length_singleton] at this
        have he : rt ≠ [] := fun z => by rw [z] at this; simp at this
        cases rt with
        | nil => exact absurd rfl he
        | cons _ _ => cases hc
end
end Hs
/-! chains of comparisons, however long -/
namespace Chn
open PySem PySem.Spec PyProof.Rows L2
structure PCh (X : Cx) (ops : List CmpOp) (es : List Expr) (t : V → TT) : Prop where
  run : ∀ (pins : List (Addr × Obj)) (s : Shared) (σ : L2.St) (H : Hp) (Q : Bool → Hp → Prop) (pos : Pos) (x : V) (v : Value), L2.Inv X pins σ H s → L2.RelV x v → t x σ H Q →
    wpAny (model X.prog X.w) X.A (testChain pos v ops (evalEach es X.env)) (TP X pins σ Q) X.xe s
def cLast (r : R2) (tb : TE) : V → TT := fun x σ H Q => tb σ H fun y H2 => r x y H2 fun z H3 => ∃ k, z = .bl k ∧ Q k H3
def cLink (r : R2) (tb : TE) (t : V → TT) : V → TT := fun x σ H Q => tb σ H fun y H2 => r x y H2 fun z H3 => ∃ k, z = .bl k ∧ if k = true then t y σ H3 Q else Q false H3
def tChn (ta : TE) (t : V → TT) : TT := fun σ H Q => ta σ H fun x H1 => t x σ H1 Q
variable {X : Cx}
theorem c_last {op : CmpOp} {b : Expr} {r : R2} {tb : TE} (ho : OpR X (compareOp op) r) (hb : PE X b tb) : PCh X [op] [b] (cLast r tb) := by
  refine ⟨fun pins s σ H Q pos x v I rv q => test_last (thn (hb.run pins s σ H _ I q) ?_)⟩
  rintro u s2 ⟨y, H2, I2, r2, q2⟩
  refine thn (ho pins s2 σ H2 x y v u _ I2 rv r2 q2) ?_
  rintro d s3 ⟨z, H3, I3, r3, k, rfl, q3⟩
  cases r3
  exact wpAny_truthy_bool ⟨H3, I3, q3⟩
theorem c_link {op op' : CmpOp} {ops : List CmpOp} {b b' : Expr} {bs : List Expr} {r : R2} {tb : TE} {t : V → TT} (ho : OpR X (compareOp op) r) (hb : PE X b tb) (h : PCh X (op' :: ops) (b' :: bs) t) : PCh X (op :: op' :: ops) (b :: b' :: bs) (cLink r tb t) := by
  refine ⟨fun pins s σ H Q pos x v I rv q => test_link (thn (hb.run pins s σ H _ I q) ?_)⟩
  rintro u s2 ⟨y, H2, I2, r2, q2⟩
  refine thn (ho pins s2 σ H2 x y v u _ I2 rv r2 q2) ?_
  rintro d s3 ⟨z, H3, I3, r3, k, rfl, q3⟩
  cases r3
  refine wpAny_truthy_bool ?_
  cases k with
  | true => exact ite_tt (h.run pins s3 σ H3 Q pos y u I3 r2 q3)
  | false => exact ite_ff ⟨H3, I3, q3⟩
theorem pt_chn {a b b' : Expr} {bs : List Expr} {op op' : CmpOp} {ops : List CmpOp} {ta : TE} {t : V → TT} {pos : Pos} (ha : PE X a ta) (h : PCh X (op :: op' :: ops) (b :: b' :: bs) t) (hm : lastMarks (op :: op' :: ops) (b :: b' :: bs) = false := by rfl) :
    PT X (a.Compare (op :: op' :: ops) (b :: b' :: bs) pos) (tChn ta t) := by
  refine ⟨fun pins s σ H Q I q => isTrue_chain (thn (ha.run pins s σ H _ I q) ?_) hm⟩
  rintro v s1 ⟨x, H1, I1, r1, q1⟩
  exact h.run pins s1 σ H1 Q pos x v I1 r1 q1
end Chn
namespace Hs
open PySem PySem.Spec PyProof.Rows L2 Am
section
variable {P : Program} {w : World} {K : PySem.W.Frag} {mg : Str → Option Value} {base : Heap} {C : Addr}
theorem scStay : FnScope ["self", "words", "person", "place", "first", "behind"] ["self", "words"] (defScope sDrStay) := ⟨rfl, rfl, rfl, by decide +kernel, rfl, by decide +kernel, by decide +kernel⟩
theorem ok_stay {f : Addr} {fd : FuncData} (F : Fun K "take_stay" "Draft.take_stay" sDrStay f fd) (dc : DC K C) (T : Nm mg) (GD : GotF P w K mg base "decimal" 1 ["word"] spDec) (GN : GotF P w K mg base "is_name" 1 ["value"] spIsName) (GP : GotD P w K mg base C "has_place" 1 ["self", "name"] (spHasP C)) (GFl : GotD P w K mg base C "has_flat" 1 ["self"] (spHasF C)) (GL : GotD P w K mg base C "is_let" 1 ["self", "name", "first", "behind"] (spIsLet C)) :
    FnOk P w K mg base CX0 2 f fd ["self", "words"] (spStay C) := by
  obtain ⟨fD, fdD, GD, bD, mD, kD⟩ := GD
  obtain ⟨fN, fdN, GN, bN, mN, kN⟩ := GN
  obtain ⟨fP, fdP, GP, bP, mP⟩ := GP
  obtain ⟨fL, fdL, GFl, bL, mL⟩ := GFl
  obtain ⟨fI, fdI, GL, bI, mI⟩ := GL
  refine F.ok scStay (fun vs H Q E h => ?_) (fun cdv A outer s H vs Q E hr h => ?_)
  · obtain ⟨d, lp, lt, ls, lw, L, x, y, u, v, a, b, rfl, _⟩ := h
    rfl
  · obtain ⟨d, lp, lt, ls, lw, L, x, y, u, v, a, b, rfl, hd, sm, hw, hf, l8, lx, ly, lu, lv, hx, hy, hu, hv, hab, hb, hlet, q⟩ := h
    refine ⟨_, pss_cons (ps_if (PW.pt (pw_or (pt_not (pt_val (pe_meth0 (pv 0) dc.cl mL GFl hr bL .nil pass0))) (pw_or (pt_cmpR op_eq (pe_callB call_len_seq (by rfl) T.len PySem.boot_len (pa_cons (pe_fld (pv 0) rfl) pa_nil)) pe_int (nomark _)) (pw_or1 (pt_cmpR op_ne (pe_callB call_len_seq (by rfl) T.len PySem.boot_len (pa_cons (pv 1) pa_nil)) pe_int (nomark _)))))) (pss_one (ps_ret pe_bl)) pss_nil)
      (pss_cons (ps_asg (g := gTup K 4 (gCons (gName 2) (gCons (gName 3) (gCons (gName 4) (gCons (gName 5) gNil))))) (pe_tup (pa_cons (pe_ix ix_list (pv 1) pe_int (fun _ _ => rfl)) (pa_cons (pe_ix ix_list (pv 1) pe_int (fun _ _ => rfl)) (pa_cons (pe_call GD hr (by rfl) mD kD bD .nil pass0 (pa_cons (pe_ix ix_list (pv 1) pe_int (fun _ _ => rfl)) pa_nil)) (pa_cons (pe_call GD hr (by rfl) mD kD bD .nil pass0 (pa_cons (pe_ix ix_list (pv 1) pe_int (fun _ _ => rfl)) pa_nil)) pa_nil)))))
        (pg_tup rfl (pgs_cons (pg_name (i := 2) scStay.nd rfl (.inl rfl)) (pgs_cons (pg_name (i := 3) scStay.nd rfl (.inl rfl)) (pgs_cons (pg_name (i := 4) scStay.nd rfl (.inl rfl)) (pgs_cons (pg_name (i := 5) scStay.nd rfl (.inl rfl)) pgs_nil))))))
      (pss_cons (ps_if (PW.pt (pw_or (pt_not (pt_val (pe_call GN hr (by rfl) mN kN bN .nil pass0 (pa_cons (pv 2) pa_nil)))) (pw_or1 (pt_not (pt_val (pe_meth (pv 0) dc.cl mP GP hr bP .nil pass0 (pa_cons (pv 3) pa_nil))))))) (pss_one (ps_ret pe_bl)) pss_nil)
      (pss_cons (ps_if (PW.pt (pw_or (pt_not (Chn.pt_chn pe_int (Chn.c_link op_le (pv 4) (Chn.c_link op_lt (pv 5) (Chn.c_last op_le (pe_fld (pv 0) rfl)))))) (pw_or1 (pt_val (pe_meth (pv 0) dc.cl mI GL hr bI .nil pass0 (pa_cons (pv 3) (pa_cons (pv 4) (pa_cons (pv 5) pa_nil)))))))) (pss_one (ps_ret pe_bl)) pss_nil)
      (pss_cons (ps_expr (pe_bm PySem.F.plainAttrs_list PySem.F.slot_list_append PySem.F.type_list_append mt_append (pe_fld (pv 0) rfl) (pa_cons (pe_tup (pa_cons (pv 2) (pa_cons (pv 3) (pa_cons (pv 4) (pa_cons (pv 5) pa_nil))))) pa_nil)))
      (pss_one (ps_ret pe_bl)))))), ?_⟩
    obtain ⟨dx, ob⟩ := hd.ob
    obtain ⟨rs, hls, hrs⟩ := hd.st
    obtain ⟨m1, m2, m3, m4, m5, m6, m7, m8⟩ := dfs_m L.days lp lt ls
    have lens : L.stays.length ≤ 8 := by omega
    refine ⟨_, rfl, d, dx, _, rfl, ob, m2, d, lp, lt, ls, L, rfl, hd, sm, fun H1 e1 => ⟨_, rfl, ?_⟩⟩
    rw [hf]
    refine iteF ⟨_, rfl, d, C, dx, _, _, rfl, e1 _ _ ob, dc.cl, dc.nS, dfs_st _ _ _ _, ls, _, rfl, .inl (SqL.of (e1 _ _ hls)), ?_⟩
    rw [List.length_map, hrs.1]
    refine ⟨rfl, _, rfl, ?_⟩
    rw [int_eq, show decide ((L.stays.length : Int) = 8) = false from decide_eq_false (by omega)]
    refine iteF ⟨_, rfl, lw, _, rfl, .inl (SqL.of (e1 _ _ hw)), rfl, _, rfl, iteF ?_⟩
    refine ⟨_, rfl, lw, _, _, _, rfl, rfl, SqL.of (e1 _ _ hw), rfl, ?_⟩
    refine ⟨_, rfl, lw, _, _, _, rfl, rfl, SqL.of (e1 _ _ hw), rfl, ?_⟩
    refine ⟨_, rfl, lw, _, _, _, rfl, rfl, SqL.of (e1 _ _ hw), rfl, u, rfl, by omega, ?_⟩
    refine ⟨_, rfl, lw, _, _, _, rfl, rfl, SqL.of (e1 _ _ hw), rfl, v, rfl, by omega, ?_⟩
    rw [hu, hv]
    refine ⟨(show 4 ≤ sizeLine by decide), fun D0 nD0 => ?_⟩
    have e01 := e1.trans (same_upd (o := .tup [.str x, .str y, .int a, .int b]) nD0)
    refine ⟨D0, _, rfl, SqT.of upd_same, rfl, _, _, rfl, _, _, rfl, _, _, rfl, _, _, rfl, rfl, ?_⟩
    refine ⟨_, rfl, x, rfl, by omega, fun H2 e2 => ⟨_, rfl, ?_⟩⟩
    rw [hx]
    have e02 := e01.trans e2
    refine iteF ⟨_, rfl, d, dx, _, rfl, e02 _ _ ob, m1, _, rfl, d, lp, lt, ls, L, y, rfl, hd.same e02, sm, fun H3 e3 => ⟨_, rfl, ?_⟩⟩
    rw [hy]
    have e03 := e02.trans e3
    refine iteF ?_
    refine ⟨_, rfl, _, _, rfl, rfl, _, rfl, ?_⟩
    rw [show decide ((0 : Int) ≤ (a : Int)) = true from decide_eq_true (by omega)]
    refine iteT ⟨_, rfl, _, _, rfl, rfl, _, rfl, ?_⟩
    rw [show decide ((a : Int) < (b : Int)) = true from decide_eq_true (by omega)]
    refine iteT ⟨_, rfl, d, C, dx, _, _, rfl, e03 _ _ ob, dc.cl, dc.nD, dfs_days _ _ _ _, _, _, rfl, rfl, _, rfl, ?_⟩
    rw [show decide ((b : Int) ≤ (L.days : Int)) = true from decide_eq_true (by omega)]
    refine iteF ⟨_, rfl, d, dx, _, rfl, e03 _ _ ob, m3, _, rfl, _, rfl, _, rfl, d, lp, lt, ls, L, y, a, b, rfl, hd.same e03, sm, fun H4 e4 => ⟨_, rfl, ?_⟩⟩
    rw [hlet]
    have e04 := e03.trans e4
    refine iteF ⟨_, rfl, d, C, dx, _, _, rfl, e04 _ _ ob, dc.cl, dc.nS, dfs_st _ _ _ _, .inl ⟨rfl, _, SqL.of (e04 _ _ hls)⟩, ?_⟩
    refine ⟨_, rfl, _, rfl, _, rfl, _, rfl, (show 4 ≤ sizeLine by decide), fun D nD => ?_⟩
    obtain ⟨hd', fr⟩ := (hd.same e04).pushS (p := ⟨x, y, a, b⟩) (e04 _ _ hls) (hrs.same e04) nD
    refine ⟨ls, _, _, rfl, rfl, ?_, ?_, q _ (Fr.of e04 fr) hd'⟩
    · rw [upd_ne (ne_of_none (e04 _ _ hls) nD)]
      exact e04 _ _ hls
    · rw [List.length_map, hrs.1]
      exact Nat.lt_of_lt_of_le l8 (by decide)
end
end Hs
namespace Hs
open PySem PySem.Spec PyProof.Rows L2 Am
/-- a line that may stand behind what is told -/
inductive Step (L : Lore) (ln : Str) : Lore → Prop
  | days {x : Str} {n : Nat} : Txt.split ln " " = [("days" : Str), x] → L.days = 0 → x.length ≤ 600 → Mt.num x.cps.toList = n → (1 ≤ n ∧ n ≤ 14) → Step L ln { L with days := n }
  | place {x r : Str} {n : Nat} {inner : Bool} : Txt.split ln " " = [(if inner then ("flat" : Str) else ("bare" : Str)), x, r] → L.days ≠ 0 → L.prices = [] → L.stays = [] → x.length ≤ 600 → r.length ≤ 600 → nameB x = true → hasP L x = false → Mt.num r.cps.toList = n → (1 ≤ n ∧ n ≤ 9) →
      L.places.length < 4 → (L.places.length = 3 → inner = true ∨ hasF L = true) → Step L ln { L with places := L.places ++ [⟨x, n, inner⟩] }
  | price {x y : Str} {a n : Nat} : Txt.split ln " " = [("price" : Str), x, y] → hasF L = true → L.stays = [] → L.prices.length < 3 → x.length ≤ 600 → y.length ≤ 600 → Mt.num x.cps.toList = a → Mt.num y.cps.toList = n → (∀ p, L.prices.getLast? = some p → p.1 < a) → a < L.days → n ≤ 99 → Step L ln { L with prices := L.prices ++ [(a, n)] }
  | stay {x y u v : Str} {a b : Nat} : Txt.split ln " " = [("lives" : Str), x, y, u, v] → hasF L = true → L.stays.length < 8 → x.length ≤ 600 → y.length ≤ 600 → u.length ≤ 600 → v.length ≤ 600 → nameB x = true → hasP L y = true → Mt.num u.cps.toList = a → Mt.num v.cps.toList = b → a < b → b ≤ L.days → letS L y a b = false → Step L ln { L with stays := L.stays ++ [⟨x, y, a, b⟩] }
theorem Step.small {L L' : Lore} {ln : Str} (h : Step L ln L') (s : Small L) : Small L' := by
  obtain ⟨a, b, c⟩ := s
  cases h with
  | days => exact ⟨a, b, c⟩
  | place => exact ⟨by simp only [List.length_append, List.length_singleton]; omega, b, c⟩
  | price => exact ⟨a, by simp only [List.length_append, List.length_singleton]; omega, c⟩
  | stay => exact ⟨a, b, by simp only [List.length_append, List.length_singleton]; omega⟩
def spTake (C : Addr) : Sp := fun vs H Q _ => ∃ (d lp lt ls : Addr) (L L' : Lore) (ln : Str), vs = [.ref d, .str ln] ∧ DraftAt C H d lp lt ls L ∧ Small L ∧ ln.length ≤ 4000 ∧ Step L ln L' ∧
  ∀ H', Fr [d, lp, lt, ls] H H' → DraftAt C H' d lp lt ls L' → Q (.bl true) H'
section
variable {P : Program} {w : World} {K : PySem.W.Frag} {mg : Str → Option Value} {base : Heap} {C : Addr}
theorem scTake : FnScope ["self", "line", "kind", "words"] ["self", "line"] (defScope sDrTake) := ⟨rfl, rfl, rfl, by decide +kernel, rfl, by decide +kernel, by decide +kernel⟩
theorem ok_take {f : Addr} {fd : FuncData} (F : Fun K "take" "Draft.take" sDrTake f fd) (dc : DC K C) (G1 : GotD P w K mg base C "take_days" 2 ["self", "words"] (spDays C)) (G2 : GotD P w K mg base C "take_place" 2 ["self", "words", "inner"] (spPlace C)) (G3 : GotD P w K mg base C "take_price" 2 ["self", "words"] (spPrice C)) (G4 : GotD P w K mg base C "take_stay" 2 ["self", "words"] (spStay C)) :
    FnOk P w K mg base CX0 3 f fd ["self", "line"] (spTake C) := by
  obtain ⟨f1, fd1, G1, b1, k1⟩ := G1
  obtain ⟨f2, fd2, G2, b2, k2⟩ := G2
  obtain ⟨f3, fd3, G3, b3, k3⟩ := G3
  obtain ⟨f4, fd4, G4, b4, k4⟩ := G4
  refine F.ok scTake (fun vs H Q E h => ?_) (fun cdv A outer s H vs Q E hr h => ?_)
  · obtain ⟨d, lp, lt, ls, L, L', ln, rfl, _⟩ := h
    rfl
  · obtain ⟨d, lp, lt, ls, L, L', ln, rfl, hd, sm, hln, st, q⟩ := h
    refine ⟨_, pss_cons (ps_asg (g := Stt.gStar K (gCons (gName 2) (gCons (gName 3) gNil))) (pe_split (pv 1) pe_str) (Stt.pg_star rfl (pgs_cons (pg_name (i := 2) scTake.nd rfl (.inl rfl)) (Stt.pgs_star (pg_name (i := 3) scTake.nd rfl (.inl rfl))))))
      (pss_cons (ps_if (pt_cmpR op_eq (pv 2) pe_str (nomark _)) (pss_one (ps_ret (pe_meth (pv 0) dc.cl k1 G1 hr b1 .nil pass0 (pa_cons (pv 3) pa_nil)))) pss_nil)
      (pss_cons (ps_if (PW.pt (pw_or (pt_cmpR op_eq (pv 2) pe_str (nomark _)) (pw_or1 (pt_cmpR op_eq (pv 2) pe_str (nomark _))))) (pss_one (ps_ret (pe_meth (pv 0) dc.cl k2 G2 hr b2 .nil pass0 (pa_cons (pv 3) (pa_cons (pe_cmpR op_eq (pv 2) pe_str (nomark _)) pa_nil))))) pss_nil)
      (pss_cons (ps_if (pt_cmpR op_eq (pv 2) pe_str (nomark _)) (pss_one (ps_ret (pe_meth (pv 0) dc.cl k3 G3 hr b3 .nil pass0 (pa_cons (pv 3) pa_nil)))) pss_nil)
      (pss_cons (ps_if (pt_cmpR op_eq (pv 2) pe_str (nomark _)) (pss_one (ps_ret (pe_meth (pv 0) dc.cl k4 G4 hr b4 .nil pass0 (pa_cons (pv 3) pa_nil)))) pss_nil)
      (pss_one (ps_ret pe_bl)))))), ?_⟩
    obtain ⟨dx, ob⟩ := hd.ob
    obtain ⟨m1, m2, m3, m4, m5, m6, m7, m8⟩ := dfs_m L.days lp lt ls
    refine ⟨_, rfl, ⟨_, rfl⟩, _, _, rfl, rfl, by decide +kernel, Nat.le_trans (show ln.length + 2 ≤ 4002 by omega) (by decide), fun D nD => ?_⟩
    have e1 := same_upd (o := .lst ((Txt.split ln " ").map V.str)) nD
    have no : ∀ {u v : Str} {A B : Prop}, ¬ u = v → B → if (decide (V.str u = V.str v)) = true then A else B := fun h b => by
      rw [str_eq, decide_eq_false h]
      exact iteF b
    have big : ∀ {k : Nat}, k ≤ 10 → k ≤ 1000 := fun h => by omega
    cases st with
    | @days x n hs h0 lx hx hn =>
      rw [hs] at e1 ⊢
      refine ⟨D, _, _, rfl, SqL.of upd_same, big (show 1 ≤ 10 by decide), fun D2 nD2 => ?_⟩
      have e2 := e1.trans (same_upd (o := .lst [V.str x]) nD2)
      refine ⟨_, _, rfl, _, _, rfl, rfl, ⟨_, rfl, rfl, _, rfl, iteT ?_⟩⟩
      exact ⟨_, rfl, d, dx, _, rfl, e2 _ _ ob, m4, _, rfl, d, lp, lt, ls, D2, L, x, n, rfl, hd.same e2, upd_same, h0, lx, hx, hn, fun H' fr hd' => q _ (Fr.mono (Fr.of e2 fr) (by simp)) hd'⟩
    | @place x r n inner hs h0 p0 s0 lx lr hx hp hn n19 l4 l3 =>
      rw [hs] at e1 ⊢
      refine ⟨D, _, _, rfl, SqL.of upd_same, big (show 2 ≤ 10 by decide), fun D2 nD2 => ?_⟩
      have e2 := e1.trans (same_upd (o := .lst [V.str x, V.str r]) nD2)
      refine ⟨_, _, rfl, _, _, rfl, rfl, ⟨_, rfl, rfl, _, rfl, no (by cases inner <;> decide +kernel) ?_⟩⟩
      cases inner with
      | true =>
        refine ⟨_, rfl, rfl, _, rfl, iteT (iteT ?_)⟩
        exact ⟨_, rfl, d, dx, _, rfl, e2 _ _ ob, m5, _, rfl, _, rfl, rfl, d, lp, lt, ls, D2, L, x, r, n, true, rfl, hd.same e2, sm, upd_same, h0, p0, s0, lx, lr, hx, hp, hn, n19, l4, l3, fun H' fr hd' => q _ (Fr.mono (Fr.of e2 fr) (by simp)) hd'⟩
      | false =>
        refine ⟨_, rfl, rfl, _, rfl, iteF ⟨_, rfl, rfl, _, rfl, iteT ?_⟩⟩
        exact ⟨_, rfl, d, dx, _, rfl, e2 _ _ ob, m5, _, rfl, _, rfl, rfl, d, lp, lt, ls, D2, L, x, r, n, false, rfl, hd.same e2, sm, upd_same, h0, p0, s0, lx, lr, hx, hp, hn, n19, l4, l3, fun H' fr hd' => q _ (Fr.mono (Fr.of e2 fr) (by simp)) hd'⟩
    | @price x y a n hs hf s0 l3 lx ly hx hy hl ha hn =>
      rw [hs] at e1 ⊢
      refine ⟨D, _, _, rfl, SqL.of upd_same, big (show 2 ≤ 10 by decide), fun D2 nD2 => ?_⟩
      have e2 := e1.trans (same_upd (o := .lst [V.str x, V.str y]) nD2)
      refine ⟨_, _, rfl, _, _, rfl, rfl, ⟨_, rfl, rfl, _, rfl, no (by decide +kernel) ?_⟩⟩
      refine ⟨_, rfl, rfl, _, rfl, no (by decide +kernel) ⟨_, rfl, rfl, _, rfl, no (by decide +kernel) ⟨_, rfl, rfl, _, rfl, iteT ?_⟩⟩⟩
      exact ⟨_, rfl, d, dx, _, rfl, e2 _ _ ob, m6, _, rfl, d, lp, lt, ls, D2, L, x, y, a, n, rfl, hd.same e2, sm, upd_same, hf, s0, l3, lx, ly, hx, hy, hl, ha, hn, fun H' fr hd' => q _ (Fr.mono (Fr.of e2 fr) (by simp)) hd'⟩
    | @stay x y u v a b hs hf l8 lx ly lu lv hx hy hu hv hab hb hl =>
      rw [hs] at e1 ⊢
      refine ⟨D, _, _, rfl, SqL.of upd_same, big (show 4 ≤ 10 by decide), fun D2 nD2 => ?_⟩
      have e2 := e1.trans (same_upd (o := .lst [V.str x, V.str y, V.str u, V.str v]) nD2)
      refine ⟨_, _, rfl, _, _, rfl, rfl, ⟨_, rfl, rfl, _, rfl, no (by decide +kernel) ?_⟩⟩
      refine ⟨_, rfl, rfl, _, rfl, no (by decide +kernel) ⟨_, rfl, rfl, _, rfl, no (by decide +kernel) ⟨_, rfl, rfl, _, rfl, no (by decide +kernel) ⟨_, rfl, rfl, _, rfl, iteT ?_⟩⟩⟩⟩
      exact ⟨_, rfl, d, dx, _, rfl, e2 _ _ ob, m7, _, rfl, d, lp, lt, ls, D2, L, x, y, u, v, a, b, rfl, hd.same e2, sm, upd_same, hf, l8, lx, ly, lu, lv, hx, hy, hu, hv, hab, hb, hl, fun H' fr hd' => q _ (Fr.mono (Fr.of e2 fr) (by simp)) hd'⟩
end
end Hs
/-! for k, x in enumerate(xs, start=..) -/
namespace Enu
open PySem PySem.Spec PyProof.Rows L2
theorem callWith_type_kwB {M : Model} {A : Around} {E : Value → Shared → Prop} {s : Shared} {pos : Pos} {T : String} {first : List Value} {args : List (Bool × Sem Value)} {keywords : List (Option Str × Sem Value)} {Q : Value → Shared → Prop}
    (hplain : (args.any fun x => x.fst) = false) (hkw : (keywords.any fun x => x.fst.isNone) = false)
    (h : wpAny M A (evalArgs (Value.type T) true args keywords) (fun a s₁ => wpAny M A (call (Value.type T) (first ++ a.pos) a.kw) Q E s₁) E s) : wpAny M A (callWith pos (Value.type T) first args keywords) Q E s := by
  unfold callWith
  refine wpAny_bind (wpAny_holding (wpAny_mono h (fun a s₁ h₁ => ?_) fun _ _ z => z))
  refine wpAny_bind (wpAny_standAt ?_)
  simp only [hplain, hkw, Bool.or_false]
  refine wpAny_bind (wpAny_pure ?_)
  refine wpAny_bind (wpAny_mono h₁ (fun r s₂ hr => wpAny_bind (wpAny_holding (wpAny_point (wpAny_pure hr)))) fun _ _ z => z)
def IteF (K : PySem.W.Frag) (a : Addr) (k : Int) : It :=
  { go := fun i H => ∃ xs x, SqL K H a xs ∧ xs[i]? = some x
    yld := fun i H v H' => ∃ T x, v = V.ref T ∧ H T = none ∧ H' = upd H T (HO.tup [V.int (k + i), x]) ∧ ∀ (xs : List V), SqL K H a xs → xs[i]? = some x
    stop := fun i H => ∃ xs, SqL K H a xs ∧ xs.length = i }
theorem turn_enumF {P : Program} {w : World} {K : PySem.W.Frag} {elts : List Expr} {kk : Nat} {tpos : Pos} (a e it : Addr) (k : Int) :
    Turn P w K (Expr.Tuple elts kk tpos) (IteF K a k) [e, it] e fun i h => (∃ old, IsEnum h e it (k + i) old) ∧ h.IsListIter it a i ∧ e ≠ it := by
  refine ⟨by simp, ?_, ?_, ?_, ?_, ?_⟩
  · rintro i h ⟨⟨old, he⟩, ⟨o, ho, hc, hd⟩, ne⟩ b hb
    have e' : b = e ∨ b = it := by simpa using hb
    rcases e' with rfl | rfl
    · exact ⟨_, he, fun v q => nomatch q⟩
    · exact ⟨o, ho, fun v q => by rw [hd] at q; exact nomatch q⟩
  · rintro i h h' ⟨⟨old, he⟩, hi, ne⟩ kp
    exact ⟨⟨old, kp e (by simp) _ he⟩, hi.at fun o q => kp it (by simp) o q, ne⟩
  · rintro X rfl rfl rfl hc i pins s σ H E I hf ⟨⟨old, he⟩, hit, ne⟩ ⟨xs, x, hq, hx⟩
    obtain ⟨its, rv, p, hz⟩ := I.list hq
    obtain ⟨u, hu, ru⟩ := Vals.get rv hx
    have hel := Heap.lt_size he
    have hil : it < s.heap.objs.size := by obtain ⟨w, q, _⟩ := hit; exact Heap.lt_size q
    have hal : s.heap.IsList a its.toArray := p.isList
    have nai : a ≠ it := by
      rintro rfl
      obtain ⟨o1, q1, c1, _⟩ := id hit
      obtain ⟨o2, q2, c2, _⟩ := id hal
      rw [q1] at q2
      cases q2
      rw [c1] at c2
      exact absurd c2 (by decide)
    have nae : a ≠ e := by
      rintro rfl
      obtain ⟨o2, q2, c2, _⟩ := id hal
      have := he.symm.trans q2
      cases this
      exact absurd (show Value.type "enumerate" = Value.type "list" from c2) (by decide)
    have G := GoesN.enumFrom (elts := elts) (x1 := kk) (pos := tpos) k (Draws.list (prog := X.prog) (w := X.w) (A := X.A.in1) (I.ok.hd hc) it a nai its.toArray) e ne (by simp [ne, nae.symm]) (by simp)
    have ilt : i < its.toArray.size := by
      have h1 := (List.getElem?_eq_some_iff.mp hu).1
      simpa using h1
    refine G.goes i s _ E ilt ⟨⟨old, he⟩, hit, hal⟩ ?_
    rintro v h' tk ⟨T, t, y, rfl, hT, hy, hTu⟩ ⟨hen, hit', hal'⟩ kp htk
    have ey : y = u := by
      have h1 : its.toArray[i]? = some u := by rw [List.getElem?_toArray]; exact hu
      exact Option.some.inj (hy.symm.trans h1)
    subst ey
    obtain ⟨oT, qT, cT, nT, dT⟩ := hTu
    refine ⟨.ref T, upd H T (.tup [.int (k + i), x]), Inv.turnedNew (ch := [e, it]) I (fun b o nb z => kp b o nb z) hf hT ?_, rfl, ⟨T, x, rfl, I.hok.fresh hT, rfl, fun ys hys => ?_⟩, ⟨?_, hit', ne⟩, fun b hb => ?_⟩
    · exact ⟨(show 2 ≤ sizeLine by decide), [Value.int (k + i) t, y], .cons ⟨t, rfl⟩ (.cons ru .nil), oT, qT, cT, nT, dT⟩
    · rw [I.list_inj hys hq]
      exact hx
    · exact hen
    · have e' : b = e ∨ b = it := by simpa using hb
      have hlt : b < s.heap.objs.size := by rcases e' with rfl | rfl <;> assumption
      rw [upd_ne (Nat.ne_of_lt (Nat.lt_of_lt_of_le hlt hT))]
      exact (hf b hb).1
  · rintro X rfl rfl rfl hc i pins s σ H E I hf ⟨⟨old, he⟩, hit, ne⟩ ⟨xs, hq, hx⟩
    obtain ⟨its, rv, p, hz⟩ := I.list hq
    have hal : s.heap.IsList a its.toArray := p.isList
    have nai : a ≠ it := by
      rintro rfl
      obtain ⟨o1, q1, c1, _⟩ := id hit
      obtain ⟨o2, q2, c2, _⟩ := id hal
      rw [q1] at q2
      cases q2
      rw [c1] at c2
      exact absurd c2 (by decide)
    have nae : a ≠ e := by
      rintro rfl
      obtain ⟨o2, q2, c2, _⟩ := id hal
      have := he.symm.trans q2
      cases this
      exact absurd (show Value.type "enumerate" = Value.type "list" from c2) (by decide)
    have G := GoesN.enumFrom (elts := elts) (x1 := kk) (pos := tpos) k (Draws.list (prog := X.prog) (w := X.w) (A := X.A.in1) (I.ok.hd hc) it a nai its.toArray) e ne (by simp [ne, nae.symm]) (by simp)
    have en : its.toArray.size = i := by
      rw [← hx, rv.length]
      simp
    rw [← en] at he hit
    refine wpAny_mono (G.stops s (fun s1 => L2.Inv X pins σ H s1) E ⟨⟨old, he⟩, hit, hal⟩ ?_) (fun _ _ z => z) fun _ _ z => z
    intro h' tk kp htk
    exact I.turnedL (ch := [e, it]) (fun b o nb z => kp b o nb z) hf
  · rintro A i s Q E ⟨⟨old, he⟩, _⟩ q
    exact wpAny_pyIter_enum he q
theorem walk_enumF {K : PySem.W.Frag} {a : Addr} {xs : List V} {k : Int} : Walk (IteF K a k) xs.length (fun H => SqL K H a xs) (YPair (fun i => some (V.int (k + i))) fun i => xs[i]?) := by
  refine ⟨fun i H hi g => ⟨xs, xs[i], g, List.getElem?_eq_getElem hi⟩, fun H g => ⟨xs, g, rfl⟩, ?_⟩
  rintro i H x H' hi g ⟨T, y, rfl, nT, rfl, hy⟩
  exact ⟨T, _, y, rfl, nT, rfl, rfl, hy xs g⟩
def iEnumS (K : PySem.W.Frag) (ta tk : TA) : TI := fun σ H R => ta σ H fun vs H1 => tk σ H1 fun zs H2 => ∃ a xs k, vs = [V.ref a] ∧ zs = [V.int k] ∧ -2 ^ 63 ≤ k ∧ k < 2 ^ 63 ∧ SqL K H2 a xs ∧ R (IteF K a k) H2
theorem pi_enumS {X : Cx} {e : Expr} {ta tk : TA} {p pos tpos : Pos} {elts : List Expr} {kk : Nat} {kws : List Keyword} (hg : Gl X "enumerate") (hm : X.mg "enumerate" = none) (ha : PA X [e] ta) (hk : PK X kws tk)
    (he : backTo pos (starEach [e] X.env) = [(false, eval e X.env)] := by rfl)
    (hpl : ((backTo pos (starEach [e] X.env)).any fun x => x.fst) = false := by rfl)
    (hall : ((backToKw pos (keywordEach kws X.env)).all fun x => x.fst.isSome) = true := by rfl)
    (hnone : ((backToKw pos (keywordEach kws X.env)).any fun x => x.fst.isNone) = false := by rfl)
    (hks : List.filterMap (fun x => x.fst) (backToKw pos (keywordEach kws X.env)) = [("start" : Str)] := by rfl) :
    PI X (Expr.Tuple elts kk tpos) ((Expr.Name "enumerate" p).Call [e] kws pos) (iEnumS X.K ta tk) := by
  refine ⟨fun pins s σ H R I h => wpAny_Call_Name_kw (ld_blt I hg hm boot_enumerate (callWith_type_kwB hpl hnone ?_) (by decide +kernel) (by decide +kernel))⟩
  rw [he]
  refine evalArgs_kwB hall ?_
  have h0 := ha.run pos pins s σ H _ I h
  rw [he] at h0
  refine thn h0 ?_
  rintro us s1 ⟨vs, H1, I1, r1, q1⟩
  refine thn (hk.run pos pins s1 σ H1 _ I1 q1) ?_
  rintro ws s2 ⟨zs, H2, I2, r2, a, xs, k, rfl, rfl, k1, k2, hq, q⟩
  rw [hks]
  cases r1 with
  | cons ra rra =>
  cases rra
  cases ra
  cases r2 with
  | cons rk rrk =>
  cases rrk
  obtain ⟨tt, rfl⟩ := rk
  obtain ⟨its, rv, p', hz⟩ := I2.list hq
  refine enum_begins_start (begins_list a its.toArray) p'.isList k1 k2 ?_
  intro h' hen hit hsz hkp
  have I3 := I2.kept (t' := s2.toks) hkp
  refine wpAny_pyIter_enum hen ?_
  refine ⟨s2.heap.objs.size + 1, [s2.heap.objs.size + 1, s2.heap.objs.size], _, IteF X.K a k, H2, rfl, I3, turn_enumF a (s2.heap.objs.size + 1) s2.heap.objs.size k, ⟨⟨Value.none, ?_⟩, ?_, Nat.succ_ne_self _⟩, fun b hb => ?_, q⟩
  · rw [show k + ((0 : Nat) : Int) = k from Int.add_zero k]
    exact hen
  · exact ⟨_, hit, rfl, rfl⟩
  · have e' : b = s2.heap.objs.size + 1 ∨ b = s2.heap.objs.size := by simpa using hb
    have hle : s2.heap.objs.size ≤ b := by
      rcases e' with z | z
      · rw [z]; exact Nat.le_add_right _ 1
      · rw [z]; exact Nat.le_refl _
    exact Inv.fpOk I2 hle (HOk.fresh I2.hok hle)
end Enu
namespace Hs
open PySem PySem.Spec PyProof.Rows L2 Am
def L0 : Lore := ⟨0, [], [], []⟩
inductive Steps : Lore → List Str → Lore → Prop
  | nil {L : Lore} : Steps L [] L
  | cons {L L1 L2 : Lore} {l : Str} {ls : List Str} : Step L l L1 → Steps L1 ls L2 → Steps L (l :: ls) L2
def spInitD (C : Addr) : Sp := fun vs H Q _ => ∃ x dx, vs = [.ref x] ∧ H x = some (.ins C dx []) ∧
  ∀ H' lp lt ls, Fr [x] H H' → DraftAt C H' x lp lt ls L0 → H lp = none → H lt = none → H ls = none → Q .non H'
section
variable {P : Program} {w : World} {K : PySem.W.Frag} {mg : Str → Option Value} {base : Heap} {C : Addr}
theorem scDrInit : FnScope ["self"] ["self"] (defScope sDrInit) := ⟨rfl, rfl, rfl, by decide +kernel, rfl, by decide +kernel, by decide +kernel⟩
theorem LstAt.nil {α : Type} {f : α → HO} {H : Hp} {l : Addr} (h : H l = some (.lst [])) : LstAt f H l [] := ⟨[], h, Refs.nil⟩
theorem none_of {H : Hp} {a b : Addr} {o : HO} (h : upd H a o b = none) : b ≠ a ∧ H b = none := by
  have n : b ≠ a := fun z => by rw [z, upd_same] at h; cases h
  exact ⟨n, by rw [upd_ne n] at h; exact h⟩
theorem ok_drInit {f : Addr} {fd : FuncData} (F : Fun K "__init__" "Draft.__init__" sDrInit f fd) (dc : DC K C) : FnOk P w K mg base CX0 1 f fd ["self"] (spInitD C) := by
  refine F.ok scDrInit (fun vs H Q E h => ?_) (fun cdv A outer s H vs Q E hr h => ?_)
  · obtain ⟨x, dx, rfl, _⟩ := h
    rfl
  · obtain ⟨x, dx, rfl, ob, q⟩ := h
    refine ⟨_, pss_cons (ps_fld (pv 0) pe_int rfl) (pss_cons (ps_fld (pv 0) (pe_lst pa_nil) rfl) (pss_cons (ps_fld (pv 0) (pe_lst pa_nil) rfl) (pss_one (ps_fld (pv 0) (pe_lst pa_nil) rfl)))), ?_⟩
    refine ⟨_, rfl, x, C, dx, _, rfl, ob, dc.cl, dc.nD, by decide, ?_⟩
    refine ⟨by decide, fun lp nlp => ⟨_, rfl, x, C, dx, _, rfl, (by rw [upd_ne (ne_of_none upd_same nlp)]; exact upd_same), dc.cl, dc.nP, by decide +kernel, ?_⟩⟩
    refine ⟨by decide, fun lt nlt => ⟨_, rfl, x, C, dx, _, rfl, (by rw [upd_ne (ne_of_none upd_same nlt)]; exact upd_same), dc.cl, dc.nT, ?_, ?_⟩⟩
    · simp only [putF, if_neg n_dp]
      show 2 < 1000
      decide
    refine ⟨by decide, fun ls nls => ⟨_, rfl, x, C, dx, _, rfl, (by rw [upd_ne (ne_of_none upd_same nls)]; exact upd_same), dc.cl, dc.nS, ?_, ?_⟩⟩
    · simp only [putF, if_neg n_dp, if_neg n_dt, if_neg n_pt]
      show 3 < 1000
      decide
    obtain ⟨p1, p2⟩ := none_of nlp
    obtain ⟨t1, t2⟩ := none_of nlt
    obtain ⟨t3, t4⟩ := none_of t2
    obtain ⟨_, t5⟩ := none_of t4
    obtain ⟨s1, s2⟩ := none_of nls
    obtain ⟨s3, s4⟩ := none_of s2
    obtain ⟨_, s5⟩ := none_of s4
    obtain ⟨s6, s7⟩ := none_of s5
    obtain ⟨_, s8⟩ := none_of s7
    refine q _ lp lt ls (fun b u e nb => ?_) ⟨⟨dx, upd_same⟩, LstAt.nil ?_, LstAt.nil ?_, LstAt.nil ?_, Ne.symm t3, Ne.symm s6, Ne.symm s3⟩ p2 t5 s8
    · have n0 : b ≠ x := fun z => nb (by rw [z]; simp)
      have n1 := ne_of_none e p2
      have n2 := ne_of_none e t5
      have n3 := ne_of_none e s8
      rw [upd_ne n0, upd_ne n3, upd_ne n0, upd_ne n2, upd_ne n0, upd_ne n1, upd_ne n0]
      exact e
    · rw [upd_ne p1, upd_ne (Ne.symm s6), upd_ne p1, upd_ne (Ne.symm t3), upd_ne p1, upd_same]
    · rw [upd_ne t1, upd_ne (Ne.symm s3), upd_ne t1, upd_same]
    · rw [upd_ne s1, upd_same]
end
end Hs
namespace Hs
open PySem PySem.Spec PyProof.Rows L2 Am
/-- a text that tells a house -/
structure Told (x : Str) (L : Lore) : Prop where
  st : Steps L0 (Txt.split x "\n") L
  hf : hasF L = true
  ls : ∀ l ∈ Txt.split x "\n", l.length ≤ 4000
  n : (Txt.split x "\n").length ≤ 1000
  len : x.length ≤ 100000
def spDrafted (C : Addr) : Sp := fun vs H Q _ => ∃ (x : Str) (L : Lore), vs = [.str x] ∧ Told x L ∧
  ∀ H' d lp lt ls, Same H H' → DraftAt C H' d lp lt ls L → H d = none → H lp = none → H lt = none → H ls = none → Small L → Q (.ref d) H'
theorem L0_small : Small L0 := ⟨by decide, by decide, by decide⟩
section
variable {P : Program} {w : World} {K : PySem.W.Frag} {mg : Str → Option Value} {base : Heap} {C : Addr}
theorem scDrafted : FnScope ["text", "draft", "lines", "at", "line"] ["text"] (defScope sDrafted) := ⟨rfl, rfl, rfl, by decide +kernel, rfl, by decide +kernel, by decide +kernel⟩
theorem ok_drafted {f fi : Addr} {fd fdi : FuncData} (F : Fun K "drafted" "drafted" sDrafted f fd) (dc : DC K C) (T : Nm mg) (ns : mg "str" = none) (ne : mg "enumerate" = none)
    (M : Mk K C fi) (GI : FnOk P w K mg base CX0 1 fi fdi ["self"] (spInitD C)) (bI : Binds K fdi ["self"] []) (mC : mg "Draft" = some (.ref C))
    (GT : GotD P w K mg base C "take" 3 ["self", "line"] (spTake C)) (GFl : GotD P w K mg base C "has_flat" 1 ["self"] (spHasF C)) : FnOk P w K mg base CX0 4 f fd ["text"] (spDrafted C) := by
  obtain ⟨f1, fd1, GT, b1, k1⟩ := GT
  obtain ⟨fL, fdL, GFl, bL, mL⟩ := GFl
  refine F.ok scDrafted (fun vs H Q E h => ?_) (fun cdv A outer s H vs Q E hr h => ?_)
  · obtain ⟨x, L, rfl, _⟩ := h
    rfl
  · obtain ⟨x, L, rfl, td, q⟩ := h
    have b_str : bootBuiltins "str" = some (.type "str") := by decide +kernel
    have hr2 : Room 2 _ := hr.mono (by decide)
    have hr1 : Room 1 _ := hr.mono (by decide)
    refine ⟨_, pss_cons (ps_if (pt_not (pt_val (pe_callB call_isi (by rfl) T.isi b_isi (pa_cons (pv 0) (pa_cons (pe_bltn (v := .ty "str") (by rfl) ns b_str rfl) pa_nil))))) (pss_one ps_never) pss_nil)
      (pss_cons (ps_par (by rfl) scDrafted.nd (i := 1) (j := 2) rfl rfl (by decide) rfl rfl (pa_cons (pe_make0 M GI hr2 (by rfl) mC bI .nil pass0) (pa_cons (pe_split (pv 0) pe_str) pa_nil)) (by rfl))
      (pss_cons (ps_for (g := gTup K 2 (gCons (gName 3) (gCons (gName 4) gNil))) PassesOwn.never rfl (Enu.pi_enumS (by rfl) ne (pa_cons (pv 2) pa_nil) (pk_cons pe_int pk_nil))
        (pg_tup rfl (pgs_cons (pg_name (i := 3) scDrafted.nd rfl (.inl rfl)) (pgs_cons (pg_name (i := 4) scDrafted.nd rfl (.inl rfl)) pgs_nil)))
        (pss_one (ps_if (pt_not (pt_val (pe_meth (pv 1) dc.cl k1 GT hr b1 .nil pass0 (pa_cons (pv 4) pa_nil)))) (pss_one ps_never) pss_nil)))
      (pss_cons (ps_if (pt_not (pt_val (pe_meth0 (pv 1) dc.cl mL GFl hr1 bL .nil pass0))) (pss_one ps_never) pss_nil)
      (pss_one (ps_ret (pv 1)))))), ?_⟩
    refine ⟨_, rfl, .str x, .ty "str", .type "str", .type "str", _, rfl, .ty _, .base (Bk.tyOf (.str x)), kstr, _, rfl, iteF ?_⟩
    intro d dx nd ndx ndd
    have e0 : Same H (upd (upd H dx (.own d)) d (.ins C dx [])) := (same_upd ndx).trans (same_upd (by rw [upd_ne (Ne.symm ndd)]; exact nd))
    refine ⟨d, dx, rfl, upd_same, fun H1 lp lt ls fr1 hd z1 z2 z3 => ⟨rfl, ?_⟩⟩
    have e01 : Same H H1 := fun b u e => fr1 b u (e0 b u e) (by simpa using ne_of_none e nd)
    have hlp := (none_of (none_of z1).2).2
    have hlt := (none_of (none_of z2).2).2
    have hls := (none_of (none_of z3).2).2
    refine ⟨_, rfl, ⟨_, rfl⟩, _, _, rfl, rfl, by decide +kernel, Nat.le_trans (show x.length + 2 ≤ 100002 by have := td.len; omega) (by decide), fun l nl => ⟨_, _, rfl, ?_⟩⟩
    have e2 := same_upd (o := .lst ((Txt.split x "\n").map V.str)) nl
    have nld : l ≠ d ∧ l ≠ lp ∧ l ≠ lt ∧ l ≠ ls := by
      obtain ⟨dy, ob⟩ := hd.ob
      obtain ⟨_, a1, _⟩ := hd.pl
      obtain ⟨_, a2, _⟩ := hd.pr
      obtain ⟨_, a3, _⟩ := hd.st
      exact ⟨(ne_of_none ob nl).symm, (ne_of_none a1 nl).symm, (ne_of_none a2 nl).symm, (ne_of_none a3 nl).symm⟩
    have qn := td.n
    have qs := td.st
    have ql := td.ls
    generalize hlines : Txt.split x "\n" = lines at e2 qn qs ql ⊢
    refine ⟨_, rfl, l, _, 1, rfl, rfl, by decide, by decide, SqL.of upd_same, for_it (Enu.walk_enumF (xs := lines.map V.str)) (fun i σ H' => ∃ Li s3 s4, σ = [some (.str x), some (.ref d), some (.ref l), s3, s4] ∧ Steps Li (lines.drop i) L ∧ DraftAt C H' d lp lt ls Li ∧ Small Li ∧ Same H H' ∧ H' l = some (.lst (lines.map V.str))) ?_ ?_ ?_ ?_⟩
    · exact ⟨L0, _, _, rfl, qs, hd.same e2, L0_small, e01.trans e2, upd_same⟩
    · rintro i σ H' _ ⟨_, _, _, _, _, _, _, _, h⟩
      exact SqL.of h
    · rintro i v σ H2 H3 hi ⟨Li, s3, s4, rfl, hst, hdi, smi, esi, hli⟩ ⟨T, v1, v2, rfl, nT, rfl, hv1, hv2⟩
      have hi' : i < lines.length := by simpa using hi
      obtain rfl : v2 = .str lines[i] := by
        replace hv2 : (lines.map V.str)[i]? = some v2 := hv2
        rw [List.getElem?_map, List.getElem?_eq_getElem hi'] at hv2
        exact (Option.some.inj hv2).symm
      rw [List.drop_eq_getElem_cons hi'] at hst
      cases hst with
      | @cons _ L1 _ _ _ st1 st2 =>
      have e3 := same_upd (o := .tup [v1, .str lines[i]]) nT
      obtain ⟨dy, ob⟩ := (hdi.same e3).ob
      obtain ⟨m1, m2, m3, m4, m5, m6, m7, m8⟩ := dfs_m Li.days lp lt ls
      refine ⟨T, _, rfl, SqT.of upd_same, rfl, _, _, rfl, _, _, rfl, rfl, ?_⟩
      refine ⟨_, rfl, d, dy, _, rfl, ob, m8, _, rfl, d, lp, lt, ls, Li, L1, lines[i], rfl, hdi.same e3, smi, ql _ (List.getElem_mem hi'), st1, fun H4 fr4 hd4 => ⟨_, rfl, iteF ?_⟩⟩
      refine ⟨L1, _, _, rfl, st2, hd4, st1.small smi, fun b u e => fr4 b u (e3 b u (esi b u e)) ?_, fr4 _ _ (e3 _ _ hli) (by simp [nld.1, nld.2.1, nld.2.2.1, nld.2.2.2])⟩
      have a0 := ne_of_none e nd
      have a1 := ne_of_none e hlp
      have a2 := ne_of_none e hlt
      have a3 := ne_of_none e hls
      simp [a0, a1, a2, a3]
    · rintro σ H2 ⟨Li, s3, s4, rfl, hst, hdi, smi, esi, hli⟩
      rw [show lines.drop (lines.map V.str).length = [] from by rw [List.length_map]; exact List.drop_length] at hst
      cases hst
      obtain ⟨dy, ob⟩ := hdi.ob
      obtain ⟨m1, m2, m3, m4, m5, m6, m7, m8⟩ := dfs_m L.days lp lt ls
      refine ⟨_, rfl, d, dy, _, rfl, ob, m2, d, lp, lt, ls, L, rfl, hdi, smi, fun H3 e3 => ⟨_, rfl, ?_⟩⟩
      rw [td.hf]
      refine iteF ⟨_, rfl, ?_⟩
      exact q _ d lp lt ls (esi.trans e3) (hdi.same e3) nd hlp hlt hls smi
end
end Hs
/-! who lives where, and what a unit costs, day by day -/
namespace Hs
open PySem PySem.Spec PyProof.Rows L2 Am
def tenD (ss : List St) (x : Str) (k : Nat) : Str := ss.foldl (fun acc s => if s.pl = x ∧ (s.a ≤ k ∧ k < s.b) then s.who else acc) "house"
def priD (ps : List (Nat × Nat)) (k : Nat) : Nat := ps.foldl (fun acc p => if p.1 ≤ k then p.2 else acc) 1
def row {α : Type} (n : Nat) (g : α → V) (f : Nat → α) : List V := (List.range n).map fun k => g (f k)
structure Good (L : Lore) : Prop where
  d : L.days ≤ 14
  st : ∀ s ∈ L.stays, s.a < s.b ∧ s.b ≤ L.days
  pr : ∀ p ∈ L.prices, p.1 < L.days
theorem row_len {α : Type} {n : Nat} {g : α → V} {f : Nat → α} : (row n g f).length = n := by unfold row; simp
theorem row_set {α : Type} {n : Nat} {g : α → V} {f f' : Nat → α} {m : Nat} {v : α} (h : ∀ k, f' k = if k = m then v else f k) : (row n g f).set m (g v) = row n g f' := by
  apply List.ext_getElem?
  intro k
  unfold row
  rw [List.getElem?_set, List.getElem?_map, List.getElem?_map, List.length_map, List.length_range]
  by_cases c : m = k
  · subst c
    by_cases z : m < n
    · rw [if_pos rfl, if_pos z, List.getElem?_range z]
      simp [h]
    · rw [if_pos rfl, if_neg z, List.getElem?_eq_none (by simpa using z)]
      rfl
  · rw [if_neg c]
    cases hk : (List.range n)[k]? with
    | none => rfl
    | some j =>
      have e : j = k := by
        rw [List.getElem?_eq_some_iff] at hk
        obtain ⟨z, hz⟩ := hk
        simp at hz
        exact hz.symm
      subst e
      simp [h, Ne.symm c]
theorem rep_row {α : Type} (n : Nat) (g : α → V) (a : α) : (List.replicate n [g a]).flatten = row n g (fun _ => a) := by
  unfold row
  induction n with
  | zero => rfl
  | succ n ih => rw [List.replicate_succ', List.flatten_append, ih, List.range_succ, List.map_append]; rfl
theorem tenD_step {ss : List St} {x : Str} {k i : Nat} {s : St} (h : ss[i]? = some s) : tenD (ss.take (i + 1)) x k = if s.pl = x ∧ (s.a ≤ k ∧ k < s.b) then s.who else tenD (ss.take i) x k := by
  unfold tenD
  rw [List.take_add_one, h, List.foldl_append]
  rfl
theorem priD_step {ss : List (Nat × Nat)} {k i : Nat} {s : Nat × Nat} (h : ss[i]? = some s) : priD (ss.take (i + 1)) k = if s.1 ≤ k then s.2 else priD (ss.take i) k := by
  unfold priD
  rw [List.take_add_one, h, List.foldl_append]
  rfl
theorem ixN_of {n k : Nat} (h : k < n) : ixN n (k : Int) = some k := by
  unfold ixN
  rw [if_pos (by omega), if_pos (by omega)]
  exact congrArg some (by omega)
def spTen (C : Addr) : Sp := fun vs H Q _ => ∃ (d lp lt ls : Addr) (L : Lore) (x : Str), vs = [.str x, .ref d] ∧ DraftAt C H d lp lt ls L ∧ Small L ∧ Good L ∧
  ∀ H' t, Same H H' → H t = none → H' t = some (.tup (row L.days V.str (tenD L.stays x))) → Q (.ref t) H'
def spPri (C : Addr) : Sp := fun vs H Q _ => ∃ (d lp lt ls : Addr) (L : Lore), vs = [.ref d] ∧ DraftAt C H d lp lt ls L ∧ Small L ∧ Good L ∧
  ∀ H' t, Same H H' → H t = none → H' t = some (.tup (row L.days (fun n : Nat => V.int n) (priD L.prices))) → Q (.ref t) H'
section
variable {P : Program} {w : World} {K : PySem.W.Frag} {mg : Str → Option Value} {base : Heap} {C : Addr}
theorem scTenants : FnScope ["name", "draft", "row", "person", "place", "first", "behind", "day"] ["name", "draft"] (defScope sTenants) := ⟨rfl, rfl, rfl, by decide +kernel, rfl, by decide +kernel, by decide +kernel⟩
theorem ok_tenants {f : Addr} {fd : FuncData} (F : Fun K "tenants" "tenants" sTenants f fd) (dc : DC K C) (T : Nm mg) (nt : mg "tuple" = none) (mN : ∃ t, mg "NOBODY" = some (.str "house" t)) : FnOk P w K mg base CX0 1 f fd ["name", "draft"] (spTen C) := by
  obtain ⟨tN, mN⟩ := mN
  refine F.ok scTenants (fun vs H Q E h => ?_) (fun cdv A outer s H vs Q E hr h => ?_)
  · obtain ⟨d, lp, lt, ls, L, x, rfl, _⟩ := h
    rfl
  · obtain ⟨d, lp, lt, ls, L, x, rfl, hd, sm, gd, q⟩ := h
    refine ⟨_, pss_cons (ps_set (i := 2) scTenants.nd rfl (.inl rfl) (pe_op op_rep (pe_lst (pa_cons (pe_glob (v := .str "house") (by rfl) mN ⟨_, rfl⟩) pa_nil)) (pe_fld (pv 1) rfl)))
      (pss_cons (ps_for (g := gTup K 4 (gCons (gName 3) (gCons (gName 4) (gCons (gName 5) (gCons (gName 6) gNil))))) PassesOwn.never rfl (pi_list (pe_fld (pv 1) rfl))
        (pg_tup rfl (pgs_cons (pg_name (i := 3) scTenants.nd rfl (.inl rfl)) (pgs_cons (pg_name (i := 4) scTenants.nd rfl (.inl rfl)) (pgs_cons (pg_name (i := 5) scTenants.nd rfl (.inl rfl)) (pgs_cons (pg_name (i := 6) scTenants.nd rfl (.inl rfl)) pgs_nil)))))
        (pss_one (ps_if (pt_cmpR op_eq (pv 4) (pv 0) (nomark _)) (pss_one (ps_for PassesOwn.never rfl (pi_range2 (by rfl) T.range (pa_cons (pv 5) (pa_cons (pv 6) pa_nil))) (pg_name (i := 7) scTenants.nd rfl (.inl rfl))
          (pss_one (ps_asg (pv 3) (pg_sub (pv 2) (pv 7) set_list))))) pss_nil)))
      (pss_one (ps_ret (pe_tupleOf (by rfl) nt (pv 2))))), ?_⟩
    obtain ⟨dx, ob⟩ := hd.ob
    obtain ⟨rs, hls, hrs⟩ := hd.st
    refine ⟨by decide, fun D nD => ⟨_, rfl, d, C, dx, _, _, rfl, same_upd nD _ _ ob, dc.cl, dc.nD, dfs_days _ _ _ _, ?_⟩⟩
    have e1 := same_upd (o := .lst [V.str "house"]) nD
    refine ⟨D, (L.days : Int), _, rfl, rfl, upd_same, by omega, by have := gd.d; omega, ?_, fun r nr => ?_⟩
    · have := gd.d
      exact Nat.le_trans (show 1 * L.days ≤ 14 by omega) (by decide)
    rw [show ((L.days : Int)).toNat = L.days from rfl, rep_row L.days V.str ("house" : Str)]
    have nrH : H r = none := (none_of nr).2
    have e2 := e1.trans (same_upd (o := .lst (row L.days V.str fun _ => ("house" : Str))) nr)
    refine ⟨_, rfl, d, C, dx, _, _, rfl, e2 _ _ ob, dc.cl, dc.nS, dfs_st _ _ _ _, ls, rfl, ⟨_, SqL.of (e2 _ _ hls)⟩, ?_⟩
    refine for_it (walk_list (xs := rs.map V.ref)) (fun i σ H' => ∃ s3 s4 s5 s6 s7, σ = [some (.str x), some (.ref d), some (.ref r), s3, s4, s5, s6, s7] ∧ Same H H' ∧ H' r = some (.lst (row L.days V.str (tenD (L.stays.take i) x)))) ?_ ?_ ?_ ?_
    · exact ⟨_, _, _, _, _, rfl, e2, upd_same⟩
    · rintro i σ H' _ ⟨_, _, _, _, _, _, es, _⟩
      exact SqL.of (es _ _ hls)
    · rintro i v σ H1 H2 hi ⟨s3, s4, s5, s6, s7, rfl, es, hr⟩ ⟨rfl, hv⟩
      obtain ⟨p, s, rfl, hp', hs, ho⟩ := hrs.at hv
      obtain ⟨g1, g2⟩ := gd.st s (List.mem_of_getElem? hs)
      have gd14 := gd.d
      refine ⟨p, _, rfl, SqT.of (es _ _ ho), rfl, _, _, rfl, _, _, rfl, _, _, rfl, _, _, rfl, rfl, ?_⟩
      refine ⟨_, rfl, _, rfl, rfl, _, rfl, ?_⟩
      rw [str_eq]
      cases c : decide (s.pl = x) with
      | false =>
        refine iteF ⟨_, _, _, _, _, rfl, es, ?_⟩
        have c' := of_decide_eq_false c
        rw [hr]
        congr 2
        unfold row
        apply List.map_congr_left
        intro k _
        rw [tenD_step hs, if_neg (fun z => c' z.1)]
      | true =>
        have c' := of_decide_eq_true c
        refine iteT ⟨_, rfl, _, rfl, (s.a : Int), (s.b : Int), rfl, ⟨by omega, by omega, by omega, by omega⟩, ?_⟩
        refine for_it walk_range (fun j σ H' => ∃ s7, σ = [some (.str x), some (.ref d), some (.ref r), some (.str s.who), some (.str s.pl), some (.int s.a), some (.int s.b), s7] ∧ Same H H' ∧ H' r = some (.lst (row L.days V.str fun k => if s.a ≤ k ∧ k < s.a + j then s.who else tenD (L.stays.take i) x k))) ?_ (fun _ _ _ _ _ => trivial) ?_ ?_
        · refine ⟨_, rfl, es, ?_⟩
          rw [hr]
          congr 2
          unfold row
          apply List.map_congr_left
          intro k _
          show V.str _ = V.str (if s.a ≤ k ∧ k < s.a + 0 then s.who else tenD (List.take i L.stays) x k)
          rw [if_neg (by omega)]
        · rintro j v σ H3 H4 hj ⟨s7, rfl, es3, hr3⟩ ⟨rfl, rfl⟩
          have hj' : s.a + j < L.days := by omega
          refine ⟨_, rfl, _, rfl, _, rfl, r, _, _, s.a + j, rfl, rfl, hr3, ?_, ?_⟩
          · rw [row_len, show (s.a : Int) + (j : Int) = ((s.a + j : Nat) : Int) by omega]
            exact ixN_of hj'
          · refine ⟨_, rfl, fun b u e => ?_, ?_⟩
            · rw [upd_ne (ne_of_none e nrH)]
              exact es3 _ _ e
            · rw [upd_same]
              congr 2
              refine row_set fun k => ?_
              by_cases c1 : k = s.a + j
              · rw [if_pos c1, if_pos (by omega)]
              · rw [if_neg c1]
                by_cases c2 : s.a ≤ k ∧ k < s.a + j
                · rw [if_pos c2, if_pos (by omega)]
                · rw [if_neg c2, if_neg (by omega)]
        · rintro σ H3 ⟨s7, rfl, es3, hr3⟩
          refine ⟨_, _, _, _, _, rfl, es3, ?_⟩
          rw [hr3]
          congr 2
          unfold row
          apply List.map_congr_left
          intro k _
          show V.str (if s.a ≤ k ∧ k < s.a + ((s.b : Int) - (s.a : Int)).toNat then s.who else tenD (List.take i L.stays) x k) = _
          rw [tenD_step hs, show s.a + ((s.b : Int) - (s.a : Int)).toNat = s.b by omega]
          by_cases c2 : s.a ≤ k ∧ k < s.b
          · rw [if_pos c2, if_pos ⟨c', c2⟩]
          · rw [if_neg c2, if_neg (fun z => c2 z.2)]
    · rintro σ H1 ⟨s3, s4, s5, s6, s7, rfl, es, hr⟩
      rw [show L.stays.take (rs.map V.ref).length = L.stays from by rw [List.length_map, hrs.1]; exact List.take_length] at hr
      refine ⟨_, rfl, .inl ⟨r, _, rfl, SqL.of hr, fun t nt => ?_⟩⟩
      refine q _ t (es.trans (same_upd nt)) ?_ upd_same
      cases ht : H t with
      | none => rfl
      | some u => rw [es _ _ ht] at nt; cases nt
end
end Hs
namespace Hs
open PySem PySem.Spec PyProof.Rows L2 Am
section
variable {P : Program} {w : World} {K : PySem.W.Frag} {mg : Str → Option Value} {base : Heap} {C : Addr}
theorem scPrices : FnScope ["draft", "row", "first", "number", "day"] ["draft"] (defScope sPricesOf) := ⟨rfl, rfl, rfl, by decide +kernel, rfl, by decide +kernel, by decide +kernel⟩
theorem ok_prices {f : Addr} {fd : FuncData} (F : Fun K "prices" "prices" sPricesOf f fd) (dc : DC K C) (T : Nm mg) (nt : mg "tuple" = none) (mF : ∃ i t, mg "FIRST_PRICE" = some (.int i t) ∧ i = 1) : FnOk P w K mg base CX0 1 f fd ["draft"] (spPri C) := by
  obtain ⟨_, tF, mF, rfl⟩ := mF
  refine F.ok scPrices (fun vs H Q E h => ?_) (fun cdv A outer s H vs Q E hr h => ?_)
  · obtain ⟨d, lp, lt, ls, L, rfl, _⟩ := h
    rfl
  · obtain ⟨d, lp, lt, ls, L, rfl, hd, sm, gd, q⟩ := h
    refine ⟨_, pss_cons (ps_set (i := 1) scPrices.nd rfl (.inl rfl) (pe_op op_rep (pe_lst (pa_cons (pe_glob (v := .int 1) (by rfl) mF ⟨_, rfl⟩) pa_nil)) (pe_fld (pv 0) rfl)))
      (pss_cons (ps_for (g := gTup K 2 (gCons (gName 2) (gCons (gName 3) gNil))) PassesOwn.never rfl (pi_list (pe_fld (pv 0) rfl))
        (pg_tup rfl (pgs_cons (pg_name (i := 2) scPrices.nd rfl (.inl rfl)) (pgs_cons (pg_name (i := 3) scPrices.nd rfl (.inl rfl)) pgs_nil)))
        (pss_one (ps_for PassesOwn.never rfl (pi_range2 (by rfl) T.range (pa_cons (pv 2) (pa_cons (pe_fld (pv 0) rfl) pa_nil))) (pg_name (i := 4) scPrices.nd rfl (.inl rfl))
          (pss_one (ps_asg (pv 3) (pg_sub (pv 1) (pv 4) set_list))))))
      (pss_one (ps_ret (pe_tupleOf (by rfl) nt (pv 1))))), ?_⟩
    obtain ⟨dx, ob⟩ := hd.ob
    obtain ⟨rs, hls, hrs⟩ := hd.pr
    refine ⟨by decide, fun D nD => ⟨_, rfl, d, C, dx, _, _, rfl, same_upd nD _ _ ob, dc.cl, dc.nD, dfs_days _ _ _ _, ?_⟩⟩
    have e1 := same_upd (o := .lst [V.int 1]) nD
    refine ⟨D, (L.days : Int), _, rfl, rfl, upd_same, by omega, by have := gd.d; omega, ?_, fun r nr => ?_⟩
    · have := gd.d
      exact Nat.le_trans (show 1 * L.days ≤ 14 by omega) (by decide)
    rw [show ((L.days : Int)).toNat = L.days from rfl, show (V.int 1) = (fun n : Nat => V.int n) 1 from rfl, rep_row L.days (fun n : Nat => V.int n) 1]
    have nrH : H r = none := (none_of nr).2
    have e2 := e1.trans (same_upd (o := .lst (row L.days (fun n : Nat => V.int n) fun _ => 1)) nr)
    refine ⟨_, rfl, d, C, dx, _, _, rfl, e2 _ _ ob, dc.cl, dc.nT, dfs_ta _ _ _ _, lt, rfl, ⟨_, SqL.of (e2 _ _ hls)⟩, ?_⟩
    refine for_it (walk_list (xs := rs.map V.ref)) (fun i σ H' => ∃ s3 s4 s5, σ = [some (.ref d), some (.ref r), s3, s4, s5] ∧ Same H H' ∧ H' r = some (.lst (row L.days (fun n : Nat => V.int n) (priD (L.prices.take i))))) ?_ ?_ ?_ ?_
    · exact ⟨_, _, _, rfl, e2, upd_same⟩
    · rintro i σ H' _ ⟨_, _, _, _, es, _⟩
      exact SqL.of (es _ _ hls)
    · rintro i v σ H1 H2 hi ⟨s3, s4, s5, rfl, es, hr⟩ ⟨rfl, hv⟩
      obtain ⟨p, s, rfl, hp', hs, ho⟩ := hrs.at hv
      have g1 := gd.pr s (List.mem_of_getElem? hs)
      have gd14 := gd.d
      refine ⟨p, _, rfl, SqT.of (es _ _ ho), rfl, _, _, rfl, _, _, rfl, rfl, ?_⟩
      refine ⟨_, rfl, _, rfl, d, C, dx, _, _, rfl, es _ _ ob, dc.cl, dc.nD, dfs_days _ _ _ _, (s.1 : Int), (L.days : Int), rfl, ⟨by omega, by omega, by omega, by omega⟩, ?_⟩
      refine for_it walk_range (fun j σ H' => ∃ s5, σ = [some (.ref d), some (.ref r), some (.int s.1), some (.int s.2), s5] ∧ Same H H' ∧ H' r = some (.lst (row L.days (fun n : Nat => V.int n) fun k => if s.1 ≤ k ∧ k < s.1 + j then s.2 else priD (L.prices.take i) k))) ?_ (fun _ _ _ _ _ => trivial) ?_ ?_
      · refine ⟨_, rfl, es, ?_⟩
        rw [hr]
        congr 2
        unfold row
        apply List.map_congr_left
        intro k _
        show V.int _ = V.int ((if s.1 ≤ k ∧ k < s.1 + 0 then s.2 else priD (L.prices.take i) k : Nat) : Int)
        rw [if_neg (by omega)]
      · rintro j v σ H3 H4 hj ⟨s5, rfl, es3, hr3⟩ ⟨rfl, rfl⟩
        have hj' : s.1 + j < L.days := by omega
        refine ⟨_, rfl, _, rfl, _, rfl, r, _, _, s.1 + j, rfl, rfl, hr3, ?_, ?_⟩
        · rw [row_len, show (s.1 : Int) + (j : Int) = ((s.1 + j : Nat) : Int) by omega]
          exact ixN_of hj'
        · refine ⟨_, rfl, fun b u e => ?_, ?_⟩
          · rw [upd_ne (ne_of_none e nrH)]
            exact es3 _ _ e
          · rw [upd_same]
            congr 2
            refine row_set (g := fun n : Nat => V.int n) fun k => ?_
            by_cases c1 : k = s.1 + j
            · rw [if_pos c1, if_pos (by omega)]
            · rw [if_neg c1]
              by_cases c2 : s.1 ≤ k ∧ k < s.1 + j
              · rw [if_pos c2, if_pos (by omega)]
              · rw [if_neg c2, if_neg (by omega)]
      · rintro σ H3 ⟨s5, rfl, es3, hr3⟩
        refine ⟨_, _, _, rfl, es3, ?_⟩
        rw [hr3]
        congr 2
        unfold row
        apply List.map_congr_left
        intro k hk
        have hk' : k < L.days := by simpa using hk
        show V.int ((if s.1 ≤ k ∧ k < s.1 + ((L.days : Int) - (s.1 : Int)).toNat then s.2 else priD (L.prices.take i) k : Nat) : Int) = V.int ((priD (L.prices.take (i + 1)) k : Nat) : Int)
        rw [priD_step hs, show s.1 + ((L.days : Int) - (s.1 : Int)).toNat = L.days by omega]
        by_cases c2 : s.1 ≤ k
        · rw [if_pos ⟨c2, hk'⟩, if_pos c2]
        · rw [if_neg (fun z => c2 z.1), if_neg c2]
    · rintro σ H1 ⟨s3, s4, s5, rfl, es, hr⟩
      rw [show L.prices.take (rs.map V.ref).length = L.prices from by rw [List.length_map, hrs.1]; exact List.take_length] at hr
      refine ⟨_, rfl, .inl ⟨r, _, rfl, SqL.of hr, fun t nt => ?_⟩⟩
      refine q _ t (es.trans (same_upd nt)) ?_ upd_same
      cases ht : H t with
      | none => rfl
      | some u => rw [es _ _ ht] at nt; cases nt
end
end Hs
/-! {k: v for x in ..} by a walk -/
namespace DCi
open PySem PySem.Spec PyProof.Rows L2
theorem dc_it {J : It} {n : Nat} {G : Hp → Prop} {Y : Nat → Hp → V → Hp → Prop} (hw : Walk J n G Y) {g : TG} {tt : TT} {tk tv : TE} {vs : List Nat} {σ : L2.St} {H1 : Hp} {D : Addr} {Qd : Hp → Prop} (Pv : Nat → Hp → Prop)
    (h0 : Pv 0 (upd H1 D (HO.dK []))) (hG : ∀ (i : Nat) (H : Hp), i ≤ n → Pv i H → G H)
    (hs : ∀ (i : Nat) (x : V) (H H' : Hp), i < n → Pv i H → Y i H x H' →
      g x (wipe σ vs) H' fun σ2 H2 => wipe σ2 vs = wipe σ vs ∧ tt σ2 H2 fun b H3 =>
        if b = true then tk σ2 H3 fun y H4 => tv σ2 H4 fun z H5 => ∃ kvs k, y = kV k ∧ H5 D = some (HO.dK kvs) ∧ kvs.length < sizeLine ∧ Pv (i + 1) (upd H5 D (HO.dK (putK kvs k z))) else Pv (i + 1) H3)
    (hq : ∀ (H : Hp), Pv n H → Qd H) :
    ∃ W : Nat → Nat → Hp → Prop, (∃ m, W 0 m (upd H1 D (HO.dK []))) ∧ ∀ (i m : Nat) (H : Hp), W i m H → (J.stop i H ∧ Qd H) ∨ (J.go i H ∧ ∃ Nx : Hp → Prop, (∀ (H' : Hp), Nx H' → ∃ m', m' < m ∧ W (i + 1) m' H') ∧
      ∀ (x : V) (H' : Hp), J.yld i H x H' → g x (wipe σ vs) H' fun σ2 H2 => wipe σ2 vs = wipe σ vs ∧ tt σ2 H2 fun b H3 =>
        if b = true then tk σ2 H3 fun y H4 => tv σ2 H4 fun z H5 => ∃ kvs k, y = kV k ∧ H5 D = some (HO.dK kvs) ∧ kvs.length < sizeLine ∧ Nx (upd H5 D (HO.dK (putK kvs k z))) else Nx H3) := by
  refine ⟨fun i m H => i ≤ n ∧ m = n - i ∧ Pv i H, ⟨_, Nat.zero_le _, rfl, h0⟩, ?_⟩
  rintro i m H ⟨hi, rfl, hp⟩
  by_cases c : i = n
  · subst c
    exact .inl ⟨hw.stops H (hG _ _ hi hp), hq H hp⟩
  · have lt : i < n := by omega
    refine .inr ⟨hw.goes i H lt (hG _ _ hi hp), Pv (i + 1), fun H' h => ⟨_, by omega, by omega, rfl, h⟩, fun x H' hy => hs i x H H' lt hp (hw.yields i H x H' lt (hG _ _ hi hp) hy)⟩
theorem ps_setDc {X : Cx} {i : Nat} {y : Str} {py : Pos} {kx vx tg iter : Expr} {ifs : List Expr} {scope : Scope} {own : List (Str × Nat)} {pos spos : Pos} {wi : TI} {g : TG} {tt : TT} {tk tv : TE}
    (hc : X.calm = true) (hN : X.N.Nodup) (hy : X.N[i]? = some y) (hyl : X.env.scope.names.lookup y = some .local)
    (hsw : swapsWith (kx.DictComp vx [{ target := tg, iter := iter, ifs := ifs, is_async := 0 }] scope pos) (some (Expr.Name y py)) spos.line X.env = pure true)
    (hi : PI X tg iter wi) (ok : BlkOk X.N X.env.scope scope own)
    (hg : ∀ (s : Shared) (H : Hp) (C : Addr) (cl : List (Str × Addr)) (fp : List Addr), PG (X.blk s H scope (compEnvC scope cl C X.env) fp) tg g)
    (ht : ∀ (s : Shared) (H : Hp) (C : Addr) (cl : List (Str × Addr)) (fp : List Addr), PTs (X.blk s H scope (compEnvC scope cl C X.env) fp) ifs tt)
    (hk : ∀ (s : Shared) (H : Hp) (C : Addr) (cl : List (Str × Addr)) (fp : List Addr), PE (X.blk s H scope (compEnvC scope cl C X.env) fp) kx tk)
    (he : ∀ (s : Shared) (H : Hp) (C : Addr) (cl : List (Str × Addr)) (fp : List Addr), PE (X.blk s H scope (compEnvC scope cl C X.env) fp) vx tv)
    (hs : ∀ (x : Value), foldedSetIterable iter X.env x = pure x := by intro _; rfl) :
    PS X (Stmt.Assign [Expr.Name y py] (kx.DictComp vx [{ target := tg, iter := iter, ifs := ifs, is_async := 0 }] scope pos) spos) (tAsg (tDc wi g tt tk tv (List.map (fun x => x.snd) own)) (gName i)) := by
  refine ⟨fun pins s σ H D I h => ?_⟩
  rw [exec_Assign_Name_used y py _ spos hsw]
  refine wpAny_bind (wpAny_standAt (wpAny_bind ?_))
  refine wpAny_bind (thn (dc_core hc hN I hi ok hg ht hk he hs h ?_) fun x s' hq => wpAny_pure (wpAny_pure hq))
  intro L C s' m H' I' q hn f
  show wpAny _ _ _ _ _ _
  refine wpAny_assign_Name (store_ok2 (v := V.ref L) I' hN hy (Or.inl hyl) rfl (fun s2 I2 x => ?_) (Or.inr hyl))
  obtain ⟨a, sb, ha⟩ := x
  obtain ⟨f0, f1, f2, f3, f4, f5⟩ := f
  have haC : C ≠ a := by
    rcases ha with z | z
    · rw [z]; exact f1
    · exact fun e => f4 y a z e.symm
  exact ⟨m, hn.sameBut sb haC, fun h3 sb3 => ⟨List.set σ i (some (V.ref L)), H', I2.turned (fun b o hb e => (sb3.right b hb).trans e) f0 f1 f3 f4 f5, q⟩⟩
end DCi
/-! texts, ascending, each once -/
namespace Hs
open PySem PySem.Spec PyProof.Rows L2 Am
def ltS (a b : Str) : Prop := a.cps.toList < b.cps.toList
theorem ltS_trans {a b c : Str} (h : ltS a b) (k : ltS b c) : ltS a c := List.lt_trans h k
theorem ltS_irrefl (a : Str) : ¬ ltS a a := List.lt_irrefl _
theorem ltS_of {a b : Str} (h : ¬ ltS b a) (n : a ≠ b) : ltS a b := by
  by_cases c : ltS a b
  · exact c
  · exact absurd (SL.ext (List.le_antisymm (List.not_lt.mp h) (List.not_lt.mp c))) n
theorem rising_pw : ∀ (r : List Str) (x : Str), risingS x r = true → (x :: r).Nodup → (x :: r).Pairwise ltS
  | [], x, _, _ => by simp
  | y :: r, x, h, n => by
    have h' : (!(ltCps y.cps.toList x.cps.toList) && risingS y r) = true := h
    rw [Bool.and_eq_true] at h'
    obtain ⟨a, b⟩ := h'
    rw [List.nodup_cons] at n
    have ih := rising_pw r y b n.2
    have lt : ltS x y := by
      refine ltS_of (fun z => ?_) (fun z => n.1 (by rw [z]; simp))
      rw [ltCps_eq] at a
      have : decide (y.cps.toList < x.cps.toList) = true := decide_eq_true z
      rw [this] at a
      cases a
    refine List.pairwise_cons.mpr ⟨fun z hz => ?_, ih⟩
    rcases List.mem_cons.mp hz with rfl | hz
    · exact lt
    · exact ltS_trans lt ((List.pairwise_cons.mp ih).1 z hz)
theorem sorted_pw {ys : List Str} (h : sortedS ys = true) (n : ys.Nodup) : ys.Pairwise ltS := by
  cases ys with
  | nil => simp
  | cons x r => exact rising_pw r x h n
/-- xs, ascending, each once -/
structure AscOf (xs ys : List Str) : Prop where
  pw : ys.Pairwise ltS
  mem : ∀ n, n ∈ ys ↔ n ∈ xs
theorem asc_unique : ∀ {ys zs : List Str}, ys.Pairwise ltS → zs.Pairwise ltS → (∀ n, n ∈ ys ↔ n ∈ zs) → ys = zs
  | [], [], _, _, _ => rfl
  | [], z :: zs, _, _, h => absurd ((h z).mpr (by simp)) (by simp)
  | y :: ys, [], _, _, h => absurd ((h y).mp (by simp)) (by simp)
  | y :: ys, z :: zs, p, q, h => by
    obtain ⟨p1, p2⟩ := List.pairwise_cons.mp p
    obtain ⟨q1, q2⟩ := List.pairwise_cons.mp q
    have e : y = z := by
      rcases List.mem_cons.mp ((h y).mp (by simp)) with a | a
      · exact a
      · rcases List.mem_cons.mp ((h z).mpr (by simp)) with b | b
        · exact b.symm
        · exact absurd (ltS_trans (q1 y a) (p1 z b)) (ltS_irrefl _)
    subst e
    refine congrArg (y :: ·) (asc_unique p2 q2 fun n => ⟨fun hn => ?_, fun hn => ?_⟩)
    · rcases List.mem_cons.mp ((h n).mp (by simp [hn])) with a | a
      · exact absurd (by rw [a] at hn; exact p1 y hn) (ltS_irrefl _)
      · exact a
    · rcases List.mem_cons.mp ((h n).mpr (by simp [hn])) with a | a
      · exact absurd (by rw [a] at hn; exact q1 y hn) (ltS_irrefl _)
      · exact a
theorem AscOf.unique {xs ys zs : List Str} (a : AscOf xs ys) (b : AscOf xs zs) : ys = zs := asc_unique a.pw b.pw fun n => (a.mem n).trans (b.mem n).symm
/-- the keys, in the sequence of their first -/
def keysOf (xs : List Str) : List Str := xs.foldl (fun acc x => if x ∈ acc then acc else acc ++ [x]) []
theorem keys_snoc (xs : List Str) (x : Str) : keysOf (xs ++ [x]) = if x ∈ keysOf xs then keysOf xs else keysOf xs ++ [x] := by
  unfold keysOf
  rw [List.foldl_append]
  rfl
theorem keys_all : ∀ (k : Nat) (xs : List Str), xs.length = k → (keysOf xs).Nodup ∧ (keysOf xs).length ≤ xs.length ∧ ∀ n, n ∈ keysOf xs ↔ n ∈ xs := by
  intro k
  induction k with
  | zero => intro xs h; rw [List.eq_nil_of_length_eq_zero h]; exact ⟨by simp [keysOf], by simp [keysOf], fun n => Iff.rfl⟩
  | succ k ih =>
    intro xs h
    rcases List.eq_nil_or_concat xs with rfl | ⟨ys, y, rfl⟩
    · exact ⟨by simp [keysOf], by simp [keysOf], fun n => Iff.rfl⟩
    rw [List.concat_eq_append] at h ⊢
    have h' : ys.length = k := by simpa using h
    rw [keys_snoc]
    obtain ⟨i1, i2, i3⟩ := ih ys h'
    by_cases c : y ∈ keysOf ys
    · rw [if_pos c]
      refine ⟨i1, by simp; omega, fun n => ?_⟩
      rw [i3, List.mem_append, List.mem_singleton]
      exact ⟨.inl, fun z => z.elim id fun e => by rw [e]; exact (i3 y).mp c⟩
    · rw [if_neg c]
      refine ⟨?_, by simp; omega, fun n => ?_⟩
      · rw [List.nodup_append]
        refine ⟨i1, by simp, fun a ha b hb e => ?_⟩
        rw [List.mem_singleton.mp hb] at e
        exact c (e ▸ ha)
      · rw [List.mem_append, List.mem_append, i3]
def kd (ks : List Str) : List (Key × V) := ks.map fun k => (.inr k, .bl true)
theorem putK_kd (ks : List Str) (x : Str) : putK (kd ks) (.inr x : Key) (.bl true) = kd (if x ∈ ks then ks else ks ++ [x]) := by
  unfold putK
  have e : ((kd ks).any fun kv => decide (kv.1 = (.inr x : Key))) = decide (x ∈ ks) := by
    unfold kd
    rw [List.any_map]
    rw [Bool.eq_iff_iff, List.any_eq_true, decide_eq_true_iff]
    constructor
    · rintro ⟨y, hy, h⟩
      have := of_decide_eq_true h
      cases this
      exact hy
    · intro h
      exact ⟨x, h, decide_eq_true rfl⟩
  rw [e]
  by_cases c : x ∈ ks
  · rw [decide_eq_true c, if_pos rfl, if_pos c]
    unfold kd
    rw [List.map_map]
    apply List.map_congr_left
    intro k _
    show (if (Sum.inr k : Key) = Sum.inr x then _ else _) = _
    by_cases z : (Sum.inr k : Key) = Sum.inr x
    · rw [if_pos z]
    · rw [if_neg z]
  · rw [decide_eq_false c, if_neg (by decide), if_neg c]
    unfold kd
    rw [List.map_append]
    rfl
def spAsc : Sp := fun vs H Q _ => ∃ (a : Addr) (xs : List Str), vs = [.ref a] ∧ H a = some (.lst (xs.map V.str)) ∧ xs.length ≤ 60 ∧
  ∀ H' t ys, Same H H' → H t = none → H' t = some (.tup (ys.map V.str)) → AscOf xs ys → Q (.ref t) H'
section
variable {P : Program} {w : World} {K : PySem.W.Frag} {mg : Str → Option Value} {base : Heap} {C : Addr}
theorem scAsc : FnScope ["words", "kept", "word"] ["words"] (defScope sAsc) := ⟨rfl, rfl, rfl, by decide +kernel, rfl, by decide +kernel, by decide +kernel⟩
theorem ok_asc {f : Addr} {fd : FuncData} (F : Fun K "ascending" "ascending" sAsc f fd) (nt : mg "tuple" = none) (ns : mg "sorted" = none) (nst : mg "str" = none) : FnOk P w K mg base CX0 1 f fd ["words"] spAsc := by
  refine F.ok scAsc (fun vs H Q E h => ?_) (fun cdv A outer s H vs Q E hr h => ?_)
  · obtain ⟨a, xs, rfl, _⟩ := h
    rfl
  · obtain ⟨a, xs, rfl, ha, hl, q⟩ := h
    have b_str : bootBuiltins "str" = some (.type "str") := by decide +kernel
    have b_sorted : bootBuiltins "sorted" = some (.builtin "sorted") := by decide +kernel
    refine ⟨_, pss_cons (DCi.ps_setDc (i := 1) (own := [("word", 2)]) (g := gName 2) (tt := tYes) rfl scAsc.nd rfl rfl rfl (pi_list (pv 0)) (blkOk_by (N := ["words", "kept", "word"]) (sc := defScope sAsc) (by decide +kernel))
        (fun _ _ _ _ _ => pg_name (i := 2) scAsc.nd rfl (Or.inl rfl)) (fun _ _ _ _ _ => pts_nil) (fun _ _ _ _ _ => pv 2) (fun _ _ _ _ _ => pe_bl))
      (pss_one (ps_ret (pe_tupleOf (by rfl) nt (pe_callB cr_sortedS (by rfl) ns b_sorted (pa_cons (pe_lock (pe_lc (own := [("word", 2)]) (g := gName 2) (tt := tYes) rfl scAsc.nd (pi_keys (pv 1)) (blkOk_by (N := ["words", "kept", "word"]) (sc := defScope sAsc) (by decide +kernel))
        (fun _ _ _ _ _ => pg_name (i := 2) scAsc.nd rfl (Or.inl rfl)) (fun _ _ _ _ _ => pts_nil) (fun _ _ _ _ _ => pe_callTy SkE.call_str_str (by rfl) nst b_str (pa_cons (pv 2) pa_nil)))) pa_nil))))), ?_⟩
    refine ⟨_, rfl, a, rfl, ⟨_, SqL.of ha⟩, fun D nD => ?_⟩
    refine DCi.dc_it (walk_list (xs := xs.map V.str)) (fun i H' => Same H H' ∧ H' D = some (.dK (kd (keysOf (xs.take i))))) ?_ (fun i H' _ h => SqL.of (h.1 _ _ ha)) ?_ ?_
    · exact ⟨same_upd nD, by rw [upd_same]; rfl⟩
    · rintro i v H1 H2 hi ⟨es, hD⟩ ⟨rfl, hv⟩
      have hi' : i < xs.length := by simpa using hi
      rw [List.getElem?_map, List.getElem?_eq_getElem hi'] at hv
      obtain rfl : V.str xs[i] = v := Option.some.inj hv
      refine ⟨rfl, ?_⟩
      unfold tYes
      refine iteT ⟨_, rfl, _, .inr xs[i], rfl, hD, ?_, ?_, ?_⟩
      · have := (keys_all _ (xs.take i) rfl).2.1
        rw [List.length_take] at this
        unfold kd
        rw [List.length_map]
        exact Nat.lt_of_le_of_lt (Nat.le_trans this (Nat.le_trans (Nat.min_le_right _ _) hl)) (by decide)
      · intro b u e
        rw [upd_ne (ne_of_none e nD)]
        exact es _ _ e
      · rw [upd_same, putK_kd, List.take_add_one, List.getElem?_eq_getElem hi', show (some xs[i]).toList = [xs[i]] from rfl, keys_snoc]
    · rintro H1 ⟨es, hD⟩
      rw [show xs.take (xs.map V.str).length = xs from by rw [List.length_map]; exact List.take_length] at hD
      obtain ⟨kn, klen, kmem⟩ := keys_all _ xs rfl
      refine ⟨D, _, hD, trivial, fun od => ?_⟩
      have nDH : H D = none := nD
      have e1 : Same H (upd H1 D (.frz od (.dK (kd (keysOf xs))))) := fun b u e => by
        rw [upd_ne (ne_of_none e nDH)]
        exact es _ _ e
      refine ⟨_, rfl, D, od, rfl, .inl ⟨_, upd_same, fun D2 nD2 => ?_⟩⟩
      refine lc_it walk_keys (Pv := Tk (upd H1 D (.frz od (.dK (kd (keysOf xs))))) D2 ((keysOf xs).map V.str)) (Tk.start nD2) (fun i H' _ h => h.1 _ _ upd_same) ?_ ?_
      · rintro i v H2 H3 hi hk ⟨rfl, k, vv, hkv, rfl⟩
        have hi' : i < (keysOf xs).length := by unfold kd at hi; simpa using hi
        unfold kd at hkv
        rw [List.getElem?_map, List.getElem?_eq_getElem hi'] at hkv
        cases hkv
        refine ⟨rfl, ?_⟩
        unfold tYes
        refine iteT ⟨_, rfl, _, rfl, ?_⟩
        exact hk.step nD2 (Same.refl _) (by rw [List.getElem?_map, List.getElem?_eq_getElem hi']; rfl) (by rw [List.length_map]; omega)
      · rintro H2 hk
        have hD2 := hk.done (by unfold kd; rw [List.length_map, List.length_map])
        have nDD : D2 ≠ D := fun z => by rw [z, upd_same] at nD2; cases nD2
        refine ⟨hk.1 _ _ upd_same, D2, keysOf xs, rfl, SqL.of (by rw [upd_ne nDD]; exact hD2), by omega, fun ys p hp hs np => .inl ⟨p, _, rfl, SqL.of upd_same, fun t nt => ?_⟩⟩
        have e2 : Same H (upd H2 D (.dK (kd (keysOf xs)))) := fun b u e => by
          rw [upd_ne (ne_of_none e nDH)]
          exact hk.1 _ _ (e1 _ _ e)
        have e3 := e2.trans (same_upd (o := .lst (ys.map V.str)) np)
        have e4 := e3.trans (same_upd (o := .tup (ys.map V.str)) nt)
        refine q _ t ys e4 ?_ upd_same ⟨sorted_pw hs (hp.nodup_iff.mpr kn), fun n => (hp.mem_iff).trans (kmem n)⟩
        cases ht : H t with
        | none => rfl
        | some u => rw [e3 _ _ ht] at nt; cases nt
end
end Hs
/-! the house -/
namespace Hs
open PySem PySem.Spec PyProof.Rows L2 Am
structure Sound (L : Lore) : Prop where
  z : L.days = 0 → L.places = [] ∧ L.prices = [] ∧ L.stays = []
  g : Good L
  n : (L.places.map (·.name)).Nodup
  s : Small L
theorem hasP_mem {L : Lore} {x : Str} : hasP L x = true ↔ x ∈ L.places.map (·.name) := by
  unfold hasP
  rw [List.any_eq_true, List.mem_map]
  exact ⟨fun ⟨p, a, b⟩ => ⟨p, a, of_decide_eq_true b⟩, fun ⟨p, a, b⟩ => ⟨p, a, decide_eq_true b⟩⟩
theorem hasF_ne {L : Lore} (h : hasF L = true) : L.places ≠ [] := fun z => by
  unfold hasF at h
  rw [z] at h
  cases h
theorem Step.sound {L L' : Lore} {ln : Str} (h : Step L ln L') (s : Sound L) : Sound L' := by
  have sm := h.small s.s
  obtain ⟨z, ⟨g1, g2, g3⟩, n, _⟩ := s
  cases h with
  | days _ h0 _ _ hn =>
    obtain ⟨a, b, c⟩ := z h0
    refine ⟨fun e => ⟨a, b, c⟩, ⟨hn.2, fun s hs => ?_, fun p hp => ?_⟩, n, sm⟩
    · rw [show L.stays = [] from c] at hs; cases hs
    · rw [show L.prices = [] from b] at hp; cases hp
  | @place x r m inner _ h0 p0 s0 _ _ _ hp _ _ _ _ =>
    refine ⟨fun e => absurd e h0, ⟨g1, g2, g3⟩, ?_, sm⟩
    rw [List.map_append, List.nodup_append]
    refine ⟨n, by simp, fun a ha b hb e => ?_⟩
    simp at hb
    rw [← e] at hb
    have : hasP L x = true := hasP_mem.mpr (hb ▸ ha)
    rw [hp] at this
    cases this
  | @price x y a m _ hf s0 _ _ _ _ _ hl ha hn =>
    refine ⟨fun e => absurd (z e).1 (hasF_ne hf), ⟨g1, g2, fun p hp => ?_⟩, n, sm⟩
    rcases List.mem_append.mp hp with hp | hp
    · exact g3 p hp
    · rw [List.mem_singleton.mp hp]
      exact ha
  | @stay x y u v a b _ hf l8 _ _ _ _ _ _ _ _ hab hb _ =>
    refine ⟨fun e => absurd (z e).1 (hasF_ne hf), ⟨g1, fun s hs => ?_, g3⟩, n, sm⟩
    rcases List.mem_append.mp hs with hs | hs
    · exact g2 s hs
    · rw [List.mem_singleton.mp hs]
      exact ⟨hab, hb⟩
theorem L0_sound : Sound L0 := ⟨fun _ => ⟨rfl, rfl, rfl⟩, ⟨by decide, fun _ h => absurd h List.not_mem_nil, fun _ h => absurd h List.not_mem_nil⟩, by decide, L0_small⟩
theorem Steps.sound {L L' : Lore} {ls : List Str} (h : Steps L ls L') : Sound L → Sound L' := by
  induction h with
  | nil => exact id
  | cons s _ ih => exact fun h => ih (s.sound h)
theorem Told.sound {x : Str} {L : Lore} (h : Told x L) : Sound L := h.st.sound L0_sound
def metersOf (L : Lore) : List Str := "main" :: (L.places.filter (·.inner)).map (·.name)
def hfs (x : Str) (n : Nat) (a b c r t p : Addr) : List (Str × V) := putF "_prices" (.ref p) (putF "_tenants" (.ref t) (putF "_rooms" (.ref r) (putF "people" (.ref c) (putF "meters" (.ref b) (putF "flats" (.ref a) (putF "days" (.int n) (putF "_text" (.str x) [])))))))
theorem hfs_none {f : Str} (x : Str) (n : Nat) (a b c r t p : Addr) (h : f ∉ [("_prices" : Str), "_tenants", "_rooms", "people", "meters", "flats", "days", "_text"]) : (hfs x n a b c r t p).lookup f = none := by
  simp only [List.mem_cons, not_or] at h
  obtain ⟨h1, h2, h3, h4, h5, h6, h7, h8, _⟩ := h
  unfold hfs
  simp only [lookup_putF, if_neg h1, if_neg h2, if_neg h3, if_neg h4, if_neg h5, if_neg h6, if_neg h7, if_neg h8]
  rfl
section
variable (x : Str) (n : Nat) (a b c r t p : Addr)
theorem hfs_pr : (hfs x n a b c r t p).lookup ("_prices" : Str) = some (.ref p) := by unfold hfs; rw [lookup_putF, if_pos rfl]
theorem hfs_te : (hfs x n a b c r t p).lookup ("_tenants" : Str) = some (.ref t) := by unfold hfs; rw [lookup_putF, if_neg (by decide +kernel), lookup_putF, if_pos rfl]
theorem hfs_ro : (hfs x n a b c r t p).lookup ("_rooms" : Str) = some (.ref r) := by unfold hfs; rw [lookup_putF, if_neg (by decide +kernel), lookup_putF, if_neg (by decide +kernel), lookup_putF, if_pos rfl]
theorem hfs_pe : (hfs x n a b c r t p).lookup ("people" : Str) = some (.ref c) := by unfold hfs; rw [lookup_putF, if_neg (by decide +kernel), lookup_putF, if_neg (by decide +kernel), lookup_putF, if_neg (by decide +kernel), lookup_putF, if_pos rfl]
theorem hfs_me : (hfs x n a b c r t p).lookup ("meters" : Str) = some (.ref b) := by unfold hfs; rw [lookup_putF, if_neg (by decide +kernel), lookup_putF, if_neg (by decide +kernel), lookup_putF, if_neg (by decide +kernel), lookup_putF, if_neg (by decide +kernel), lookup_putF, if_pos rfl]
theorem hfs_fl : (hfs x n a b c r t p).lookup ("flats" : Str) = some (.ref a) := by unfold hfs; rw [lookup_putF, if_neg (by decide +kernel), lookup_putF, if_neg (by decide +kernel), lookup_putF, if_neg (by decide +kernel), lookup_putF, if_neg (by decide +kernel), lookup_putF, if_neg (by decide +kernel), lookup_putF, if_pos rfl]
theorem hfs_da : (hfs x n a b c r t p).lookup ("days" : Str) = some (.int n) := by unfold hfs; rw [lookup_putF, if_neg (by decide +kernel), lookup_putF, if_neg (by decide +kernel), lookup_putF, if_neg (by decide +kernel), lookup_putF, if_neg (by decide +kernel), lookup_putF, if_neg (by decide +kernel), lookup_putF, if_neg (by decide +kernel), lookup_putF, if_pos rfl]
theorem hfs_tx : (hfs x n a b c r t p).lookup ("_text" : Str) = some (.str x) := by unfold hfs; rw [lookup_putF, if_neg (by decide +kernel), lookup_putF, if_neg (by decide +kernel), lookup_putF, if_neg (by decide +kernel), lookup_putF, if_neg (by decide +kernel), lookup_putF, if_neg (by decide +kernel), lookup_putF, if_neg (by decide +kernel), lookup_putF, if_neg (by decide +kernel), lookup_putF, if_pos rfl]
end
/-- a house, and all that hangs on it -/
def HouseAt (C : Addr) (H : Hp) (h : Addr) (x : Str) (L : Lore) : Prop := ∃ (dx a b c r t p : Addr) (rs ts : List Addr) (ys : List Str), H h = some (.ins C dx (hfs x L.days a b c r t p)) ∧
  H a = some (.tup (rs.map V.ref)) ∧ Refs plO H rs L.places ∧ H b = some (.tup ((metersOf L).map V.str)) ∧ H c = some (.tup (ys.map V.str)) ∧ AscOf ("house" :: L.stays.map (·.who)) ys ∧
  H r = some (.dK (L.places.map fun q => (.inr q.name, .int q.room))) ∧ H t = some (.dK ((L.places.zip ts).map fun q => ((.inr q.1.name : Key), V.ref q.2))) ∧ Refs (fun q : Pl => .tup (row L.days V.str (tenD L.stays q.name))) H ts L.places ∧
  H p = some (.tup (row L.days (fun n : Nat => V.int n) (priD L.prices)))
theorem HouseAt.same {C : Addr} {H H' : Hp} {h : Addr} {x : Str} {L : Lore} (k : HouseAt C H h x L) (e : Same H H') : HouseAt C H' h x L := by
  obtain ⟨dx, a, b, c, r, t, p, rs, ts, ys, h1, h2, h3, h4, h5, h6, h7, h8, h9, h10⟩ := k
  exact ⟨dx, a, b, c, r, t, p, rs, ts, ys, e _ _ h1, e _ _ h2, h3.same e, e _ _ h4, e _ _ h5, h6, e _ _ h7, e _ _ h8, h9.same e, e _ _ h10⟩
/-- what the class House must have -/
structure HoC (K : PySem.W.Frag) (C : Addr) : Prop where
  cl : Cls K C
  n1 : NoAttr K C "_text"
  n2 : NoAttr K C "days"
  n3 : NoAttr K C "flats"
  n4 : NoAttr K C "meters"
  n5 : NoAttr K C "people"
  n6 : NoAttr K C "_rooms"
  n7 : NoAttr K C "_tenants"
  n8 : NoAttr K C "_prices"
end Hs
namespace Hs
open PySem PySem.Spec PyProof.Rows L2 Am
section
variable {P : Program} {w : World} {K : PySem.W.Frag} {mg : Str → Option Value} {base : Heap} {C CD : Addr}
theorem putF_len (k : Str) (v : V) : ∀ fs : List (Str × V), (putF k v fs).length ≤ fs.length + 1
  | [] => by simp [putF]
  | (a, b) :: r => by
    have := putF_len k v r
    simp only [putF]
    by_cases c : a = k
    · rw [if_pos c]; simp
    · rw [if_neg c]; simp; omega
theorem past_ob {H H' : Hp} {h b C dx : Addr} {fs : List (Str × V)} {o : HO} (ob : H h = some (.ins C dx fs)) (fr : Fr [h] H H') (e : H b = some o) (ho : ∀ C dx fs, o ≠ .ins C dx fs) : H' b = some o :=
  fr _ _ e (fun z => by rw [List.mem_singleton.mp z, ob] at e; exact ho _ _ _ (Option.some.inj e).symm)
theorem past_refs {α : Type} {f : α → HO} {H H' : Hp} {h C dx : Addr} {fs : List (Str × V)} {rs : List Addr} {xs : List α} (ob : H h = some (.ins C dx fs)) (fr : Fr [h] H H') (k : Refs f H rs xs) (ho : ∀ x C dx fs, f x ≠ .ins C dx fs) : Refs f H' rs xs :=
  ⟨k.1, fun i r y a b => past_ob ob fr (k.2 i r y a b) (ho y)⟩
theorem past_draft {H H' : Hp} {h C dx d lp lt ls : Addr} {fs : List (Str × V)} {L : Lore} (ob : H h = some (.ins C dx fs)) (fr : Fr [h] H H') (nd : d ≠ h) (k : DraftAt CD H d lp lt ls L) : DraftAt CD H' d lp lt ls L := by
  obtain ⟨⟨dy, a⟩, ⟨r1, b1, b2⟩, ⟨r2, c1, c2⟩, ⟨r3, d1, d2⟩, n1, n2, n3⟩ := k
  refine ⟨⟨dy, fr _ _ a (by simpa using nd)⟩, ⟨r1, past_ob ob fr b1 (fun _ _ _ z => by cases z), past_refs ob fr b2 (fun x _ _ _ z => by unfold plO at z; cases z)⟩,
    ⟨r2, past_ob ob fr c1 (fun _ _ _ z => by cases z), past_refs ob fr c2 (fun x _ _ _ z => by unfold prO at z; cases z)⟩,
    ⟨r3, past_ob ob fr d1 (fun _ _ _ z => by cases z), past_refs ob fr d2 (fun x _ _ _ z => by unfold stO at z; cases z)⟩, n1, n2, n3⟩
theorem Fr.tr {ms : List Addr} {H H1 H2 : Hp} (a : Fr ms H H1) (b : Same H1 H2) : Fr ms H H2 := fun c u e n => b c u (a c u e n)
theorem putK_new {kvs : List (Key × V)} {k : Key} {v : V} (h : ∀ kv ∈ kvs, kv.1 ≠ k) : putK kvs k v = kvs ++ [(k, v)] := by
  unfold putK
  rw [if_neg]
  rw [List.any_eq_true]
  rintro ⟨kv, a, b⟩
  exact h kv a (of_decide_eq_true b)
theorem lock_draft {H H' : Hp} {r d lp lt ls : Addr} {kvs : List (Key × V)} {L : Lore} (hr : H r = some (.dK kvs)) (fr : Fr [r] H H') (k : DraftAt CD H d lp lt ls L) : DraftAt CD H' d lp lt ls L := by
  have no : ∀ {b : Addr} {o : HO}, H b = some o → (∀ kvs, o ≠ .dK kvs) → H' b = some o := fun e ho => fr _ _ e (fun z => by rw [List.mem_singleton.mp z, hr] at e; exact ho _ (Option.some.inj e).symm)
  obtain ⟨⟨dy, a⟩, ⟨r1, b1, b2⟩, ⟨r2, c1, c2⟩, ⟨r3, d1, d2⟩, n1, n2, n3⟩ := k
  exact ⟨⟨dy, no a (fun _ z => by cases z)⟩, ⟨r1, no b1 (fun _ z => by cases z), b2.1, fun i r y u v => no (b2.2 i r y u v) (fun _ z => by unfold plO at z; cases z)⟩,
    ⟨r2, no c1 (fun _ z => by cases z), c2.1, fun i r y u v => no (c2.2 i r y u v) (fun _ z => by unfold prO at z; cases z)⟩,
    ⟨r3, no d1 (fun _ z => by cases z), d2.1, fun i r y u v => no (d2.2 i r y u v) (fun _ z => by unfold stO at z; cases z)⟩, n1, n2, n3⟩
def spHInit (C : Addr) : Sp := fun vs H Q _ => ∃ (h dx : Addr) (x : Str) (L : Lore), vs = [.ref h, .str x] ∧ H h = some (.ins C dx []) ∧ Told x L ∧ ∀ H', Fr [h] H H' → HouseAt C H' h x L → Q .non H'
theorem scHInit : FnScope ["self", "text", "draft", "name", "room", "inner", "person", "place", "first", "behind"] ["self", "text"] (defScope sHInit) := ⟨rfl, rfl, rfl, by decide +kernel, rfl, by decide +kernel, by decide +kernel⟩
theorem ok_hInit {f : Addr} {fd : FuncData} (F : Fun K "__init__" "House.__init__" sHInit f fd) (hc : HoC K C) (dc : DC K CD) (T : Nm mg) (nt : mg "tuple" = none) (mN : ∃ t, mg "NOBODY" = some (.str "house" t))
    (GD : GotF P w K mg base "drafted" 4 ["text"] (spDrafted CD)) (GA : GotF P w K mg base "ascending" 1 ["words"] spAsc) (GT : GotF P w K mg base "tenants" 1 ["name", "draft"] (spTen CD)) (GP : GotF P w K mg base "prices" 1 ["draft"] (spPri CD)) :
    FnOk P w K mg base CX0 5 f fd ["self", "text"] (spHInit C) := by
  obtain ⟨tN, mN⟩ := mN
  obtain ⟨fD, fdD, GD, bD, mD, kD⟩ := GD
  obtain ⟨fA, fdA, GA, bA, mA, kA⟩ := GA
  obtain ⟨fT, fdT, GT, bT, mT, kT⟩ := GT
  obtain ⟨fP, fdP, GP, bP, mP, kP⟩ := GP
  refine F.ok scHInit (fun vs H Q E h => ?_) (fun cdv A outer s H vs Q E hr h => ?_)
  · obtain ⟨h, dx, x, L, rfl, _⟩ := h
    rfl
  · obtain ⟨h, dx, x, L, rfl, ob, td, q⟩ := h
    have hr1 : Room 1 _ := hr.mono (by decide)
    refine ⟨_, pss_cons (ps_set (i := 2) scHInit.nd rfl (.inr rfl) (pe_call GD hr (by rfl) mD kD bD .nil pass0 (pa_cons (pv 1) pa_nil)))
      (pss_cons (ps_fld (pv 0) (pv 1) rfl)
      (pss_cons (ps_fld (pv 0) (pe_fld (pv 2) rfl) rfl)
      (pss_cons (ps_fld (pv 0) (pe_tupleOf (by rfl) nt (pe_fld (pv 2) rfl)) rfl)
      (pss_cons (ps_fld (pv 0) (pe_tupleOf (by rfl) nt (pe_op op_cat (pe_lst (pa_cons pe_str pa_nil)) (pe_lc (own := [("name", 3), ("room", 4), ("inner", 5)]) (g := gTup K 3 (gCons (gName 3) (gCons (gName 4) (gCons (gName 5) gNil)))) rfl scHInit.nd (pi_list (pe_fld (pv 2) rfl))
        (blkOk_by (N := ["self", "text", "draft", "name", "room", "inner", "person", "place", "first", "behind"]) (sc := defScope sHInit) (by decide +kernel))
        (fun _ _ _ _ _ => pg_tup rfl (pgs_cons (pg_name (i := 3) scHInit.nd rfl (.inl rfl)) (pgs_cons (pg_name (i := 4) scHInit.nd rfl (.inl rfl)) (pgs_cons (pg_name (i := 5) scHInit.nd rfl (.inl rfl)) pgs_nil)))) (fun _ _ _ _ _ => pts_one (pt_val (pv 5)))
        (fun _ _ _ _ _ => pv 3)))) rfl)
      (pss_cons (ps_fld (pv 0) (pe_call GA hr1 (by rfl) mA kA bA .nil pass0 (pa_cons (pe_op op_cat (pe_lst (pa_cons (pe_glob (v := .str "house") (by rfl) mN ⟨_, rfl⟩) pa_nil)) (pe_lc (own := [("person", 6), ("place", 7), ("first", 8), ("behind", 9)]) (g := gTup K 4 (gCons (gName 6) (gCons (gName 7) (gCons (gName 8) (gCons (gName 9) gNil))))) (tt := tYes) rfl scHInit.nd (pi_list (pe_fld (pv 2) rfl))
        (blkOk_by (N := ["self", "text", "draft", "name", "room", "inner", "person", "place", "first", "behind"]) (sc := defScope sHInit) (by decide +kernel))
        (fun _ _ _ _ _ => pg_tup rfl (pgs_cons (pg_name (i := 6) scHInit.nd rfl (.inl rfl)) (pgs_cons (pg_name (i := 7) scHInit.nd rfl (.inl rfl)) (pgs_cons (pg_name (i := 8) scHInit.nd rfl (.inl rfl)) (pgs_cons (pg_name (i := 9) scHInit.nd rfl (.inl rfl)) pgs_nil))))) (fun _ _ _ _ _ => pts_nil)
        (fun _ _ _ _ _ => pv 6))) pa_nil)) rfl)
      (pss_cons (ps_fld (pv 0) (pe_dc (own := [("name", 3), ("room", 4), ("inner", 5)]) (g := gTup K 3 (gCons (gName 3) (gCons (gName 4) (gCons (gName 5) gNil)))) (tt := tYes) rfl scHInit.nd (pi_list (pe_fld (pv 2) rfl))
        (blkOk_by (N := ["self", "text", "draft", "name", "room", "inner", "person", "place", "first", "behind"]) (sc := defScope sHInit) (by decide +kernel))
        (fun _ _ _ _ _ => pg_tup rfl (pgs_cons (pg_name (i := 3) scHInit.nd rfl (.inl rfl)) (pgs_cons (pg_name (i := 4) scHInit.nd rfl (.inl rfl)) (pgs_cons (pg_name (i := 5) scHInit.nd rfl (.inl rfl)) pgs_nil)))) (fun _ _ _ _ _ => pts_nil)
        (fun _ _ _ _ _ => pv 3) (fun _ _ _ _ _ => pv 4)) rfl)
      (pss_cons (ps_fld (pv 0) (pe_lock (pe_dc (own := [("name", 3)]) (g := gName 3) (tt := tYes) rfl scHInit.nd (pi_keys (pe_fld (pv 0) rfl))
        (blkOk_by (N := ["self", "text", "draft", "name", "room", "inner", "person", "place", "first", "behind"]) (sc := defScope sHInit) (by decide +kernel))
        (fun _ _ _ _ _ => pg_name (i := 3) scHInit.nd rfl (.inl rfl)) (fun _ _ _ _ _ => pts_nil)
        (fun _ _ _ _ _ => pv 3) (fun _ _ _ _ _ => pe_call GT hr1 (by rfl) mT kT bT .nil pass0 (pa_cons (pv 3) (pa_cons (pv 2) pa_nil))))) rfl)
      (pss_one (ps_fld (pv 0) (pe_call GP hr1 (by rfl) mP kP bP .nil pass0 (pa_cons (pv 2) pa_nil)) rfl))))))))), ?_⟩
    have hs := td.sound
    have sm := hs.s
    refine ⟨_, rfl, x, L, rfl, td, fun H1 d lp lt ls e1 hd nd n1 n2 n3 _ => ?_⟩
    have ndh : d ≠ h := fun z => by rw [z, ob] at nd; cases nd
    have fr1 : Fr [h] H H1 := Fr.same e1
    have ob1 := e1 _ _ ob
    refine ⟨_, rfl, _, rfl, h, C, dx, _, rfl, ob1, hc.cl, hc.n1, by decide, ?_⟩
    generalize hG : upd H1 h (.ins C dx (putF "_text" (.str x) [])) = H2
    have ob2 : H2 h = some (.ins C dx (putF "_text" (.str x) [])) := by rw [← hG]; exact upd_same
    have fr2 : Fr [h] H1 H2 := by rw [← hG]; exact Fr.upd (by simp)
    clear hG
    replace hd := past_draft ob1 fr2 ndh hd
    replace fr2 := fr1.trans fr2
    clear fr1 ob1 e1
    obtain ⟨dy, od⟩ := hd.ob
    refine ⟨_, rfl, d, CD, dy, _, _, rfl, od, dc.cl, dc.nD, dfs_days _ _ _ _, _, rfl, h, C, dx, _, rfl, ob2, hc.cl, hc.n2, Nat.lt_of_le_of_lt (putF_len _ _ _) (by decide), ?_⟩
    generalize hG : upd H2 h (.ins C dx (putF "days" (.int L.days) (putF "_text" (.str x) []))) = H3
    have ob3 : H3 h = some (.ins C dx (putF "days" (.int L.days) (putF "_text" (.str x) []))) := by rw [← hG]; exact upd_same
    have fr3 : Fr [h] H2 H3 := by rw [← hG]; exact Fr.upd (by simp)
    clear hG
    replace hd := past_draft ob2 fr3 ndh hd
    replace fr3 := fr2.trans fr3
    clear fr2 ob2 od
    obtain ⟨dy, od⟩ := hd.ob
    obtain ⟨rs, hlp, hrp⟩ := hd.pl
    refine ⟨_, rfl, d, CD, dy, _, _, rfl, od, dc.cl, dc.nP, dfs_pl _ _ _ _, .inl ⟨lp, _, rfl, SqL.of hlp, fun a na => ?_⟩⟩
    refine ⟨_, rfl, h, C, dx, _, rfl, same_upd na _ _ ob3, hc.cl, hc.n3, Nat.lt_of_le_of_lt (putF_len _ _ _) (Nat.lt_of_le_of_lt (Nat.succ_le_succ (putF_len _ _ _)) (by decide)), ?_⟩
    have eA := same_upd (o := .tup (rs.map V.ref)) na
    replace hd := hd.same eA
    have ra := hrp.same eA
    have fa : upd H3 a (.tup (rs.map V.ref)) a = _ := upd_same
    have obA := eA _ _ ob3
    replace fr3 := fr3.tr eA
    clear hlp hrp od ob3
    generalize upd H3 a (.tup (rs.map V.ref)) = HA at *
    clear eA na
    generalize hf3 : putF "flats" (V.ref a) (putF "days" (.int L.days) (putF "_text" (.str x) [])) = f3
    have lf3 : f3.length ≤ 3 := by
      rw [← hf3]
      exact Nat.le_trans (putF_len _ _ _) (Nat.succ_le_succ (Nat.le_trans (putF_len _ _ _) (Nat.succ_le_succ (putF_len _ _ _))))
    generalize hG : upd HA h (.ins C dx f3) = H4
    have ob4 : H4 h = some (.ins C dx f3) := by rw [← hG]; exact upd_same
    have fr4 : Fr [h] HA H4 := by rw [← hG]; exact Fr.upd (by simp)
    clear hG
    replace hd := past_draft obA fr4 ndh hd
    replace ra := past_refs obA fr4 ra (fun x _ _ _ z => by unfold plO at z; cases z)
    replace fa := past_ob obA fr4 fa (fun _ _ _ z => by cases z)
    replace fr4 := fr3.trans fr4
    clear fr3 obA dy
    obtain ⟨dy, od⟩ := hd.ob
    obtain ⟨rp, hlp, hrp⟩ := hd.pl
    refine ⟨by decide, fun l1 nl1 => ?_⟩
    have e5 := same_upd (o := .lst [V.str "main"]) nl1
    refine ⟨_, rfl, d, CD, dy, _, _, rfl, e5 _ _ od, dc.cl, dc.nP, dfs_pl _ _ _ _, lp, rfl, ⟨_, SqL.of (e5 _ _ hlp)⟩, fun D nD => ?_⟩
    refine lc_it (walk_list (xs := rp.map V.ref)) (Pv := fun i H' => Same (upd H4 l1 (.lst [V.str "main"])) H' ∧ H' D = some (.lst ((((L.places.take i).filter (·.inner)).map (·.name)).map V.str))) ⟨same_upd nD, by rw [upd_same]; rfl⟩ (fun i H' _ hh => SqL.of (hh.1 _ _ (e5 _ _ hlp))) ?_ ?_
    · rintro i v G1 G2 hi ⟨es, hD⟩ ⟨rfl, hv⟩
      obtain ⟨q1, pp, rfl, _, hp, ho⟩ := (hrp.same e5).at hv
      refine ⟨q1, _, rfl, SqT.of (es _ _ ho), rfl, _, _, rfl, _, _, rfl, _, _, rfl, rfl, rfl, ?_⟩
      refine ⟨_, rfl, _, rfl, ?_⟩
      have et : L.places.take (i + 1) = L.places.take i ++ [pp] := by rw [List.take_add_one, hp]; rfl
      cases ci : pp.inner with
      | false =>
        refine iteF ⟨es, ?_⟩
        rw [et, List.filter_append]
        simp only [List.filter_cons, ci, List.filter_nil]
        rw [if_neg (by decide), List.append_nil]
        exact hD
      | true =>
        refine iteT ⟨_, rfl, _, hD, ?_, fun b u e => ?_, ?_⟩
        · rw [List.length_map, List.length_map]
          exact Nat.lt_of_le_of_lt (Nat.le_trans (List.length_filter_le _ _) (Nat.le_trans (by rw [List.length_take]; exact Nat.min_le_right _ _) sm.1)) (show 4 < sizeLine by decide)
        · rw [upd_ne (ne_of_none e nD)]
          exact es _ _ e
        · rw [upd_same, et, List.filter_append]
          simp [ci]
    · rintro G1 ⟨es, hD⟩
      rw [show L.places.take (rp.map V.ref).length = L.places from by rw [List.length_map, hrp.1]; exact List.take_length] at hD
      have e6 := e5.trans es
      refine ⟨l1, D, _, _, rfl, rfl, es _ _ upd_same, hD, ?_, fun l2 nl2 => .inl ⟨l2, _, rfl, SqL.of upd_same, fun b nb => ?_⟩⟩
      · rw [List.length_map, List.length_map]
        exact Nat.le_trans (Nat.add_le_add_left (Nat.le_trans (List.length_filter_le _ _) sm.1) 1) (by decide)
      have e7 := (e6.trans (same_upd (o := .lst ([V.str "main"] ++ ((L.places.filter (·.inner)).map (·.name)).map V.str)) nl2)).trans (same_upd (o := .tup ([V.str "main"] ++ ((L.places.filter (·.inner)).map (·.name)).map V.str)) nb)
      refine ⟨_, rfl, h, C, dx, _, rfl, e7 _ _ ob4, hc.cl, hc.n4, by omega, ?_⟩
      replace hd := hd.same e7
      replace ra := ra.same e7
      replace fa := e7 _ _ fa
      have obB := e7 _ _ ob4
      have fb : upd (upd G1 l2 (.lst ([V.str "main"] ++ ((L.places.filter (·.inner)).map (·.name)).map V.str))) b (.tup ([V.str "main"] ++ ((L.places.filter (·.inner)).map (·.name)).map V.str)) b = some (.tup ((metersOf L).map V.str)) := upd_same
      have fr5 := fr4.tr e7
      generalize upd (upd G1 l2 (.lst ([V.str "main"] ++ ((L.places.filter (·.inner)).map (·.name)).map V.str))) b (.tup ([V.str "main"] ++ ((L.places.filter (·.inner)).map (·.name)).map V.str)) = HB at *
      clear e7 e6 nl2 nb hD es e5 hlp hrp od nl1 nD
      generalize hf4 : putF "meters" (V.ref b) f3 = f4
      have lf4 : f4.length ≤ 4 := by
        rw [← hf4]
        exact Nat.le_trans (putF_len _ _ _) (Nat.succ_le_succ lf3)
      generalize hG : upd HB h (.ins C dx f4) = H5
      have ob5 : H5 h = some (.ins C dx f4) := by rw [← hG]; exact upd_same
      have fr6 : Fr [h] HB H5 := by rw [← hG]; exact Fr.upd (by simp)
      clear hG
      replace hd := past_draft obB fr6 ndh hd
      replace ra := past_refs obB fr6 ra (fun x _ _ _ z => by unfold plO at z; cases z)
      replace fa := past_ob obB fr6 fa (fun _ _ _ z => by cases z)
      replace fb := past_ob obB fr6 fb (fun _ _ _ z => by cases z)
      replace fr6 := fr5.trans fr6
      clear fr5 fr4 obB ob4 dy
      obtain ⟨dy, od⟩ := hd.ob
      obtain ⟨rp, hls, hrs⟩ := hd.st
      refine ⟨by decide, fun l1 nl1 => ?_⟩
      have e5 := same_upd (o := .lst [V.str "house"]) nl1
      refine ⟨_, rfl, d, CD, dy, _, _, rfl, e5 _ _ od, dc.cl, dc.nS, dfs_st _ _ _ _, ls, rfl, ⟨_, SqL.of (e5 _ _ hls)⟩, fun D nD => ?_⟩
      refine lc_it (walk_list (xs := rp.map V.ref)) (Pv := Tk (upd H5 l1 (.lst [V.str "house"])) D (L.stays.map fun s => V.str s.who)) (Tk.start nD) (fun i H' _ hh => SqL.of (hh.1 _ _ (e5 _ _ hls))) ?_ ?_
      · rintro i v G1 G2 hi hk ⟨rfl, hv⟩
        obtain ⟨q1, pp, rfl, _, hp, ho⟩ := (hrs.same e5).at hv
        refine ⟨q1, _, rfl, SqT.of (hk.1 _ _ ho), rfl, _, _, rfl, _, _, rfl, _, _, rfl, _, _, rfl, rfl, rfl, ?_⟩
        unfold tYes
        refine iteT ⟨_, rfl, ?_⟩
        exact hk.step nD (Same.refl _) (by rw [List.getElem?_map, hp]; rfl) (by rw [List.length_map]; have := sm.2.2; omega)
      · rintro G1 hk
        have hD := hk.done (by simp [hrs.1])
        have e6 := e5.trans hk.1
        refine ⟨l1, D, _, _, rfl, rfl, hk.1 _ _ upd_same, hD, ?_, fun l2 nl2 => ?_⟩
        · rw [List.length_map]
          exact Nat.le_trans (Nat.add_le_add_left sm.2.2 1) (by decide)
        have e7 := e6.trans (same_upd (o := .lst ([V.str "house"] ++ (L.stays.map fun s => V.str s.who))) nl2)
        refine ⟨l2, "house" :: L.stays.map (·.who), rfl, ?_, ?_, fun HC c ys ec nc fc asc => ?_⟩
        · rw [upd_same]
          simp
        · have := sm.2.2
          simp
          omega
        replace e7 := e7.trans ec
        refine ⟨_, rfl, h, C, dx, _, rfl, e7 _ _ ob5, hc.cl, hc.n5, by omega, ?_⟩
        replace hd := hd.same e7
        replace ra := ra.same e7
        replace fa := e7 _ _ fa
        replace fb := e7 _ _ fb
        have obC := e7 _ _ ob5
        have fr7 := fr6.tr e7
        clear e7 e6 nl2 hD hk e5 hls hrs od nl1 nD ec nc fr6 ob5 dy
        generalize hf5 : putF "people" (V.ref c) f4 = f5
        have lf5 : f5.length ≤ 5 := by
          rw [← hf5]
          exact Nat.le_trans (putF_len _ _ _) (Nat.succ_le_succ lf4)
        generalize hG : upd HC h (.ins C dx f5) = H6
        have ob6 : H6 h = some (.ins C dx f5) := by rw [← hG]; exact upd_same
        have fr8 : Fr [h] HC H6 := by rw [← hG]; exact Fr.upd (by simp)
        clear hG
        replace hd := past_draft obC fr8 ndh hd
        replace ra := past_refs obC fr8 ra (fun x _ _ _ z => by unfold plO at z; cases z)
        replace fa := past_ob obC fr8 fa (fun _ _ _ z => by cases z)
        replace fb := past_ob obC fr8 fb (fun _ _ _ z => by cases z)
        replace fc := past_ob obC fr8 fc (fun _ _ _ z => by cases z)
        replace fr8 := fr7.trans fr8
        clear fr7 obC
        obtain ⟨dy, od⟩ := hd.ob
        obtain ⟨rp, hlp, hrp⟩ := hd.pl
        refine ⟨_, rfl, d, CD, dy, _, _, rfl, od, dc.cl, dc.nP, dfs_pl _ _ _ _, lp, rfl, ⟨_, SqL.of hlp⟩, fun r nr => ?_⟩
        refine DCi.dc_it (walk_list (xs := rp.map V.ref)) (fun i H' => Same H6 H' ∧ H' r = some (.dK ((L.places.take i).map fun q => (.inr q.name, .int q.room)))) ⟨same_upd nr, by rw [upd_same]; rfl⟩ (fun i H' _ hh => SqL.of (hh.1 _ _ hlp)) ?_ ?_
        · rintro i v G3 G2 hi ⟨es, hD⟩ ⟨rfl, hv⟩
          obtain ⟨q1, pp, rfl, _, hp, ho⟩ := hrp.at hv
          refine ⟨q1, _, rfl, SqT.of (es _ _ ho), rfl, _, _, rfl, _, _, rfl, _, _, rfl, rfl, rfl, ?_⟩
          unfold tYes
          refine iteT ⟨_, rfl, _, rfl, _, .inr pp.name, rfl, hD, ?_, fun b u e => ?_, ?_⟩
          · rw [List.length_map]
            exact Nat.lt_of_le_of_lt (Nat.le_trans (by rw [List.length_take]; exact Nat.min_le_right _ _) sm.1) (show 4 < sizeLine by decide)
          · rw [upd_ne (ne_of_none e nr)]
            exact es _ _ e
          · have et : L.places.take (i + 1) = L.places.take i ++ [pp] := by rw [List.take_add_one, hp]; rfl
            rw [upd_same, et, List.map_append, putK_new]
            · rfl
            · intro kv hkv ek
              obtain ⟨q', hq', rfl⟩ := List.mem_map.mp hkv
              have nn := hs.n
              have e0 := List.take_append_drop (i + 1) L.places
              rw [et] at e0
              rw [← e0, List.map_append, List.map_append, List.nodup_append] at nn
              have nn1 := nn.1
              rw [List.nodup_append] at nn1
              exact nn1.2.2 q'.name (List.mem_map_of_mem hq') pp.name (by simp) (Sum.inr.inj ek)
        · rintro G3 ⟨es, hD⟩
          rw [show L.places.take (rp.map V.ref).length = L.places from by rw [List.length_map, hrp.1]; exact List.take_length] at hD
          refine ⟨_, rfl, h, C, dx, _, rfl, es _ _ ob6, hc.cl, hc.n6, by omega, ?_⟩
          replace hd := hd.same es
          replace ra := ra.same es
          replace fa := es _ _ fa
          replace fb := es _ _ fb
          replace fc := es _ _ fc
          have obD := es _ _ ob6
          have fr9 := fr8.tr es
          clear es hlp hrp od fr8 ob6 dy
          generalize hf6 : putF "_rooms" (V.ref r) f5 = f6
          have lf6 : f6.length ≤ 6 := by
            rw [← hf6]
            exact Nat.le_trans (putF_len _ _ _) (Nat.succ_le_succ lf5)
          have lk6 : f6.lookup ("_rooms" : Str) = some (.ref r) := by rw [← hf6, lookup_putF, if_pos rfl]
          generalize hG : upd G3 h (.ins C dx f6) = H7
          have ob7 : H7 h = some (.ins C dx f6) := by rw [← hG]; exact upd_same
          have fr10 : Fr [h] G3 H7 := by rw [← hG]; exact Fr.upd (by simp)
          clear hG
          replace hd := past_draft obD fr10 ndh hd
          replace ra := past_refs obD fr10 ra (fun x _ _ _ z => by unfold plO at z; cases z)
          replace fa := past_ob obD fr10 fa (fun _ _ _ z => by cases z)
          replace fb := past_ob obD fr10 fb (fun _ _ _ z => by cases z)
          replace fc := past_ob obD fr10 fc (fun _ _ _ z => by cases z)
          have fd' := past_ob obD fr10 hD (fun _ _ _ z => by cases z)
          replace fr10 := fr9.trans fr10
          clear fr9 obD hD
          refine ⟨r, _, fd', trivial, fun ol => ?_⟩
          generalize hrooms : (L.places.map fun q : Pl => ((.inr q.name : Key), V.int q.room)) = rooms at *
          have rlen : rooms.length = L.places.length := by rw [← hrooms, List.length_map]
          have rat : ∀ (i : Nat) (k : Key) (v : V), rooms[i]? = some (k, v) → ∃ q : Pl, L.places[i]? = some q ∧ k = Sum.inr q.name := by
            intro i k v e
            rw [← hrooms, List.getElem?_map] at e
            cases hq : L.places[i]? with
            | none => rw [hq] at e; cases e
            | some q => rw [hq] at e; cases e; exact ⟨q, rfl, rfl⟩
          have frL : Fr [r] H7 (upd H7 r (.frz ol (.dK rooms))) := Fr.upd (by simp)
          have hdL := lock_draft fd' frL hd
          have hL : upd H7 r (.frz ol (.dK rooms)) r = some (.frz ol (.dK rooms)) := upd_same
          have nhr : h ≠ r := ne_of ob7 fd' (by intro z; cases z)
          have obL := frL _ _ ob7 (by simpa using nhr)
          generalize upd H7 r (.frz ol (.dK rooms)) = HL at *
          refine ⟨_, rfl, h, C, dx, _, _, rfl, obL, hc.cl, hc.n6, lk6, r, ol, rfl, .inl ⟨_, hL, fun t nt => ?_⟩⟩
          refine DCi.dc_it walk_keys (fun i H' => Same HL H' ∧ ∃ ts, H' t = some (.dK (((L.places.take i).zip ts).map fun q => ((.inr q.1.name : Key), V.ref q.2))) ∧ Refs (fun q : Pl => .tup (row L.days V.str (tenD L.stays q.name))) H' ts (L.places.take i)) ⟨same_upd nt, [], by rw [upd_same]; rfl, Refs.nil⟩ (fun i H' _ hh => hh.1 _ _ hL) ?_ ?_
          · rintro i v G4 G5 hi ⟨es, ts, hT, hts⟩ ⟨rfl, k, vv, hkv, rfl⟩
            obtain ⟨pp, hp, rfl⟩ := rat i k vv hkv
            refine ⟨rfl, ?_⟩
            unfold tYes
            refine iteT ⟨_, rfl, _, rfl, _, rfl, d, lp, lt, ls, L, pp.name, rfl, hdL.same es, sm, hs.g, fun G6 t1 e6 nt1 ht1 => ?_⟩
            have et : L.places.take (i + 1) = L.places.take i ++ [pp] := by rw [List.take_add_one, hp]; rfl
            have tsl : ts.length = (L.places.take i).length := hts.1
            refine ⟨_, .inr pp.name, rfl, e6 _ _ hT, ?_, fun b u e => ?_, ts ++ [t1], ?_, ?_⟩
            · rw [List.length_map, List.length_zip, tsl, Nat.min_self, List.length_take]
              exact Nat.lt_of_le_of_lt (Nat.le_trans (Nat.min_le_right _ _) sm.1) (show 4 < sizeLine by decide)
            · rw [upd_ne (ne_of_none e nt)]
              exact e6 _ _ (es _ _ e)
            · rw [upd_same, et, putK_new]
              · rw [List.zip_append (by rw [tsl]), List.map_append]
                rfl
              · intro kv hkv ek
                obtain ⟨q', hq', rfl⟩ := List.mem_map.mp hkv
                have nn := hs.n
                have e0 := List.take_append_drop (i + 1) L.places
                rw [et] at e0
                rw [← e0, List.map_append, List.map_append, List.nodup_append] at nn
                have nn1 := nn.1
                rw [List.nodup_append] at nn1
                exact nn1.2.2 q'.1.name (List.mem_map_of_mem (List.of_mem_zip hq').1) pp.name (by simp) (Sum.inr.inj ek)
            · rw [et]
              have nt1t : t1 ≠ t := (ne_of_none hT nt1).symm
              have kp : Refs (fun q : Pl => .tup (row L.days V.str (tenD L.stays q.name))) G6 ts (L.places.take i) := hts.same e6
              refine Refs.snoc ⟨kp.1, fun j r' y u' w' => ?_⟩ ?_
              · have e8 := kp.2 j r' y u' w'
                have e9 := e6 _ _ hT
                rw [upd_ne (ne_of e8 e9 (by intro z; cases z))]
                exact e8
              · rw [upd_ne nt1t]
                exact ht1
          · rintro G4 ⟨es, ts, hT, hts⟩
            rw [rlen, List.take_length] at hT hts
            refine ⟨es _ _ hL, ?_⟩
            have hr4 := es _ _ hL
            have e10 : Same H7 (upd G4 r (.dK rooms)) := fun b u e => by
              by_cases z : b = r
              · rw [z] at e ⊢
                rw [upd_same]
                exact fd'.symm.trans e
              · rw [upd_ne z]
                exact es _ _ (frL _ _ e (by simpa using z))
            have ft : upd G4 r (.dK rooms) t = some (.dK ((L.places.zip ts).map fun q => ((.inr q.1.name : Key), V.ref q.2))) := by
              rw [upd_ne (ne_of_none hL nt).symm]
              exact hT
            have fts : Refs (fun q : Pl => .tup (row L.days V.str (tenD L.stays q.name))) (upd G4 r (.dK rooms)) ts L.places := ⟨hts.1, fun j r' y u' w' => by
              have e8 := hts.2 j r' y u' w'
              rw [upd_ne (ne_of e8 hr4 (by intro z; cases z))]
              exact e8⟩
            replace hd := hd.same e10
            replace ra := ra.same e10
            replace fa := e10 _ _ fa
            replace fb := e10 _ _ fb
            replace fc := e10 _ _ fc
            replace fd' := e10 _ _ fd'
            replace ob7 := e10 _ _ ob7
            replace fr10 := fr10.tr e10
            clear e10 es hT hts hr4 frL hdL hL obL nt
            generalize upd G4 r (.dK rooms) = G7 at *
            refine ⟨_, rfl, h, C, dx, _, rfl, ob7, hc.cl, hc.n7, by omega, ?_⟩
            generalize hf7 : putF "_tenants" (V.ref t) f6 = f7
            have lf7 : f7.length ≤ 7 := by
              rw [← hf7]
              exact Nat.le_trans (putF_len _ _ _) (Nat.succ_le_succ lf6)
            generalize hG : upd G7 h (.ins C dx f7) = H8
            have ob8 : H8 h = some (.ins C dx f7) := by rw [← hG]; exact upd_same
            have fr11 : Fr [h] G7 H8 := by rw [← hG]; exact Fr.upd (by simp)
            clear hG
            replace hd := past_draft ob7 fr11 ndh hd
            replace ra := past_refs ob7 fr11 ra (fun x _ _ _ z => by unfold plO at z; cases z)
            replace fa := past_ob ob7 fr11 fa (fun _ _ _ z => by cases z)
            replace fb := past_ob ob7 fr11 fb (fun _ _ _ z => by cases z)
            replace fc := past_ob ob7 fr11 fc (fun _ _ _ z => by cases z)
            replace fd' := past_ob ob7 fr11 fd' (fun _ _ _ z => by cases z)
            replace ft := past_ob ob7 fr11 ft (fun _ _ _ z => by cases z)
            replace fts := past_refs ob7 fr11 fts (fun x _ _ _ z => by cases z)
            replace fr11 := fr10.trans fr11
            clear fr10 ob7
            refine ⟨_, rfl, d, lp, lt, ls, L, rfl, hd, sm, hs.g, fun H9 p e9 np fp => ?_⟩
            replace ra := ra.same e9
            replace fa := e9 _ _ fa
            replace fb := e9 _ _ fb
            replace fc := e9 _ _ fc
            replace fd' := e9 _ _ fd'
            replace ft := e9 _ _ ft
            replace fts := fts.same e9
            replace fr11 := fr11.tr e9
            have ob9 := e9 _ _ ob8
            refine ⟨_, rfl, h, C, dx, _, rfl, ob9, hc.cl, hc.n8, by omega, ?_⟩
            have fr12 : Fr [h] H9 (upd H9 h (.ins C dx (putF "_prices" (V.ref p) f7))) := Fr.upd (by simp)
            refine q _ (fr11.trans fr12) ⟨dx, a, b, c, r, t, p, rs, ts, ys, ?_, past_ob ob9 fr12 fa (fun _ _ _ z => by cases z), past_refs ob9 fr12 ra (fun x _ _ _ z => by unfold plO at z; cases z), past_ob ob9 fr12 fb (fun _ _ _ z => by cases z), past_ob ob9 fr12 fc (fun _ _ _ z => by cases z), asc, ?_, past_ob ob9 fr12 ft (fun _ _ _ z => by cases z), past_refs ob9 fr12 fts (fun x _ _ _ z => by cases z), past_ob ob9 fr12 fp (fun _ _ _ z => by cases z)⟩
            · rw [upd_same, ← hf7, ← hf6, ← hf5, ← hf4, ← hf3]
              rfl
            · rw [hrooms]
              exact past_ob ob9 fr12 fd' (fun _ _ _ z => by cases z)
end
end Hs
/-! int op x, x an instance with the turned operator -/
namespace AmL
open PySem PySem.SeqAt PySem.Calls PyProof.Rows
open AutoSeq1 (wpAny_loadPart')
open MeetsSeq
section
variable {prog : Program} {w : World} {A : Around} {E : Value → Shared → Prop} {s : Shared} {K : PySem.W.Frag} {C : Addr}
theorem dec_int_add {a : Addr} (b : Int) (u : Tok) (C : Addr) : Meets (Builtin.«int.__add__» ⟨[.int b u, .ref a], []⟩) (fun _ R s => PlainAt s a C ∧ R (.ok (.ret .notImplemented)) s) :=
  .of_wp fun prog w A R s h => by obtain ⟨hp, g, d, tk, os⟩ := s; obtain ⟨⟨dd, sl, hl⟩, h⟩ := h; wp_walk using wpAny_loadPart' hl, wpAny_load hl; exact ⟨_, rfl, h⟩
theorem dec_int_sub {a : Addr} (b : Int) (u : Tok) (C : Addr) : Meets (Builtin.«int.__sub__» ⟨[.int b u, .ref a], []⟩) (fun _ R s => PlainAt s a C ∧ R (.ok (.ret .notImplemented)) s) :=
  .of_wp fun prog w A R s h => by obtain ⟨hp, g, d, tk, os⟩ := s; obtain ⟨⟨dd, sl, hl⟩, h⟩ := h; wp_walk using wpAny_loadPart' hl, wpAny_load hl; exact ⟨_, rfl, h⟩
theorem dec_int_mul {a : Addr} (b : Int) (u : Tok) (C : Addr) : Meets (Builtin.«int.__mul__» ⟨[.int b u, .ref a], []⟩) (fun _ R s => PlainAt s a C ∧ R (.ok (.ret .notImplemented)) s) :=
  .of_wp fun prog w A R s h => by obtain ⟨hp, g, d, tk, os⟩ := s; obtain ⟨⟨dd, sl, hl⟩, h⟩ := h; wp_walk using wpAny_loadPart' hl, wpAny_load hl; exact ⟨_, rfl, h⟩
theorem dec_int_fdiv {a : Addr} (b : Int) (u : Tok) (C : Addr) : Meets (Builtin.«int.__floordiv__» ⟨[.int b u, .ref a], []⟩) (fun _ R s => PlainAt s a C ∧ R (.ok (.ret .notImplemented)) s) :=
  .of_wp fun prog w A R s h => by obtain ⟨hp, g, d, tk, os⟩ := s; obtain ⟨⟨dd, sl, hl⟩, h⟩ := h; wp_walk using wpAny_loadPart' hl, wpAny_load hl; exact ⟨_, rfl, h⟩

/-- a method of a built-in type that declines -/
theorem tryM_declines {v o : Value} {T : String} {name : Str} {id : String} {Q : Option Value → Shared → Prop} (hT : s.TypeIs v T)
    (slot : Slot T name id) (told : wpAny (model prog w) A (call (.builtin id) [v, o]) (fun r z => r = .notImplemented ∧ Q none z) E s) : wpAny (model prog w) A (tryMethod v name o) Q E s := by
  have asked : wpAny (model prog w) A (callSpecial? v name [o]) (fun r z => r = some .notImplemented ∧ Q none z) E s :=
    wpAny_callSpecial?_slot hT slot (wpAny_mono told (fun _ _ y => ⟨congrArg some y.1, y.2⟩) fun _ _ y => y)
  unfold tryMethod
  refine wpAny_bind (wpAny_mono asked (fun r z y => ?_) fun _ _ y => y)
  obtain ⟨rfl, q⟩ := y
  exact wpAny_pure q
open PySem.W in
/-- v op x: v of a built-in type that declines, x an instance with an own turned operator -/
theorem refl_bin {x f g : Addr} {v : Value} {T id : String} {op : Operator} {ox : Obj} {od : Option Obj} {fo ro : Option Value} {Q : Value → Shared → Prop}
    (X : K.In s.heap) (I : InstAt s.heap x ox C od) (hb : typeOf v = pure (.type T)) (hT : s.TypeIs v T) (hc : selfFirst K C = true)
    (hs : findIn K (.ref C) (PySem.dunder op.info.2) = some (some (.ref f))) (hr : findIn K (.ref C) (dunderR op.info.2) = some (some (.ref g))) (hg : isFn K (.ref g) = true)
    (h1 : findIn K (.type T) (PySem.dunder op.info.2) = some fo) (h2 : findIn K (.type T) (dunderR op.info.2) = some ro) (hsub : subIn K (.ref C) (.type T) = some false)
    (slot : Slot T (PySem.dunder op.info.2) id) (dec : ∀ Q' : Value → Shared → Prop, Q' .notImplemented s → wpAny (model prog w) A (call (.builtin id) [v, .ref x]) Q' E s)
    (h : wpAny (model prog w) A (call (.ref g) [.ref x, v]) (PySem.W.CmpBack Q) E s) : wpAny (model prog w) A (binaryOp op v (.ref x)) Q E s := by
  rcases ksp_first hc with ⟨cd, more, isC, first⟩
  rcases sg : op.info with ⟨sign, word⟩
  simp only [sg] at hs hr h1 h2 slot
  have turned := ksp_try X I hr hg h
  have declined : ∀ {R : Option Value → Shared → Prop}, R none s → wpAny (model prog w) A (tryMethod v (PySem.dunder word) (.ref x)) R E s := fun q => tryM_declines hT slot (dec _ ⟨rfl, q⟩)
  rcases s with ⟨hh, gg, dr, tk, oo⟩
  have typeX := I.type (M := model prog w)
  have typeV : Looks (model prog w) hh (typeOf v) (.type T) := .of_pure hb
  have fillsX := fills_K (M := model prog w) X isC first hs
  have fillsV := ksp_fillsT (M := model prog w) X h1 h2
  have apart := looks_subIn (M := model prog w) X hsub
  have notPy : Looks (model prog w) hh (numberSlotInPython (.type T) word) false := .of_pure rfl
  have differ : (Value.type T == Value.ref C) = false := beq_eq_false_iff_ne.mpr fun q => by cases q
  generalize (fo.isSome && !isSeqSlot fo || ro.isSome && !isSeqSlot ro) = some? at fillsV
  unfold binaryOp binaryOp1
  simp only [sg]
  refine wpAny_holding (wpAny_bind (wpAny_bind (typeV.at (wpAny_bind (typeX.at (wpAny_bind (fillsV.at ?_)))))))
  simp only [differ, Bool.false_eq_true, if_false]
  have fin : ∀ {R : Option Value → Shared → Prop}, (∀ u z, Q u z → R (some u) z) → wpAny (model prog w) A (tryMethod (.ref x) (dunderR word) v) R E ⟨hh, gg, dr, tk, oo⟩ := fun k => wpAny_mono turned (fun r z y => by
    obtain ⟨u, rfl, q⟩ := y
    exact k u z q) fun _ _ y => y
  cases some? with
  | false =>
    ksp_lk
    refine fin fun u z q => ?_
    ksp_lk
    exact q
  | true =>
    ksp_lk
    refine declined ?_
    ksp_lk
    refine fin fun u z q => ?_
    ksp_lk
    exact q
end
end AmL
/-! operators of an own class, turned ones too, that may raise -/
namespace Am
open PySem PySem.Spec PyProof.Rows L2
/-- a two-place operation whose wish may speak of the slots -/
def OpS (X : Cx) (f : Value → Value → Sem Value) (r : L2.St → R2) : Prop :=
  ∀ (pins : List (Addr × Obj)) (s : Shared) (σ : L2.St) (H : Hp) (x y : V) (v u : Value) (Q : VK), Inv X pins σ H s → RelV x v → RelV y u → r σ x y H Q →
    wpAny (model X.prog X.w) X.A (f v u) (EP X pins σ Q) X.xe s
def tOpS (r : L2.St → R2) (ta tb : TE) : TE := fun σ H Q => ta σ H fun x H1 => tb σ H1 fun y H2 => r σ x y H2 Q
section
variable {X : Cx} {a b : Expr} {ta tb : TE} {pos : Pos}
theorem pe_opS {op : Operator} {r : L2.St → R2} (ho : OpS X (binaryOp op) r) (ha : PE X a ta) (hb : PE X b tb) : PE X (.BinOp a op b pos) (tOpS r ta tb) := by
  refine ⟨fun pins s σ H Q I h => ?_⟩
  exact wpAny_BinOp (binT ha hb I h fun v u z x y G J rx ry q => ho pins z σ G x y v u Q J rx ry q)
end
structure DecB (X : Cx) (op : Operator) : Prop where
  run : ∀ (pins : List (Addr × Obj)) (σ : L2.St) (H : Hp) (s : Shared) (C a dx : Addr) (fs : List (Str × V)) (i : Int) (t : Tok), Inv X pins σ H s → H a = some (.ins C dx fs) →
    ∃ id, Slot "int" (PySem.dunder op.info.2) id ∧ ∀ (E : Value → Shared → Prop) (Q' : Value → Shared → Prop), Q' .notImplemented s → wpAny (model X.prog X.w) X.A (call (.builtin id) [.int i t, .ref a]) Q' E s
theorem decB_add {X : Cx} : DecB X .Add := ⟨fun pins σ H s C a dx fs i t I ha => ⟨_, PySem.F.slot_int_add, fun E Q' q => meets_call PySem.F.slot_int_add (typeIs_int s i t) PySem.F.entry_int_add (PySem.F.args_int_add_2 _ _) (AmL.dec_int_add i t C) (plain_of I ha) Q' q⟩⟩
theorem decB_sub {X : Cx} : DecB X .Sub := ⟨fun pins σ H s C a dx fs i t I ha => ⟨_, PySem.F.slot_int_sub, fun E Q' q => meets_call PySem.F.slot_int_sub (typeIs_int s i t) PySem.F.entry_int_sub (PySem.F.args_int_sub_2 _ _) (AmL.dec_int_sub i t C) (plain_of I ha) Q' q⟩⟩
theorem decB_mul {X : Cx} : DecB X .Mult := ⟨fun pins σ H s C a dx fs i t I ha => ⟨_, PySem.F.slot_int_mul, fun E Q' q => meets_call PySem.F.slot_int_mul (typeIs_int s i t) PySem.F.entry_int_mul (PySem.F.args_int_mul_2 _ _) (AmL.dec_int_mul i t C) (plain_of I ha) Q' q⟩⟩
theorem decB_fdiv {X : Cx} : DecB X .FloorDiv := ⟨fun pins σ H s C a dx fs i t I ha => ⟨_, PySem.F.slot_int_floordiv, fun E Q' q => meets_call PySem.F.slot_int_floordiv (typeIs_int s i t) PySem.F.entry_int_floordiv (PySem.F.args_int_floordiv_2 _ _) (AmL.dec_int_fdiv i t C) (plain_of I ha) Q' q⟩⟩
/-- what x op y asks: x an instance (sp), or a whole number and y an instance (spr) -/
def rBinS (C : Addr) (sp spr : Sp) (E : L2.St → XK) : L2.St → R2 := fun σ x y H Q =>
  ((∃ a dx fs, x = .ref a ∧ H a = some (.ins C dx fs)) ∧ OrI C H y ∧ sp [x, y] H Q (E σ)) ∨ ((∃ i, x = .int i) ∧ (∃ a dx fs, y = .ref a ∧ H a = some (.ins C dx fs)) ∧ spr [y, x] H Q (E σ))
/-- the methods behind an operator -/
structure BinM (X : Cx) (C : Addr) (nm : String) (CX : CXT) (k : Nat) (sp spr : Sp) : Prop where
  fo : ∃ (f : Addr) (fd : FuncData) (ps : List Str), Om X C (PySem.dunder nm) f ∧ FnOk X.prog X.w X.K X.mg X.base CX k f fd ps sp ∧ Binds X.K fd ps []
  ba : ∃ (f : Addr) (fd : FuncData) (ps : List Str), Om X C (PySem.dunderR nm) f ∧ FnOk X.prog X.w X.K X.mg X.base CX k f fd ps spr ∧ Binds X.K fd ps []
  h1 : ∃ fo, PySem.W.findIn X.K (.type "int") (PySem.dunder nm) = some fo
  h2 : ∃ ro, PySem.W.findIn X.K (.type "int") (PySem.dunderR nm) = some ro
section
variable {X : Cx} {C : Addr} {k : Nat} {sp spr : Sp} {CX : CXT} {E : L2.St → XK}
theorem opS_bin {op : Operator} (c : OpC X.K C) (d : DecB X op) (m : BinM X C op.info.2 CX k sp spr) (hr : Room k X.A) (hx : ∀ σ, PassesAt CX X σ (E σ)) : OpS X (binaryOp op) (rBinS C sp spr E) := by
  intro pins s σ H x y v u Q I rx ry h
  obtain ⟨f, fd, ps, mf, F, hb⟩ := m.fo
  obtain ⟨g, gd, qs, mg, G, hg⟩ := m.ba
  obtain ⟨fo, h1⟩ := m.h1
  obtain ⟨ro, h2⟩ := m.h2
  obtain ⟨mm, hF⟩ := I.fr
  rcases h with ⟨⟨a, dx, fs, rfl, ha⟩, hy, q⟩ | ⟨⟨i, rfl⟩, ⟨a, dx, fs, rfl, ha⟩, q⟩
  · cases (show v = Value.ref a from rx)
    obtain ⟨od, J⟩ := inst_of I ha
    have fin : wpAny (model X.prog X.w) X.A (call (.ref f) [.ref a, u]) (PySem.W.CmpBack (EP X pins σ Q)) X.xe s := by
      refine wpAny_mono (run_fnS (us := [.ref a, u]) (vs := [.ref a, y]) F hr hb (hx σ) I (.cons rfl (.cons ry .nil)) q) (fun w s' z => ?_) fun _ _ x => x
      obtain ⟨z', H', I', rz, qz⟩ := z
      exact SlX.cmpback rz ⟨z', H', I', rz, qz⟩
    rcases hy with ⟨b, dy, gs, rfl, hb'⟩ | ⟨i, rfl⟩
    · cases (show u = Value.ref b from ry)
      obtain ⟨od', J'⟩ := inst_of I hb'
      exact PySem.W.binop_K hF I.ok.mod.kin J J'.type c.sf mf.hs mf.hf fin
    · obtain ⟨t, rfl⟩ := (show ∃ t, u = Value.int i t from ry)
      exact PySem.W.ksp_binT hF I.ok.mod.kin J rfl c.sf mf.hs mf.hf mg.hs (.inr ⟨g, rfl⟩) h1 h2 c.r1 fin
  · cases (show u = Value.ref a from ry)
    obtain ⟨t, rfl⟩ := (show ∃ t, v = Value.int i t from rx)
    obtain ⟨od, J⟩ := inst_of I ha
    obtain ⟨id, slot, dec⟩ := d.run pins σ H s C a dx fs i t I ha
    refine AmL.refl_bin (op := op) I.kIn J rfl (typeIs_int s i t) c.sf mf.hs mg.hs mg.hf h1 h2 c.s1 slot (fun Q' q' => dec _ Q' q') ?_
    refine wpAny_mono (run_fnS (us := [.ref a, .int i t]) (vs := [.ref a, .int i]) G hr hg (hx σ) I (.cons rfl (.cons rx .nil)) q) (fun w s' z => ?_) fun _ _ x => x
    obtain ⟨z', H', I', rz, qz⟩ := z
    exact SlX.cmpback rz ⟨z', H', I', rz, qz⟩
theorem passS0 : ∀ σ, PassesAt CX0 X σ (E σ) := fun _ _ _ _ _ _ _ h => h.elim
end
end Am
namespace Am
open PySem PySem.Spec PyProof.Rows L2
section
variable {X : Cx} {C g : Addr} {k : Nat} {fd : FuncData} {ps : List Str} {sp : Sp}
/-- abs(x), x an instance with an own __abs__ -/
theorem call_absC (m : Om X C "__abs__" g) (F : FnOk X.prog X.w X.K X.mg X.base CX0 k g fd ps sp) (hr : Room (k + 1) X.A) (hb : Binds X.K fd ps []) :
    CallR X (.builtin "abs") (fun xs H Q => ∃ x, xs = [x] ∧ (∃ a dx fs, x = .ref a ∧ H a = some (.ins C dx fs)) ∧ sp [x] H Q E0) := by
  intro pins s σ H xs us Q I r h
  obtain ⟨x, rfl, ⟨a, dx, fs, rfl, ha⟩, q⟩ := h
  obtain ⟨u, rfl, ru⟩ := vals1 r
  cases (show u = Value.ref a from ru)
  obtain ⟨od, J⟩ := inst_of I ha
  refine Calls.call_function_entry kind_abs plain_abs entry_abs (args_abs _) ?_
  unfold Builtin.«abs»
  refine wpAny_bind (m := oneArg "abs" _) (wpAny_pure ?_)
  refine wpAny_bind (m := callSpecial? (.ref a) (Str.ofString "__abs__")) (PySem.W.special_fn I.kIn J m.hs (beq_iff_eq.mp m.hf) (wpAny_mono (run_in1 (us := [.ref a]) (vs := [.ref a]) F hr hb pass0 I (.cons rfl .nil) q) (fun v s' z => ?_) fun _ _ y => y))
  exact wpAny_pure ⟨_, rfl, z⟩
theorem CallR.either {f : Value} {r r' : List V → Hp → VK → Prop} (h : CallR X f r) (h' : CallR X f r') : CallR X f (fun xs H Q => r xs H Q ∨ r' xs H Q) := by
  intro pins s σ H xs us Q I rr q
  rcases q with q | q
  · exact h pins s σ H xs us Q I rr q
  · exact h' pins s σ H xs us Q I rr q
end
end Am
/-! try .. except X as n: .. kept = n: the caught object stands on behind the suite -/
namespace Kt
open PySem PySem.Spec PyProof.Rows L2
/-- an exception object that was raised and caught: its class, its dict -/
def EO (a : Addr) (cls : Value) (d : Option Addr) : HO := .ext fun h => ∃ (oe : Obj) (vs : Array Value), h.get? a = some oe ∧ Zc cls d oe ∧ oe.data = .fields vs
theorem eo_ok {P : Program} {w : World} {H : Hp} {h : Heap} {a : Addr} {cls : Value} {d : Option Addr} {oe : Obj} {vs : Array Value} (e : h.get? a = some oe) (z : Zc cls d oe) (f : oe.data = .fields vs) : ObjOk P w H h a (EO a cls d) :=
  ⟨⟨oe, vs, e, z, f⟩, ⟨oe, e⟩, fun _ _ ⟨o, v, q, r⟩ k => ⟨o, v, k o q, r⟩⟩
theorem eo_at {P : Program} {w : World} {H : Hp} {h : Heap} {a : Addr} {cls : Value} {d : Option Addr} (ok : HOk P w H h) (e : H a = some (EO a cls d)) : ∃ oe vs, h.get? a = some oe ∧ Zc cls d oe ∧ oe.data = .fields vs := by
  obtain ⟨p, _, _⟩ := ok a _ e
  exact p
section
variable {X : Cx} {pins : List (Addr × Obj)} {τ : L2.St} {G : Hp} {z : Shared} {a : Addr} {o : HO}
/-- an object that is new since the entry becomes known -/
theorem track (I : Inv X pins τ G z) (na : G a = none) (n0 : X.s_0.heap.get? a = none) (nL : a ≠ X.env.locals) (np : ∀ p ∈ X.pn ++ pins, p.1 ≠ a) (nc : ∀ v, ¬ z.heap.IsCell a v)
    (new : ObjOk X.prog X.w (upd G a o) z.heap a o) : Inv X pins τ (upd G a o) z := by
  have elder : ∀ {b u}, X.s_0.heap.get? b = some u → b ≠ a := fun e y => by subst y; rw [n0] at e; cases e
  have same : ∀ {b u}, G b = some u → upd G a o b = some u := fun e => (upd_ne (ne_of_none e na)).trans e
  constructor
  case ok => exact I.ok
  case os => exact I.os
  case bare => exact I.bare
  case loc => exact I.loc
  case cell => exact I.cell
  case len => exact I.len
  case free => exact (upd_ne (Ne.symm nL)).trans I.free
  case freeC =>
    intro y c hc
    refine (upd_ne fun y' => ?_).trans (I.freeC y c hc)
    obtain ⟨v, hv⟩ := I.cell y c hc
    exact nc v (y' ▸ hv)
  case pin =>
    intro p hp
    have q := I.pin p hp
    exact ⟨q.1, (upd_ne (np p hp)).trans q.2.1, q.2.2⟩
  case base =>
    exact { I.base with
      free := fun b u e n x => (upd_ne (elder e)).trans (I.base.free b u e n x)
      tups := fun b xs e => same (I.base.tups b xs e)
      frzs := fun b w u e => same (I.base.frzs b w u e)
      tbls := fun b ps e => (I.base.tbls b ps e).imp fun _ => same }
  case hok =>
    intro b u e
    by_cases c : b = a
    · subst c
      obtain rfl : o = u := Option.some.inj (upd_same.symm.trans e)
      exact new
    · exact (I.hok b u ((upd_ne c).symm.trans e)).stay (fun _ _ _ y => y) (fun _ => same) fun _ _ => same
/-- into an except suite that pins nothing of its own, and out of it -/
theorem toSuite (I : Inv X pins τ G z) (a : Addr) : Inv (X.suite a (X.pn ++ pins)) [] τ G z :=
  { ok := I.ok.suite _ _, os := I.os, bare := I.bare, base := I.base, loc := I.loc, cell := I.cell, free := I.free, freeC := I.freeC, hok := I.hok, len := I.len, pin := fun p hp => I.pin p ((List.append_nil (X.pn ++ pins)) ▸ hp) }
theorem ofSuite {more : List (Addr × Obj)} (I : Inv (X.suite a (X.pn ++ pins)) more τ G z) (ok : X.Ok) : Inv X pins τ G z :=
  { ok := ok, os := I.os, bare := I.bare, base := I.base, loc := I.loc, cell := I.cell, free := I.free, freeC := I.freeC, hok := I.hok, len := I.len, pin := fun p hp => I.pin p (List.mem_append.mpr (.inl hp)) }
end
/-- the wish -/
def wKeep (K : PySem.W.Frag) (c : Value) (i : Nat) (ts : TS) (Wout : WX) (D : Ends) : WX := fun cls d σ H =>
  ∃ b, PySem.W.exmOne K cls c = some b ∧ (b = true → ∀ a, H a = none → ts { nx := fun σ' H' => D.nx (σ'.set i none) H', rt := D.rt, bk := fun σ' H' => D.bk (σ'.set i none) H', ct := fun σ' H' => D.ct (σ'.set i none) H' } (σ.set i (some (.ref a))) (upd H a (EO a cls d))) ∧
    (b = false → Wout cls d σ H)
section
variable {X : Cx} {x n : Str} {c : Value} {i : Nat} {body suite : List Stmt} {b₀ : Stmt} {np pos pos' : Pos} {tb : WX → TS} {ts : TS} {Wout : WX} {pins : List (Addr × Obj)} {τ : L2.St} {G : Hp} {D : Ends}
/-- what is to be done with an exception of a try's body -/
abbrev Fate (X : Cx) (hds : List ExceptHandler) (pins : List (Addr × Obj)) (D : Ends) (e : Value) (z : Shared) : Prop :=
  wpAny (model X.prog X.w) X.A (noteFrame e X.env) (fun _ z1 => wpAny (model X.prog X.w) X.A (setFlight e none) (fun _ z2 => wpAny (model X.prog X.w) X.A (handleBy e X.env hds) (SP X pins D) X.xe z2) X.xe z1) X.xe z
/-- the clause's test names the class c -/
theorem names_eval (hc : Names X x c) {a : Addr} {oe : Obj} {h3 : Heap} {z : Shared} (S : Inv (X.suite a ((a, oe) :: (X.pn ++ pins))) [] τ G { z with heap := h3 }) {Q E : Value → Shared → Prop} (q : Q c { z with heap := h3 }) :
    wpAny (model X.prog X.w) (X.A.mark (some (.ref a))) (eval (.Name x np) X.env) Q E { z with heap := h3 } := by
  rcases hc with ⟨g, nd, own | ⟨no, boot, nn⟩⟩
  · exact L2.ld_glob (X := X.suite a ((a, oe) :: (X.pn ++ pins))) S g own q nd
  · exact L2.ld_blt (X := X.suite a ((a, oe) :: (X.pn ++ pins))) S g no boot q nn nd
/-- the suite, run with the caught object known -/
theorem keep_suite (hN : X.N.Nodup) (hi : X.N[i]? = some n) (hln : X.env.kindOf n = some .local) (hsu : ∀ (a : Addr) (pn : List (Addr × Obj)), PSs (X.suite a pn) (b₀ :: suite) ts) {a : Addr} {z : Shared}
    (I : Inv X pins τ G z) (want : ts { nx := fun σ' H' => D.nx (σ'.set i none) H', rt := D.rt, bk := fun σ' H' => D.bk (σ'.set i none) H', ct := fun σ' H' => D.ct (σ'.set i none) H' } (τ.set i (some (.ref a))) G) {E1 E2 : Value → Shared → Prop} :
    wpAny (model X.prog X.w) (X.A.mark (some (.ref a))) (storeName X.env n (.ref a)) (fun _ z1 => wpAny (model X.prog X.w) (X.A.mark (some (.ref a))) (execs (b₀ :: suite) X.env) (fun fl z2 => wpAny (model X.prog X.w) X.A (do bindName X.env n .none; unbindBehindTheSuite X.env n pos') (fun _ z3 => SP X pins D fl z3) X.xe z2) E1 z1) E2 z := by
  refine L2.store_ok (X := X.suite a (X.pn ++ pins)) (v := .ref a) (toSuite I a) hN hi (.inl hln) rfl (fun z1 J => ?_) (.inr hln)
  have run := (hsu a (X.pn ++ pins)).run [] z1 _ _ _ J want
  have behind : ∀ {τ2 : L2.St} {G2 : Hp} {z2 : Shared} {Q : Shared → Prop}, Inv (X.suite a (X.pn ++ pins)) [] τ2 G2 z2 → (∀ z3, Inv X pins (τ2.set i none) G2 z3 → Q z3) →
      wpAny (model X.prog X.w) X.A (do bindName X.env n .none; unbindBehindTheSuite X.env n pos') (fun _ z3 => Q z3) X.xe z2 := fun J2 k => L2.gone_ok (ofSuite J2 I.ok) hN hi hln k
  refine wpAny_mono run (fun fl z2 r => ?_) fun _ _ no => no.elim
  match fl, r with
  | .next, ⟨_, _, J2, q⟩ => exact behind J2 fun _ J3 => ⟨_, _, J3, q⟩
  | .brk, ⟨_, _, J2, q⟩ => exact behind J2 fun _ J3 => ⟨_, _, J3, q⟩
  | .cont, ⟨_, _, J2, q⟩ => exact behind J2 fun _ J3 => ⟨_, _, J3, q⟩
  | .ret _, ⟨_, _, _, J2, rel, q⟩ => exact behind J2 fun _ J3 => ⟨_, _, _, J3, rel, q⟩
/-- an exception of the body meets the clause -/
theorem keep_fate (hx : X.ex = []) (hs : X.stack = X.env :: X.outer) (hf : X.env.frame = some X.env.locals) (hN : X.N.Nodup) (hi : X.N[i]? = some n) (hln : X.env.kindOf n = some .local) (hc : Names X x c) (tk : Takes X Wout) (ok : X.Ok)
    (hsu : ∀ (a : Addr) (pn : List (Addr × Obj)), PSs (X.suite a pn) (b₀ :: suite) ts) {u : Value} {z : Shared} {xe : Value → Shared → Prop} (air : XE (X.tr (X.pn ++ pins) xe) (wKeep X.K c i ts Wout D) u z) :
    Fate X [.ExceptHandler (some (.Name x np)) (some n) (b₀ :: suite) pos'] pins D u z := by
  obtain ⟨a, B, g, pins', τ, G, cls, d, rfl, J0, ground, up, sky, na, os, ag, b, meets, yes, no⟩ := air
  have J : Inv X pins τ G g := L2.Inv.ofTry J0 ok
  have sky1 : Sky B (X.env :: X.outer) a (Zc cls d) X.env.locals z.heap := hs ▸ sky
  refine Sky.land Zc.steady (ok.frames.trans (congrArg some hs)) hf sky1 fun k fl upk => ?_
  obtain ⟨oe, vs, at_, zc, rec⟩ := fl.there
  -- the object is no frame's, and new since the entry
  have noframe : a ∉ frs (X.env :: X.outer) := fun m => by
    obtain ⟨_, o', e', nr⟩ := fl.2.2.1.mem m
    obtain rfl : oe = o' := Option.some.inj (at_.symm.trans e')
    exact nr _ rec
  have nL : a ≠ X.env.locals := fun y => noframe (List.mem_filterMap.mpr ⟨_, .head _, hf.trans (congrArg some y.symm)⟩)
  have nF : a ∉ X.fs := fun m => noframe (by
    obtain ⟨e, me, q⟩ := List.mem_filterMap.mp m
    exact List.mem_filterMap.mpr ⟨e, .tail _ me, q⟩)
  have nG : g.heap.get? a = none := Option.eq_none_iff_forall_ne_some.mpr fun o e => by
    have q := ground a o e (hs ▸ noframe)
    rw [fl.2.1] at q
    cases q
  have n0 : X.s_0.heap.get? a = none := Option.eq_none_iff_forall_ne_some.mpr fun o e => by
    obtain ⟨o', q⟩ := J.base.there a o e (hx ▸ List.not_mem_nil)
    exact Option.some_ne_none _ (q.symm.trans nG)
  have npin : ∀ p ∈ X.pn ++ pins, p.1 ≠ a := fun p hp y => Option.some_ne_none _ ((J.pin p hp).1.symm.trans ((congrArg g.heap.get? y).trans nG))
  have K1 : Inv X pins τ G { z with heap := k } := L2.Inv.landed J ground fl.1 (up.trans upk) os ag
  have S1 := L2.Inv.suite K1 at_ rec na nL nF
  have isCls : PySem.W.Looks (model X.prog X.w) k (typeOf (.ref a)) cls := fun _ _ _ _ keep q => wpAny_typeOf_ref (keep _ _ at_) (zc.1.symm ▸ q)
  refine wpAny_handleBy_cons (codeAny_handlers_test (names_eval hc S1 ((PySem.W.exm_one (M := model X.prog X.w) K1.kIn isCls meets).here ?_))) (fun q => nomatch q)
  cases b with
  | true =>
    refine codeAny_handlers_suite_as (HandSPX.lands_againZ fl fun k2 fl2 up2 => ?_)
    obtain ⟨oe2, vs2, at2, zc2, rec2⟩ := fl2.there
    have K2 : Inv X pins τ G { z with heap := k2 } := L2.Inv.landed J ground fl2.1 ((up.trans upk).trans up2) os ag
    have K3 : Inv X pins τ (upd G a (EO a cls d)) { z with heap := k2 } := track K2 na n0 nL npin (fun v ⟨o, e, dv⟩ => by
      obtain rfl : oe2 = o := Option.some.inj (at2.symm.trans e)
      exact Data.noConfusion (rec2.symm.trans dv)) (eo_ok at2 zc2 rec2)
    exact keep_suite hN hi hln hsu K3 (yes rfl a na)
  | false =>
    refine wpAny_handleBy_nil ?_
    obtain ⟨_, _, _, oe', vs', T, _, _, e1, _, e2, e3, _⟩ := id fl
    have on : wpAny (model X.prog X.w) X.A (setFlight (.ref a) X.env.frame) (fun _ z1 => wpAny (model X.prog X.w) X.A (throw (.ref a) : Sem Flow) (SP X pins D) X.xe z1) X.xe { z with heap := k } := by
      rw [hf]
      refine HandSPX.setFlight_upZ fl fun k2 held up2 => wpAny_throw (tk _ _ ?_)
      refine ⟨a, B, g, pins, τ, G, cls, d, rfl, J, ground, (up.trans upk).trans up2, ?_, na, os, ag, no rfl⟩
      exact .inr (.inr (hs.symm ▸ held))
    unfold PySem.passOn
    refine wpAny_bind (wpAny_field e1 e2 e3 ?_)
    rw [if_neg (fun y => by simp at y)]
    first | exact wpAny_bind on | exact wpAny_bind (wpAny_pure (wpAny_bind on))
/-- try: body / except x as n: suite, the caught object known from then on -/
theorem ps_try_keep (hx : X.ex = []) (hs : X.stack = X.env :: X.outer) (hf : X.env.frame = some X.env.locals) (hN : X.N.Nodup) (hi : X.N[i]? = some n) (hln : X.env.kindOf n = some .local) (hc : Names X x c) (tk : Takes X Wout)
    (hb : ∀ (W : WX) (pn : List (Addr × Obj)) (xe : Value → Shared → Prop), Takes (X.tr pn xe) W → PassesOwn (model X.prog X.w) X.A X.env xe → PSs (X.tr pn xe) body (tb W))
    (hsu : ∀ (a : Addr) (pn : List (Addr × Obj)), PSs (X.suite a pn) (b₀ :: suite) ts) :
    PS X (.Try body [.ExceptHandler (some (.Name x np)) (some n) (b₀ :: suite) pos'] [] [] pos) (fun D σ H => tb (wKeep X.K c i ts Wout D) D σ H) := by
  constructor
  intro pins z τ G D I want
  have inner := hb (wKeep X.K c i ts Wout D) (X.pn ++ pins) (Fate X [.ExceptHandler (some (.Name x np)) (some n) (b₀ :: suite) pos'] pins D)
    (fun _ _ air => keep_fate hx hs hf hN hi hln hc tk I.ok hsu air) PassesOwn.looking
  refine wpAny_Try_except (wpAny_mono (inner.run [] z τ G D (L2.Inv.toTry I _) want) (fun fl z1 r => ?_) fun _ _ y => y)
  match fl, r with
  | .next, ⟨_, _, J, q⟩ => exact wpAny_execs_nil ⟨_, _, L2.Inv.ofTry J I.ok, q⟩
  | .brk, ⟨_, _, J, q⟩ => exact ⟨_, _, L2.Inv.ofTry J I.ok, q⟩
  | .cont, ⟨_, _, J, q⟩ => exact ⟨_, _, L2.Inv.ofTry J I.ok, q⟩
  | .ret _, ⟨_, _, _, J, rel, q⟩ => exact ⟨_, _, _, L2.Inv.ofTry J I.ok, rel, q⟩
/-- kept.f, kept a caught exception with an own dict -/
def tEf (C : Addr) (f : Str) (te : TE) : TE := fun σ H Q => te σ H fun x H1 => ∃ (a dd : Addr) (fs : List (Str × V)) (v : V), x = .ref a ∧ H1 a = some (EO a (.ref C) (some dd)) ∧ H1 dd = some (.xd fs) ∧ fs.lookup f = some v ∧ Q v H1
theorem pe_ef {C : Addr} {e : Expr} {te : TE} {pos : Pos} {n : Str} (T : XfC X.K C) (hno : PySem.W.findIn X.K (.ref C) n = some none)
    (he : PE X e te) (hb : attributeBase e n X.env (eval e X.env) = eval e X.env := by rfl) : PE X (.Attribute e n pos) (tEf C n te) := by
  refine ⟨fun pins z τ G Q I want => attr_of hb (thn (he.run pins z τ G _ I want) fun u z1 got => ?_)⟩
  obtain ⟨_, G1, J, rel, a, dd, fs, v, rfl, ea, ed, look, q⟩ := got
  cases (show u = Value.ref a from rel)
  obtain ⟨oe, vs, at_, zc, rec⟩ := eo_at J.hok ea
  obtain ⟨m, space, fits⟩ := (show ObjOk X.prog X.w G1 z1.heap dd (.xd fs) from J.hok dd _ ed)
  obtain ⟨od, od_at, od_look⟩ := lookIn_ns space
  have fit := fits n
  rw [look] at fit
  obtain ⟨w, w_is, w_rel⟩ := RelO.some_of fit
  have inst : PySem.W.InstAt z1.heap a oe C (some od) := by
    refine ⟨at_, zc.1, ?_, ?_⟩
    · unfold PySem.W.notCls
      rw [rec] <;> rfl
    · rw [zc.2]
      exact od_at
  have found := PySem.W.findObj_own (K := X.K) (C := C) (name := n) T.hdC hno rfl ((od_look n).trans (congrArg some w_is))
  exact HandSPX.exc_get J.kIn inst T.ga T.gg T.exC found (handed_of w_rel) ⟨v, G1, J.tok _, w_rel, q⟩
end
end Kt
namespace Am
open PySem PySem.Spec PyProof.Rows L2
def spInitE (K : PySem.W.Frag) : Sp := fun vs H Q _ => ∃ (a D : Addr) (v : V), vs = [.ref a, v] ∧ OexC K D ∧ PySem.W.findIn K (.ref D) "value" = some none ∧ H a = some (exo a D none) ∧ ∀ dx, H dx = none → dx ≠ a → Q .non (upd (upd H dx (exd dx [("value", v)])) a (exo a D (some dx)))
/-- an error class of the text -/
structure Err (K : PySem.W.Frag) (mg : Str → Option Value) (x : Str) (D fI : Addr) : Prop where
  oex : OexC K D
  iC : PySem.W.findIn K (.ref D) "__init__" = some (some (.ref fI))
  tI : PySem.W.typeIn K (.ref fI) = some (.type "function")
  gD : mg x = some (.ref D)
  nv : PySem.W.findIn K (.ref D) "value" = some none
  xf : XfC K D
  te : PySem.W.exmOne K (.ref D) (.ref D) = some true
def GotX (P : Program) (w : World) (K : PySem.W.Frag) (mg : Str → Option Value) (base : Heap) (x : Str) (k : Nat) (ps : List Str) (sp : Sp) : Prop :=
  ∃ (f : Addr) (fd : FuncData), FnOk P w K mg base (L2.CX P w) k f fd ps sp ∧ Binds K fd ps [] ∧ mg x = some (.ref f) ∧ PySem.W.keepIn K (.ref f) = true
section
variable {P : Program} {w : World} {K : PySem.W.Frag} {mg : Str → Option Value} {base : Heap} {C D : Addr}
theorem scInitE : FnScope ["self", "value"] ["self", "value"] (defScope sInitE) := ⟨rfl, rfl, rfl, by decide +kernel, rfl, by decide +kernel, by decide +kernel⟩
theorem ok_initE {f : Addr} {fd : FuncData} (F : Fun K "__init__" "MeterError.__init__" sInitE f fd) : FnOk P w K mg base CX0 1 f fd ["self", "value"] (spInitE K) := by
  refine F.ok scInitE (fun vs H Q E h => ?_) (fun cdv A outer s H vs Q E hr h => ?_)
  · obtain ⟨a, D, v, rfl, _⟩ := h
    rfl
  · obtain ⟨a, D, v, rfl, T, nv, ha, q⟩ := h
    exact ⟨_, pss_one (ps_ost (pv 0) (pv 1)), _, rfl, _, rfl, a, D, rfl, T, nv, .inl ⟨ha, fun dx hd ne => q dx hd ne⟩⟩
/-- a made error, told -/
theorem err_read {fI : Addr} {x : Str} (T : Err K mg x D fI) {H : Hp} {v : V} {Q : XK} (q : ∀ d H', Same H H' → H' d = some (.xd [("value", v)]) → Q (.ref D) (some d) H') :
    ∀ a, H a = none → spInitE K (.ref a :: ([v] ++ [])) (upd H a (exo a D none)) (fun r H2 => r = .non ∧ ∃ (d : Addr) (fs : List (Str × V)), H2 a = some (exo a D (some d)) ∧ H2 d = some (exd d fs) ∧ H d = none ∧ Q (.ref D) (some d) (upd (del H2 a) d (.xd fs))) (fun _ _ _ => False) := by
  intro a na
  refine ⟨a, D, v, rfl, T.oex, T.nv, upd_same, fun dx nd ne => ⟨rfl, dx, [("value", v)], upd_same, ?_, ?_, ?_⟩⟩
  · rw [upd_ne ne]; exact upd_same
  · rw [upd_ne ne] at nd; exact nd
  · refine q dx _ (fun b o e => ?_) upd_same
    have hd : H dx = none := by rw [upd_ne ne] at nd; exact nd
    have n1 : b ≠ dx := ne_of_none e hd
    have n2 : b ≠ a := ne_of_none e na
    rw [upd_ne n1, del_ne n2, upd_ne n2, upd_ne n1, upd_ne n2]
    exact e
end
end Am
/-! values of any kind as data: their repr, and whether a list of texts holds them; no list of theirs stands at p -/
namespace Rv
open PySem PySem.Spec PyProof.Rows L2
mutual
inductive Dj (p : Addr) (H : Hp) : V → PyData → Prop
  | non : Dj p H .non .none
  | bl (b : Bool) : Dj p H (.bl b) (.bool b)
  | int (i : Int) : Dj p H (.int i) (.int i)
  | str (z : Str) : Dj p H (.str z) (.str z)
  | lst {a : Addr} {xs : List V} {ds : List PyData} (h : H a = some (.lst xs)) (n : a ≠ p) (all : DjAll p H xs ds) : Dj p H (.ref a) (.list ds)
  | tup {a : Addr} {xs : List V} {ds : List PyData} (h : H a = some (.tup xs)) (all : DjAll p H xs ds) : Dj p H (.ref a) (.tuple ds)
  | dic {a : Addr} (h : H a = some (.dK [])) : Dj p H (.ref a) (.dict [])
inductive DjAll (p : Addr) (H : Hp) : List V → List PyData → Prop
  | nil : DjAll p H [] []
  | cons {v : V} {vs : List V} {d : PyData} {ds : List PyData} (h : Dj p H v d) (all : DjAll p H vs ds) : DjAll p H (v :: vs) (d :: ds)
end
mutual
theorem Dj.keep {p : Addr} {H H' : Hp} (f : ∀ b o, H b = some o → b ≠ p → (∀ ps, o ≠ .tbl ps) → H' b = some o) (hp : ∀ o, H p = some o → ∃ xs, o = .lst xs) : ∀ {v : V} {d : PyData}, Dj p H v d → Dj p H' v d
  | _, _, .non => .non
  | _, _, .bl b => .bl b
  | _, _, .int i => .int i
  | _, _, .str z => .str z
  | _, _, .lst h n all => .lst (f _ _ h n (fun _ z => by cases z)) n (DjAll.keep f hp all)
  | _, _, .tup h all => .tup (f _ _ h (fun e => by obtain ⟨_, z⟩ := hp _ (e ▸ h); cases z) (fun _ z => by cases z)) (DjAll.keep f hp all)
  | _, _, .dic h => .dic (f _ _ h (fun e => by obtain ⟨_, z⟩ := hp _ (e ▸ h); cases z) (fun _ z => by cases z))
theorem DjAll.keep {p : Addr} {H H' : Hp} (f : ∀ b o, H b = some o → b ≠ p → (∀ ps, o ≠ .tbl ps) → H' b = some o) (hp : ∀ o, H p = some o → ∃ xs, o = .lst xs) : ∀ {vs : List V} {ds : List PyData}, DjAll p H vs ds → DjAll p H' vs ds
  | _, _, .nil => .nil
  | _, _, .cons h all => .cons (Dj.keep f hp h) (DjAll.keep f hp all)
end
mutual
theorem Dj.reads {X : Cx} {pins : List (Addr × Obj)} {σ : L2.St} {p : Addr} {H : Hp} {s : Shared} (I : Inv X pins σ H s) : ∀ {v : V} {u : Value} {d : PyData}, Dj p H v d → RelV v u → ∃ as, Reads s.heap u d as
  | _, _, _, .non, r => by cases r; exact ⟨_, Reads.none⟩
  | _, _, _, .bl b, r => by cases r; exact ⟨_, Reads.bool b⟩
  | _, _, _, .int i, r => by obtain ⟨t, rfl⟩ := r; exact ⟨_, Reads.int i t⟩
  | _, _, _, .str z, r => by obtain ⟨t, rfl⟩ := r; exact ⟨_, Reads.str z t⟩
  | _, _, _, .lst h n all, r => by
    cases r
    obtain ⟨its, rv, ⟨o, n, ho, hc, _, hd⟩, _⟩ := I.list (SqL.of h)
    obtain ⟨as, hr⟩ := DjAll.reads I all rv
    exact ⟨_, Reads.list ho hc hd hr⟩
  | _, _, _, .tup h all, r => by
    cases r
    obtain ⟨its, rv, ⟨o, ho, hc, n, hd⟩, _⟩ := I.tuple (SqT.of h)
    obtain ⟨as, hr⟩ := DjAll.reads I all rv
    exact ⟨_, Reads.tuple ho hc hd hr⟩
  | _, _, _, .dic h, r => by
    cases r
    obtain ⟨_, hs, vs, kv, o, es, ep, h1, h2, h3, h4, h5, h6⟩ := I.hok _ _ h
    have e0 : vs = [] := by cases kv; rfl
    subst e0
    have e1 : es.toList = [] := by
      have z := h5
      generalize es.toList = l at z
      cases z
      rfl
    have e2 : es = #[] := by cases es; simp at e1; rw [e1]
    subst e2
    exact ⟨_, Reads.dict (kvs := []) h1 h2.1 h3 .nil .nil⟩
theorem DjAll.reads {X : Cx} {pins : List (Addr × Obj)} {σ : L2.St} {p : Addr} {H : Hp} {s : Shared} (I : Inv X pins σ H s) : ∀ {vs : List V} {us : List Value} {ds : List PyData}, DjAll p H vs ds → Vals vs us → ∃ as, ReadsAll s.heap us ds as
  | _, _, _, .nil, r => by cases r; exact ⟨_, ReadsAll.nil⟩
  | _, _, _, .cons h all, r => by
    cases r with
    | cons r1 r2 =>
      obtain ⟨as, q1⟩ := Dj.reads I h r1
      obtain ⟨bs, q2⟩ := DjAll.reads I all r2
      exact ⟨_, ReadsAll.cons q1 q2⟩
end
/-- repr of such a value -/
def rRepV : List V → Hp → VK → Prop := fun xs H Q => ∃ (p : Addr) (v : V) (d : PyData), xs = [v] ∧ Dj p H v d ∧ (d.hasDict = false ∨ d = .dict []) ∧ d.showable = true ∧ d.depth ≤ 60 ∧ d.shown.length ≤ sizeLine ∧ (∀ i, d = .int i → i.natAbs.log2 < 1920) ∧ Q (.str d.shown) H
theorem call_repV {X : Cx} (free : X.A.guards = some []) (hu : X.A.units + 64 < cLine) : CallR X (.builtin "repr") rRepV := by
  intro pins s σ H xs us Q I rel want
  obtain ⟨p, v, d, rfl, hv, hd, sh, dp, sz, hi, q⟩ := want
  obtain ⟨u, rfl, ru⟩ := vals1 rel
  have ref : ∀ a, v = .ref a → wpAny (model X.prog X.w) X.A (call (.builtin "repr") [u]) (fun u s' => ∃ v H', Inv X pins σ H' s' ∧ RelV v u ∧ Q v H') X.xe s := by
    rintro a rfl
    cases (show u = Value.ref a from ru)
    obtain ⟨as, r, hs⟩ : ∃ as, Reads s.heap (.ref a) d as ∧ (d.hasDict = true → sysModules ∉ as) := by
      rcases hd with hd | rfl
      · obtain ⟨as, r⟩ := hv.reads I ru
        exact ⟨as, r, fun z => by rw [hd] at z; cases z⟩
      · cases hv with
        | dic h =>
          obtain ⟨_, hs, vs, kv, o, es, ep, h1, h2, h3, h4, h5, h6⟩ := I.hok _ _ h
          have e0 : vs = [] := by cases kv; rfl
          subst e0
          have e1 : es.toList = [] := by
            have z := h5
            generalize es.toList = l at z
            cases z
            rfl
          have e2 : es = #[] := by cases es; simp at e1; rw [e1]
          subst e2
          refine ⟨_, Reads.dict (kvs := []) h1 h2.1 h3 .nil .nil, fun _ z => ?_⟩
          simp only [List.append_nil, List.mem_singleton] at z
          rw [← z] at hs
          simp at hs
    refine repr_of_reads' r sh hs free (by omega) (fun _ _ z => z) ?_ sz
    intro h' t tk kp
    exact ⟨.str d.shown, H, I.kept kp, ⟨t, rfl⟩, q⟩
  cases hv with
  | non =>
    obtain rfl := (show u = Value.none from ru)
    simp only [PyData.shown] at q
    exact PySem.P.repr_of_none ⟨.str _, H, I.tok _, ⟨_, rfl⟩, q⟩
  | bl b =>
    obtain rfl := (show u = Value.bool b from ru)
    simp only [PyData.shown] at q
    exact PySem.P.repr_of_bool ⟨.str _, H, I.tok _, ⟨_, rfl⟩, q⟩
  | int i =>
    obtain ⟨t, rfl⟩ := ru
    simp only [PyData.shown] at q
    exact PySem.P.repr_of_int (hi i rfl) ⟨.str _, H, I.tok _, ⟨_, rfl⟩, q⟩
  | str z =>
    obtain ⟨t, rfl⟩ := ru
    simp only [PyData.shown] at q sz
    exact PySem.P.repr_of_str ⟨.str _, H, I.tok _, ⟨_, rfl⟩, q⟩ sz
  | lst h n all => exact ref _ rfl
  | tup h all => exact ref _ rfl
  | dic h => exact ref _ rfl
/-! ### a dict among texts -/
theorem dict_eq_str (l : Addr) (es : Array DictEntry) (ep : Nat) (b : Str) (u : Tok) :
    Meets (Builtin.«dict.__eq__» ⟨[.ref l, .str b u], []⟩) (fun _ R s => s.heap.get? l = some { cls := .type "dict", dict := none, data := .dict es ep, slots := #[] } ∧ R (.ok (.ret .notImplemented)) s) :=
  .of_wp fun prog w A R s h => by obtain ⟨hp, g, d, tk, os⟩ := s; obtain ⟨hl, h⟩ := h; have f1 := F.sub_str_dict; wp_walk using wpAny_loadPart' hl; exact ⟨_, rfl, h⟩
theorem str_eq_dict (b : Str) (u : Tok) (l : Addr) (es : Array DictEntry) (ep : Nat) :
    Meets (Builtin.«str.__eq__» ⟨[.str b u, .ref l], []⟩) (fun _ R s => s.heap.get? l = some { cls := .type "dict", dict := none, data := .dict es ep, slots := #[] } ∧ R (.ok (.ret .notImplemented)) s) :=
  .of_wp fun prog w A R s h => by obtain ⟨hp, g, d, tk, os⟩ := s; obtain ⟨hl, h⟩ := h; wp_walk using wpAny_loadPart' hl, wpAny_load hl; exact ⟨_, rfl, h⟩
section
variable {A : Around} {s : Shared} {l : Addr} {es : Array DictEntry} {ep : Nat}
theorem rc_str_dict (b : Str) (u : Tok) (ho : s.heap.get? l = some { cls := .type "dict", dict := none, data := .dict es ep, slots := #[] }) (hu : A.units < cLine) : SeqAt.RcAt A s (.str b u) (.ref l) false := fun prog w E Q h =>
  SeqAt.rc_eq_decline_or (k := false) (typeIs_str s b u) ⟨_, ho, rfl⟩ (by decide) F.sub_dict_str F.slot_str_eq F.slot_dict_eq_refl
    (fun _ hq => call_meets F.slot_str_eq (typeIs_str s b u) F.entry_str_eq (F.args_str_eq_2 _ _) (str_eq_dict b u l es ep) ⟨ho, hq⟩)
    (fun _ hq => call_meets F.slot_dict_eq_refl ⟨_, ho, rfl⟩ F.entry_dict_eq (F.args_dict_eq_2 _ _) (dict_eq_str l es ep b u) ⟨ho, hq⟩)
    (fun _ hq => wpAny_of_eq (rfl : isSame (.str b u) (.ref l) = pure false) hq) (.inr hu) h
theorem eq_str_dict (b : Str) (u : Tok) (ho : s.heap.get? l = some { cls := .type "dict", dict := none, data := .dict es ep, slots := #[] }) (hu : A.units < cLine) : SeqAt.EqAt A s (.str b u) (.ref l) false := fun prog w E Q h => by
  unfold eqBool
  refine wpAny_holding ?_
  refine wpAny_ite_split (fun hab => absurd (eq_of_beq hab) nofun) (fun _ => ?_)
  exact wpAny_bind (rc_str_dict b u ho hu prog w E _ (wpAny_truthy_bool h))
end
/-- a value is not among texts -/
def inS (ws : List Str) : PyData → Bool
  | .str z => decide (z ∈ ws)
  | _ => false
theorem inS_eqv (ws : List Str) (d : PyData) : ((ws.map PyData.str).any fun y => PyData.eqv y d) = inS ws d := by
  rw [List.any_map]
  cases d <;> first | (simp only [inS]; exact List.any_eq_false.mpr fun x _ => by simp [Function.comp, PyData.eqv]) | skip
  rename_i z
  rw [Bool.eq_iff_iff, List.any_eq_true]
  simp only [inS, decide_eq_true_eq, Function.comp, PyData.eqv]
  constructor
  · rintro ⟨x, hx, e⟩
    rw [← eq_of_beq e]
    exact hx
  · intro h
    exact ⟨z, h, beq_self_eq_true z⟩
theorem dps {K : PySem.W.Frag} {H : Hp} : ∀ ws : List Str, DpAll K H (ws.map V.str) (ws.map PyData.str)
  | [] => .nil
  | w :: ws => .cons (.str w) (dps ws)
theorem lay_strs : ∀ ws : List Str, (∀ w ∈ ws, PyData.strOk w = true) → PyData.canLayAll0 (ws.map PyData.str) = true
  | [], _ => rfl
  | w :: ws, h => by simp only [List.map, PyData.canLayAll0, PyData.canLay0, lay_strs ws (fun x hx => h x (by simp [hx])), h w (by simp), Bool.and_self]
theorem strs_mem : ∀ {zs : List Str} {its : List Value} {w : Value}, Vals (zs.map V.str) its → w ∈ its → ∃ b t, w = Value.str b t
  | [], _, _, rv, hw => by cases rv; cases hw
  | z :: zs, _, _, rv, hw => by
    cases rv with
    | cons r rv =>
      rcases List.mem_cons.mp hw with rfl | hw
      · obtain ⟨t, e⟩ := r
        exact ⟨_, t, e⟩
      · exact strs_mem rv hw
def rNotInS (K : PySem.W.Frag) : R2 := fun x y H Q => ∃ (p l : Addr) (ws : List Str) (d : PyData), y = .ref l ∧ SqL K H l (ws.map V.str) ∧ (∀ w ∈ ws, PyData.strOk w = true) ∧ Dj p H x d ∧ (SeqAt.shaped d = true ∨ d = .dict []) ∧ Q (.bl (!inS ws d)) H
theorem op_notInS {X : Cx} (hu : X.A.units + 65 < cLine) : OpR X (compareOp .NotIn) (rNotInS X.K) := by
  intro pins s σ H x y v u Q I rx ry want
  obtain ⟨p, l, ws, d, rfl, hl, hw0, hx, sd, q⟩ := want
  rcases sd with sd | rfl
  · obtain ⟨as, r1⟩ := hx.reads I rx
    obtain ⟨bs, r2⟩ := Dp.reads I (.list (ws.map PyData.str)) _ u (.lst hl (dps ws)) ry
    refine SeqAt.notIn_list_reads r2 r1 (lay_strs ws hw0) (SeqAt.canLay_of_shaped sd) (room_in_shaped sd hu) ⟨.bl _, H, I, rfl, ?_⟩
    rw [inS_eqv]
    exact q
  · cases hx with
    | dic h =>
      cases (show v = Value.ref _ from rx)
      cases ry
      obtain ⟨_, hs, vs, kv, ⟨cls, dd, data, sl⟩, es, ep, h1, ⟨h21, h22, h23⟩, h3, h4, h5, h6⟩ := I.hok _ _ h
      simp only at h21 h22 h23 h3
      subst h21 h22 h23 h3
      obtain ⟨its, rv, pl, hz⟩ := I.list hl
      refine SeqAt.notIn_listAt (fun _ => false) pl.isList (fun w hw => ?_) ⟨.bl _, H, I, rfl, ?_⟩
      · obtain ⟨b, t, rfl⟩ : ∃ b t, w = Value.str b t := by
          have hw : w ∈ its := by simpa using hw
          clear hl hz pl q hw0
          generalize ws = zs at rv
          exact strs_mem rv hw
        exact eq_str_dict b t h1 (by show X.A.units + 1 < cLine; omega)
      · have : its.toArray.any (fun _ => false) = false := by simp
        rw [this]
        exact q
end Rv
/-! what a value of any kind is an instance of -/
namespace Rv
open PySem PySem.Spec PyProof.Rows L2 Am
inductive T4
  | tup
  | bl
  | int
  | str
def T4.nm : T4 → String
  | .tup => "tuple"
  | .bl => "bool"
  | .int => "int"
  | .str => "str"
def isD : T4 → PyData → Bool
  | .tup, .tuple _ => true
  | .bl, .bool _ => true
  | .int, .int _ => true
  | .int, .bool _ => true
  | .str, .str _ => true
  | _, _ => false
theorem Dj.isi {K : PySem.W.Frag} {p : Addr} {H : Hp} {v : V} {d : PyData} (h : Dj p H v d) (T : T4) : ∃ ty, TyX K H v ty ∧ PySem.W.kitOne K ty (.type T.nm) = some (isD T d) := by
  cases h with
  | non => cases T <;> exact ⟨_, .base (Bk.tyOf .non), kit_ty (show kitB "NoneType" _ = some false by decide +kernel)⟩
  | bl b =>
    cases T with
    | tup => exact ⟨_, .base (Bk.tyOf (.bl b)), kit_ty (show kitB "bool" "tuple" = some false by decide +kernel)⟩
    | bl => exact ⟨_, .base (Bk.tyOf (.bl b)), kit_ty (show kitB "bool" "bool" = some true by decide +kernel)⟩
    | int => exact ⟨_, .base (Bk.tyOf (.bl b)), kit_ty (show kitB "bool" "int" = some true by decide +kernel)⟩
    | str => exact ⟨_, .base (Bk.tyOf (.bl b)), kit_ty (show kitB "bool" "str" = some false by decide +kernel)⟩
  | int i =>
    cases T with
    | tup => exact ⟨_, .base (Bk.tyOf (.int i)), kit_ty (show kitB "int" "tuple" = some false by decide +kernel)⟩
    | bl => exact ⟨_, .base (Bk.tyOf (.int i)), kit_ty (show kitB "int" "bool" = some false by decide +kernel)⟩
    | int => exact ⟨_, .base (Bk.tyOf (.int i)), kit_ty (show kitB "int" "int" = some true by decide +kernel)⟩
    | str => exact ⟨_, .base (Bk.tyOf (.int i)), kit_ty (show kitB "int" "str" = some false by decide +kernel)⟩
  | str z =>
    cases T with
    | tup => exact ⟨_, .base (Bk.tyOf (.str z)), kit_ty (show kitB "str" "tuple" = some false by decide +kernel)⟩
    | bl => exact ⟨_, .base (Bk.tyOf (.str z)), kit_ty (show kitB "str" "bool" = some false by decide +kernel)⟩
    | int => exact ⟨_, .base (Bk.tyOf (.str z)), kit_ty (show kitB "str" "int" = some false by decide +kernel)⟩
    | str => exact ⟨_, .base (Bk.tyOf (.str z)), kit_ty (show kitB "str" "str" = some true by decide +kernel)⟩
  | tup ho all =>
    cases T with
    | tup => exact ⟨_, .base (Bk.tyOf (.tup ho)), kit_ty (show kitB "tuple" "tuple" = some true by decide +kernel)⟩
    | bl => exact ⟨_, .base (Bk.tyOf (.tup ho)), kit_ty (show kitB "tuple" "bool" = some false by decide +kernel)⟩
    | int => exact ⟨_, .base (Bk.tyOf (.tup ho)), kit_ty (show kitB "tuple" "int" = some false by decide +kernel)⟩
    | str => exact ⟨_, .base (Bk.tyOf (.tup ho)), kit_ty (show kitB "tuple" "str" = some false by decide +kernel)⟩
  | lst ho n => cases T <;> exact ⟨_, .base (Bk.tyOf (.lst ho)), kit_ty (show kitB "list" _ = some false by decide +kernel)⟩
  | dic ho => cases T <;> exact ⟨_, .base (Bk.tyOf (.dK ho)), kit_ty (show kitB "dict" _ = some false by decide +kernel)⟩
/-- data whose repr can be asked, and that can be looked for among texts -/
def isE : PyData → Bool
  | .dict [] => true
  | _ => false
def smallI : PyData → Bool
  | .int i => decide (i.natAbs < 2 ^ 100)
  | _ => true
def rokB (d : PyData) : Bool := (!d.hasDict || isE d) && (d.showable && (decide (d.depth ≤ 60) && (decide (d.shown.length ≤ 1000) && (smallI d && (SeqAt.shaped d || isE d)))))
structure Rok (d : PyData) : Prop where
  dic : d.hasDict = false ∨ d = .dict []
  sh : d.showable = true
  dp : d.depth ≤ 60
  len : d.shown.length ≤ sizeLine
  int : ∀ i, d = .int i → i.natAbs.log2 < 1920
  lay : SeqAt.shaped d = true ∨ d = .dict []
theorem isE_of {d : PyData} (h : isE d = true) : d = .dict [] := by
  unfold isE at h
  split at h
  · rfl
  · cases h
theorem rok_of {d : PyData} (h : rokB d = true) : Rok d := by
  unfold rokB at h
  simp only [Bool.and_eq_true, Bool.or_eq_true, Bool.not_eq_true', decide_eq_true_eq] at h
  obtain ⟨h1, h2, h3, h4, h5, h6⟩ := h
  refine ⟨h1.imp id isE_of, h2, h3, Nat.le_trans h4 (by decide), fun i e => ?_, h6.imp id isE_of⟩
  subst e
  have h5 := of_decide_eq_true h5
  by_cases z : i.natAbs = 0
  · rw [z]; decide
  · exact Nat.lt_of_lt_of_le ((Nat.log2_lt z).mpr h5) (by decide)
/-- repr of an int or a text, wherever it is asked -/
def rRepSc : List V → Hp → VK → Prop := fun xs H Q => ∃ (v : V) (t : Str), xs = [v] ∧ ((∃ i : Int, v = .int i ∧ i.natAbs.log2 < 1920 ∧ t = (toString i : Str)) ∨ (∃ z : Str, v = .str z ∧ (reprText z).length ≤ sizeLine ∧ t = reprText z)) ∧ Q (.str t) H
theorem call_repSc {X : Cx} : CallR X (.builtin "repr") rRepSc := by
  intro pins s σ H xs us Q I rel want
  obtain ⟨v, t, rfl, hv, q⟩ := want
  obtain ⟨u, rfl, ru⟩ := vals1 rel
  rcases hv with ⟨i, rfl, hi, rfl⟩ | ⟨z, rfl, hz, rfl⟩
  · obtain ⟨t, rfl⟩ := ru
    exact PySem.P.repr_of_int hi ⟨.str _, H, I.tok _, ⟨_, rfl⟩, q⟩
  · obtain ⟨t, rfl⟩ := ru
    exact PySem.P.repr_of_str ⟨.str _, H, I.tok _, ⟨_, rfl⟩, q⟩ hz
end Rv
/-! a value of any kind among the texts of a tuple or a list -/
namespace Rv
open PySem PySem.Spec PyProof.Rows L2
theorem dpsT {K : PySem.W.Frag} {H : Hp} {a : Addr} {ws : List Str} (h : SqT K H a (ws.map V.str)) : Dp K H (.ref a) (.tuple (ws.map PyData.str)) := .tup h (dps ws)
theorem items_eq {X : Cx} {pins : List (Addr × Obj)} {σ : L2.St} {p : Addr} {H : Hp} {s : Shared} {x : V} {v : Value} {d : PyData} {ws : List Str} {its : List Value} (I : Inv X pins σ H s) (hu : X.A.units + 65 < cLine) (hx : Dj p H x d) (rx : RelV x v) (sd : SeqAt.shaped d = true ∨ d = .dict []) (hw : ∀ w ∈ ws, PyData.strOk w = true) (rv : Vals (ws.map V.str) its) :
    ∃ e : Value → Bool, (∀ y ∈ its, SeqAt.EqAt X.A.in1 s y v (e y)) ∧ its.any e = inS ws d := by
  rcases sd with sd | rfl
  · obtain ⟨as, r1⟩ := hx.reads I rx
    obtain ⟨bs, r2⟩ := Dp.readsAll I (ws.map PyData.str) _ its (dps ws) rv
    refine ⟨fun u => PyData.eqv (SeqAt.readOf s.heap u) d, fun y hy => ?_, ?_⟩
    · exact SeqAt.items_eqAt (vs := its.toArray) (show ReadsAll s.heap its.toArray.toList (ws.map PyData.str) bs from r2) r1 (lay_strs ws hw) (SeqAt.canLay_of_shaped sd) (room_in_shaped sd hu) y (by simpa using hy)
    · have e := SeqAt.readsAll_map (ws.map PyData.str) its bs (lay_strs ws hw) r2
      rw [← inS_eqv, ← e, List.any_map]
      rfl
  · cases hx with
    | dic h =>
      cases (show v = Value.ref _ from rx)
      obtain ⟨_, hs, vs, kv, ⟨cls, dd, data, sl⟩, es, ep, h1, ⟨h21, h22, h23⟩, h3, h4, h5, h6⟩ := I.hok _ _ h
      simp only at h21 h22 h23 h3
      subst h21 h22 h23 h3
      refine ⟨fun _ => false, fun w hw => ?_, by simp [inS]⟩
      obtain ⟨b, t, rfl⟩ := strs_mem rv hw
      exact eq_str_dict b t h1 (by show X.A.units + 1 < cLine; omega)
theorem DjAll.length {p : Addr} {H : Hp} : ∀ {xs : List V} {ds : List PyData}, DjAll p H xs ds → xs.length = ds.length
  | _, _, .nil => rfl
  | _, _, .cons _ t => congrArg (· + 1) t.length
theorem DjAll.get {p : Addr} {H : Hp} : ∀ {xs : List V} {ds : List PyData}, DjAll p H xs ds → ∀ (i : Nat) (h1 : i < xs.length) (h2 : i < ds.length), Dj p H xs[i] ds[i]
  | _, _, .cons h _, 0, _, _ => h
  | _, _, .cons _ t, i + 1, h1, h2 => t.get i (by simpa using h1) (by simpa using h2)
def rInSs (K : PySem.W.Frag) (neg : Bool) : R2 := fun x y H Q => ∃ (p l : Addr) (ws : List Str) (d : PyData), y = .ref l ∧ (SqT K H l (ws.map V.str) ∨ SqL K H l (ws.map V.str)) ∧ (∀ w ∈ ws, PyData.strOk w = true) ∧ Dj p H x d ∧ (SeqAt.shaped d = true ∨ d = .dict []) ∧ Q (.bl (if neg then !inS ws d else inS ws d)) H
theorem op_inSs {X : Cx} (hu : X.A.units + 65 < cLine) : OpR X (compareOp .In) (rInSs X.K false) := by
  intro pins s σ H x y v u Q I rx ry want
  obtain ⟨p, l, ws, d, rfl, hl, hw, hx, sd, q⟩ := want
  cases ry
  rcases hl with hl | hl
  · obtain ⟨its, rv, pl, _⟩ := I.tuple hl
    obtain ⟨e, he, ea⟩ := items_eq I hu hx rx sd hw rv
    refine SeqAt.in_tupleAt e pl (fun w hw => he w (by simpa using hw)) ⟨.bl _, H, I, rfl, ?_⟩
    rw [show its.toArray.any e = its.any e by simp, ea]
    exact q
  · obtain ⟨its, rv, pl, _⟩ := I.list hl
    obtain ⟨e, he, ea⟩ := items_eq I hu hx rx sd hw rv
    refine SeqAt.in_listAt e pl.isList (fun w hw => he w (by simpa using hw)) ⟨.bl _, H, I, rfl, ?_⟩
    rw [show its.toArray.any e = its.any e by simp, ea]
    exact q
end Rv
/-! meters, mornings, numbers, rows: whether a value of any kind is one -/
namespace Hs
open PySem PySem.Spec PyProof.Rows L2 Am Rv
def isInt : PyData → Bool
  | .int _ => true
  | _ => false
def isMo (L : Lore) : PyData → Bool
  | .int i => decide (0 ≤ i) && decide (i ≤ L.days)
  | _ => false
def isRm (L : Lore) : PyData → Bool
  | .int i => decide (0 ≤ i) && decide (i ≤ L.days) && decide (0 < i)
  | _ => false
def isNo : PyData → Bool
  | .int i => decide (0 ≤ i) && decide (i ≤ 9999)
  | _ => false
def isMe (L : Lore) (d : PyData) : Bool := inS (metersOf L) d
def isRow (L : Lore) : PyData → Bool
  | .tuple [a, b, c] => isMe L a && (isRm L b && isNo c)
  | _ => false
/-- all meters are names -/
def MeOk (L : Lore) : Prop := ∀ w ∈ metersOf L, PyData.strOk w = true
/-- data that can be looked for -/
def Lk (d : PyData) : Prop := SeqAt.shaped d = true ∨ d = .dict []
/-- so can its items -/
def Lk1 : PyData → Prop
  | .tuple ds => ∀ d ∈ ds, Lk d
  | _ => True
def spWholeD (p : Addr) : Sp := fun vs H Q _ => ∃ (v : V) (d : PyData), vs = [v] ∧ Dj p H v d ∧ Q (.bl (isInt d)) H
def spMe (CH p : Addr) : Sp := fun vs H Q _ => ∃ (h : Addr) (x : Str) (L : Lore) (v : V) (d : PyData), vs = [.ref h, v] ∧ HouseAt CH H h x L ∧ MeOk L ∧ Dj p H v d ∧ Lk d ∧ Q (.bl (isMe L d)) H
def spMo (CH p : Addr) : Sp := fun vs H Q _ => ∃ (h : Addr) (x : Str) (L : Lore) (v : V) (d : PyData), vs = [.ref h, v] ∧ HouseAt CH H h x L ∧ Dj p H v d ∧ Q (.bl (isMo L d)) H
def spRm (CH p : Addr) : Sp := fun vs H Q _ => ∃ (h : Addr) (x : Str) (L : Lore) (v : V) (d : PyData), vs = [.ref h, v] ∧ HouseAt CH H h x L ∧ Dj p H v d ∧ Q (.bl (isRm L d)) H
def spNo (p : Addr) : Sp := fun vs H Q _ => ∃ (v : V) (d : PyData), vs = [v] ∧ Dj p H v d ∧ Q (.bl (isNo d)) H
def spRow (CH p : Addr) : Sp := fun vs H Q _ => ∃ (h : Addr) (x : Str) (L : Lore) (v : V) (d : PyData), vs = [.ref h, v] ∧ HouseAt CH H h x L ∧ MeOk L ∧ Dj p H v d ∧ Lk1 d ∧ Q (.bl (isRow L d)) H
section
variable {P : Program} {w : World} {K : PySem.W.Frag} {mg : Str → Option Value} {base : Heap} {CH p : Addr}
theorem sc_wholeD : FnScope ["value"] ["value"] (defScope sWhole) := ⟨rfl, rfl, rfl, by decide +kernel, rfl, by decide +kernel, by decide +kernel⟩
theorem ok_wholeD {f : Addr} {fd : FuncData} (F : Fun K "is_whole" "is_whole" sWhole f fd) (T : Nm mg) (nint : mg "int" = none) (nbool : mg "bool" = none) : FnOk P w K mg base CX0 1 f fd ["value"] (spWholeD p) := by
  refine F.ok sc_wholeD (fun vs H Q E h => ?_) (fun cdv A outer s H vs Q E hr h => ?_)
  · obtain ⟨v, d, rfl, _⟩ := h
    rfl
  · obtain ⟨v, d, rfl, hv, q⟩ := h
    have b_int_ : bootBuiltins "int" = some (.type "int") := by decide +kernel
    have b_bool_ : bootBuiltins "bool" = some (.type "bool") := by decide +kernel
    refine ⟨_, pss_one (ps_ret (pe_and (pe_callB call_isi (by rfl) T.isi b_isi (pa_cons (pv 0) (pa_cons (pe_bltn (v := .ty "int") (by rfl) nint b_int_ rfl) pa_nil))) (pe_one (pe_not (pe_callB call_isi (by rfl) T.isi b_isi (pa_cons (pv 0) (pa_cons (pe_bltn (v := .ty "bool") (by rfl) nbool b_bool_ rfl) pa_nil))))))), ?_⟩
    obtain ⟨ty_bl, hty_bl, hk_bl⟩ := hv.isi (K := K) .bl
    obtain ⟨ty_int, hty_int, hk_int⟩ := hv.isi (K := K) .int
    refine ⟨_, rfl, v, .ty "int", ty_int, .type "int", _, rfl, .ty _, hty_int, hk_int, _, rfl, ?_⟩
    by_cases h1 : isD .int d = true
    · rw [h1]
      refine iteT ⟨_, rfl, v, .ty "bool", ty_bl, .type "bool", _, rfl, .ty _, hty_bl, hk_bl, _, rfl, ?_⟩
      have e : isInt d = !isD .bl d := by
        cases d <;> first | rfl | cases h1
      rw [e] at q
      exact q
    · rw [show isD .int d = false by simpa using h1]
      have e : isInt d = false := by
        cases d <;> first | rfl | exact absurd rfl h1
      rw [e] at q
      exact iteF q
theorem sc_me : FnScope ["house", "value"] ["house", "value"] (defScope sF_is_meter) := ⟨rfl, rfl, rfl, by decide +kernel, rfl, by decide +kernel, by decide +kernel⟩
theorem ok_me {f : Addr} {fd : FuncData} (F : Fun K "is_meter" "is_meter" sF_is_meter f fd) (ho : HoC K CH) : FnOk P w K mg base CX0 1 f fd ["house", "value"] (spMe CH p) := by
  refine F.ok sc_me (fun vs H Q E h => ?_) (fun cdv A outer s H vs Q E hr h => ?_)
  · obtain ⟨h, x, L, v, d, rfl, _⟩ := h
    rfl
  · obtain ⟨h, x, L, v, d, rfl, hh, ok, hv, lk, q⟩ := h
    have hu65 : (A.deeper (envOfC "is_meter" (defScope sF_is_meter) s.heap.objs.size f cdv)).units + 65 < cLine := by have := hr.un; omega
    refine ⟨_, pss_one (ps_ret (pe_cmpR (op_inSs hu65) (pv 1) (pe_fld (pv 0) rfl) (by rfl))), ?_⟩
    obtain ⟨dx, a, b, c, r, t, pp, rs, ts, ys, h1, h2, h3, h4, _⟩ := hh
    exact ⟨_, rfl, _, rfl, h, CH, dx, _, _, rfl, h1, ho.cl, ho.n4, hfs_me _ _ _ _ _ _ _ _, p, b, metersOf L, d, rfl, .inl (SqT.of h4), ok, hv, lk, q⟩
theorem sc_mo : FnScope ["house", "value"] ["house", "value"] (defScope sF_is_morning) := ⟨rfl, rfl, rfl, by decide +kernel, rfl, by decide +kernel, by decide +kernel⟩
theorem ok_mo {f : Addr} {fd : FuncData} (F : Fun K "is_morning" "is_morning" sF_is_morning f fd) (ho : HoC K CH) (GW : GotF P w K mg base "is_whole" 1 ["value"] (spWholeD p)) : FnOk P w K mg base CX0 2 f fd ["house", "value"] (spMo CH p) := by
  obtain ⟨fW, dW, GW, bW, mW, kW⟩ := GW
  refine F.ok sc_mo (fun vs H Q E h => ?_) (fun cdv A outer s H vs Q E hr h => ?_)
  · obtain ⟨h, x, L, v, d, rfl, _⟩ := h
    rfl
  · obtain ⟨h, x, L, v, d, rfl, hh, hv, q⟩ := h
    have hr1 : Room 1 _ := hr
    refine ⟨_, pss_one (ps_ret (pe_and (pe_call GW hr1 (by rfl) mW kW bW .nil pass0 (pa_cons (pv 1) pa_nil)) (pe_one (pe_chain op_le op_le pe_int (pv 1) (pe_fld (pv 0) rfl))))), ?_⟩
    obtain ⟨dx, a, b, c, r, t, pp, rs, ts, ys, h1, _⟩ := hh
    refine ⟨_, rfl, v, d, rfl, hv, _, rfl, ?_⟩
    by_cases e1 : isInt d = true
    · rw [e1]
      obtain ⟨i, rfl⟩ : ∃ i, d = .int i := by
        cases d <;> first | exact ⟨_, rfl⟩ | cases e1
      cases hv
      refine iteT ⟨_, rfl, _, _, rfl, rfl, _, rfl, ?_⟩
      have e : isMo L (.int i) = (decide (0 ≤ i) && decide (i ≤ (L.days : Int))) := rfl
      rw [e] at q
      cases c3 : decide (0 ≤ i) with
      | true =>
        rw [c3] at q
        exact iteT ⟨_, rfl, h, CH, dx, _, _, rfl, h1, ho.cl, ho.n2, hfs_da _ _ _ _ _ _ _ _, _, _, rfl, rfl, q⟩
      | false =>
        rw [c3] at q
        exact iteF q
    · rw [show isInt d = false by simpa using e1]
      have e : isMo L d = false := by
        cases d <;> first | rfl | exact absurd rfl e1
      rw [e] at q
      exact iteF q
theorem sc_rm : FnScope ["house", "value"] ["house", "value"] (defScope sF_is_row_morning) := ⟨rfl, rfl, rfl, by decide +kernel, rfl, by decide +kernel, by decide +kernel⟩
theorem ok_rm {f : Addr} {fd : FuncData} (F : Fun K "is_row_morning" "is_row_morning" sF_is_row_morning f fd) (GO : GotF P w K mg base "is_morning" 2 ["house", "value"] (spMo CH p)) : FnOk P w K mg base CX0 3 f fd ["house", "value"] (spRm CH p) := by
  obtain ⟨fO, dO, GO, bO, mO, kO⟩ := GO
  refine F.ok sc_rm (fun vs H Q E h => ?_) (fun cdv A outer s H vs Q E hr h => ?_)
  · obtain ⟨h, x, L, v, d, rfl, _⟩ := h
    rfl
  · obtain ⟨h, x, L, v, d, rfl, hh, hv, q⟩ := h
    have hr2 : Room 2 _ := hr
    refine ⟨_, pss_one (ps_ret (pe_and (pe_call GO hr2 (by rfl) mO kO bO .nil pass0 (pa_cons (pv 0) (pa_cons (pv 1) pa_nil))) (pe_one (pe_cmpR op_gt (pv 1) pe_int (nomark _))))), ?_⟩
    refine ⟨_, rfl, _, rfl, h, x, L, v, d, rfl, hh, hv, _, rfl, ?_⟩
    by_cases e1 : isMo L d = true
    · rw [e1]
      obtain ⟨i, rfl⟩ : ∃ i, d = .int i := by
        cases d <;> first | exact ⟨_, rfl⟩ | cases e1
      cases hv
      have e : isRm L (.int i) = (isMo L (.int i) && decide (0 < i)) := rfl
      rw [e, e1] at q
      exact iteT ⟨_, rfl, _, _, rfl, rfl, q⟩
    · rw [show isMo L d = false by simpa using e1]
      have e : isRm L d = false := by
        cases d with
        | int i =>
          have e : isRm L (.int i) = (isMo L (.int i) && decide (0 < i)) := rfl
          rw [e, show isMo L (.int i) = false by simpa using e1]
          rfl
        | _ => rfl
      rw [e] at q
      exact iteF q
theorem sc_no : FnScope ["value"] ["value"] (defScope sF_is_number) := ⟨rfl, rfl, rfl, by decide +kernel, rfl, by decide +kernel, by decide +kernel⟩
theorem ok_no {f : Addr} {fd : FuncData} (F : Fun K "is_number" "is_number" sF_is_number f fd) (mG : ∃ t, mg "GREATEST" = some (.int 9999 t)) (GW : GotF P w K mg base "is_whole" 1 ["value"] (spWholeD p)) : FnOk P w K mg base CX0 2 f fd ["value"] (spNo p) := by
  obtain ⟨fW, dW, GW, bW, mW, kW⟩ := GW
  refine F.ok sc_no (fun vs H Q E h => ?_) (fun cdv A outer s H vs Q E hr h => ?_)
  · obtain ⟨v, d, rfl, _⟩ := h
    rfl
  · obtain ⟨v, d, rfl, hv, q⟩ := h
    obtain ⟨tG, mG⟩ := mG
    have hr1 : Room 1 _ := hr
    refine ⟨_, pss_one (ps_ret (pe_and (pe_call GW hr1 (by rfl) mW kW bW .nil pass0 (pa_cons (pv 0) pa_nil)) (pe_one (pe_chain op_le op_le pe_int (pv 0) (pe_glob (v := .int 9999) (by rfl) mG ⟨_, rfl⟩))))), ?_⟩
    refine ⟨_, rfl, v, d, rfl, hv, _, rfl, ?_⟩
    by_cases e1 : isInt d = true
    · rw [e1]
      obtain ⟨i, rfl⟩ : ∃ i, d = .int i := by
        cases d <;> first | exact ⟨_, rfl⟩ | cases e1
      cases hv
      refine iteT ⟨_, rfl, _, _, rfl, rfl, _, rfl, ?_⟩
      have e : isNo (.int i) = (decide (0 ≤ i) && decide (i ≤ 9999)) := rfl
      rw [e] at q
      cases c3 : decide (0 ≤ i) with
      | true =>
        rw [c3] at q
        exact iteT ⟨_, _, rfl, rfl, q⟩
      | false =>
        rw [c3] at q
        exact iteF q
    · rw [show isInt d = false by simpa using e1]
      have e : isNo d = false := by
        cases d <;> first | rfl | exact absurd rfl e1
      rw [e] at q
      exact iteF q
theorem sc_row : FnScope ["house", "value"] ["house", "value"] (defScope sF_is_row) := ⟨rfl, rfl, rfl, by decide +kernel, rfl, by decide +kernel, by decide +kernel⟩
theorem ok_row {f : Addr} {fd : FuncData} (F : Fun K "is_row" "is_row" sF_is_row f fd) (T : Nm mg) (ntup : mg "tuple" = none) (GM : GotF P w K mg base "is_meter" 1 ["house", "value"] (spMe CH p)) (GR : GotF P w K mg base "is_row_morning" 3 ["house", "value"] (spRm CH p)) (GU : GotF P w K mg base "is_number" 2 ["value"] (spNo p)) : FnOk P w K mg base CX0 4 f fd ["house", "value"] (spRow CH p) := by
  obtain ⟨fM, dM, GM, bM, mM, kM⟩ := GM
  obtain ⟨fR, dR, GR, bR, mR, kR⟩ := GR
  obtain ⟨fU, dU, GU, bU, mU, kU⟩ := GU
  refine F.ok sc_row (fun vs H Q E h => ?_) (fun cdv A outer s H vs Q E hr h => ?_)
  · obtain ⟨h, x, L, v, d, rfl, _⟩ := h
    rfl
  · obtain ⟨h, x, L, v, d, rfl, hh, ok, hv, lk, q⟩ := h
    have hr1 : Room 1 _ := hr.mono (by decide)
    have hr2 : Room 2 _ := hr.mono (by decide)
    have hr3 : Room 3 _ := hr
    have b_tup_ : bootBuiltins "tuple" = some (.type "tuple") := by decide +kernel
    refine ⟨_, (pss_cons (ps_if (PW.pt (pw_or (pt_not (pt_val (pe_callB call_isi (by rfl) T.isi b_isi (pa_cons (pv 1) (pa_cons (pe_bltn (v := .ty "tuple") (by rfl) ntup b_tup_ rfl) pa_nil))))) (pw_or1 (pt_cmpR op_ne (pe_callB call_len_seq (by rfl) T.len PySem.boot_len (pa_cons (pv 1) pa_nil)) pe_int (nomark _))))) (pss_one (ps_ret pe_bl)) pss_nil)
      (pss_one (ps_ret (pe_and (pe_call GM hr1 (by rfl) mM kM bM .nil pass0 (pa_cons (pv 0) (pa_cons (pe_ix ix_tup (pv 1) pe_int (fun _ _ => rfl)) pa_nil))) (pe_and (pe_call GR hr3 (by rfl) mR kR bR .nil pass0 (pa_cons (pv 0) (pa_cons (pe_ix ix_tup (pv 1) pe_int (fun _ _ => rfl)) pa_nil))) (pe_one (pe_call GU hr2 (by rfl) mU kU bU .nil pass0 (pa_cons (pe_ix ix_tup (pv 1) pe_int (fun _ _ => rfl)) pa_nil)))))))), ?_⟩
    obtain ⟨ty, hty, hk⟩ := hv.isi (K := K) .tup
    refine ⟨_, rfl, v, .ty "tuple", ty, .type "tuple", _, rfl, .ty _, hty, hk, _, rfl, ?_⟩
    by_cases e1 : isD .tup d = true
    · rw [e1]
      obtain ⟨ds, rfl⟩ : ∃ ds, d = .tuple ds := by
        cases d <;> first | exact ⟨_, rfl⟩ | cases e1
      cases hv with
      | tup ha all =>
      rename_i a xs
      have ll := all.length
      refine iteF ⟨_, rfl, a, _, rfl, .inr (SqT.of ha), rfl, _, rfl, ?_⟩
      rw [int_eq]
      by_cases c : xs.length = 3
      · rw [decide_eq_true (show (xs.length : Int) = 3 by omega)]
        obtain ⟨y1, y2, y3, rfl⟩ : ∃ y1 y2 y3, xs = [y1, y2, y3] := by
          match xs, c with
          | [y1, y2, y3], _ => exact ⟨_, _, _, rfl⟩
        obtain ⟨z1, z2, z3, rfl⟩ : ∃ z1 z2 z3, ds = [z1, z2, z3] := by
          match ds, ll with
          | [z1, z2, z3], _ => exact ⟨_, _, _, rfl⟩
        cases all with
        | cons d1 all =>
        cases all with
        | cons d2 all =>
        cases all with
        | cons d3 all =>
        have e : isRow L (.tuple [z1, z2, z3]) = (isMe L z1 && (isRm L z2 && isNo z3)) := rfl
        rw [e] at q
        refine iteF ⟨_, rfl, _, rfl, a, _, _, _, rfl, rfl, SqT.of ha, rfl, h, x, L, y1, z1, rfl, hh, ok, d1, lk z1 (by simp), _, rfl, ?_⟩
        cases c1 : isMe L z1 with
        | false =>
          rw [c1] at q
          exact iteF q
        | true =>
          rw [c1] at q
          refine iteT ⟨_, rfl, _, rfl, a, _, _, _, rfl, rfl, SqT.of ha, rfl, h, x, L, y2, z2, rfl, hh, d2, _, rfl, ?_⟩
          cases c2 : isRm L z2 with
          | false =>
            rw [c2] at q
            exact iteF q
          | true =>
            rw [c2] at q
            exact iteT ⟨_, rfl, a, _, _, _, rfl, rfl, SqT.of ha, rfl, y3, z3, rfl, d3, q⟩
      · rw [decide_eq_false (show ¬ (xs.length : Int) = 3 by omega)]
        have e : isRow L (.tuple ds) = false := by
          unfold isRow
          split
          · rename_i heq
            cases heq
            exact absurd ll c
          · rfl
        rw [e] at q
        exact iteT q
    · rw [show isD .tup d = false by simpa using e1]
      have e : isRow L d = false := by
        cases d <;> first | rfl | exact absurd rfl e1
      rw [e] at q
      exact iteT (iteT q)
end
end Hs
/-! tuples of texts and ints: their order, ==, whether they are in a list or a tuple; a list == [] -/
namespace Ot
open PySem PySem.Spec PyProof.Rows L2
/-- one item before another -/
def kLt : Key → Key → Bool
  | .inl i, .inl j => decide (i < j)
  | .inr s, .inr t => decide (s.cps.toList < t.cps.toList)
  | _, _ => false
/-- items of one kind, place by place -/
def kin : List Key → List Key → Bool
  | .inl _ :: a, .inl _ :: b => kin a b
  | .inr _ :: a, .inr _ :: b => kin a b
  | [], _ => true
  | _, [] => true
  | _, _ => false
def lexK : List Key → List Key → Bool
  | a :: as, b :: bs => if a = b then lexK as bs else kLt a b
  | [], _ :: _ => true
  | _, [] => false
section
variable {A : Around} {s : Shared}
theorem eq_key {a b : Key} {v u : Value} (ra : RelV (kV a) v) (rb : RelV (kV b) u) : SeqAt.EqAt A s v u (decide (a = b)) := by
  cases a with
  | inl i =>
    obtain ⟨t, rfl⟩ := ra
    cases b with
    | inl j =>
      obtain ⟨t', rfl⟩ := rb
      have e : decide ((Sum.inl i : Key) = Sum.inl j) = (i == j) := by
        rw [Bool.eq_iff_iff]
        simp
      rw [e]
      exact SeqAt.EqAt.int_int _ _ _ _
    | inr z =>
      obtain ⟨t', rfl⟩ := rb
      exact SeqAt.EqAt.int_str _ _ _ _
  | inr z =>
    obtain ⟨t, rfl⟩ := ra
    cases b with
    | inl j =>
      obtain ⟨t', rfl⟩ := rb
      exact SeqAt.EqAt.str_int _ _ _ _
    | inr y =>
      obtain ⟨t', rfl⟩ := rb
      have e : decide ((Sum.inr z : Key) = Sum.inr y) = (z == y) := by
        rw [Bool.eq_iff_iff]
        simp
      rw [e]
      exact SeqAt.EqAt.str_str _ _ _ _
theorem lt_key {a b : Key} {v u : Value} (ra : RelV (kV a) v) (rb : RelV (kV b) u) (k : kin [a] [b] = true) : Ob.RcOp .Lt A s v u (kLt a b) := by
  cases a with
  | inl i =>
    obtain ⟨t, rfl⟩ := ra
    cases b with
    | inl j =>
      obtain ⟨t', rfl⟩ := rb
      exact Ob.RcOp.lt_int _ _ _ _
    | inr z => cases k
  | inr z =>
    obtain ⟨t, rfl⟩ := ra
    cases b with
    | inl j => cases k
    | inr y =>
      obtain ⟨t', rfl⟩ := rb
      exact fun _ _ _ _ h => lt_str h
theorem gt_key {a b : Key} {v u : Value} (ra : RelV (kV a) v) (rb : RelV (kV b) u) (k : kin [a] [b] = true) : Ob.RcOp .Gt A s v u (kLt b a) := by
  cases a with
  | inl i =>
    obtain ⟨t, rfl⟩ := ra
    cases b with
    | inl j =>
      obtain ⟨t', rfl⟩ := rb
      exact Ob.RcOp.gt_int _ _ _ _
    | inr z => cases k
  | inr z =>
    obtain ⟨t, rfl⟩ := ra
    cases b with
    | inl j => cases k
    | inr y =>
      obtain ⟨t', rfl⟩ := rb
      exact fun _ _ _ _ h => PySem.P.gt_str h
end
theorem vals_at : ∀ {xs : List V} {us : List Value}, Vals xs us → ∀ j (h1 : j < xs.length) (h2 : j < us.length), RelV xs[j] us[j]
  | _, _, .cons r _, 0, _, _ => r
  | _, _, .cons _ rs, j + 1, h1, h2 => vals_at rs j (Nat.lt_of_succ_lt_succ h1) (Nat.lt_of_succ_lt_succ h2)
theorem kin_at : ∀ {a b : List Key}, kin a b = true → ∀ j (h1 : j < a.length) (h2 : j < b.length), kin [a[j]] [b[j]] = true := by
  intro a
  induction a with
  | nil => intro b _ j h1; exact absurd h1 (Nat.not_lt_zero j)
  | cons x as ih =>
    intro b h j h1 h2
    cases b with
    | nil => exact absurd h2 (Nat.not_lt_zero j)
    | cons y bs =>
      cases j with
      | zero => cases x <;> cases y <;> first | rfl | cases h
      | succ j =>
        have h' : kin as bs = true := by cases x <;> cases y <;> first | exact h | cases h
        exact ih h' j (by simpa using h1) (by simpa using h2)
theorem lex_shift {e r : Nat → Bool} {z : Bool} : ∀ (k i : Nat), Ob.lexAt e r z (i + 1) k = Ob.lexAt (fun j => e (j + 1)) (fun j => r (j + 1)) z i k
  | 0, _ => rfl
  | k + 1, i => by
    rw [Ob.lexAt_succ, Ob.lexAt_succ, lex_shift k (i + 1)]
theorem lex_congr {e r e' r' : Nat → Bool} {z : Bool} : ∀ (k i : Nat), (∀ j, i ≤ j → j < i + k → e j = e' j ∧ r j = r' j) → Ob.lexAt e r z i k = Ob.lexAt e' r' z i k
  | 0, _, _ => rfl
  | k + 1, i, h => by
    rw [Ob.lexAt_succ, Ob.lexAt_succ, (h i (Nat.le_refl _) (by omega)).1, (h i (Nat.le_refl _) (by omega)).2, lex_congr k (i + 1) fun j h1 h2 => h j (by omega) (by omega)]
/-- the order of the library's, place by place, as one over lists -/
theorem lex_eq (f : Key → Key → Bool) : ∀ (a b : List Key) (z : Bool), Ob.lexAt (fun j => decide (a[j]? = b[j]?)) (fun j => match a[j]?, b[j]? with | some x, some y => f x y | _, _ => false) z 0 (min a.length b.length) =
    (match a, b with
      | x :: as, y :: bs => if x = y then Ob.lexAt (fun j => decide (as[j]? = bs[j]?)) (fun j => match as[j]?, bs[j]? with | some x, some y => f x y | _, _ => false) z 0 (min as.length bs.length) else f x y
      | _, _ => z)
  | [], b, z => by simp [Ob.lexAt_zero]
  | _ :: _, [], z => by simp [Ob.lexAt_zero]
  | x :: as, y :: bs, z => by
    rw [List.length_cons, List.length_cons, show min (as.length + 1) (bs.length + 1) = min as.length bs.length + 1 by omega, Ob.lexAt_succ, lex_shift]
    simp only [List.getElem?_cons_zero, List.getElem?_cons_succ, Option.some.injEq, decide_eq_true_eq]
theorem lexK_eq : ∀ (a b : List Key), Ob.lexAt (fun j => decide (a[j]? = b[j]?)) (fun j => match a[j]?, b[j]? with | some x, some y => kLt x y | _, _ => false) (decide (a.length < b.length)) 0 (min a.length b.length) = lexK a b
  | [], [] => rfl
  | [], _ :: _ => by simp [Ob.lexAt_zero, lexK]
  | _ :: _, [] => by simp [Ob.lexAt_zero, lexK]
  | x :: as, y :: bs => by
    have ih := lexK_eq as bs
    rw [lex_eq kLt]
    show (if x = y then _ else kLt x y) = lexK (x :: as) (y :: bs)
    unfold lexK
    by_cases c : x = y
    · rw [if_pos c, if_pos c, ← ih, List.length_cons, List.length_cons]
      congr 1
      rw [decide_eq_decide]
      omega
    · rw [if_neg c, if_neg c]
theorem lexK_eqG : ∀ (a b : List Key), Ob.lexAt (fun j => decide (a[j]? = b[j]?)) (fun j => match a[j]?, b[j]? with | some x, some y => kLt y x | _, _ => false) (decide (b.length < a.length)) 0 (min a.length b.length) = lexK b a
  | [], [] => rfl
  | [], _ :: _ => by simp [Ob.lexAt_zero, lexK]
  | _ :: _, [] => by simp [Ob.lexAt_zero, lexK]
  | x :: as, y :: bs => by
    have ih := lexK_eqG as bs
    rw [lex_eq fun x y => kLt y x]
    show (if x = y then _ else kLt y x) = lexK (y :: bs) (x :: as)
    unfold lexK
    by_cases c : x = y
    · rw [if_pos c, if_pos c.symm, ← ih, List.length_cons, List.length_cons]
      congr 1
      rw [decide_eq_decide]
      omega
    · rw [if_neg c, if_neg (Ne.symm c)]
section
variable {X : Cx}
def rLtK (K : PySem.W.Frag) : R2 := fun x y H Q => ∃ (a b : Addr) (ks ms : List Key), x = .ref a ∧ y = .ref b ∧ SqT K H a (ks.map kV) ∧ SqT K H b (ms.map kV) ∧ kin ks ms = true ∧ Q (.bl (lexK ks ms)) H
def rGtK (K : PySem.W.Frag) : R2 := fun x y H Q => ∃ (a b : Addr) (ks ms : List Key), x = .ref a ∧ y = .ref b ∧ SqT K H a (ks.map kV) ∧ SqT K H b (ms.map kV) ∧ kin ks ms = true ∧ Q (.bl (lexK ms ks)) H
theorem op_ltK (hu : X.A.units < cLine) : OpR X (compareOp .Lt) (rLtK X.K) := by
  intro pins s σ H x y v u Q I rx ry want
  obtain ⟨a, b, ks, ms, rfl, rfl, ha, hb, k, q⟩ := want
  cases rx
  cases ry
  obtain ⟨its, r1, p1, _⟩ := I.tuple ha
  obtain ⟨its2, r2, p2, _⟩ := I.tuple hb
  have l1 := r1.length
  have l2 := r2.length
  rw [List.length_map] at l1 l2
  have key := Ob.RcOp.tuples_lt (A := X.A) (e := fun j => decide (ks[j]? = ms[j]?)) (r := fun j => match ks[j]?, ms[j]? with | some x, some y => kLt x y | _, _ => false) p1 p2 hu
    (fun j h1 h2 => by
      have h1 : j < its.length := by simpa using h1
      have h2 : j < its2.length := by simpa using h2
      have i1 := vals_at r1 j (by rw [List.length_map]; omega) h1
      have i2 := vals_at r2 j (by rw [List.length_map]; omega) h2
      rw [List.getElem_map] at i1 i2
      have := eq_key (A := X.A.in1) (s := s) i1 i2
      simp only [List.getElem?_eq_getElem (show j < ks.length by omega), List.getElem?_eq_getElem (show j < ms.length by omega), Option.some.injEq]
      simpa using this)
    (fun j h1 h2 _ => by
      have h1 : j < its.length := by simpa using h1
      have h2 : j < its2.length := by simpa using h2
      have i1 := vals_at r1 j (by rw [List.length_map]; omega) h1
      have i2 := vals_at r2 j (by rw [List.length_map]; omega) h2
      rw [List.getElem_map] at i1 i2
      have := lt_key (A := X.A.in1) (s := s) i1 i2 (kin_at k j _ _)
      simp only [List.getElem?_eq_getElem (show j < ks.length by omega), List.getElem?_eq_getElem (show j < ms.length by omega)]
      simpa using this)
  have e : Ob.lexAt (fun j => decide (ks[j]? = ms[j]?)) (fun j => match ks[j]?, ms[j]? with | some x, some y => kLt x y | _, _ => false) (decide (its.toArray.size < its2.toArray.size)) 0 (min its.toArray.size its2.toArray.size) = lexK ks ms := by
    rw [← lexK_eq, List.size_toArray, List.size_toArray, l1, l2]
  rw [e] at key
  exact key _ _ _ _ ⟨.bl _, H, I, rfl, q⟩
theorem op_gtK (hu : X.A.units < cLine) : OpR X (compareOp .Gt) (rGtK X.K) := by
  intro pins s σ H x y v u Q I rx ry want
  obtain ⟨a, b, ks, ms, rfl, rfl, ha, hb, k, q⟩ := want
  cases rx
  cases ry
  obtain ⟨its, r1, p1, _⟩ := I.tuple ha
  obtain ⟨its2, r2, p2, _⟩ := I.tuple hb
  have l1 := r1.length
  have l2 := r2.length
  rw [List.length_map] at l1 l2
  have key := Ob.RcOp.tuples_gt (A := X.A) (e := fun j => decide (ks[j]? = ms[j]?)) (r := fun j => match ks[j]?, ms[j]? with | some x, some y => kLt y x | _, _ => false) p1 p2 hu
    (fun j h1 h2 => by
      have h1 : j < its.length := by simpa using h1
      have h2 : j < its2.length := by simpa using h2
      have i1 := vals_at r1 j (by rw [List.length_map]; omega) h1
      have i2 := vals_at r2 j (by rw [List.length_map]; omega) h2
      rw [List.getElem_map] at i1 i2
      have := eq_key (A := X.A.in1) (s := s) i1 i2
      simp only [List.getElem?_eq_getElem (show j < ks.length by omega), List.getElem?_eq_getElem (show j < ms.length by omega), Option.some.injEq]
      simpa using this)
    (fun j h1 h2 _ => by
      have h1 : j < its.length := by simpa using h1
      have h2 : j < its2.length := by simpa using h2
      have i1 := vals_at r1 j (by rw [List.length_map]; omega) h1
      have i2 := vals_at r2 j (by rw [List.length_map]; omega) h2
      rw [List.getElem_map] at i1 i2
      have := gt_key (A := X.A.in1) (s := s) i1 i2 (kin_at k j _ _)
      simp only [List.getElem?_eq_getElem (show j < ks.length by omega), List.getElem?_eq_getElem (show j < ms.length by omega)]
      simpa using this)
  have e : Ob.lexAt (fun j => decide (ks[j]? = ms[j]?)) (fun j => match ks[j]?, ms[j]? with | some x, some y => kLt y x | _, _ => false) (decide (its2.toArray.size < its.toArray.size)) 0 (min its.toArray.size its2.toArray.size) = lexK ms ks := by
    rw [← lexK_eqG, List.size_toArray, List.size_toArray, l1, l2]
  rw [e] at key
  exact key _ _ _ _ ⟨.bl _, H, I, rfl, q⟩
end
/-! ### == -/
section
variable {A : Around} {s : Shared}
theorem all_keys : ∀ {ks ms : List Key}, ((List.range (min ks.length ms.length)).all (fun j => decide (ks[j]? = ms[j]?)) && decide (ks.length = ms.length)) = decide (ks = ms) := by
  intro ks ms
  rw [Bool.eq_iff_iff, Bool.and_eq_true, List.all_eq_true, decide_eq_true_eq, decide_eq_true_eq]
  constructor
  · rintro ⟨h, l⟩
    apply List.ext_getElem? 
    intro j
    by_cases c : j < ks.length
    · exact of_decide_eq_true (h j (List.mem_range.mpr (by omega)))
    · rw [List.getElem?_eq_none (by omega), List.getElem?_eq_none (by omega)]
  · rintro rfl
    exact ⟨fun j _ => decide_eq_true rfl, rfl⟩
theorem eq_keys {a b : Addr} {ks ms : List Key} {its its2 : List Value} (p1 : s.heap.IsTuple a its.toArray) (p2 : s.heap.IsTuple b its2.toArray) (r1 : Vals (ks.map kV) its) (r2 : Vals (ms.map kV) its2) (hu : A.units < cLine) : SeqAt.RcAt A s (.ref a) (.ref b) (decide (ks = ms)) := by
  have l1 := r1.length
  have l2 := r2.length
  rw [List.length_map] at l1 l2
  have key := SeqAt.RcAt.tuples (A := A) (e := fun j => decide (ks[j]? = ms[j]?)) p1 p2 hu
    (fun j h1 h2 => by
      have h1 : j < its.length := by simpa using h1
      have h2 : j < its2.length := by simpa using h2
      have i1 := vals_at r1 j (by rw [List.length_map]; omega) h1
      have i2 := vals_at r2 j (by rw [List.length_map]; omega) h2
      rw [List.getElem_map] at i1 i2
      have := eq_key (A := A.in1) (s := s) i1 i2
      simp only [List.getElem?_eq_getElem (show j < ks.length by omega), List.getElem?_eq_getElem (show j < ms.length by omega), Option.some.injEq]
      simpa using this)
  have e : ((List.range (min its.toArray.size its2.toArray.size)).all (fun j => decide (ks[j]? = ms[j]?)) && its.toArray.size == its2.toArray.size) = decide (ks = ms) := by
    rw [← all_keys, List.size_toArray, List.size_toArray, ← l1, ← l2]
    congr 1
  rw [e] at key
  exact key
theorem key_rel {a b : Key} {v : Value} (ra : RelV (kV a) v) (rb : RelV (kV b) v) : a = b := by
  cases a with
  | inl i =>
    obtain ⟨t, rfl⟩ := ra
    cases b with
    | inl j => obtain ⟨t', e⟩ := rb; cases e; rfl
    | inr z => obtain ⟨t', e⟩ := rb; cases e
  | inr z =>
    obtain ⟨t, rfl⟩ := ra
    cases b with
    | inl j => obtain ⟨t', e⟩ := rb; cases e
    | inr y => obtain ⟨t', e⟩ := rb; cases e; rfl
theorem keys_rel : ∀ {ks ms : List Key} {its : List Value}, Vals (ks.map kV) its → Vals (ms.map kV) its → ks = ms
  | [], [], _, _, _ => rfl
  | [], _ :: _, _, r1, r2 => by cases r1; cases r2
  | _ :: _, [], _, r1, r2 => by cases r2; cases r1
  | _ :: _, _ :: _, _, r1, r2 => by
    cases r1 with
    | cons a as =>
      cases r2 with
      | cons b bs => rw [key_rel a b, keys_rel as bs]
theorem eqAt_keys {a b : Addr} {ks ms : List Key} {its its2 : List Value} (p1 : s.heap.IsTuple a its.toArray) (p2 : s.heap.IsTuple b its2.toArray) (r1 : Vals (ks.map kV) its) (r2 : Vals (ms.map kV) its2) (hu : A.units < cLine) : SeqAt.EqAt A s (Value.ref a) (Value.ref b) (decide (ks = ms)) := fun prog w E Q h => by
  unfold eqBool
  refine wpAny_holding ?_
  refine wpAny_ite_split (fun hab => ?_) (fun _ => ?_)
  · have e : a = b := by
      have := eq_of_beq hab
      injection this
    subst e
    obtain ⟨o1, h1, _, n1, d1⟩ := p1
    obtain ⟨o2, h2, _, n2, d2⟩ := p2
    rw [h1] at h2
    cases h2
    rw [d1] at d2
    have e2 : its = its2 := by
      injection d2 with d2
      simpa using d2
    subst e2
    rw [decide_eq_true (keys_rel r1 r2)] at h
    exact wpAny_bind (wpAny_rule (wpAny_pure h))
  · exact wpAny_bind (eq_keys p1 p2 r1 r2 hu prog w E _ (wpAny_truthy_bool h))
end
section
variable {X : Cx}
def rEqK (K : PySem.W.Frag) : R2 := fun x y H Q => ∃ (a b : Addr) (ks ms : List Key), x = .ref a ∧ y = .ref b ∧ SqT K H a (ks.map kV) ∧ SqT K H b (ms.map kV) ∧ Q (.bl (decide (ks = ms))) H
def rNeK (K : PySem.W.Frag) : R2 := fun x y H Q => ∃ (a b : Addr) (ks ms : List Key), x = .ref a ∧ y = .ref b ∧ SqT K H a (ks.map kV) ∧ SqT K H b (ms.map kV) ∧ Q (.bl (!decide (ks = ms))) H
theorem op_eqK (hu : X.A.units < cLine) : OpR X (compareOp .Eq) (rEqK X.K) := by
  intro pins s σ H x y v u Q I rx ry want
  obtain ⟨a, b, ks, ms, rfl, rfl, ha, hb, q⟩ := want
  cases rx
  cases ry
  obtain ⟨its, r1, p1, _⟩ := I.tuple ha
  obtain ⟨its2, r2, p2, _⟩ := I.tuple hb
  exact eq_keys (A := X.A) p1 p2 r1 r2 hu _ _ _ _ ⟨.bl _, H, I, rfl, q⟩
theorem op_neK (hu : X.A.units < cLine) : OpR X (compareOp .NotEq) (rNeK X.K) := by
  intro pins s σ H x y v u Q I rx ry want
  obtain ⟨a, b, ks, ms, rfl, rfl, ha, hb, q⟩ := want
  cases rx
  cases ry
  obtain ⟨its, r1, p1, _⟩ := I.tuple ha
  obtain ⟨its2, r2, p2, _⟩ := I.tuple hb
  have l1 := r1.length
  have l2 := r2.length
  rw [List.length_map] at l1 l2
  have key := SeqAt.RcNeAt.tuples (A := X.A) (e := fun j => decide (ks[j]? = ms[j]?)) p1 p2 hu
    (fun j h1 h2 => by
      have h1 : j < its.length := by simpa using h1
      have h2 : j < its2.length := by simpa using h2
      have i1 := vals_at r1 j (by rw [List.length_map]; omega) h1
      have i2 := vals_at r2 j (by rw [List.length_map]; omega) h2
      rw [List.getElem_map] at i1 i2
      have := eq_key (A := X.A.in1) (s := s) i1 i2
      simp only [List.getElem?_eq_getElem (show j < ks.length by omega), List.getElem?_eq_getElem (show j < ms.length by omega), Option.some.injEq]
      simpa using this)
  have e : ((List.range (min its.toArray.size its2.toArray.size)).all (fun j => decide (ks[j]? = ms[j]?)) && its.toArray.size == its2.toArray.size) = decide (ks = ms) := by
    rw [← all_keys, List.size_toArray, List.size_toArray, ← l1, ← l2]
    congr 1
  rw [e] at key
  exact key _ _ _ _ ⟨.bl _, H, I, rfl, q⟩
/-- whether such a tuple is among those of a list or a tuple -/
def Keyd (K : PySem.W.Frag) (H : Hp) (xs : List V) (ms : List (List Key)) : Prop := xs.length = ms.length ∧ ∀ (i : Nat) (x : V) (m : List Key), xs[i]? = some x → ms[i]? = some m → ∃ a : Addr, x = V.ref a ∧ SqT K H a (m.map kV)
def inK (ks : List Key) (ms : List (List Key)) : Bool := ms.any fun m => decide (m = ks)
def rInK (K : PySem.W.Frag) (neg : Bool) : R2 := fun x y H Q => ∃ (a b : Addr) (ks : List Key) (xs : List V) (ms : List (List Key)), x = .ref a ∧ y = .ref b ∧ SqT K H a (ks.map kV) ∧ (SqT K H b xs ∨ SqL K H b xs) ∧ Keyd K H xs ms ∧ Q (.bl (if neg then !inK ks ms else inK ks ms)) H
theorem in_items {pins : List (Addr × Obj)} {σ : L2.St} {H : Hp} {s : Shared} {a : Addr} {ks : List Key} {xs : List V} {ms : List (List Key)} {its : List Value} (I : Inv X pins σ H s) (hu : X.A.units + 1 < cLine) (ha : SqT X.K H a (ks.map kV)) (kd : Keyd X.K H xs ms) (rv : Vals xs its) :
    ∃ e : Value → Bool, (∀ y ∈ its, SeqAt.EqAt X.A.in1 s y (Value.ref a) (e y)) ∧ its.any e = inK ks ms := by
  obtain ⟨ita, ra, pa, _⟩ := I.tuple ha
  have each : ∀ (y : Value), y ∈ its → ∃ m : List Key, (∀ i (h : i < its.length), its[i] = y → ms[i]? = some m ∨ ∃ m', ms[i]? = some m' ∧ m' = m) ∧ SeqAt.EqAt X.A.in1 s y (Value.ref a) (decide (m = ks)) := fun y hy => by
    obtain ⟨i, hi, rfl⟩ := List.mem_iff_getElem.mp hy
    have lx := rv.length
    have hx : i < xs.length := by omega
    have hm : i < ms.length := by have := kd.1; omega
    obtain ⟨b, e, hb⟩ := kd.2 i xs[i] ms[i] (List.getElem?_eq_getElem hx) (List.getElem?_eq_getElem hm)
    have rel := vals_at rv i hx hi
    rw [e] at rel
    have e2 : its[i] = Value.ref b := rel
    obtain ⟨itb, rb, pb, _⟩ := I.tuple hb
    refine ⟨ms[i], fun j hj ej => ?_, ?_⟩
    · have hx' : j < xs.length := by omega
      have hm' : j < ms.length := by have := kd.1; omega
      obtain ⟨b', e', hb'⟩ := kd.2 j xs[j] ms[j] (List.getElem?_eq_getElem hx') (List.getElem?_eq_getElem hm')
      have rel' := vals_at rv j hx' hj
      rw [e', ej, e2] at rel'
      have : b = b' := by
        have rel' : Value.ref b = Value.ref b' := rel'
        injection rel'
      subst this
      obtain ⟨itb', rb', pb', _⟩ := I.tuple hb'
      refine .inr ⟨ms[j], List.getElem?_eq_getElem hm', ?_⟩
      obtain ⟨o1, h1, _, n1, d1⟩ := pb
      obtain ⟨o2, h2, _, n2, d2⟩ := pb'
      rw [h1] at h2
      cases h2
      rw [d1] at d2
      have e3 : itb = itb' := by
        injection d2 with d2
        simpa using d2
      subst e3
      exact keys_rel rb' rb
    · rw [e2]
      exact eqAt_keys pb pa rb ra (by show X.A.units + 1 < cLine; omega)
  classical
  refine ⟨fun y => if h : y ∈ its then decide (Classical.choose (each y h) = ks) else false, fun y hy => ?_, ?_⟩
  · simp only [dif_pos hy]
    exact (Classical.choose_spec (each y hy)).2
  · unfold inK
    rw [Bool.eq_iff_iff, List.any_eq_true, List.any_eq_true]
    constructor
    · rintro ⟨y, hy, e⟩
      simp only [dif_pos hy] at e
      have e := of_decide_eq_true e
      obtain ⟨i, hi, rfl⟩ := List.mem_iff_getElem.mp hy
      rcases (Classical.choose_spec (each its[i] hy)).1 i hi rfl with h | ⟨m', h, e2⟩
      · rw [e] at h
        exact ⟨ks, List.mem_of_getElem? h, decide_eq_true rfl⟩
      · rw [e2, e] at h
        exact ⟨ks, List.mem_of_getElem? h, decide_eq_true rfl⟩
    · rintro ⟨m0, h, em⟩
      obtain rfl := of_decide_eq_true em
      obtain ⟨i, hi, e⟩ := List.mem_iff_getElem.mp h
      have lx := rv.length
      have hi' : i < its.length := by have := kd.1; omega
      refine ⟨its[i], List.getElem_mem hi', ?_⟩
      simp only [dif_pos (List.getElem_mem hi')]
      apply decide_eq_true
      have hm : ms[i]? = some m0 := by rw [List.getElem?_eq_getElem hi, e]
      rcases (Classical.choose_spec (each its[i] (List.getElem_mem hi'))).1 i hi' rfl with h | ⟨m', h, e2⟩
      · rw [hm] at h
        exact (Option.some.inj h).symm
      · rw [hm] at h
        rw [← e2]
        exact (Option.some.inj h).symm
theorem op_inK (hu : X.A.units + 1 < cLine) : OpR X (compareOp .In) (rInK X.K false) := by
  intro pins s σ H x y v u Q I rx ry want
  obtain ⟨a, b, ks, xs, ms, rfl, rfl, ha, hb, kd, q⟩ := want
  cases rx
  cases ry
  rcases hb with hb | hb
  · obtain ⟨its, rv, pl, _⟩ := I.tuple hb
    obtain ⟨e, he, ea⟩ := in_items I hu ha kd rv
    refine SeqAt.in_tupleAt e pl (fun w hw => he w (by simpa using hw)) ⟨.bl _, H, I, rfl, ?_⟩
    rw [show its.toArray.any e = its.any e by simp, ea]
    exact q
  · obtain ⟨its, rv, pl, _⟩ := I.list hb
    obtain ⟨e, he, ea⟩ := in_items I hu ha kd rv
    refine SeqAt.in_listAt e pl.isList (fun w hw => he w (by simpa using hw)) ⟨.bl _, H, I, rfl, ?_⟩
    rw [show its.toArray.any e = its.any e by simp, ea]
    exact q
theorem op_notInK (hu : X.A.units + 1 < cLine) : OpR X (compareOp .NotIn) (rInK X.K true) := by
  intro pins s σ H x y v u Q I rx ry want
  obtain ⟨a, b, ks, xs, ms, rfl, rfl, ha, hb, kd, q⟩ := want
  cases rx
  cases ry
  rcases hb with hb | hb
  · obtain ⟨its, rv, pl, _⟩ := I.tuple hb
    obtain ⟨e, he, ea⟩ := in_items I hu ha kd rv
    refine SeqAt.notIn_tupleAt e pl (fun w hw => he w (by simpa using hw)) ⟨.bl _, H, I, rfl, ?_⟩
    rw [show its.toArray.any e = its.any e by simp, ea]
    exact q
  · obtain ⟨its, rv, pl, _⟩ := I.list hb
    obtain ⟨e, he, ea⟩ := in_items I hu ha kd rv
    refine SeqAt.notIn_listAt e pl.isList (fun w hw => he w (by simpa using hw)) ⟨.bl _, H, I, rfl, ?_⟩
    rw [show its.toArray.any e = its.any e by simp, ea]
    exact q
/-- a list == [] -/
def rEqL0 (K : PySem.W.Frag) : R2 := fun x y H Q => ∃ a b xs, x = .ref a ∧ y = .ref b ∧ SqL K H a xs ∧ SqL K H b [] ∧ Q (.bl (decide (xs = []))) H
theorem op_eqL0 (hu : X.A.units < cLine) : OpR X (compareOp .Eq) (rEqL0 X.K) := by
  intro pins s σ H x y v u Q I rx ry h
  obtain ⟨a, b, xs, rfl, rfl, ha, hb, q⟩ := h
  cases rx
  cases ry
  obtain ⟨its, r1, p1, _⟩ := I.list ha
  obtain ⟨its2, r2, p2, _⟩ := I.list hb
  cases r2
  cases r1 with
  | nil =>
    have key := SeqAt.RcAt.lists (A := X.A) (e := fun _ => true) p1.isList p2.isList rfl hu (fun j h1 h2 => absurd h2 (by simp))
    exact key _ _ _ _ ⟨.bl _, H, I, rfl, q⟩
  | cons r rs =>
    have key := SeqAt.RcAt.lists_lengths (A := X.A) p1.isList p2.isList (by simp) hu
    exact key _ _ _ _ ⟨.bl _, H, I, rfl, q⟩
end
end Ot
/-! zip of two sequences of any kinds -/
namespace Zi
open PySem RZ
/-- an iterator at `it` over the items xs of what stands at l, its state S -/
structure Feed (it l : Addr) (xs : Array Value) (S : Heap → Nat → Prop) : Prop where
  item : ∀ {pr : Program} {wd : World} {Ar : Around} {Ex : Value → Shared → Prop} {st : Shared} {k : Nat} {x : Value} {R : Value → Shared → Prop}, S st.heap k → xs[k]? = some x →
    (∀ g, S g (k + 1) → Heap.SameBut it st.heap g → R x { st with heap := g }) → wpAny (model pr wd) Ar (Builtin.SmallTypes.nextOf (.ref it)) R Ex st
  stop : ∀ {pr : Program} {wd : World} {Ar : Around} {Ex : Value → Shared → Prop} {st : Shared} {k : Nat} {R : Value → Shared → Prop}, Ar.handled = none → S st.heap k → xs[k]? = none →
    (∀ g e, Heap.ExtBut it st.heap g → (∃ o, g.get? e = some o ∧ o.cls = .type "StopIteration") → Ex (.ref e) { st with heap := g }) → wpAny (model pr wd) Ar (Builtin.SmallTypes.nextOf (.ref it)) R Ex st
  ext : ∀ {c : Addr} {h g : Heap} {k : Nat}, S h k → Heap.ExtBut c h g → it ≠ c → l ≠ c → S g k
  at_ : ∀ {h g : Heap} {k : Nat}, S h k → (∀ o, h.get? it = some o → g.get? it = some o) → (∀ o, h.get? l = some o → g.get? l = some o) → S g k
  size : ∀ {h : Heap} {k : Nat}, S h k → it < h.objs.size
theorem feed_tuple {it l : Addr} {xs : Array Value} (ne : l ≠ it) : Feed it l xs (fun h k => h.IsTupleIter it l k ∧ h.IsTuple l xs) where
  item := fun ⟨a, b⟩ hx q => nextOf_tuple_item a b hx fun g i' sb => q g ⟨i', b.extBut sb.extBut ne⟩ sb
  stop := fun hh ⟨a, b⟩ hx q => nextOf_tuple_end hh a b hx q
  ext := fun ⟨a, b⟩ e n n2 => ⟨a.extBut e n, b.extBut e n2⟩
  at_ := fun ⟨a, b⟩ f g => ⟨a.at f, let ⟨o, ho, r⟩ := b; ⟨o, g o ho, r⟩⟩
  size := fun ⟨⟨_, e, _⟩, _⟩ => Heap.lt_size e
theorem feed_list {it l : Addr} {xs : Array Value} (ne : l ≠ it) : Feed it l xs (fun h k => h.IsListIter it l k ∧ h.IsList l xs) where
  item := fun ⟨a, b⟩ hx q => wpAny_nextOf_list_item a b hx fun g i' sb => q g ⟨i', b.extBut sb.extBut ne⟩ sb
  stop := fun hh ⟨a, b⟩ hx q => wpAny_nextOf_list_end hh a b hx q
  ext := fun ⟨a, b⟩ e n n2 => ⟨a.extBut e n, b.extBut e n2⟩
  at_ := fun ⟨a, b⟩ f g => ⟨a.at f, b.at g⟩
  size := fun ⟨⟨_, e, _⟩, _⟩ => Heap.lt_size e
section
variable {pr : Program} {wd : World} {Ar : Around} {st : Shared}
/-- a turn of zip -/
theorem step {Ex : Value → Shared → Prop} {z TI TO i1 i2 l1 l2 : Addr} {k1 k2 : Nat} {xs ys : Array Value} {x y a b : Value} {S1 S2 : Heap → Nat → Prop} {R : Value → Shared → Prop} (D : ZipApart z TI TO i1 i2 l1 l2) (F1 : Feed i1 l1 xs S1) (F2 : Feed i2 l2 ys S2)
    (hz : IsZip st.heap z TI TO .none) (hI : IsPair st.heap TI (.ref i1) (.ref i2)) (hO : IsPair st.heap TO a b) (s1 : S1 st.heap k1) (s2 : S2 st.heap k2) (hx : xs[k1]? = some x) (hy : ys[k2]? = some y)
    (hR : ∀ g, IsZip g z TI TO (rawInt st.heap.objs.size) → IsPair g TO x y → S1 g (k1 + 1) → S2 g (k2 + 1) → IsPair g st.heap.objs.size x y → g.objs.size = st.heap.objs.size + 1 →
      (∀ c o, c ≠ z → c ≠ TO → c ≠ i1 → c ≠ i2 → st.heap.get? c = some o → g.get? c = some o) → R (.ref st.heap.objs.size) { st with heap := g }) :
    wpAny (model pr wd) Ar (Builtin.«zip.__next__» ⟨[.ref z], []⟩) (fun fin s' => ∃ v, fin = .done (.ret v) ∧ R v s') Ex st := by
  refine (show wpAny _ _ (field (.ref z) 2 >>= _) _ _ _ from wpAny_bind (wpAny_field hz rfl (x := .bool false) rfl ?_))
  refine (show wpAny _ _ (field (.ref z) 3 >>= _) _ _ _ from wpAny_bind (wpAny_field hz rfl (x := .ref TI) rfl (wpAny_bind (wpAny_seqItems hI rfl ?_))))
  refine (show wpAny _ _ (Builtin.SmallTypes.ownedTupleIsFree (.ref z) >>= _) _ _ _ from wpAny_bind ?_)
  unfold Builtin.SmallTypes.ownedTupleIsFree
  refine wpAny_bind (wpAny_field hz rfl (x := .none) rfl (wpAny_pure ?_))
  rw [if_pos rfl]
  refine wpAny_bind (wpAny_rule (wpAny_bind (wpAny_field hz rfl (x := .ref TO) rfl (wpAny_bind (wpAny_setField_rec hz (by simp) fun g1 (z1 : IsZip g1 z TI TO .ellipsis) b1 => wpAny_bind ?_)))))
  simp only [List.forIn_cons, List.forIn_nil, List.zipIdx_cons, List.zipIdx_nil]
  refine wpAny_bind (wpAny_bind (wpAny_onRaise (show wpAny _ _ (Builtin.SmallTypes.nextOf (.ref i1) >>= _) _ _ _ from wpAny_bind (F1.item (F1.ext s1 b1.extBut D.i1z D.l1z) hx fun g2 t1 b2 => wpAny_pure ?_))))
  have o2 : IsPair g2 TO a b := b2.extBut _ _ D.TOi1 (b1.extBut _ _ D.TOz hO)
  refine wpAny_bind (wpAny_seqItems o2 rfl (wpAny_bind (wpAny_updateSeq_pair o2 fun g3 (o3 : IsPair g3 TO x b) b3 => wpAny_bind (wpAny_letGo (wpAny_pure ?_)))))
  have t2 := F2.ext (F2.ext (F2.ext s2 b1.extBut D.i2z D.l2z) b2.extBut D.i12.symm D.l2i1) b3.extBut D.TOi2.symm D.l2TO
  refine wpAny_bind (wpAny_bind (wpAny_onRaise (show wpAny _ _ (Builtin.SmallTypes.nextOf (.ref i2) >>= _) _ _ _ from wpAny_bind (F2.item t2 hy fun g4 u2 b4 => wpAny_pure ?_))))
  have o4 : IsPair g4 TO x b := b4.extBut _ _ D.TOi2 o3
  refine wpAny_bind (wpAny_seqItems o4 rfl (wpAny_bind (wpAny_updateSeq_pair o4 fun g5 (o5 : IsPair g5 TO x y) b5 => wpAny_bind (wpAny_letGo (wpAny_pure (wpAny_pure ?_))))))
  refine wpAny_bind (wpAny_seqItems o5 rfl (wpAny_bind (wpAny_newTuple ?_)))
  have same : g5.objs.size = st.heap.objs.size := by rw [b5.1, b4.1, b3.1, b2.1, b1.1]
  have z5 : IsZip g5 z TI TO .ellipsis := b5.extBut _ _ D.TOz.symm (b4.extBut _ _ D.i2z.symm (b3.extBut _ _ D.TOz.symm (b2.extBut _ _ D.i1z.symm z1)))
  have keep : ∀ c o, c ≠ z → c ≠ TO → c ≠ i1 → c ≠ i2 → st.heap.get? c = some o → g5.get? c = some o := fun c o c1 c2 c3 c4 e => b5.extBut _ _ c2 (b4.extBut _ _ c4 (b3.extBut _ _ c2 (b2.extBut _ _ c3 (b1.extBut _ _ c1 e))))
  have v1 := F1.ext (F1.ext (F1.ext t1 b3.extBut D.TOi1.symm D.l1TO) b4.extBut D.i12 D.l1i2) b5.extBut D.TOi1.symm D.l1TO
  have v2 := F2.ext u2 b5.extBut D.TOi2.symm D.l2TO
  have zlt : z < g5.objs.size := Heap.lt_size z5
  refine (show wpAny _ _ (Builtin.SmallTypes.ownedTupleHandOut (.ref z) (.ref g5.objs.size) >>= _) _ _ _ from wpAny_bind ?_)
  unfold Builtin.SmallTypes.ownedTupleHandOut
  have z6 : IsZip (g5.push { cls := .type "tuple", data := .seq #[x, y] }) z TI TO .ellipsis := Heap.get?_push_of_some _ z5
  refine wpAny_bind (wpAny_setField_rec z6 (by simp) fun g7 (z7 : IsZip g7 z TI TO (rawInt g5.objs.size)) b7 => wpAny_setField_rec z7 (by simp) fun g8 (z8 : IsZip g8 z TI TO (rawInt g5.objs.size)) b8 => ?_)
  have up : ∀ c o, c ≠ z → g5.get? c = some o → g8.get? c = some o := fun c o n e => b8.extBut _ _ n (b7.extBut _ _ n (Heap.get?_push_of_some _ e))
  have T8 : IsPair g8 g5.objs.size x y := b8.extBut _ _ (Nat.ne_of_gt zlt) (b7.extBut _ _ (Nat.ne_of_gt zlt) (Heap.get?_push_size _ rfl))
  have n8 : g8.objs.size = g5.objs.size + 1 := by rw [b8.1, b7.1, Heap.size_push]
  rw [same] at z8 T8 n8
  refine wpAny_pure ⟨_, rfl, ?_⟩
  show R (.ref g5.objs.size) _
  rw [same]
  exact hR g8 z8 (up _ _ D.TOz o5) (F1.at_ v1 (fun o e => up _ o D.i1z e) fun o e => up _ o D.l1z e) (F2.at_ v2 (fun o e => up _ o D.i2z e) fun o e => up _ o D.l2z e) T8 n8 fun c o c1 c2 c3 c4 e => up c o c1 (keep c o c1 c2 c3 c4 e)
/-- the end of zip -/
theorem halt {Ex : Value → Shared → Prop} {z TI TO i1 i2 l1 l2 : Addr} {k1 k2 : Nat} {xs ys : Array Value} {a b : Value} {S1 S2 : Heap → Nat → Prop} {R : Fin → Shared → Prop} (un : Ar.handled = none) (D : ZipApart z TI TO i1 i2 l1 l2) (F1 : Feed i1 l1 xs S1) (F2 : Feed i2 l2 ys S2)
    (hz : IsZip st.heap z TI TO .none) (hI : IsPair st.heap TI (.ref i1) (.ref i2)) (hO : IsPair st.heap TO a b) (s1 : S1 st.heap k1) (s2 : S2 st.heap k2) (out : xs[k1]? = none ∨ ys[k2]? = none)
    (hE : ∀ g e, (∀ c o, c ≠ z → c ≠ TO → c ≠ i1 → c ≠ i2 → st.heap.get? c = some o → g.get? c = some o) → (∃ o, g.get? e = some o ∧ o.cls = .type "StopIteration") → Ex (.ref e) { st with heap := g }) :
    wpAny (model pr wd) Ar (Builtin.«zip.__next__» ⟨[.ref z], []⟩) R Ex st := by
  refine (show wpAny _ _ (field (.ref z) 2 >>= _) _ _ _ from wpAny_bind (wpAny_field hz rfl (x := .bool false) rfl ?_))
  refine (show wpAny _ _ (field (.ref z) 3 >>= _) _ _ _ from wpAny_bind (wpAny_field hz rfl (x := .ref TI) rfl (wpAny_bind (wpAny_seqItems hI rfl ?_))))
  refine (show wpAny _ _ (Builtin.SmallTypes.ownedTupleIsFree (.ref z) >>= _) _ _ _ from wpAny_bind ?_)
  unfold Builtin.SmallTypes.ownedTupleIsFree
  refine wpAny_bind (wpAny_field hz rfl (x := .none) rfl (wpAny_pure ?_))
  rw [if_pos rfl]
  refine wpAny_bind (wpAny_rule (wpAny_bind (wpAny_field hz rfl (x := .ref TO) rfl (wpAny_bind (wpAny_setField_rec hz (by simp) fun g1 (z1 : IsZip g1 z TI TO .ellipsis) b1 => wpAny_bind ?_)))))
  simp only [List.forIn_cons, List.forIn_nil, List.zipIdx_cons, List.zipIdx_nil]
  have stopped : ∀ {g : Heap} {e : Addr}, IsZip g z TI TO .ellipsis → (∃ o, g.get? e = some o ∧ o.cls = .type "StopIteration") → e ≠ z := fun hg ⟨o, ho, hc⟩ ez => by
    subst ez
    rw [hg] at ho
    cases ho
    simp at hc
  cases hx : xs[k1]? with
  | none =>
    refine wpAny_bind (wpAny_bind (wpAny_onRaise (show wpAny _ _ (Builtin.SmallTypes.nextOf (.ref i1) >>= _) _ _ _ from wpAny_bind (F1.stop un (F1.ext s1 b1.extBut D.i1z D.l1z) hx fun g2 e b2 he => ?_))))
    have z2 : IsZip g2 z TI TO .ellipsis := b2 _ _ D.i1z.symm z1
    refine wpAny_setField_rec z2 (by simp) fun g3 _ b3 => hE g3 e (fun c o c1 _ c3 _ w => b3.extBut _ _ c1 (b2 _ _ c3 (b1.extBut _ _ c1 w))) ?_
    obtain ⟨o, ho, hc⟩ := id he
    exact ⟨o, b3.extBut _ _ (stopped z2 he) ho, hc⟩
  | some x =>
    have hy : ys[k2]? = none := out.resolve_left (by rw [hx]; simp)
    refine wpAny_bind (wpAny_bind (wpAny_onRaise (show wpAny _ _ (Builtin.SmallTypes.nextOf (.ref i1) >>= _) _ _ _ from wpAny_bind (F1.item (F1.ext s1 b1.extBut D.i1z D.l1z) hx fun g2 t1 b2 => wpAny_pure ?_))))
    have o2 : IsPair g2 TO a b := b2.extBut _ _ D.TOi1 (b1.extBut _ _ D.TOz hO)
    refine wpAny_bind (wpAny_seqItems o2 rfl (wpAny_bind (wpAny_updateSeq_pair o2 fun g3 o3 b3 => wpAny_bind (wpAny_letGo (wpAny_pure ?_)))))
    have t2 := F2.ext (F2.ext (F2.ext s2 b1.extBut D.i2z D.l2z) b2.extBut D.i12.symm D.l2i1) b3.extBut D.TOi2.symm D.l2TO
    refine wpAny_bind (wpAny_bind (wpAny_onRaise (show wpAny _ _ (Builtin.SmallTypes.nextOf (.ref i2) >>= _) _ _ _ from wpAny_bind (F2.stop un t2 hy fun g4 e b4 he => ?_))))
    have z4 : IsZip g4 z TI TO .ellipsis := b4 _ _ D.i2z.symm (b3.extBut _ _ D.TOz.symm (b2.extBut _ _ D.i1z.symm z1))
    refine wpAny_setField_rec z4 (by simp) fun g5 _ b5 => hE g5 e (fun c o c1 c2 c3 c4 w => b5.extBut _ _ c1 (b4 _ _ c4 (b3.extBut _ _ c2 (b2.extBut _ _ c3 (b1.extBut _ _ c1 w))))) ?_
    obtain ⟨o, ho, hc⟩ := id he
    exact ⟨o, b5.extBut _ _ (stopped z4 he) ho, hc⟩
theorem typeZ {z TI TO : Addr} {f : Value} (hz : IsZip st.heap z TI TO f) : st.TypeIs (.ref z) "zip" := ⟨_, hz, rfl⟩
/-- next(z): an item -/
theorem next_item {Ex : Value → Shared → Prop} {z TI TO i1 i2 l1 l2 : Addr} {k1 k2 : Nat} {xs ys : Array Value} {x y a b : Value} {S1 S2 : Heap → Nat → Prop} {R : Option Value → Shared → Prop} (D : ZipApart z TI TO i1 i2 l1 l2) (F1 : Feed i1 l1 xs S1) (F2 : Feed i2 l2 ys S2)
    (hz : IsZip st.heap z TI TO .none) (hI : IsPair st.heap TI (.ref i1) (.ref i2)) (hO : IsPair st.heap TO a b) (s1 : S1 st.heap k1) (s2 : S2 st.heap k2) (hx : xs[k1]? = some x) (hy : ys[k2]? = some y)
    (hR : ∀ g, IsZip g z TI TO (rawInt st.heap.objs.size) → IsPair g TO x y → S1 g (k1 + 1) → S2 g (k2 + 1) → IsPair g st.heap.objs.size x y → g.objs.size = st.heap.objs.size + 1 →
      (∀ c o, c ≠ z → c ≠ TO → c ≠ i1 → c ≠ i2 → st.heap.get? c = some o → g.get? c = some o) → R (some (.ref st.heap.objs.size)) { st with heap := g }) : wpAny (model pr wd) Ar (pyNext (.ref z)) R Ex st := by
  unfold pyNext
  refine wpAny_bind (wpAny_attempt (wpAny_callSpecial?_slot (name := "__next__") (typeZ hz) F.slot_zip_next (wpAny_call_entry F.slot_zip_next (typeZ hz) F.entry_zip_next ?_ (F.args_zip_next_1 _))))
  exact step D F1 F2 hz hI hO s1 s2 hx hy fun g h1 h2 h3 h4 h5 h6 h7 => wpAny_pure (hR g h1 h2 h3 h4 h5 h6 h7)
/-- next(z): the end -/
theorem next_end {Ex : Value → Shared → Prop} {z TI TO i1 i2 l1 l2 : Addr} {k1 k2 : Nat} {xs ys : Array Value} {a b : Value} {S1 S2 : Heap → Nat → Prop} {R : Option Value → Shared → Prop} (un : Ar.handled = none) (D : ZipApart z TI TO i1 i2 l1 l2) (F1 : Feed i1 l1 xs S1) (F2 : Feed i2 l2 ys S2)
    (hz : IsZip st.heap z TI TO .none) (hI : IsPair st.heap TI (.ref i1) (.ref i2)) (hO : IsPair st.heap TO a b) (s1 : S1 st.heap k1) (s2 : S2 st.heap k2) (out : xs[k1]? = none ∨ ys[k2]? = none)
    (hR : ∀ g, (∀ c o, c ≠ z → c ≠ TO → c ≠ i1 → c ≠ i2 → st.heap.get? c = some o → g.get? c = some o) → R none { st with heap := g }) : wpAny (model pr wd) Ar (pyNext (.ref z)) R Ex st := by
  unfold pyNext
  refine wpAny_bind (wpAny_attempt (wpAny_callSpecial?_slot (name := "__next__") (typeZ hz) F.slot_zip_next (wpAny_call_entry F.slot_zip_next (typeZ hz) F.entry_zip_next ?_ (F.args_zip_next_1 _))))
  refine halt un D F1 F2 hz hI hO s1 s2 out fun g e keep ⟨o, ho, hc⟩ => ?_
  exact wpAny_bind (wpAny_isInstance (T := "StopIteration") (b := true) ⟨o, ho, hc⟩ isSubtype_stop (wpAny_pure (hR _ keep)))
end
/-! ### a tuple and a list -/
abbrev N1 (h : Heap) (l1 : Addr) : Heap := h.push { cls := .type "tuple_iterator", data := .fields #[.ref l1, .int 0 0] }
abbrev N2 (h : Heap) (l1 l2 : Addr) : Heap := (N1 h l1).push { cls := .type "list_iterator", data := .fields #[.ref l2, .int 0 0] }
abbrev N3 (h : Heap) (l1 l2 : Addr) : Heap := (N2 h l1 l2).push { cls := .type "tuple", data := .seq #[.ref h.objs.size, .ref (N1 h l1).objs.size] }
abbrev N4 (h : Heap) (l1 l2 : Addr) : Heap := (N3 h l1 l2).push { cls := .type "tuple", data := .seq #[.none, .none] }
abbrev N5 (h : Heap) (l1 l2 : Addr) : Heap := (N4 h l1 l2).push { cls := .type "zip", data := .fields #[.none, .bool false, .bool false, .ref (N2 h l1 l2).objs.size, .ref (N3 h l1 l2).objs.size] }
theorem made (l1 l2 : Addr) (xs ys : Array Value) :
    Meets (Builtin.«zip.__new__» ⟨[.type "zip", .ref l1, .ref l2], []⟩) (fun _ R z => z.heap.IsTuple l1 xs ∧ z.heap.IsList l2 ys ∧ R (.ok (.ret (.ref (N4 z.heap l1 l2).objs.size))) { z with heap := N5 z.heap l1 l2 }) :=
  .of_wp fun _ _ _ R z h => by
    obtain ⟨hp, g, d, tk, os⟩ := z
    obtain ⟨t1, t2, want⟩ := h
    have self := sub_zip
    have q1 : Heap.IsTuple (Shared.heap ⟨hp, g, d, tk, os⟩) l1 xs := t1
    have q2 : Heap.IsList (Shared.heap ⟨hp.push { cls := .type "tuple_iterator", data := .fields #[.ref l1, .int 0 0] }, g, d, tk, os⟩) l2 ys := Heap.IsList.push t2 _
    wp_walk using wpAny_pyIter_tuple q1, wpAny_pyIter_list q2
    exact ⟨_, rfl, want⟩
section
variable {pr : Program} {wd : World} {Ar : Around} {st : Shared} {Ex : Value → Shared → Prop}
theorem called {l1 l2 : Addr} {xs ys : Array Value} {R : Value → Shared → Prop} (t1 : st.heap.IsTuple l1 xs) (t2 : st.heap.IsList l2 ys)
    (hR : ∀ g, IsZip g (st.heap.objs.size + 4) (st.heap.objs.size + 2) (st.heap.objs.size + 3) .none → IsPair g (st.heap.objs.size + 2) (.ref st.heap.objs.size) (.ref (st.heap.objs.size + 1)) → IsPair g (st.heap.objs.size + 3) .none .none →
      g.IsTupleIter st.heap.objs.size l1 0 → g.IsListIter (st.heap.objs.size + 1) l2 0 → (∀ c o, st.heap.get? c = some o → g.get? c = some o) → R (.ref (st.heap.objs.size + 4)) { st with heap := g }) :
    wpAny (model pr wd) Ar (call (.type "zip") [.ref l1, .ref l2]) R Ex st := by
  refine callType_new F.called_zip (by decide) (F.typeCall_zip_2 _ _) (F.newCall_zip_2 _ _) (fun ob => F.args_object_init_3 ob _ _) F.entry_zip_new (made l1 l2 xs ys) ⟨t1, t2, ?_⟩
  have n1 : (N1 st.heap l1).objs.size = st.heap.objs.size + 1 := Heap.size_push ..
  have n2 : (N2 st.heap l1 l2).objs.size = st.heap.objs.size + 2 := by rw [Heap.size_push, n1]
  have n3 : (N3 st.heap l1 l2).objs.size = st.heap.objs.size + 3 := by rw [Heap.size_push, n2]
  have n4 : (N4 st.heap l1 l2).objs.size = st.heap.objs.size + 4 := by rw [Heap.size_push, n3]
  have top : (N5 st.heap l1 l2).get? (N4 st.heap l1 l2).objs.size = some _ := Heap.get?_push_size _ rfl
  have w4 : (N5 st.heap l1 l2).get? (N3 st.heap l1 l2).objs.size = some _ := Heap.get?_push_of_some _ (Heap.get?_push_size _ rfl)
  have w3 : (N5 st.heap l1 l2).get? (N2 st.heap l1 l2).objs.size = some _ := Heap.get?_push_of_some _ (Heap.get?_push_of_some _ (Heap.get?_push_size _ rfl))
  have w2 : (N5 st.heap l1 l2).get? (N1 st.heap l1).objs.size = some _ := Heap.get?_push_of_some _ (Heap.get?_push_of_some _ (Heap.get?_push_of_some _ (Heap.get?_push_size _ rfl)))
  have w1 : (N5 st.heap l1 l2).get? st.heap.objs.size = some _ := Heap.get?_push_of_some _ (Heap.get?_push_of_some _ (Heap.get?_push_of_some _ (Heap.get?_push_of_some _ (Heap.get?_push_size _ rfl))))
  refine (show _ ∧ _ from ?_)
  rw [n2, n3, n4] at top
  rw [n1, n2] at w3
  rw [n3] at w4
  rw [n1] at w2
  rw [n4]
  exact ⟨⟨_, top, rfl⟩, hR _ top w3 w4 ⟨_, w1, rfl, rfl⟩ ⟨_, w2, rfl, rfl⟩ fun c o e => Heap.get?_push_of_some _ (Heap.get?_push_of_some _ (Heap.get?_push_of_some _ (Heap.get?_push_of_some _ (Heap.get?_push_of_some _ e))))⟩
end
open PySem.Spec PyProof.Rows L2
/-- the tuple at a and the list at b, as they stand at each turn, the items in new pairs -/
def ItzM (K : PySem.W.Frag) (a b : Addr) : It :=
  ⟨fun i H => ∃ (xs ys : List V) (x y : V), SqT K H a xs ∧ SqL K H b ys ∧ xs[i]? = some x ∧ ys[i]? = some y,
    fun i H v H' => ∃ T x y, v = .ref T ∧ H T = none ∧ H' = upd H T (.tup [x, y]) ∧ (∀ xs, SqT K H a xs → xs[i]? = some x) ∧ ∀ ys, SqL K H b ys → ys[i]? = some y,
    fun i H => ∃ xs ys : List V, SqT K H a xs ∧ SqL K H b ys ∧ (xs.length ≤ i ∨ ys.length ≤ i)⟩
theorem turns {P : Program} {w : World} {K : PySem.W.Frag} {elts : List Expr} {kk : Nat} {tpos : Pos} {a b z TI TO i1 i2 : Addr} (D : ZipApart z TI TO i1 i2 a b) :
    Turn P w K (.Tuple elts kk tpos) (ItzM K a b) [z, TI, TO, i1, i2] z (fun i h => IsZip h z TI TO .none ∧ IsPair h TI (.ref i1) (.ref i2) ∧ (∃ x y, IsPair h TO x y) ∧ h.IsTupleIter i1 a i ∧ h.IsListIter i2 b i) where
  mem := by simp
  obj := by
    rintro i h ⟨hz, hI, ⟨x, y, hO⟩, ⟨o1, e1, _, d1⟩, ⟨o2, e2, _, d2⟩⟩ c hc
    simp only [List.mem_cons, List.not_mem_nil, or_false] at hc
    rcases hc with rfl | rfl | rfl | rfl | rfl
    · exact ⟨_, hz, fun _ => nofun⟩
    · exact ⟨_, hI, fun _ => nofun⟩
    · exact ⟨_, hO, fun _ => nofun⟩
    · exact ⟨o1, e1, fun v q => by rw [d1] at q; cases q⟩
    · exact ⟨o2, e2, fun v q => by rw [d2] at q; cases q⟩
  keep := by
    rintro i h g ⟨hz, hI, ⟨x, y, hO⟩, t1, t2⟩ k
    exact ⟨k z (by simp) _ hz, k TI (by simp) _ hI, ⟨x, y, k TO (by simp) _ hO⟩, t1.at fun o q => k i1 (by simp) o q, t2.at fun o q => k i2 (by simp) o q⟩
  item := by
    rintro X rfl rfl rfl hc i pins st σ H E inv hf ⟨hz, hI, ⟨x0, y0, hO⟩, t1, t2⟩ ⟨xs, ys, x, y, hqx, hqy, hx, hy⟩
    obtain ⟨us, rv, p1, _⟩ := inv.tuple hqx
    obtain ⟨ws, rw_, p2, _⟩ := inv.list hqy
    obtain ⟨u, hu, ru⟩ := rv.get hx
    obtain ⟨w2, hw, rw2⟩ := rw_.get hy
    have zl : z < st.heap.objs.size := Heap.lt_size hz
    refine next_item D (feed_tuple D.l1i1) (feed_list D.l2i2) hz hI hO ⟨t1, p1⟩ ⟨t2, p2.isList⟩ (x := u) (y := w2) (by simpa using hu) (by simpa using hw) fun g z' O' s1 s2 hT hsz keep => ?_
    refine ⟨_, rfl, wpAny_letOwnedTupleGo_zip (s := { st with heap := g }) z' fun g2 z2 sb => ?_⟩
    have hT2 : g2.get? st.heap.objs.size = some { cls := .type "tuple", data := .seq #[u, w2] } := (sb.2 _ (Nat.ne_of_gt zl)).trans hT
    have laid : ObjOk X.prog X.w (upd H st.heap.objs.size (.tup [x, y])) g2 st.heap.objs.size (.tup [x, y]) := ⟨show 2 ≤ sizeLine by decide, [u, w2], .cons ru (.cons rw2 .nil), ⟨_, hT2, rfl, _, rfl⟩⟩
    have inv2 : Inv X pins σ (upd H st.heap.objs.size (.tup [x, y])) { st with heap := g2 } := inv.turnedNew (t' := st.toks) (ch := [z, TI, TO, i1, i2])
      (fun c o hb q => (sb.2 c (fun e => hb (by simp [e]))).trans (keep c o (fun e => hb (by simp [e])) (fun e => hb (by simp [e])) (fun e => hb (by simp [e])) (fun e => hb (by simp [e])) q)) hf (Nat.le_refl _) laid
    refine ⟨.ref st.heap.objs.size, _, inv2, rfl, ⟨_, x, y, rfl, inv.hok.fresh (Nat.le_refl _), rfl, fun l hl => inv.tuple_inj hl hqx ▸ hx, fun l hl => ?_⟩, ⟨z2, (sb.2 _ D.TIz).trans (keep _ _ D.TIz D.TITO D.TIi1 D.TIi2 hI), ⟨u, w2, (sb.2 _ D.TOz).trans O'⟩, s1.1.at fun o q => (sb.2 _ D.i1z).trans q, s2.1.at fun o q => (sb.2 _ D.i2z).trans q⟩, fun c hcm => ?_⟩
    · exact inv.list_inj hl hqy ▸ hy
    · have lt : c < st.heap.objs.size := by
        simp only [List.mem_cons, List.not_mem_nil, or_false] at hcm
        rcases hcm with rfl | rfl | rfl | rfl | rfl
        · exact zl
        · exact Heap.lt_size hI
        · exact Heap.lt_size hO
        · exact let ⟨_, e, _⟩ := t1; Heap.lt_size e
        · exact let ⟨_, e, _⟩ := t2; Heap.lt_size e
      rw [upd_ne (Nat.ne_of_lt lt)]
      exact (hf c hcm).1
  done := by
    rintro X rfl rfl rfl hc i pins st σ H E inv hf ⟨hz, hI, ⟨x0, y0, hO⟩, t1, t2⟩ ⟨xs, ys, hqx, hqy, out⟩
    obtain ⟨us, rv, p1, _⟩ := inv.tuple hqx
    obtain ⟨ws, rw_, p2, _⟩ := inv.list hqy
    have l1 := rv.length
    have l2 := rw_.length
    refine next_end (inv.ok.hd hc) D (feed_tuple D.l1i1) (feed_list D.l2i2) hz hI hO ⟨t1, p1⟩ ⟨t2, p2.isList⟩ (out.imp (fun q => by simp; omega) fun q => by simp; omega) fun g keep => ⟨rfl, ?_⟩
    exact inv.turnedL (t' := st.toks) (ch := [z, TI, TO, i1, i2]) (fun c o hb q => keep c o (fun e => hb (by simp [e])) (fun e => hb (by simp [e])) (fun e => hb (by simp [e])) (fun e => hb (by simp [e])) q) hf
  self := fun A i st Q E s h => wpAny_pyIter_zip s.1 h
def iZipM (K : PySem.W.Frag) (ta : TA) : TI := fun σ H R => ta σ H fun vs H1 => ∃ a b xs ys, vs = [.ref a, .ref b] ∧ SqT K H1 a xs ∧ SqL K H1 b ys ∧ R (ItzM K a b) H1
/-- zip(t, l): a tuple and a list -/
theorem pi_zipM {X : Cx} {e e2 : Expr} {ta : TA} {q1 q2 q3 : Pos} {elts : List Expr} {kk : Nat} (hg : Gl X "zip") (hm : X.mg "zip" = none) (ha : PA X [e, e2] ta)
    (h1 : starEach [e, e2] X.env = (false, eval e X.env) :: starEach [e2] X.env := by rfl) (h2 : (backTo q2 (starEach [e2] X.env)).any (·.1) = false := by rfl) :
    PI X (.Tuple elts kk q3) (.Call (.Name "zip" q1) [e, e2] [] q2) (iZipM X.K ta) := by
  refine ⟨fun pins st σ H R inv want => Call_ (ld_blt inv hg hm PyProof.Rows.boot_zip (PyProof.Rows.callWith_type1 (thn (ha.run q2 pins st σ H _ inv want) fun us s1 ⟨vs, H1, inv1, rel, a, b, xs, ys, ex, hqx, hqy, go⟩ => ?_) h1 h2))⟩
  subst ex
  cases rel with
  | cons r rest =>
  cases rest with
  | cons r' rest =>
  cases rest
  cases r
  cases r'
  obtain ⟨us, _, p1, _⟩ := inv1.tuple hqx
  obtain ⟨ws, _, p2, _⟩ := inv1.list hqy
  have fresh : ∀ c, c ∈ [s1.heap.objs.size + 4, s1.heap.objs.size + 2, s1.heap.objs.size + 3, s1.heap.objs.size, s1.heap.objs.size + 1] → FpOk X pins H1 c := fun c hc => by
    have le : s1.heap.objs.size ≤ c := by
      simp only [List.mem_cons, List.not_mem_nil, or_false] at hc
      omega
    exact inv1.fpOk le (inv1.hok.fresh le)
  refine called p1 p2.isList fun g hz hI hO t1 t2 keep => wpAny_pyIter_zip hz ?_
  have inv2 : Inv X pins σ H1 { s1 with heap := g } := inv1.kept (t' := s1.toks) keep
  exact ⟨s1.heap.objs.size + 4, [s1.heap.objs.size + 4, s1.heap.objs.size + 2, s1.heap.objs.size + 3, s1.heap.objs.size, s1.heap.objs.size + 1], _, _, H1, rfl, inv2, turns (PySem.W.ktu_apart s1.heap.objs.size a b p1.lt p2.lt), ⟨hz, hI, ⟨_, _, hO⟩, t1, t2⟩, fresh, go⟩
end Zi
/-! slices, sums of tuples, walks over two sequences: readings -/
namespace Ot
open PySem PySem.Spec PyProof.Rows L2
theorem sm_upd {H : Hp} {p : Addr} {o : HO} (np : H p = none) : Same H (upd H p o) := fun b u e => (upd_ne (ne_of_none e np)).trans e
theorem slA_read {K : PySem.W.Frag} {H : Hp} {Q : VK} {a : Addr} {xs : List V} {lo hi : Option Int} (ha : H a = some (.tup xs)) (q : ∀ b H', Same H H' → H' b = some (.tup (cutV xs lo hi)) → Q (.ref b) H') :
    rSlA K (.ref a) lo hi H Q := by
  refine ⟨a, xs, rfl, SqT.of ha, fun w => q a H (Same.refl _) ?_, fun _ p np => q p _ (sm_upd np) upd_same⟩
  rw [ha]
  unfold cutV
  rw [w.1, w.2, List.drop_zero, Nat.sub_zero, List.take_length]
theorem catA_read {K : PySem.W.Frag} {H : Hp} {Q : VK} {a b : Addr} {xs ys : List V} (ha : H a = some (.tup xs)) (hb : H b = some (.tup ys)) (hl : xs.length + ys.length ≤ 100) (q : ∀ r H', Same H H' → H' r = some (.tup (xs ++ ys)) → Q (.ref r) H') :
    rCatA K (.ref a) (.ref b) H Q :=
  ⟨a, b, xs, ys, rfl, rfl, SqT.of ha, SqT.of hb, Nat.le_trans hl (by decide), fun e => q b H (Same.refl _) (by rw [hb, e]; rfl), fun _ e => q a H (Same.refl _) (by rw [ha, e, List.append_nil]), fun _ _ p np => q p _ (sm_upd np) upd_same⟩
theorem cutV_to (xs : List V) (k : Nat) : cutV xs none (some (k : Int)) = xs.take k := by
  unfold cutV
  rw [HT.sIx_none, HT.sIx_nat, List.drop_zero, Nat.sub_zero]
  by_cases c : k ≤ xs.length
  · rw [Nat.min_eq_left c]
  · rw [Nat.min_eq_right (by omega), List.take_of_length_le (Nat.le_refl _), List.take_of_length_le (by omega)]
theorem cutV_from (xs : List V) (k : Nat) : cutV xs (some (k : Int)) none = xs.drop k := by
  unfold cutV
  rw [HT.sIx_none, HT.sIx_nat]
  by_cases c : k ≤ xs.length
  · rw [Nat.min_eq_left c, List.take_of_length_le (by simp)]
  · rw [Nat.min_eq_right (by omega), List.drop_eq_nil_of_le (by simp), List.drop_eq_nil_of_le (by omega), List.take_nil]
theorem walkM {K : PySem.W.Frag} {a b : Addr} {xs ys : List V} (hl : xs.length = ys.length) : Walk (Zi.ItzM K a b) xs.length (fun H => SqT K H a xs ∧ SqL K H b ys) (YPair (fun i => xs[i]?) fun i => ys[i]?) := by
  refine ⟨fun i H hi g => ⟨xs, ys, xs[i], ys[i], g.1, g.2, List.getElem?_eq_getElem hi, List.getElem?_eq_getElem (hl ▸ hi)⟩, fun H g => ⟨xs, ys, g.1, g.2, .inl (Nat.le_refl _)⟩, ?_⟩
  rintro i H x H' hi g ⟨T, y, z, rfl, nT, rfl, h1, h2⟩
  exact ⟨T, y, z, rfl, nT, rfl, (h1 xs g.1), (h2 ys g.2)⟩
theorem walkT {K : PySem.W.Frag} {a b : Addr} {xs ys : List V} (hl : xs.length = ys.length) : Walk (RZ.ItzT K a b) xs.length (fun H => SqT K H a xs ∧ SqT K H b ys) (YPair (fun i => xs[i]?) fun i => ys[i]?) := by
  refine ⟨fun i H hi g => ⟨xs, ys, xs[i], ys[i], g.1, g.2, List.getElem?_eq_getElem hi, List.getElem?_eq_getElem (hl ▸ hi)⟩, fun H g => ⟨xs, ys, g.1, g.2, .inl (Nat.le_refl _)⟩, ?_⟩
  rintro i H x H' hi g ⟨T, y, z, rfl, nT, rfl, h1, h2⟩
  exact ⟨T, y, z, rfl, nT, rfl, (h1 xs g.1), (h2 ys g.2)⟩
theorem walkT2 {K : PySem.W.Frag} {a b : Addr} {xs ys : List V} {n : Nat} (hl : n = min xs.length ys.length) : Walk (RZ.ItzT K a b) n (fun H => SqT K H a xs ∧ SqT K H b ys) (YPair (fun i => xs[i]?) fun i => ys[i]?) := by
  refine ⟨fun i H hi g => ⟨xs, ys, xs[i]'(by omega), ys[i]'(by omega), g.1, g.2, List.getElem?_eq_getElem (by omega), List.getElem?_eq_getElem (by omega)⟩, fun H g => ⟨xs, ys, g.1, g.2, by omega⟩, ?_⟩
  rintro i H x H' hi g ⟨T, y, z, rfl, nT, rfl, h1, h2⟩
  exact ⟨T, y, z, rfl, nT, rfl, (h1 xs g.1), (h2 ys g.2)⟩

/-- neighbours in their order -/
def climbB (ms : List (List Key)) : Bool := (ms.zip (ms.drop 1)).all fun q => lexK q.1 q.2
end Ot
/-! neighbours in their order; rows -/
namespace Hs
open PySem PySem.Spec PyProof.Rows L2 Am Rv
theorem drop1_get {α : Type} {xs : List α} {i : Nat} : (xs.drop 1)[i]? = xs[i + 1]? := by rw [List.getElem?_drop, Nat.add_comm]
theorem climb_at {ms : List (List Key)} {i : Nat} {a b : List Key} (h1 : ms[i]? = some a) (h2 : ms[i + 1]? = some b) : ((ms.zip (ms.drop 1)).map fun q => Ot.lexK q.1 q.2)[i]? = some (Ot.lexK a b) := by
  rw [List.getElem?_map]
  have : (ms.zip (ms.drop 1))[i]? = some (a, b) := by
    rw [List.getElem?_zip_eq_some]
    exact ⟨h1, by rw [drop1_get]; exact h2⟩
  rw [this]
  rfl
theorem climb_all {ms : List (List Key)} : ((ms.zip (ms.drop 1)).map fun q => Ot.lexK q.1 q.2).all id = Ot.climbB ms := by
  unfold Ot.climbB
  rw [List.all_map]
  rfl
def spClimb (K : PySem.W.Frag) (tup : Bool) : Sp := fun vs H Q _ => ∃ (l : Addr) (xs : List V) (ms : List (List Key)), vs = [.ref l] ∧ H l = some (if tup then HO.tup xs else HO.lst xs) ∧ Ot.Keyd K H xs ms ∧ (∀ a ∈ ms, ∀ b ∈ ms, Ot.kin a b = true) ∧ xs.length ≤ 200 ∧ ∀ H', Same H H' → Q (.bl (Ot.climbB ms)) H'
theorem keyd_same {K : PySem.W.Frag} {H H' : Hp} {xs : List V} {ms : List (List Key)} (k : Ot.Keyd K H xs ms) (e : Same H H') : Ot.Keyd K H' xs ms := ⟨k.1, fun i x m a b => by
  obtain ⟨c, rfl, h⟩ := k.2 i x m a b
  refine ⟨c, rfl, ?_⟩
  rcases h with h | h
  · rcases h with h | ⟨o, h⟩
    · exact .inl (.inl (e _ _ h))
    · exact .inl (.inr ⟨o, e _ _ h⟩)
  · exact .inr h⟩
section
variable {P : Program} {w : World} {K : PySem.W.Frag} {mg : Str → Option Value} {base : Heap} {CH p : Addr}
theorem sc_climb : FnScope ["rows", "one", "other"] ["rows"] (defScope sClimbs) := ⟨rfl, rfl, rfl, by decide +kernel, rfl, by decide +kernel, by decide +kernel⟩
theorem ok_climbL {f : Addr} {fd : FuncData} (F : Fun K "climbs" "climbs" sClimbs f fd) (T : Nm mg) (nzip : mg "zip" = none) : FnOk P w K mg base CX0 1 f fd ["rows"] (spClimb K false) := by
  refine F.ok sc_climb (fun vs H Q E h => ?_) (fun cdv A outer s H vs Q E hr h => ?_)
  · obtain ⟨l, xs, ms, rfl, _⟩ := h
    rfl
  · obtain ⟨l, xs, ms, rfl, hl, kd, kn, lx, q⟩ := h
    have hu0 : (A.deeper (envOfC "climbs" (defScope sClimbs) s.heap.objs.size f cdv)).units < cLine := by have := hr.un; omega
    refine ⟨_, pss_one (ps_ret (pe_callB (cr_all rfl) (by rfl) T.all b_all (pa_cons (pe_lc (own := [("one", 1), ("other", 2)]) (g := gTup K 2 (gCons (gName 1) (gCons (gName 2) gNil))) (tt := tYes) rfl sc_climb.nd (pi_zip (by rfl) nzip (pa_cons (pv 0) (pa_cons (pe_slice sl_list (pv 0) (po_some pe_int) po_none) pa_nil)))
          (blkOk_by (N := ["rows", "one", "other"]) (sc := defScope sClimbs) (by decide +kernel)) (fun _ _ _ _ _ => (pg_tup rfl (pgs_cons (pg_name (i := 1) sc_climb.nd rfl (.inl rfl)) (pgs_cons (pg_name (i := 2) sc_climb.nd rfl (.inl rfl)) pgs_nil)))) (fun _ _ _ _ _ => pts_nil) (fun _ _ _ _ _ => (pe_cmpR (r := Ot.rLtK K) (by exact Ot.op_ltK hu0) (pv 1) (pv 2) (by rfl)))) pa_nil))), ?_⟩
    simp only [Bool.false_eq_true, if_false, if_true] at hl
    refine ⟨_, rfl, _, rfl, 1, rfl, ?_⟩
    simp only [tNoPart]
    refine ⟨l, xs, rfl, SqL.of hl, fun l2 nl2 => ?_⟩
    have e1 := same_upd (o := .lst (cutV xs (some 1) none)) nl2
    have hl2 := upd_same (H := H) (a := l2) (o := .lst (cutV xs (some 1) none))
    generalize upd H l2 (.lst (cutV xs (some 1) none)) = H1 at *
    rw [show (some (1 : Int)) = some ((1 : Nat) : Int) from rfl, Ot.cutV_from] at hl2
    have hl1 := e1 _ _ hl
    have kd1 := keyd_same kd e1
    have lm := kd.1
    refine ⟨l, l2, xs, xs.drop 1, rfl, SqL.of hl1, SqL.of hl2, fun D nD => ?_⟩
    refine lc_it (walk_zip (xs := xs) (ys := xs.drop 1) (n := xs.length - 1) (by rw [List.length_drop]; omega)) (Pv := Tk H1 D (((ms.zip (ms.drop 1)).map fun q => Ot.lexK q.1 q.2).map V.bl)) (Tk.start nD) (fun k G _ hh => ⟨SqL.of (hh.1 _ _ hl1), SqL.of (hh.1 _ _ hl2)⟩) ?_ ?_
    · rintro i v G1 G2 hi tk ⟨T1, x, y, rfl, nT, rfl, hx, hy⟩
      have h1 : i < ms.length := by omega
      have h2 : i + 1 < ms.length := by omega
      have hx : xs[i]? = some x := hx
      have hy : xs[i + 1]? = some y := by rw [← drop1_get]; exact hy
      obtain ⟨a, rfl, ha⟩ := kd1.2 i x ms[i] hx (List.getElem?_eq_getElem h1)
      obtain ⟨b, rfl, hb⟩ := kd1.2 (i + 1) y ms[i + 1] hy (List.getElem?_eq_getElem h2)
      have eT := same_upd (o := .tup [V.ref a, .ref b]) nT
      have hoT := upd_same (H := G1) (a := T1) (o := .tup [V.ref a, .ref b])
      have e3 := Same.trans tk.1 eT
      have ha3 : SqT K (upd G1 T1 (.tup [V.ref a, .ref b])) a (ms[i].map kV) := by
        rcases ha with ha | ha
        · rcases ha with ha | ⟨o, ha⟩
          · exact .inl (.inl (e3 _ _ ha))
          · exact .inl (.inr ⟨o, e3 _ _ ha⟩)
        · exact .inr ha
      have hb3 : SqT K (upd G1 T1 (.tup [V.ref a, .ref b])) b (ms[i + 1].map kV) := by
        rcases hb with hb | hb
        · rcases hb with hb | ⟨o, hb⟩
          · exact .inl (.inl (e3 _ _ hb))
          · exact .inl (.inr ⟨o, e3 _ _ hb⟩)
        · exact .inr hb
      generalize upd G1 T1 (.tup [V.ref a, .ref b]) = G3 at *
      refine ⟨T1, _, rfl, SqT.of hoT, rfl, _, _, rfl, _, _, rfl, rfl, rfl, ?_⟩
      unfold tYes
      refine iteT ⟨_, rfl, _, rfl, a, b, _, _, rfl, rfl, ha3, hb3, kn _ (List.getElem_mem h1) _ (List.getElem_mem h2), ?_⟩
      refine tk.step nD eT ?_ (by rw [List.length_map, List.length_map, List.length_zip, List.length_drop]; omega)
      rw [List.getElem?_map, climb_at (List.getElem?_eq_getElem h1) (List.getElem?_eq_getElem h2)]
      rfl
    · rintro G1 tk
      have hD := tk.done (by rw [List.length_map, List.length_map, List.length_zip, List.length_drop]; omega)
      refine ⟨D, _, rfl, SqL.of hD, ?_⟩
      rw [climb_all]
      exact q _ (e1.trans tk.1)
theorem ok_climbT {f : Addr} {fd : FuncData} (F : Fun K "climbs" "climbs" sClimbs f fd) (T : Nm mg) (nzip : mg "zip" = none) : FnOk P w K mg base CX0 1 f fd ["rows"] (spClimb K true) := by
  refine F.ok sc_climb (fun vs H Q E h => ?_) (fun cdv A outer s H vs Q E hr h => ?_)
  · obtain ⟨l, xs, ms, rfl, _⟩ := h
    rfl
  · obtain ⟨l, xs, ms, rfl, hl, kd, kn, lx, q⟩ := h
    have hu0 : (A.deeper (envOfC "climbs" (defScope sClimbs) s.heap.objs.size f cdv)).units < cLine := by have := hr.un; omega
    refine ⟨_, pss_one (ps_ret (pe_callB (cr_all rfl) (by rfl) T.all b_all (pa_cons (pe_lc (own := [("one", 1), ("other", 2)]) (g := gTup K 2 (gCons (gName 1) (gCons (gName 2) gNil))) (tt := tYes) rfl sc_climb.nd (RZ.pi_zipA (by rfl) nzip (pa_cons (pv 0) (pa_cons (pe_slice sl_tupA (pv 0) (po_some pe_int) po_none) pa_nil)))
          (blkOk_by (N := ["rows", "one", "other"]) (sc := defScope sClimbs) (by decide +kernel)) (fun _ _ _ _ _ => (pg_tup rfl (pgs_cons (pg_name (i := 1) sc_climb.nd rfl (.inl rfl)) (pgs_cons (pg_name (i := 2) sc_climb.nd rfl (.inl rfl)) pgs_nil)))) (fun _ _ _ _ _ => pts_nil) (fun _ _ _ _ _ => (pe_cmpR (r := Ot.rLtK K) (by exact Ot.op_ltK hu0) (pv 1) (pv 2) (by rfl)))) pa_nil))), ?_⟩
    simp only [Bool.false_eq_true, if_false, if_true] at hl
    refine ⟨_, rfl, _, rfl, 1, rfl, ?_⟩
    simp only [tNoPart]
    refine Ot.slA_read hl fun l2 H1 e1 hl2 => ?_
    rw [show (some (1 : Int)) = some ((1 : Nat) : Int) from rfl, Ot.cutV_from] at hl2
    have hl1 := e1 _ _ hl
    have kd1 := keyd_same kd e1
    have lm := kd.1
    refine ⟨l, l2, xs, xs.drop 1, rfl, .inr ⟨SqT.of hl1, SqT.of hl2, fun D nD => ?_⟩⟩
    refine lc_it (Ot.walkT2 (xs := xs) (ys := xs.drop 1) (n := xs.length - 1) (by rw [List.length_drop]; omega)) (Pv := Tk H1 D (((ms.zip (ms.drop 1)).map fun q => Ot.lexK q.1 q.2).map V.bl)) (Tk.start nD) (fun k G _ hh => ⟨SqT.of (hh.1 _ _ hl1), SqT.of (hh.1 _ _ hl2)⟩) ?_ ?_
    · rintro i v G1 G2 hi tk ⟨T1, x, y, rfl, nT, rfl, hx, hy⟩
      have h1 : i < ms.length := by omega
      have h2 : i + 1 < ms.length := by omega
      have hx : xs[i]? = some x := hx
      have hy : xs[i + 1]? = some y := by rw [← drop1_get]; exact hy
      obtain ⟨a, rfl, ha⟩ := kd1.2 i x ms[i] hx (List.getElem?_eq_getElem h1)
      obtain ⟨b, rfl, hb⟩ := kd1.2 (i + 1) y ms[i + 1] hy (List.getElem?_eq_getElem h2)
      have eT := same_upd (o := .tup [V.ref a, .ref b]) nT
      have hoT := upd_same (H := G1) (a := T1) (o := .tup [V.ref a, .ref b])
      have e3 := Same.trans tk.1 eT
      have ha3 : SqT K (upd G1 T1 (.tup [V.ref a, .ref b])) a (ms[i].map kV) := by
        rcases ha with ha | ha
        · rcases ha with ha | ⟨o, ha⟩
          · exact .inl (.inl (e3 _ _ ha))
          · exact .inl (.inr ⟨o, e3 _ _ ha⟩)
        · exact .inr ha
      have hb3 : SqT K (upd G1 T1 (.tup [V.ref a, .ref b])) b (ms[i + 1].map kV) := by
        rcases hb with hb | hb
        · rcases hb with hb | ⟨o, hb⟩
          · exact .inl (.inl (e3 _ _ hb))
          · exact .inl (.inr ⟨o, e3 _ _ hb⟩)
        · exact .inr hb
      generalize upd G1 T1 (.tup [V.ref a, .ref b]) = G3 at *
      refine ⟨T1, _, rfl, SqT.of hoT, rfl, _, _, rfl, _, _, rfl, rfl, rfl, ?_⟩
      unfold tYes
      refine iteT ⟨_, rfl, _, rfl, a, b, _, _, rfl, rfl, ha3, hb3, kn _ (List.getElem_mem h1) _ (List.getElem_mem h2), ?_⟩
      refine tk.step nD eT ?_ (by rw [List.length_map, List.length_map, List.length_zip, List.length_drop]; omega)
      rw [List.getElem?_map, climb_at (List.getElem?_eq_getElem h1) (List.getElem?_eq_getElem h2)]
      rfl
    · rintro G1 tk
      have hD := tk.done (by rw [List.length_map, List.length_map, List.length_zip, List.length_drop]; omega)
      refine ⟨D, _, rfl, SqL.of hD, ?_⟩
      rw [climb_all]
      exact q _ (e1.trans tk.1)
end
end Hs
/-! rows of numbers that stand in their order -/
namespace Hs
open PySem PySem.Spec PyProof.Rows L2 Am Rv
structure Rw where
  m : Str
  t : Nat
  n : Int
def rwO (r : Rw) : HO := .tup [.str r.m, .int r.t, .int r.n]
def rwD (r : Rw) : PyData := .tuple [.str r.m, .int r.t, .int r.n]
def seatK (r : Rw) : List Key := [.inr r.m, .inl r.t]
/-- a tuple of rows, of a heap -/
def RowsAt (H : Hp) (a : Addr) (rs : List Rw) : Prop := ∃ as : List Addr, H a = some (.tup (as.map V.ref)) ∧ Refs rwO H as rs
structure RwOk (L : Lore) (r : Rw) : Prop where
  m : r.m ∈ metersOf L
  t : 1 ≤ r.t ∧ r.t ≤ L.days
  n : 0 ≤ r.n ∧ r.n ≤ 9999
structure RowsOk (L : Lore) (rs : List Rw) : Prop where
  ok : ∀ r ∈ rs, RwOk L r
  cl : Ot.climbB (rs.map seatK) = true
theorem RowsAt.same {H H' : Hp} {a : Addr} {rs : List Rw} (h : RowsAt H a rs) (e : Same H H') : RowsAt H' a rs := by
  obtain ⟨as, h1, h2⟩ := h
  exact ⟨as, e _ _ h1, h2.same e⟩
theorem rw_dj {p : Addr} {H : Hp} {a : Addr} {r : Rw} (h : H a = some (rwO r)) : Dj p H (.ref a) (rwD r) := .tup h (.cons (.str _) (.cons (.int _) (.cons (.int _) .nil)))
theorem rw_row {L : Lore} {r : Rw} (h : RwOk L r) : isRow L (rwD r) = true := by
  have h1 : isMe L (.str r.m) = true := by
    show decide (r.m ∈ metersOf L) = true
    exact decide_eq_true h.m
  have h2 : isRm L (.int r.t) = true := by
    have := h.t
    simp only [isRm, Bool.and_eq_true, decide_eq_true_eq]
    omega
  have h3 : isNo (.int r.n) = true := by
    have := h.n
    simp only [isNo, Bool.and_eq_true, decide_eq_true_eq]
    omega
  show (isMe L (.str r.m) && (isRm L (.int r.t) && isNo (.int r.n))) = true
  rw [h1, h2, h3]
  rfl
theorem rw_lk {L : Lore} (mo : MeOk L) {r : Rw} (h : RwOk L r) : Lk1 (rwD r) := by
  intro d hd
  refine .inl ?_
  simp only [List.mem_cons, List.not_mem_nil, or_false] at hd
  rcases hd with rfl | rfl | rfl
  · have := mo r.m h.m
    simp [SeqAt.shaped, PyData.canLay0, PyData.depth, this]
  · simp [SeqAt.shaped, PyData.canLay0, PyData.depth]
  · simp [SeqAt.shaped, PyData.canLay0, PyData.depth]
theorem kin_seat (a b : Rw) : Ot.kin (seatK a) (seatK b) = true := rfl
def seatO (r : Rw) : HO := .tup [.str r.m, .int r.t]
theorem seatO_nl : ∀ (r : Rw) ys, seatO r ≠ .lst ys := fun _ _ z => by cases z
def spAreR (CH : Addr) : Sp := fun vs H Q _ => ∃ (h a : Addr) (x : Str) (L : Lore) (rs : List Rw), vs = [.ref h, .ref a] ∧ HouseAt CH H h x L ∧ MeOk L ∧ RowsAt H a rs ∧ RowsOk L rs ∧ rs.length ≤ 200 ∧ ∀ H', Same H H' → Q (.bl true) H'
section
variable {P : Program} {w : World} {K : PySem.W.Frag} {mg : Str → Option Value} {base : Heap} {CH p : Addr}
theorem sc_rows : FnScope ["house", "value", "row", "meter", "morning", "number"] ["house", "value"] (defScope sF_are_rows) := ⟨rfl, rfl, rfl, by decide +kernel, rfl, by decide +kernel, by decide +kernel⟩
theorem ok_are_rows {f : Addr} {fd : FuncData} (F : Fun K "are_rows" "are_rows" sF_are_rows f fd) (T : Nm mg) (ntup : mg "tuple" = none) (GR : ∀ p, GotF P w K mg base "is_row" 4 ["house", "value"] (spRow CH p)) (GC : GotF P w K mg base "climbs" 1 ["rows"] (spClimb K false)) :
    FnOk P w K mg base CX0 5 f fd ["house", "value"] (spAreR CH) := by
  obtain ⟨fC, dC, GC, bC, mC, kC⟩ := GC
  obtain ⟨fR, dR, GR, bR, mR, kR⟩ := GR 0
  refine F.ok sc_rows (fun vs H Q E h => ?_) (fun cdv A outer s H vs Q E hr h => ?_)
  · obtain ⟨h, a, x, L, rs, rfl, _⟩ := h
    rfl
  · obtain ⟨h, a, x, L, rs, rfl, hh, mo, ⟨as, ha, ras⟩, ok, ln, q⟩ := h
    have hr1 : Room 1 _ := hr.mono (by decide)
    have hr4 : Room 4 _ := hr.mono (by decide)
    have b_tup_ : bootBuiltins "tuple" = some (.type "tuple") := by decide +kernel
    refine ⟨_, (pss_cons (ps_if (PW.pt (pw_or (pt_not (pt_val (pe_callB call_isi (by rfl) T.isi b_isi (pa_cons (pv 1) (pa_cons (pe_bltn (v := .ty "tuple") (by rfl) ntup b_tup_ rfl) pa_nil))))) (pw_or1 (pt_not (pt_val (pe_callB (cr_all rfl) (by rfl) T.all b_all (pa_cons (pe_lc (own := [("row", 2)]) (g := gName 2) (tt := tYes) rfl sc_rows.nd (pi_tup (pv 1))
          (blkOk_by (N := ["house", "value", "row", "meter", "morning", "number"]) (sc := defScope sF_are_rows) (by decide +kernel)) (fun _ _ _ _ _ => (pg_name (i := 2) sc_rows.nd rfl (.inl rfl))) (fun _ _ _ _ _ => pts_nil) (fun _ _ _ _ _ => (pe_call GR hr4 (by rfl) mR kR bR .nil pass0 (pa_cons (pv 0) (pa_cons (pv 2) pa_nil))))) pa_nil))))))) (pss_one (ps_ret pe_bl)) pss_nil)
      (pss_one (ps_ret (pe_call GC hr1 (by rfl) mC kC bC .nil pass0 (pa_cons (pe_lc (own := [("meter", 3), ("morning", 4), ("number", 5)]) (g := gTup K 3 (gCons (gName 3) (gCons (gName 4) (gCons (gName 5) gNil)))) (tt := tYes) rfl sc_rows.nd (pi_tup (pv 1))
          (blkOk_by (N := ["house", "value", "row", "meter", "morning", "number"]) (sc := defScope sF_are_rows) (by decide +kernel)) (fun _ _ _ _ _ => (pg_tup rfl (pgs_cons (pg_name (i := 3) sc_rows.nd rfl (.inl rfl)) (pgs_cons (pg_name (i := 4) sc_rows.nd rfl (.inl rfl)) (pgs_cons (pg_name (i := 5) sc_rows.nd rfl (.inl rfl)) pgs_nil))))) (fun _ _ _ _ _ => pts_nil) (fun _ _ _ _ _ => (pe_tup (pa_cons (pv 3) (pa_cons (pv 4) pa_nil))))) pa_nil))))), ?_⟩
    have lm : rs.length = as.length := ras.1.symm
    refine ⟨_, rfl, .ref a, .ty "tuple", .type "tuple", .type "tuple", true, rfl, .ty _, .base (Bk.tyOf (.tup ha)), kit_ty (by decide +kernel), _, rfl, iteF ⟨_, rfl, a, rfl, ⟨_, SqT.of ha⟩, fun D nD => ?_⟩⟩
    refine lc_it (walk_tup (xs := as.map V.ref)) (Pv := Tk H D (List.replicate rs.length (V.bl true))) (Tk.start nD) (fun k G _ hh => SqT.of (hh.1 _ _ ha)) ?_ ?_
    · rintro i v G1 G2 hi tk ⟨rfl, hv⟩
      refine ⟨rfl, ?_⟩
      unfold tYes
      obtain ⟨r, y, rfl, hr', hy, ho⟩ := ras.at hv
      have h1 : i < rs.length := by
        have := (List.getElem?_eq_some_iff.mp hy).1
        exact this
      have ym : y ∈ rs := List.mem_of_getElem? hy
      have ho1 := tk.1 _ _ ho
      refine iteT ⟨_, rfl, _, rfl, h, x, L, .ref r, rwD y, rfl, hh.same tk.1, mo, rw_dj ho1, rw_lk mo (ok.ok y ym), ?_⟩
      rw [rw_row (ok.ok y ym)]
      refine tk.step nD (Same.refl _) ?_ (by rw [List.length_replicate]; omega)
      rw [List.getElem?_replicate, if_pos h1]
    · rintro G1 tk
      have hD := tk.done (by rw [List.length_map, List.length_replicate, lm])
      have e1 := tk.1
      refine ⟨D, List.replicate rs.length true, rfl, SqL.of (by rw [List.map_replicate]; exact hD), ?_⟩
      rw [show (List.replicate rs.length true).all id = true by simp]
      refine ⟨_, rfl, iteF ?_⟩
      refine ⟨_, rfl, a, rfl, ⟨_, SqT.of (e1 _ _ ha)⟩, fun D2 nD2 => ?_⟩
      refine lc_it (walk_tup (xs := as.map V.ref)) (Pv := fun k H' => Same G1 H' ∧ LstAt seatO H' D2 (rs.take k)) ⟨same_upd nD2, [], upd_same, Refs.nil⟩ (fun k H' _ hh => SqT.of (hh.1 _ _ (e1 _ _ ha))) ?_ ?_
      · rintro k v K0 K1 hk ⟨f1, ds, hD2, rds⟩ ⟨rfl, hv⟩
        obtain ⟨r, y, rfl, hr', hy, ho⟩ := ras.at hv
        have h1 : k < rs.length := (List.getElem?_eq_some_iff.mp hy).1
        have ho1 := f1 _ _ (e1 _ _ ho)
        refine ⟨r, _, rfl, SqT.of ho1, rfl, _, _, rfl, _, _, rfl, _, _, rfl, rfl, rfl, ?_⟩
        unfold tYes
        refine iteT ⟨_, rfl, _, rfl, (show 2 ≤ sizeLine by decide), fun T2 nT2 => ?_⟩
        obtain ⟨g1, g2⟩ := LstAt.grow (x := y) hD2 rds nT2 seatO_nl
        refine ⟨ds.map V.ref, (upd_ne (ne_of_none hD2 nT2)).trans hD2, ?_, fun b u z => g2 _ _ (f1 _ _ z) (by simpa using ne_of_none z nD2), ?_⟩
        · rw [List.length_map, rds.1, List.length_take, sizeLine_eq]
          omega
        · rw [List.take_add_one, hy]
          exact g1
      · rintro K0 ⟨f1, h2⟩
        rw [show (as.map V.ref).length = rs.length by rw [List.length_map, lm], List.take_length] at h2
        obtain ⟨ds, hD2, rds⟩ := h2
        refine ⟨D2, ds.map V.ref, rs.map seatK, rfl, hD2, ⟨by rw [List.length_map, List.length_map, rds.1], fun i x m hx hm => ?_⟩, fun a ha b hb => ?_, by rw [List.length_map, rds.1]; exact ln, fun H' e => ?_⟩
        · obtain ⟨r, y, rfl, hr', hy, ho⟩ := rds.at hx
          rw [List.getElem?_map, hy] at hm
          cases hm
          exact ⟨r, rfl, SqT.of ho⟩
        · obtain ⟨a', _, rfl⟩ := List.mem_map.mp ha
          obtain ⟨b', _, rfl⟩ := List.mem_map.mp hb
          rfl
        · rw [ok.cl]
          exact q _ ((e1.trans f1).trans e)
end
end Hs
/-! stretches between neighbouring numbers -/
namespace Hs
open PySem PySem.Spec PyProof.Rows L2 Am Rv
structure La where
  m : Str
  f : Nat
  b : Nat
  u : Int
def laO (l : La) : HO := .tup [.str l.m, .int l.f, .int l.b, .int l.u]
theorem laO_nl : ∀ (r : La) ys, laO r ≠ .lst ys := fun _ _ z => by cases z
def laneGo (m : Str) : Nat → Int → List Rw → List La
  | _, _, [] => []
  | f, e, r :: rs => if r.m = m then ⟨m, f, r.t, r.n - e⟩ :: laneGo m r.t r.n rs else laneGo m f e rs
def lanes (ms : List Str) (rs : List Rw) : List La := ms.flatMap fun m => laneGo m 0 0 rs
theorem laneGo_len (m : Str) : ∀ (rs : List Rw) (f : Nat) (e : Int), (laneGo m f e rs).length ≤ rs.length
  | [], _, _ => Nat.le_refl _
  | r :: rs, f, e => by
    unfold laneGo
    split
    · have := laneGo_len m rs r.t r.n
      simp only [List.length_cons]
      omega
    · have := laneGo_len m rs f e
      simp only [List.length_cons]
      omega
theorem lanes_len (rs : List Rw) : ∀ ms : List Str, (lanes ms rs).length ≤ ms.length * rs.length
  | [] => by simp [lanes]
  | m :: ms => by
    have h1 := laneGo_len m rs 0 0
    have h2 := lanes_len rs ms
    have e : lanes (m :: ms) rs = laneGo m 0 0 rs ++ lanes ms rs := rfl
    rw [e, List.length_append, List.length_cons, Nat.succ_mul]
    omega
theorem lanes_take {ms : List Str} {rs : List Rw} {i : Nat} {m : Str} (h : ms[i]? = some m) : lanes (ms.take (i + 1)) rs = lanes (ms.take i) rs ++ laneGo m 0 0 rs := by
  rw [List.take_add_one, h]
  unfold lanes
  simp
def LanesAt (H : Hp) (a : Addr) (ls : List La) : Prop := ∃ as : List Addr, H a = some (.tup (as.map V.ref)) ∧ Refs laO H as ls
def spStr (CH : Addr) : Sp := fun vs H Q _ => ∃ (h a : Addr) (x : Str) (L : Lore) (rs : List Rw), vs = [.ref h, .ref a] ∧ HouseAt CH H h x L ∧ RowsAt H a rs ∧ rs.length ≤ 200 ∧ (metersOf L).length ≤ 20 ∧
  ∀ H' t, Same H H' → H t = none → LanesAt H' t (lanes (metersOf L) rs) → Q (.ref t) H'
section
variable {P : Program} {w : World} {K : PySem.W.Frag} {mg : Str → Option Value} {base : Heap} {CH : Addr}
theorem sc_st : FnScope ["house", "rows", "found", "meter", "first", "elder", "name", "morning", "number"] ["house", "rows"] (defScope sF_stretches_of) := ⟨rfl, rfl, rfl, by decide +kernel, rfl, by decide +kernel, by decide +kernel⟩
theorem ok_stretches_of {f : Addr} {fd : FuncData} (F : Fun K "stretches_of" "stretches_of" sF_stretches_of f fd) (ho : HoC K CH) (ntup : mg "tuple" = none) : FnOk P w K mg base CX0 1 f fd ["house", "rows"] (spStr CH) := by
  refine F.ok sc_st (fun vs H Q E h => ?_) (fun cdv A outer s H vs Q E hr h => ?_)
  · obtain ⟨h, a, x, L, rs, rfl, _⟩ := h
    rfl
  · obtain ⟨h, a, x, L, rs, rfl, hh, ⟨as, ha, ras⟩, ln, lm, q⟩ := h
    refine ⟨_, (pss_cons (ps_set (i := 2) sc_st.nd rfl (.inl rfl) (pe_lst pa_nil))
      (pss_cons (ps_for PassesOwn.never rfl (pi_tup (pe_fld (pv 0) rfl)) (pg_name (i := 3) sc_st.nd rfl (.inl rfl)) (pss_cons (ps_asg (pe_tup (pa_cons pe_int (pa_cons pe_int pa_nil))) (pg_tup rfl (pgs_cons (pg_name (i := 4) sc_st.nd rfl (.inl rfl)) (pgs_cons (pg_name (i := 5) sc_st.nd rfl (.inl rfl)) pgs_nil))))
      (pss_one (ps_for (g := (gTup K 3 (gCons (gName 6) (gCons (gName 7) (gCons (gName 8) gNil))))) PassesOwn.never rfl (pi_tup (pv 1)) (pg_tup rfl (pgs_cons (pg_name (i := 6) sc_st.nd rfl (.inl rfl)) (pgs_cons (pg_name (i := 7) sc_st.nd rfl (.inl rfl)) (pgs_cons (pg_name (i := 8) sc_st.nd rfl (.inl rfl)) pgs_nil)))) (pss_one (ps_if (pt_cmpR op_eq (pv 6) (pv 3) (nomark _)) (pss_cons (ps_expr (pe_bm PySem.F.plainAttrs_list PySem.F.slot_list_append PySem.F.type_list_append mt_append (pv 2) (pa_cons (pe_tup (pa_cons (pv 3) (pa_cons (pv 4) (pa_cons (pv 7) (pa_cons (pe_op op_sub (pv 8) (pv 5)) pa_nil))))) pa_nil)))
      (pss_one (ps_par (by rfl) sc_st.nd (i := 4) (j := 5) rfl rfl (by decide) rfl rfl (pa_cons (pv 7) (pa_cons (pv 8) pa_nil)) (by rfl)))) pss_nil))))))
      (pss_one (ps_ret (pe_tupleOf (by rfl) ntup (pv 2)))))), ?_⟩
    obtain ⟨dx, fa, b, c, r, t, pp, rs0, ts, ys, h1, h2, h3, h4, _⟩ := hh
    refine ⟨(show 0 ≤ sizeLine by decide), fun l nl => ?_⟩
    have e0 := same_upd (o := .lst []) nl
    have hl0 : LstAt laO (upd H l (.lst [])) l [] := ⟨[], upd_same, Refs.nil⟩
    generalize upd H l (.lst []) = B0 at *
    refine ⟨_, rfl, h, CH, dx, _, _, rfl, e0 _ _ h1, ho.cl, ho.n4, hfs_me _ _ _ _ _ _ _ _, b, rfl, ⟨_, SqT.of (e0 _ _ h4)⟩, ?_⟩
    refine for_it (walk_tup (xs := (metersOf L).map V.str)) (fun i σ H' => ∃ (s3 s4 s5 s6 s7 s8 : Option V), σ = [some (.ref h), some (.ref a), some (.ref l), s3, s4, s5, s6, s7, s8] ∧ Same H H' ∧ LstAt laO H' l (lanes ((metersOf L).take i) rs)) ?_ ?_ ?_ ?_
    · exact ⟨_, _, _, _, _, _, rfl, e0, hl0⟩
    · rintro i σ H' _ ⟨_, _, _, _, _, _, _, e, _⟩
      exact SqT.of (e _ _ h4)
    · rintro i v σ G1 G2 hi ⟨s3, s4, s5, s6, s7, s8, rfl, e1, hl1⟩ ⟨rfl, hv⟩
      have hi' : i < (metersOf L).length := by rw [List.length_map] at hi; exact hi
      obtain ⟨m, hm, rfl⟩ : ∃ m, (metersOf L)[i]? = some m ∧ V.str m = v := by
        rw [List.getElem?_map, List.getElem?_eq_getElem hi'] at hv
        exact ⟨_, List.getElem?_eq_getElem hi', Option.some.inj hv⟩
      refine ⟨(show 2 ≤ sizeLine by decide), fun t0 n0 => ⟨t0, _, rfl, SqT.of upd_same, rfl, _, _, rfl, _, _, rfl, rfl, ?_⟩⟩
      have et := same_upd (o := .tup [V.int 0, V.int 0]) n0
      have e2 := e1.trans et
      have hl2 := hl1.same et
      clear et n0 hl1 e1
      generalize upd G2 t0 (.tup [V.int 0, V.int 0]) = G3 at *
      refine ⟨_, rfl, a, rfl, ⟨_, SqT.of (e2 _ _ ha)⟩, ?_⟩
      refine for_it (walk_tup (xs := as.map V.ref)) (fun k σ H' => ∃ (f : Nat) (e : Int) (pre : List La) (s6 s7 s8 : Option V), σ = [some (.ref h), some (.ref a), some (.ref l), some (.str m), some (.int f), some (.int e), s6, s7, s8] ∧ Same H H' ∧ LstAt laO H' l (lanes ((metersOf L).take i) rs ++ pre) ∧ laneGo m 0 0 rs = pre ++ laneGo m f e (rs.drop k)) ?_ ?_ ?_ ?_
      · exact ⟨0, 0, [], _, _, _, rfl, e2, by rw [List.append_nil]; exact hl2, rfl⟩
      · rintro k σ H' _ ⟨_, _, _, _, _, _, _, e, _⟩
        exact SqT.of (e _ _ ha)
      · rintro k v σ K1 K2 hk ⟨f0, el, pre, s6, s7, s8, rfl, e3, hl3, hg⟩ ⟨rfl, hv⟩
        obtain ⟨ra, y, rfl, hr', hy, hor⟩ := ras.at hv
        have hk1 : k < rs.length := (List.getElem?_eq_some_iff.mp hy).1
        have hor3 := e3 _ _ hor
        have dr : rs.drop k = y :: rs.drop (k + 1) := by
          rw [List.drop_eq_getElem_cons hk1]
          rw [List.getElem?_eq_getElem hk1] at hy
          rw [Option.some.inj hy]
        rw [dr] at hg
        have gc : laneGo m f0 el (y :: rs.drop (k + 1)) = if y.m = m then ⟨m, f0, y.t, y.n - el⟩ :: laneGo m y.t y.n (rs.drop (k + 1)) else laneGo m f0 el (rs.drop (k + 1)) := rfl
        rw [gc] at hg
        refine ⟨ra, _, rfl, SqT.of hor3, rfl, _, _, rfl, _, _, rfl, _, _, rfl, rfl, ?_⟩
        refine ⟨_, rfl, _, rfl, rfl, ?_⟩
        by_cases hm2 : y.m = m
        · rw [show decide (V.str y.m = V.str m) = true from decide_eq_true (by rw [hm2])]
          rw [if_pos hm2] at hg
          obtain ⟨ds, hd, rds⟩ := hl3
          refine ⟨_, rfl, iteT ?_⟩
          refine ⟨.ref l, rfl, .inl ⟨rfl, _, SqL.of hd⟩, _, rfl, _, rfl, _, rfl, _, rfl, _, rfl, _, _, rfl, rfl, (show 4 ≤ sizeLine by decide), fun T nT => ?_⟩
          obtain ⟨g1, g2⟩ := LstAt.grow (x := (⟨m, f0, y.t, y.n - el⟩ : La)) hd rds nT laO_nl
          have nlT : H l = none := nl
          refine ⟨l, _, _, rfl, rfl, (upd_ne (ne_of_none hd nT)).trans hd, ?_, _, rfl, _, rfl, _, _, rfl, ?_⟩
          · have z1 := lanes_len rs ((metersOf L).take i)
            have z2 := laneGo_len m rs 0 0
            have z3 := congrArg List.length hg
            rw [List.length_append] at z3
            have z4 : ((metersOf L).take i).length * rs.length ≤ 20 * 200 := Nat.mul_le_mul (by rw [List.length_take]; omega) ln
            rw [List.length_map, rds.1, List.length_append, sizeLine_eq]
            omega
          · refine ⟨y.t, y.n, pre ++ [⟨m, f0, y.t, y.n - el⟩], _, _, _, rfl, fun b' u z => g2 _ _ (e3 _ _ z) (by simpa using ne_of_none z nl), ?_, ?_⟩
            · rw [← List.append_assoc]
              exact g1
            · rw [hg, List.append_assoc]
              rfl
        · rw [show decide (V.str y.m = V.str m) = false from decide_eq_false (fun z => hm2 (V.str.inj z))]
          rw [if_neg hm2] at hg
          exact ⟨_, rfl, iteF ⟨f0, el, pre, _, _, _, rfl, e3, hl3, hg⟩⟩
      · rintro σ K1 ⟨f0, el, pre, s6, s7, s8, rfl, e3, hl3, hg⟩
        refine ⟨_, _, _, _, _, _, rfl, e3, ?_⟩
        rw [show (as.map V.ref).length = rs.length by rw [List.length_map, ras.1], List.drop_length] at hg
        rw [lanes_take hm, hg]
        unfold laneGo
        rw [List.append_nil]
        exact hl3
    · rintro σ G1 ⟨s3, s4, s5, s6, s7, s8, rfl, e1, hl1⟩
      rw [List.length_map, List.take_length] at hl1
      obtain ⟨ds, hd, rds⟩ := hl1
      refine ⟨_, rfl, .inl ⟨l, _, rfl, SqL.of hd, fun t1 nt1 => ?_⟩⟩
      have et := same_upd (o := .tup (ds.map V.ref)) nt1
      have nh : H t1 = none := by
        cases z : H t1 with
        | none => rfl
        | some u => rw [e1 _ _ z] at nt1; cases nt1
      exact q _ t1 (e1.trans et) nh ⟨ds, upd_same, rds.same et⟩

end
end Hs
/-! {(a, b): v for ..}: a dict of tuple keys by a walk -/
namespace Dct
open PySem PySem.Spec PyProof.Rows L2
/-- the dict D gets the pair of this key (a tuple) and this value -/
def Pt (H : Hp) (D : Addr) (y z : V) (H' : Hp) : Prop := ∃ (kvs : List (List Key × V)) (k : List Key) (b : Addr), y = .ref b ∧ H b = some (.tup (k.map kV)) ∧ H D = some (.dT kvs) ∧ kvs.length < sizeLine ∧ H' = upd H D (.dT (putK kvs k z))
theorem put_pair {X : Cx} {pins : List (Addr × Obj)} {τ : L2.St} {G G' : Hp} {z : Shared} {E : Value → Shared → Prop} {D : Addr} {y v : V} {u r : Value} {Q : Unit → Shared → Prop} (hu : X.A.units + 1 < cLine) (J : Inv X pins τ G z) (g : Pt G D y v G') (ry : RelV y u) (rv : RelV v r)
    (want : ∀ z', Inv X pins τ G' z' → Q () z') : wpAny (model X.prog X.w) X.A (dictSet D u r) Q E z := by
  obtain ⟨kvs, k, b, rfl, keyAt, dictAt, small, rfl⟩ := g
  cases (show u = Value.ref b from ry)
  obtain ⟨fits, notSys, pairs, rel, dd⟩ := dt_of J.hok dictAt
  have len := Paired.length rel
  have more := length_putK kvs k v
  refine wpAny_dictSet_heap (hsz := by omega) (show X.A.units < cLine from Nat.lt_of_succ_lt hu) (key_of J.hok keyAt) dd ?_
  intro h2 dd2 same
  obtain ⟨o, es, ep, o1, o2, o3, o4, _, o5⟩ := dd2
  apply want
  refine d_write J (by rw [dictAt]; trivial) same ⟨o, o1⟩ ⟨by omega, notSys, _, ?_, o, es, ep, o1, o2, o3, o4, o5⟩
  refine (rel.put k keyAt rv).keeps ?_
  intro c ys ec
  have apart : c ≠ D := ne_of ec dictAt (by intro q; cases q)
  exact (upd_ne apart).trans ec
/-- what the comprehension asks: D the new dict -/
def tDcT (wi : TI) (g : TG) (tt : TT) (tk tv : TE) (vs : List Nat) : TE := fun σ H Q => wi σ H fun J H1 => ∀ D, H1 D = none → ∃ W : Nat → Nat → Hp → Prop, (∃ m, W 0 m (upd H1 D (.dT []))) ∧ ∀ i m H, W i m H →
  (J.stop i H ∧ Q (.ref D) H) ∨ (J.go i H ∧ ∃ Nx : Hp → Prop, (∀ H', Nx H' → ∃ m', m' < m ∧ W (i + 1) m' H') ∧ ∀ x H', J.yld i H x H' → g x (wipe σ vs) H' fun σ2 H2 => wipe σ2 vs = wipe σ vs ∧ tt σ2 H2 fun b H3 =>
    if b = true then tk σ2 H3 fun y H4 => tv σ2 H4 fun z H5 => ∃ H6, Pt H5 D y z H6 ∧ Nx H6 else Nx H3)
section
variable {X : Cx}
theorem core {pins : List (Addr × Obj)} {z : Shared} {τ : L2.St} {G : Hp} {Q : VK} {kx vx tg iter : Expr} {ifs : List Expr} {scope : Scope} {own : List (Str × Nat)} {pos pos' : Pos} {wi : TI} {g : TG} {tt : TT} {tk tv : TE} {use : Option (Value → Sem Unit)} {Qf : Value → Shared → Prop}
    (hu : X.A.units + 1 < cLine) (calm : X.calm = true) (nodup : X.N.Nodup) (J : Inv X pins τ G z) (it : PI X tg iter wi) (bk : BlkOk X.N X.env.scope scope own)
    (pgt : ∀ (s : Shared) (H : Hp) (C : Addr) (cl : List (Str × Addr)) (fp : List Addr), PG (X.blk s H scope (compEnvC scope cl C X.env) fp) tg g) (pts : ∀ (s : Shared) (H : Hp) (C : Addr) (cl : List (Str × Addr)) (fp : List Addr), PTs (X.blk s H scope (compEnvC scope cl C X.env) fp) ifs tt)
    (pkey : ∀ (s : Shared) (H : Hp) (C : Addr) (cl : List (Str × Addr)) (fp : List Addr), PE (X.blk s H scope (compEnvC scope cl C X.env) fp) kx tk) (pval : ∀ (s : Shared) (H : Hp) (C : Addr) (cl : List (Str × Addr)) (fp : List Addr), PE (X.blk s H scope (compEnvC scope cl C X.env) fp) vx tv)
    (plain : ∀ x, foldedSetIterable iter X.env x = pure x) (want : tDcT wi g tt tk tv (own.map (·.2)) τ G Q)
    (back : ∀ D C z' m G', Inv X pins τ G' z' → Q (.ref D) G' → z'.heap.Ns C m → FpOk X pins G' C → compPost (model X.prog X.w) X.A X.xe use Qf (.ref D) C (.ok .next) z') :
    wpAny (model X.prog X.w) X.A (comprehension (.DictComp kx vx [⟨tg, iter, ifs, 0⟩] scope pos) scope X.env pos' newDict false (eval iter X.env) use) Qf X.xe z := by
  have frees : ∀ y ∈ scope.names, y.2 = .free → ∃ c, X.env.cells.lookup y.1 = some c := by
    intro y hy e
    exact J.ok.has _ (bk.free y hy e)
  refine wpAny_comprehension_free (use := use) rfl plain (closure_ok frees) bk.kind (fun y hy e => by rw [bk.uniq y hy, e]) ?_
  refine thn (it.run pins z τ G _ J want) fun _ _ got => thn got fun _ zi goti => ?_
  obtain ⟨ix, fp, tn, Jt, Gi, rfl, Ji, Tr, ti, fi, q⟩ := goti
  refine wpAny_newObj_type (newEnv_comp ?_)
  generalize hD : zi.heap.objs.size = D
  have free : Gi D = none := Ji.hok.fresh (Nat.le_of_eq hD)
  obtain ⟨W, ⟨m0, start⟩, turn⟩ := q D free
  generalize hz3 : ({ zi with heap := zi.heap.push { cls := .type "dict", data := .dict #[] } } : Shared) = z3
  have J3 : Inv X pins τ (upd Gi D (.dT [])) z3 := by
    subst hz3 hD
    exact Ji.laid (t' := zi.toks) (fun _ _ e => Heap.get?_push_of_some _ e) (Nat.le_refl _) (dt_empty zi.heap Ji.big)
  have heap3 : z3.heap = zi.heap.push { cls := .type "dict", data := .dict #[] } := by rw [← hz3]
  have below : ∀ b ∈ fp, b < zi.heap.objs.size := by
    intro b hb
    obtain ⟨_, e, _⟩ := Tr.obj _ _ ti b hb
    exact Heap.lt_size e
  have fits : ∀ b ∈ fp, FpOk X pins (upd Gi D (.dT [])) b ∧ b < z3.heap.objs.size := by
    intro b hb
    have lt := below b hb
    have nD : b ≠ D := by rw [← hD]; exact Nat.ne_of_lt lt
    exact ⟨⟨(upd_ne nD).trans (fi b hb).1, (fi b hb).2⟩, by rw [heap3, Heap.size_push]; exact Nat.lt_succ_of_lt lt⟩
  have t3 : tn 0 z3.heap := by
    refine Tr.keep _ _ _ ti ?_
    intro b _ o e
    rw [heap3]
    exact Heap.get?_push_of_some _ e
  have J4 := block_start J3 bk nodup fits
  have p1 := pgt z3 (upd Gi D (.dT [])) z3.heap.objs.size (cellsFrom (z3.heap.objs.size + 1) scope.names (cloFrom X.env.cells scope.names [])) fp
  have p2 := pts z3 (upd Gi D (.dT [])) z3.heap.objs.size (cellsFrom (z3.heap.objs.size + 1) scope.names (cloFrom X.env.cells scope.names [])) fp
  have p3 := pkey z3 (upd Gi D (.dT [])) z3.heap.objs.size (cellsFrom (z3.heap.objs.size + 1) scope.names (cloFrom X.env.cells scope.names [])) fp
  have p4 := pval z3 (upd Gi D (.dT [])) z3.heap.objs.size (cellsFrom (z3.heap.objs.size + 1) scope.names (cloFrom X.env.cells scope.names [])) fp
  show codeAny _ _ (.compStart (.DictComp kx vx [⟨tg, iter, ifs, 0⟩] scope pos) 0 (.ref ix) (.ref D) (compEnvC scope (cellsFrom (z3.heap.objs.size + 1) scope.names (cloFrom X.env.cells scope.names [])) z3.heap.objs.size X.env)) (compPost (model X.prog X.w) X.A X.xe use Qf (.ref D) z3.heap.objs.size)
    { z3 with heap := pushCells (z3.heap.push { cls := .type "dict", data := .dict #[] }) scope.names }
  have unknown : ∀ b ∈ fp, (upd Gi D (.dT [])) b = none := fun b hb => (fits b hb).1.1
  generalize hce : compEnvC scope (cellsFrom (z3.heap.objs.size + 1) scope.names (cloFrom X.env.cells scope.names [])) z3.heap.objs.size X.env = ce at J4 p1 p2 p3 p4 ⊢
  have atC : ce.locals = z3.heap.objs.size := by rw [← hce]; rfl
  generalize hG3 : upd Gi D (.dT []) = G3 at J3 J4 p1 p2 p3 p4 start unknown fits
  generalize hz4 : ({ z3 with heap := pushCells (z3.heap.push { cls := .type "dict", data := .dict #[] }) scope.names } : Shared) = z4 at J4 ⊢
  have t4 : tn 0 z4.heap := by
    refine Tr.keep _ _ _ t3 ?_
    intro b _ o e
    rw [← hz4]
    exact pushCells_keeps _ _ _ _ (Heap.get?_push_of_some _ e)
  have still : ∀ {τ' : L2.St} {G' : Hp} {z' : Shared}, Inv (X.blk z3 G3 scope ce fp) [] τ' G' z' → (∀ b ∈ fp, G' b = none) → ∀ b ∈ fp, FpOk (X.blk z3 G3 scope ce fp) [] G' b := by
    intro τ' G' z' I' no b hb
    refine ⟨no b hb, (I'.ok.exf b hb).1, I'.ok.exfs b hb, .inl hb, (fun x c e => (I'.ok.exf b hb).2 x c e), ?_⟩
    intro p hp
    exact absurd (show p ∈ ([] : List (Addr × Obj)) ++ [] from hp) (by simp)
  have loop : codeAny (model X.prog X.w) X.A (.compLoop (.DictComp kx vx [⟨tg, iter, ifs, 0⟩] scope pos) 0 (.ref ix) (.ref D) ce) (compPost (model X.prog X.w) X.A X.xe use Qf (.ref D) z3.heap.objs.size) z4 := by
    refine compLoop_anyD (fun n z' => ∃ i G', Inv (X.blk z3 G3 scope ce fp) [] (wipe τ (own.map (·.2))) G' z' ∧ tn i z'.heap ∧ (∀ b ∈ fp, G' b = none) ∧ W i n G') ?_ m0 ⟨0, G3, J4, t4, unknown, start⟩
    rintro n z5 ⟨i, G5, J5, t5, no5, w5⟩
    rcases turn i n G5 w5 with ⟨stop, done⟩ | ⟨go, Nx, down, step⟩
    · refine thnF (Tr.done (X.blk z3 G3 scope ce fp) rfl rfl rfl calm i [] z5 _ G5 (fun _ _ => False) J5 (still J5 no5) t5 stop) ?_
      rintro r z6 ⟨rfl, J6⟩
      have J7 : Inv X pins τ G5 z6 := J3.call' (ch := fp) J6.os J6.base J6.hok J6.bare fun b hb => ⟨(fits b hb).1.2.2.2.1, (fits b hb).1.2.1, (fits b hb).1.2.2.2.2.1, (fits b hb).1.2.2.2.2.2⟩
      have noC : G5 z3.heap.objs.size = none := atC ▸ (show G5 ce.locals = none from J6.free)
      obtain ⟨m, space, _⟩ := J6.loc
      have space : z6.heap.Ns z3.heap.objs.size m := atC ▸ (show z6.heap.Ns ce.locals m from space)
      exact back D z3.heap.objs.size z6 m G5 J7 done space (J3.fpOk (Nat.le_refl _) noC)
    · refine thnF (Tr.item (X.blk z3 G3 scope ce fp) rfl rfl rfl calm i [] z5 _ G5 (fun _ _ => False) J5 (still J5 no5) t5 go) ?_
      rintro r z6 ⟨u, rfl, got6⟩
      refine thnF got6 ?_
      rintro _ z7 ⟨x, G7, J7, rel, yl, t7, no7⟩
      refine thnF (p1.run _ z7 _ G7 x u _ (J7.pinned (still J7 no7) (Tr.obj _ _ t7)) rel (step x G7 yl)) ?_
      rintro _ z8 ⟨τ8, G8, J8, same, q8⟩
      refine thnF (p2.run _ z8 τ8 G8 _ J8 q8) ?_
      rintro b z9 ⟨G9, J9, q9⟩
      have fin : ∀ {z' : Shared} {G' : Hp}, Inv (X.blk z3 G3 scope ce fp) ([] ++ pinsAt fp z7.heap) τ8 G' z' → Nx G' → ∃ m, m < n ∧ ∃ i G', Inv (X.blk z3 G3 scope ce fp) [] (wipe τ (own.map (·.2))) G' z' ∧ tn i z'.heap ∧ (∀ b ∈ fp, G' b = none) ∧ W i m G' := by
        intro z' G' I' nx
        obtain ⟨m', lt, w'⟩ := down G' nx
        have pinned : ∀ b ∈ fp, ∀ o, z7.heap.get? b = some o → z'.heap.get? b = some o ∧ G' b = none := by
          intro b hb o e
          have z := I'.pin (b, o) (List.mem_append_right _ (List.mem_append_right _ (mem_pinsAt hb e)))
          exact ⟨z.1, z.2.1⟩
        have lens : (wipe τ (own.map (·.2))).length = τ8.length := by rw [← same, wipe_length]
        refine ⟨m', lt, i + 1, G', (I'.unpinned (pins := [])).weak lens ?_, Tr.keep _ _ _ t7 (fun b hb o e => (pinned b hb o e).1), ?_, w'⟩
        · intro j v e
          rw [← same] at e
          exact (wipe_some e).1
        · intro b hb
          obtain ⟨o, e, _⟩ := Tr.obj _ _ t7 b hb
          exact (pinned b hb o e).2
      cases b with
      | false =>
        simp only [Bool.false_eq_true, if_false] at q9 ⊢
        exact fin J9 q9
      | true =>
        simp only [if_true] at q9 ⊢
        refine thnF (p3.run _ z9 τ8 G9 _ J9 q9) ?_
        rintro uk z10 ⟨yk, G10, J10, rk, q10⟩
        refine thnF (p4.run _ z10 τ8 G10 _ J10 q10) ?_
        rintro uv z11 ⟨yv, G11, J11, rv, G12, put, nx⟩
        exact put_pair (X := X.blk z3 G3 scope ce fp) hu J11 put rk rv fun z12 J12 => fin J12 nx
  exact codeAny_compStart_dict loop (Tr.self X.A 0 _ _ _ t4 loop)
theorem pe_dcT {kx vx tg iter : Expr} {ifs : List Expr} {scope : Scope} {own : List (Str × Nat)} {pos : Pos} {wi : TI} {g : TG} {tt : TT} {tk tv : TE} (hu : X.A.units + 1 < cLine) (calm : X.calm = true) (nodup : X.N.Nodup) (it : PI X tg iter wi) (bk : BlkOk X.N X.env.scope scope own)
    (pgt : ∀ (s : Shared) (H : Hp) (C : Addr) (cl : List (Str × Addr)) (fp : List Addr), PG (X.blk s H scope (compEnvC scope cl C X.env) fp) tg g) (pts : ∀ (s : Shared) (H : Hp) (C : Addr) (cl : List (Str × Addr)) (fp : List Addr), PTs (X.blk s H scope (compEnvC scope cl C X.env) fp) ifs tt)
    (pkey : ∀ (s : Shared) (H : Hp) (C : Addr) (cl : List (Str × Addr)) (fp : List Addr), PE (X.blk s H scope (compEnvC scope cl C X.env) fp) kx tk) (pval : ∀ (s : Shared) (H : Hp) (C : Addr) (cl : List (Str × Addr)) (fp : List Addr), PE (X.blk s H scope (compEnvC scope cl C X.env) fp) vx tv)
    (plain : ∀ x, foldedSetIterable iter X.env x = pure x := by intro _; rfl) : PE X (.DictComp kx vx [⟨tg, iter, ifs, 0⟩] scope pos) (tDcT wi g tt tk tv (own.map (·.2))) := by
  constructor
  intro pins z τ G Q J want
  rw [arm_eval_DictComp]
  refine core hu calm nodup J it bk pgt pts pkey pval plain want ?_
  intro D C z' m G' J' q space f
  refine ⟨m, space, fun h2 sb => ?_⟩
  obtain ⟨f0, f1, f2, f3, f4, f5⟩ := f
  exact ⟨.ref D, G', J'.turned (t' := z'.toks) (fun b o hb e => (sb.2 b hb).trans e) f0 f1 f3 f4 f5, rfl, q⟩
end
theorem dcT_it {J : It} {n : Nat} {G : Hp → Prop} {Y : Nat → Hp → V → Hp → Prop} (walk : Walk J n G Y) {g : TG} {tt : TT} {tk tv : TE} {vs : List Nat} {σ : L2.St} {H1 : Hp} {D : Addr} {Qd : Hp → Prop} (Pv : Nat → Hp → Prop) (first : Pv 0 (upd H1 D (HO.dT []))) (good : ∀ (i : Nat) (H : Hp), i ≤ n → Pv i H → G H)
    (turn : ∀ (i : Nat) (x : V) (H H' : Hp), i < n → Pv i H → Y i H x H' → g x (wipe σ vs) H' fun σ2 H2 => wipe σ2 vs = wipe σ vs ∧ tt σ2 H2 fun b H3 =>
      if b = true then tk σ2 H3 fun y H4 => tv σ2 H4 fun z H5 => ∃ H6, Pt H5 D y z H6 ∧ Pv (i + 1) H6 else Pv (i + 1) H3) (last : ∀ (H : Hp), Pv n H → Qd H) :
    ∃ W : Nat → Nat → Hp → Prop, (∃ m, W 0 m (upd H1 D (HO.dT []))) ∧ ∀ (i m : Nat) (H : Hp), W i m H → (J.stop i H ∧ Qd H) ∨ (J.go i H ∧ ∃ Nx : Hp → Prop, (∀ (H' : Hp), Nx H' → ∃ m', m' < m ∧ W (i + 1) m' H') ∧
      ∀ (x : V) (H' : Hp), J.yld i H x H' → g x (wipe σ vs) H' fun σ2 H2 => wipe σ2 vs = wipe σ vs ∧ tt σ2 H2 fun b H3 => if b = true then tk σ2 H3 fun y H4 => tv σ2 H4 fun z H5 => ∃ H6, Pt H5 D y z H6 ∧ Nx H6 else Nx H3) := by
  refine ⟨fun i m H => i ≤ n ∧ m = n - i ∧ Pv i H, ⟨_, Nat.zero_le _, rfl, first⟩, ?_⟩
  rintro i m H ⟨hi, rfl, hp⟩
  by_cases c : i = n
  · subst c
    exact .inl ⟨walk.stops H (good _ _ hi hp), last H hp⟩
  · have lt : i < n := by omega
    refine .inr ⟨walk.goes i H lt (good _ _ hi hp), Pv (i + 1), fun H' h => ⟨_, by omega, by omega, rfl, h⟩, fun x H' hy => turn i x H H' lt hp (walk.yields i H x H' lt (good _ _ hi hp) hy)⟩
end Dct
/-! numbers made -/
namespace Hs
open PySem PySem.Spec PyProof.Rows L2 Am Rv
def nfs (h a d t : Addr) : List (Str × V) := putF "_stretches" (.ref t) (putF "_table" (.ref d) (putF "_rows" (.ref a) (putF "_house" (.ref h) [])))
/-- the table of rows -/
def tabOf (rs : List Rw) : List (List Key × V) := rs.foldl (fun kv r => putK kv (seatK r) (V.int r.n)) []
theorem tabOf_take {rs : List Rw} {i : Nat} {r : Rw} (h : rs[i]? = some r) : tabOf (rs.take (i + 1)) = putK (tabOf (rs.take i)) (seatK r) (V.int r.n) := by
  rw [List.take_add_one, h]
  unfold tabOf
  rw [List.foldl_append]
  rfl
theorem tab_go : ∀ (rs : List Rw) (kv : List (List Key × V)), (rs.foldl (fun kv r => putK kv (seatK r) (V.int r.n)) kv).length ≤ kv.length + rs.length
  | [], _ => Nat.le_refl _
  | r :: rs, kv => by
    have h1 := tab_go rs (putK kv (seatK r) (V.int r.n))
    have h2 := length_putK kv (seatK r) (V.int r.n)
    rw [List.foldl_cons, List.length_cons]
    omega
theorem tabOf_len (rs : List Rw) : (tabOf rs).length ≤ rs.length := by
  have := tab_go rs []
  rw [List.length_nil, Nat.zero_add] at this
  exact this
theorem tab_some (k : List Key) : ∀ (rs : List Rw) (kv : List (List Key × V)), (valV (rs.foldl (fun kv r => putK kv (seatK r) (V.int r.n)) kv) k).isSome = (rs.any (fun r => decide (seatK r = k)) || (valV kv k).isSome)
  | [], _ => by simp
  | r :: rs, kv => by
    rw [List.foldl_cons, tab_some k rs, List.any_cons, valV_put]
    by_cases c : k = seatK r
    · rw [if_pos c, c]
      simp
    · rw [if_neg c, decide_eq_false (fun z => c z.symm)]
      simp
theorem tabOf_some (rs : List Rw) (k : List Key) : (valV (tabOf rs) k).isSome = rs.any (fun r => decide (seatK r = k)) := by
  have := tab_some k rs []
  rw [show (valV ([] : List (List Key × V)) k).isSome = false from rfl, Bool.or_false] at this
  exact this
/-- numbers of a house, of a heap -/
def NumAt (C CH : Addr) (H : Hp) (n : Addr) (x : Str) (L : Lore) (rs : List Rw) : Prop := ∃ (dx h a d t : Addr), H n = some (.ins C dx (nfs h a d t)) ∧ HouseAt CH H h x L ∧ RowsAt H a rs ∧ H d = some (.dT (tabOf rs)) ∧ LanesAt H t (lanes (metersOf L) rs)
theorem off_ne {C dx n b : Addr} {H : Hp} {u : HO} (hn : H n = some (.ins C dx [])) (hb : H b = some u) (ne : u ≠ .ins C dx []) : b ≠ n := fun z => ne (Option.some.inj (hb.symm.trans (z ▸ hn)))
theorem rows_off {C dx n a : Addr} {H H' : Hp} {rs : List Rw} (h : RowsAt H a rs) (hn : H n = some (.ins C dx [])) (f : Fr [n] H H') : RowsAt H' a rs := by
  obtain ⟨as, h1, h2⟩ := h
  refine ⟨as, f _ _ h1 (by simpa using off_ne hn h1 (by intro z; cases z)), h2.1, fun i r y x1 x2 => ?_⟩
  have h3 := h2.2 i r y x1 x2
  exact f _ _ h3 (by simpa using off_ne hn h3 (by intro z; unfold rwO at z; cases z))
theorem house_off {C CH dx n h : Addr} {H H' : Hp} {x : Str} {L : Lore} (hh : HouseAt CH H h x L) (hn : H n = some (.ins C dx [])) (f : Fr [n] H H') : HouseAt CH H' h x L := by
  obtain ⟨dy, a, b, c, r, t, p, rs, ts, ys, h1, h2, h3, h4, h5, h6, h7, h8, h9, h10⟩ := hh
  have g : ∀ {q : Addr} {u : HO}, H q = some u → u ≠ .ins C dx [] → H' q = some u := fun e ne => f _ _ e (by simpa using off_ne hn e ne)
  refine ⟨dy, a, b, c, r, t, p, rs, ts, ys, g h1 (by intro z; unfold hfs putF at z; cases z), g h2 (by intro z; cases z), ⟨h3.1, fun i r y x1 x2 => g (h3.2 i r y x1 x2) (by intro z; unfold plO at z; cases z)⟩, g h4 (by intro z; cases z), g h5 (by intro z; cases z), h6, g h7 (by intro z; cases z), g h8 (by intro z; cases z), ⟨h9.1, fun i r y x1 x2 => g (h9.2 i r y x1 x2) (by intro z; cases z)⟩, g h10 (by intro z; cases z)⟩
def spNInit (C CH : Addr) : Sp := fun vs H Q _ => ∃ (n dx h a : Addr) (x : Str) (L : Lore) (rs : List Rw), vs = [.ref n, .ref h, .ref a] ∧ H n = some (.ins C dx []) ∧ HouseAt CH H h x L ∧ MeOk L ∧ RowsAt H a rs ∧ RowsOk L rs ∧ rs.length ≤ 150 ∧ (metersOf L).length ≤ 20 ∧
  ∀ H', Fr [n] H H' → NumAt C CH H' n x L rs → Q .non H'
section
variable {P : Program} {w : World} {K : PySem.W.Frag} {mg : Str → Option Value} {base : Heap} {C CH D fI : Addr}
theorem sc_ni : FnScope ["self", "house", "rows", "meter", "morning", "number"] ["self", "house", "rows"] (defScope sNumbers_init) := ⟨rfl, rfl, rfl, by decide +kernel, rfl, by decide +kernel, by decide +kernel⟩
theorem body_nInit {f : Addr} {fdE : FuncData} {cdv : Value} {A : Around} {outer : List Env} {s : Shared} {H : Hp} {Q : VK} {E : XK} {vs : List V} (hr : Room 6 (A.deeper (envOfC "Numbers.__init__" (defScope sNumbers_init) s.heap.objs.size f cdv)))
    (TE : Err K mg "BadNumbers" D fI) (GE : FnOk P w K mg base CX0 1 fI fdE ["self", "value"] (spInitE K)) (bE : Binds K fdE ["self", "value"] [])
    (GA : GotF P w K mg base "are_rows" 5 ["house", "value"] (spAreR CH)) (GS : GotF P w K mg base "stretches_of" 1 ["house", "rows"] (spStr CH)) (hc : Cls K C) (a1 : NoAttr K C "_house") (a2 : NoAttr K C "_rows") (a3 : NoAttr K C "_table") (a4 : NoAttr K C "_stretches") (want : spNInit C CH vs H Q E) :
    ∃ t, PSs (cxOf (L2.CX P w) P w K mg base ["self", "house", "rows", "meter", "morning", "number"] "Numbers.__init__" (defScope sNumbers_init) f cdv A outer s H E) (defBody sNumbers_init) t ∧ t { nx := fun _ H' => Q .non H', rt := Q } (start ["self", "house", "rows", "meter", "morning", "number"] vs) H := by
  obtain ⟨n, dx, h, a, x, L, rs, rfl, hn, hh, mo, hr_, ok, ln, lm, q⟩ := want
  obtain ⟨fA, dA, GA, bA, mA, kA⟩ := GA
  obtain ⟨fS, dS, GS, bS, mS, kS⟩ := GS
  have hr1 : Room 1 _ := hr.mono (by decide)
  have hr2 : Room 2 _ := hr.mono (by decide)
  have hr5 : Room 5 _ := hr.mono (by decide)
  have hu1 : (A.deeper (envOfC "Numbers.__init__" (defScope sNumbers_init) s.heap.objs.size f cdv)).units + 1 < cLine := by have := hr.un; omega
  refine ⟨_, (pss_cons (ps_if (pt_not (pt_val (pe_call GA hr5 (by rfl) mA kA bA .nil pass0 (pa_cons (pv 1) (pa_cons (pv 2) pa_nil))))) (pss_one (ps_raise rfl (takes_of rfl rfl rfl rfl) (pmk_oex TE.oex TE.iC TE.tI GE hr2 bE .nil pass0 (by rfl) TE.gD (pa_cons (pv 2) pa_nil)))) pss_nil)
      (pss_cons (ps_fld (pv 0) (pv 1) rfl)
      (pss_cons (ps_fld (pv 0) (pv 2) rfl)
      (pss_cons (ps_fld (pv 0) (Dct.pe_dcT (own := [("meter", 3), ("morning", 4), ("number", 5)]) (g := (gTup K 3 (gCons (gName 3) (gCons (gName 4) (gCons (gName 5) gNil))))) (tt := tYes) hu1 rfl sc_ni.nd (pi_tup (pv 2))
          (blkOk_by (N := ["self", "house", "rows", "meter", "morning", "number"]) (sc := defScope sNumbers_init) (by decide +kernel)) (fun _ _ _ _ _ => (pg_tup rfl (pgs_cons (pg_name (i := 3) sc_ni.nd rfl (.inl rfl)) (pgs_cons (pg_name (i := 4) sc_ni.nd rfl (.inl rfl)) (pgs_cons (pg_name (i := 5) sc_ni.nd rfl (.inl rfl)) pgs_nil))))) (fun _ _ _ _ _ => pts_nil) (fun _ _ _ _ _ => (pe_tup (pa_cons (pv 3) (pa_cons (pv 4) pa_nil)))) (fun _ _ _ _ _ => (pv 5))) rfl)
      (pss_one (ps_fld (pv 0) (pe_call GS hr1 (by rfl) mS kS bS .nil pass0 (pa_cons (pv 1) (pa_cons (pv 2) pa_nil))) rfl)))))), ?_⟩
  have F0 : Fr [n] H H := fun b u e _ => e
  refine ⟨_, rfl, _, rfl, h, a, x, L, rs, rfl, hh, mo, hr_, ok, by omega, fun H1 e1 => ⟨_, rfl, iteF ?_⟩⟩
  have hn1 := e1 _ _ hn
  have f1 : Fr [n] H H1 := Fr.same e1
  refine ⟨_, rfl, _, rfl, n, C, dx, _, rfl, hn1, hc, a1, by decide, ?_⟩
  have hn2 := upd_same (H := H1) (a := n) (o := .ins C dx (putF "_house" (.ref h) []))
  have f2 := Fr.trans f1 (Fr.upd (ms := [n]) (H := H1) (d := n) (o := .ins C dx (putF "_house" (.ref h) [])) (by simp))
  generalize upd H1 n (.ins C dx (putF "_house" (.ref h) [])) = H2 at *
  refine ⟨_, rfl, _, rfl, n, C, dx, _, rfl, hn2, hc, a2, (by show 1 < 1000; decide), ?_⟩
  have hn3 := upd_same (H := H2) (a := n) (o := .ins C dx (putF "_rows" (.ref a) (putF "_house" (.ref h) [])))
  have f3 := Fr.trans f2 (Fr.upd (ms := [n]) (H := H2) (d := n) (o := .ins C dx (putF "_rows" (.ref a) (putF "_house" (.ref h) []))) (by simp))
  generalize upd H2 n (.ins C dx (putF "_rows" (.ref a) (putF "_house" (.ref h) []))) = H3 at *
  have hr3 := rows_off hr_ hn f3
  obtain ⟨as, ha, ras⟩ := hr3
  refine ⟨_, rfl, a, rfl, ⟨_, SqT.of ha⟩, fun D2 nD2 => ?_⟩
  refine Dct.dcT_it (walk_tup (xs := as.map V.ref)) (fun i H' => Same H3 H' ∧ H' D2 = some (.dT (tabOf (rs.take i)))) ⟨same_upd nD2, upd_same⟩ (fun k G _ hh => SqT.of (hh.1 _ _ ha)) ?_ ?_
  · rintro i v G1 G2 hi ⟨g1, hD⟩ ⟨rfl, hv⟩
    obtain ⟨r, y, rfl, hr', hy, ho⟩ := ras.at hv
    have h1 : i < rs.length := (List.getElem?_eq_some_iff.mp hy).1
    have ho1 := g1 _ _ ho
    refine ⟨r, _, rfl, SqT.of ho1, rfl, _, _, rfl, _, _, rfl, _, _, rfl, rfl, rfl, ?_⟩
    unfold tYes
    refine iteT ⟨_, rfl, _, rfl, (show 2 ≤ sizeLine by decide), fun T2 nT2 => ⟨_, rfl, _, ⟨tabOf (rs.take i), [.inr y.m, .inl y.t], T2, rfl, upd_same, (upd_ne (ne_of_none hD nT2)).trans hD, by have := tabOf_len (rs.take i); rw [List.length_take] at this; rw [sizeLine_eq]; omega, rfl⟩, ?_, ?_⟩⟩
    · intro b u z
      rw [upd_ne (ne_of_none z nD2), upd_ne (ne_of_none (g1 _ _ z) nT2)]
      exact g1 _ _ z
    · rw [upd_same, tabOf_take hy]
      rfl
  · rintro G1 ⟨g1, hD⟩
    rw [show rs.take (as.map V.ref).length = rs from by rw [List.length_map, ras.1]; exact List.take_length] at hD
    have hn4 := g1 _ _ hn3
    have f4 := Fr.trans f3 (Fr.same g1)
    have nDn : D2 ≠ n := fun z => by rw [z, hn3] at nD2; cases nD2
    refine ⟨_, rfl, n, C, dx, _, rfl, hn4, hc, a3, (by show 2 < 1000; decide), ?_⟩
    have hn5 := upd_same (H := G1) (a := n) (o := .ins C dx (putF "_table" (.ref D2) (putF "_rows" (.ref a) (putF "_house" (.ref h) []))))
    have f5 := Fr.trans f4 (Fr.upd (ms := [n]) (H := G1) (d := n) (o := .ins C dx (putF "_table" (.ref D2) (putF "_rows" (.ref a) (putF "_house" (.ref h) [])))) (by simp))
    have hD5 := (upd_ne (o := .ins C dx (putF "_table" (.ref D2) (putF "_rows" (.ref a) (putF "_house" (.ref h) [])))) nDn).trans hD
    generalize upd G1 n (.ins C dx (putF "_table" (.ref D2) (putF "_rows" (.ref a) (putF "_house" (.ref h) [])))) = G2 at *
    refine ⟨_, rfl, _, rfl, h, a, x, L, rs, rfl, house_off hh hn f5, rows_off hr_ hn f5, by omega, lm, fun H' t e6 nt la => ⟨_, rfl, n, C, dx, _, rfl, e6 _ _ hn5, hc, a4, (by show 3 < 1000; decide), ?_⟩⟩
    have f6 := Fr.trans f5 (Fr.same e6)
    have f7 := Fr.trans f6 (Fr.upd (ms := [n]) (H := H') (d := n) (o := .ins C dx (nfs h a D2 t)) (by simp))
    have ntn : t ≠ n := fun z => by rw [z, hn5] at nt; cases nt
    have hn7 := upd_same (H := H') (a := n) (o := .ins C dx (nfs h a D2 t))
    have hD7 : (upd H' n (.ins C dx (nfs h a D2 t))) D2 = some (.dT (tabOf rs)) := (upd_ne nDn).trans (e6 _ _ hD5)
    obtain ⟨ls, hl, rls⟩ := la
    have la7 : LanesAt (upd H' n (.ins C dx (nfs h a D2 t))) t (lanes (metersOf L) rs) := by
      refine ⟨ls, (upd_ne ntn).trans hl, rls.1, fun i r y x1 x2 => ?_⟩
      have z := rls.2 i r y x1 x2
      refine (upd_ne fun w => ?_).trans z
      rw [w, e6 _ _ hn5] at z
      unfold laO at z
      cases z
    exact q _ f7 ⟨dx, h, a, D2, t, hn7, house_off hh hn f7, rows_off hr_ hn f7, hD7, la7⟩

end
end Hs
/-! the law: names -/
namespace Hs
open PySem PySem.Spec PyProof.Rows L2 Am
def pool : List Str := ["a", "flat", "ab", "lives", "z", "days", "bare", "price", "b", "mainz", "restored", "houses"]
theorem pool_ok : ∀ x ∈ pool, nameB x = true := by decide +kernel
theorem pool_nd : pool.Nodup := by decide +kernel
def spTitles : Sp := fun vs H Q _ => ∃ (p : Addr) (m : Nat) (N : Int), vs = [.ref p, .int m] ∧ m ≤ 4 ∧ JarAt H p N ∧ N ≤ 9000 ∧
  ∀ (H' : Hp) (t : Addr) (ws : List Str), ws.length = m → ws.Nodup → (∀ x ∈ ws, x ∈ pool) → Chg p H H' → H t = none → JarAt H' p (N + m) → H' t = some (.lst (ws.map V.str)) → Q (.ref t) H'
theorem er_map {α β : Type} (f : α → β) (xs : List α) (k : Nat) : (xs.map f).eraseIdx k = (xs.eraseIdx k).map f := by
  rw [List.eraseIdx_eq_take_drop_succ, List.eraseIdx_eq_take_drop_succ, List.map_append, List.map_take, List.map_drop]
theorem er_perm {α : Type} {xs : List α} {k : Nat} (h : k < xs.length) : (xs[k] :: xs.eraseIdx k).Perm xs := by
  rw [List.eraseIdx_eq_take_drop_succ]
  refine List.perm_middle.symm.trans ?_
  rw [← List.drop_eq_getElem_cons h, List.take_append_drop]
section
variable {P : Program} {w : World} {K : PySem.W.Frag} {mg : Str → Option Value} {base : Heap}
theorem scTitles : FnScope ["_law_jar_here", "_law_many", "_law_found", "_law_pool", "_law_lap"] ["_law_jar_here", "_law_many"] (defScope sL_titles) := ⟨rfl, rfl, rfl, by decide +kernel, rfl, by decide +kernel, by decide +kernel⟩
theorem ok_titles {f : Addr} {fd : FuncData} (F : Fun K "_law_titles" "_law_titles" sL_titles f fd) (T : Nm mg) (GT : GotF P w K mg base "_law_take" 1 ["_law_jar_here", "_law_upto"] Am.spTake) : FnOk P w K mg base CX0 2 f fd ["_law_jar_here", "_law_many"] spTitles := by
  obtain ⟨fT, fdT, GT, bT, mT, kT⟩ := GT
  refine F.ok scTitles (fun vs H Q E h => ?_) (fun cdv A outer s H vs Q E hr h => ?_)
  · obtain ⟨p, m, N, rfl, _⟩ := h
    rfl
  · obtain ⟨p, m, N, rfl, hm, hj, hN, q⟩ := h
    refine ⟨_, pss_cons (ps_par (by rfl) scTitles.nd (i := 2) (j := 3) rfl rfl (by decide) rfl rfl (pa_cons (pe_lst pa_nil) (pa_cons (pe_lst (pa_cons pe_str (pa_cons pe_str (pa_cons pe_str (pa_cons pe_str (pa_cons pe_str (pa_cons pe_str pa_nil))))))) pa_nil)) (by rfl))
      (pss_cons (ps_set (i := 3) scTitles.nd rfl (.inl rfl) (pe_op op_cat (pv 3) (pe_lst (pa_cons pe_str (pa_cons pe_str (pa_cons pe_str (pa_cons pe_str (pa_cons pe_str (pa_cons pe_str pa_nil)))))))))
      (pss_cons (ps_for PassesOwn.never rfl (pi_range1 (by rfl) T.range (pa_cons (pv 1) pa_nil)) (pg_name (i := 4) scTitles.nd rfl (.inl rfl))
        (pss_one (ps_expr (pe_bm PySem.F.plainAttrs_list PySem.F.slot_list_append PySem.F.type_list_append mt_append (pv 2)
          (pa_cons (pe_bm PySem.F.plainAttrs_list PySem.F.slot_list_pop PySem.F.type_list_pop mt_popAt (pv 3) (pa_cons (pe_call GT hr (by rfl) mT kT bT .nil pass0 (pa_cons (pv 0) (pa_cons (pe_callB call_len_seq (by rfl) T.len PySem.boot_len (pa_cons (pv 3) pa_nil)) pa_nil))) pa_nil)) pa_nil)))))
      (pss_one (ps_ret (pv 2))))), ?_⟩
    refine ⟨by decide, fun lf nlf => ⟨(show 6 ≤ sizeLine by decide), fun lq nlq => ⟨_, _, rfl, ?_⟩⟩⟩
    have e1 := same_upd (o := .lst []) nlf
    have ef1 := upd_same (H := H) (a := lf) (o := .lst [])
    have nlfH : H lf = none := nlf
    generalize upd H lf (.lst []) = H1 at *
    have e2 := same_upd (o := .lst [V.str "a", .str "flat", .str "ab", .str "lives", .str "z", .str "days"]) nlq
    have eq1 := upd_same (H := H1) (a := lq) (o := .lst [V.str "a", .str "flat", .str "ab", .str "lives", .str "z", .str "days"])
    have ef2 := e2 _ _ ef1
    refine ⟨_, rfl, (show 6 ≤ sizeLine by decide), fun lr nlr => ?_⟩
    have e3 := same_upd (o := .lst [V.str "bare", .str "price", .str "b", .str "mainz", .str "restored", .str "houses"]) nlr
    have er1 := upd_same (a := lr) (o := .lst [V.str "bare", .str "price", .str "b", .str "mainz", .str "restored", .str "houses"]) (H := upd H1 lq (.lst [V.str "a", .str "flat", .str "ab", .str "lives", .str "z", .str "days"]))
    have eq2 := e3 _ _ eq1
    have ef3 := e3 _ _ ef2
    have e13 := e1.trans (e2.trans e3)
    refine ⟨lq, lr, _, _, rfl, rfl, eq2, er1, (show 12 ≤ sizeLine by decide), fun lp nlp => ?_⟩
    generalize upd (upd H1 lq (.lst [V.str "a", .str "flat", .str "ab", .str "lives", .str "z", .str "days"])) lr (.lst [V.str "bare", .str "price", .str "b", .str "mainz", .str "restored", .str "houses"]) = H3 at *
    have e4 := same_upd (o := .lst (pool.map V.str)) nlp
    have ep := upd_same (H := H3) (a := lp) (o := .lst (pool.map V.str))
    have ef := e4 _ _ ef3
    have e2 := e13.trans e4
    have nlpH : H lp = none := e13.free nlp
    have nff : lf ≠ lp := ne_of_none ef3 nlp
    have hpool : [V.str "a", .str "flat", .str "ab", .str "lives", .str "z", .str "days"] ++ [V.str "bare", .str "price", .str "b", .str "mainz", .str "restored", .str "houses"] = pool.map V.str := rfl
    rw [hpool]
    generalize upd H3 lp (.lst (pool.map V.str)) = H4 at *
    obtain ⟨jo, jm, jc, hp, _⟩ := id hj
    have npl : lp ≠ p := fun z => by rw [z, hp] at nlpH; cases nlpH
    have npf : lf ≠ p := fun z => by rw [z, hp] at nlfH; cases nlfH
    refine ⟨_, rfl, (m : Int), rfl, by omega, by omega, ?_⟩
    refine for_it (walk_range (n := (m : Int).toNat)) (fun i σ H' => ∃ (xs ws : List Str) (s4 : Option V), σ = [some (.ref p), some (.int m), some (.ref lf), some (.ref lp), s4] ∧ (∀ b u, H b = some u → b ≠ p → H' b = some u) ∧ JarAt H' p (N + i) ∧
      H' lp = some (.lst (xs.map V.str)) ∧ H' lf = some (.lst (ws.map V.str)) ∧ ws.length = i ∧ xs.length + i = 12 ∧ (xs ++ ws).Nodup ∧ ∀ x ∈ xs ++ ws, x ∈ pool) ?_ (fun _ _ _ _ _ => trivial) ?_ ?_
    · refine ⟨pool, [], _, rfl, fun b u e _ => e2 _ _ e, ?_, ep, ef, rfl, rfl, ?_, fun x hx => ?_⟩
      · rw [show N + ((0 : Nat) : Int) = N by omega]
        exact hj.same e2
      · rw [List.append_nil]; exact pool_nd
      · rw [List.append_nil] at hx; exact hx
    · rintro i v σ H1 H2 hi ⟨xs, ws, s4, rfl, es, hji, h1, h2, l1, l2, nd, sub⟩ ⟨rfl, rfl⟩
      have hi' : i < m := by omega
      refine ⟨_, rfl, .inl ⟨rfl, _, SqL.of h2⟩, _, rfl, .inl ⟨rfl, _, SqL.of h1⟩, _, rfl, _, rfl, lp, _, rfl, .inl (SqL.of h1), ?_⟩
      rw [List.length_map]
      refine ⟨p, (xs.length : Int), N + i, rfl, ⟨by omega, by omega⟩, hji, by omega, fun d H3 hd c3 j3 => ?_⟩
      have hd' : d.toNat < xs.length := by omega
      have h1' := c3 _ _ h1 npl
      have h2' := c3 _ _ h2 npf
      refine ⟨lp, _, d, d.toNat, .str xs[d.toNat], rfl, rfl, h1', by omega, by omega, ?_, ?_, ?_⟩
      · unfold seqIndex?
        rw [List.length_map]
        simp only [if_neg (show ¬ d < 0 by omega)]
        rw [if_pos]
        simp
        omega
      · rw [List.getElem?_map, List.getElem?_eq_getElem hd']
        rfl
      have nlf2 : lf ≠ lp := nff
      refine ⟨lf, _, _, rfl, rfl, (upd_ne nlf2).trans h2', ?_, ?_⟩
      · rw [List.length_map, l1]
        exact Nat.lt_of_lt_of_le (show i < 4 by omega) (by decide)
      refine ⟨xs.eraseIdx d.toNat, ws ++ [xs[d.toNat]], _, rfl, fun b u e nb => ?_, ?_, ?_, ?_, by simp [l1], ?_, ?_, ?_⟩
      · rw [upd_ne (ne_of_none e nlfH), upd_ne (ne_of_none e nlpH)]
        exact c3 _ _ (es _ _ e nb) nb
      · have : JarAt H3 p (N + i + 1) := j3
        obtain ⟨o, mm, c, hpp, r⟩ := this
        refine ⟨o, mm, c, ?_, ?_⟩
        · rw [upd_ne npf.symm, upd_ne npl.symm]
          exact hpp
        · obtain ⟨r1, r2, r3, r4⟩ := r
          exact ⟨r1, r2, r3, by omega⟩
      · rw [upd_ne nlf2.symm, upd_same, er_map]
      · rw [upd_same, List.map_append]
        rfl
      · rw [List.length_eraseIdx_of_lt hd']
        omega
      · have pm : (xs.eraseIdx d.toNat ++ (ws ++ [xs[d.toNat]])).Perm (xs ++ ws) := by
          refine List.Perm.trans ?_ (List.Perm.append_right ws (er_perm hd'))
          rw [← List.append_assoc]
          exact List.perm_append_comm.trans (by simp)
        exact pm.nodup_iff.mpr nd
      · intro x hx
        refine sub x ?_
        rcases List.mem_append.mp hx with hx | hx
        · exact List.mem_append_left _ (List.mem_of_mem_eraseIdx hx)
        · rcases List.mem_append.mp hx with hx | hx
          · exact List.mem_append_right _ hx
          · rw [List.mem_singleton.mp hx]
            exact List.mem_append_left _ (List.getElem_mem hd')
    · rintro σ H1 ⟨xs, ws, s4, rfl, es, hji, h1, h2, l1, l2, nd, sub⟩
      refine ⟨_, rfl, q _ lf ws (by omega) (List.nodup_append.mp nd).2.1 (fun x hx => sub x (List.mem_append_right _ hx)) (fun b u e nb => es _ _ e nb) nlfH ?_ h2⟩
      rw [show N + (m : Int) = N + (((m : Int).toNat : Nat) : Int) by omega]
      exact hji
end
end Hs
/-! the law: prices -/
namespace Hs
open PySem PySem.Spec PyProof.Rows L2 Am
structure PrOk (n : Nat) (ps : List (Nat × Nat)) : Prop where
  l : ps.length ≤ 3
  up : ps.Pairwise fun a b => a.1 < b.1
  ok : ∀ x ∈ ps, x.1 < n ∧ x.2 ≤ 99
theorem PrOk.mono {n m : Nat} {ps : List (Nat × Nat)} (h : PrOk n ps) (l : n ≤ m) : PrOk m ps := ⟨h.l, h.up, fun x hx => ⟨Nat.lt_of_lt_of_le (h.ok x hx).1 l, (h.ok x hx).2⟩⟩
theorem PrOk.snoc {n k : Nat} {ps : List (Nat × Nat)} (h : PrOk n ps) (l : ps.length < 3) (hk : k ≤ 99) : PrOk (n + 1) (ps ++ [(n, k)]) := by
  refine ⟨by rw [List.length_append]; exact l, ?_, ?_⟩
  · rw [List.pairwise_append]
    refine ⟨h.up, by simp, fun a ha b hb => ?_⟩
    rw [List.mem_singleton.mp hb]
    exact (h.ok a ha).1
  · intro x hx
    rcases List.mem_append.mp hx with hx | hx
    · exact ⟨by have := (h.ok x hx).1; omega, (h.ok x hx).2⟩
    · rw [List.mem_singleton.mp hx]
      exact ⟨by show n < n + 1; omega, hk⟩
theorem Chg.fr {p : Addr} {H H' : Hp} (h : Chg p H H') : Fr [p] H H' := fun b u e n => h b u e (by simpa using n)
theorem Fr.chg {p : Addr} {H H' : Hp} (h : Fr [p] H H') : Chg p H H' := fun b u e n => h b u e (by simpa using n)
/-- a list of tuples while the jar is taken from -/
theorem LstAt.jar {α : Type} {f : α → HO} {H H' : Hp} {l p : Addr} {xs : List α} {N : Int} (h : LstAt f H l xs) (j : JarAt H p N) (nl : l ≠ p) (e : Chg p H H') (hf : ∀ x ys, f x ≠ .lst ys) : LstAt f H' l xs := by
  obtain ⟨o, m, c, hp, _⟩ := j
  exact h.keep (Chg.fr e) (by simpa using nl) (at_nl hp hf)
theorem walk_range0 {n : Nat} : Walk (Itr 0 n) n (fun _ => True) (YFn fun i => V.int (i : Int)) := by
  have e : (fun i : Nat => V.int (i : Int)) = fun i : Nat => V.int (0 + (i : Int)) := funext fun i => by rw [Int.zero_add]
  rw [e]
  exact walk_range
def spLPrices : Sp := fun vs H Q _ => ∃ (p : Addr) (n : Nat) (N : Int), vs = [.ref p, .int n] ∧ n ≤ 14 ∧ JarAt H p N ∧ N ≤ 9000 ∧
  ∀ (H' : Hp) (t : Addr) (ps : List (Nat × Nat)), Chg p H H' → H t = none → JarAt H' p (N + 2 * n) → LstAt prO H' t ps → PrOk n ps → Q (.ref t) H'
section
variable {P : Program} {w : World} {K : PySem.W.Frag} {mg : Str → Option Value} {base : Heap}
theorem scLPrices : FnScope ["_law_jar_here", "_law_days", "_law_found", "_law_day"] ["_law_jar_here", "_law_days"] (defScope sL_prices) := ⟨rfl, rfl, rfl, by decide +kernel, rfl, by decide +kernel, by decide +kernel⟩
theorem ok_lPrices {f : Addr} {fd : FuncData} (F : Fun K "_law_prices" "_law_prices" sL_prices f fd) (T : Nm mg) (GT : GotF P w K mg base "_law_take" 1 ["_law_jar_here", "_law_upto"] Am.spTake) (GO : GotF P w K mg base "_law_of" 2 ["_law_jar_here", "_law_some"] spOf) : FnOk P w K mg base CX0 3 f fd ["_law_jar_here", "_law_days"] spLPrices := by
  obtain ⟨fT, fdT, GT, bT, mT, kT⟩ := GT
  obtain ⟨fO, fdO, GO, bO, mO, kO⟩ := GO
  refine F.ok scLPrices (fun vs H Q E h => ?_) (fun cdv A outer s H vs Q E hr h => ?_)
  · obtain ⟨p, n, N, rfl, _⟩ := h
    rfl
  · obtain ⟨p, n, N, rfl, hn, hj, hN, q⟩ := h
    have hr1 : Room 1 _ := hr.mono (by decide)
    refine ⟨_, pss_cons (ps_set (i := 2) scLPrices.nd rfl (.inl rfl) (pe_lst pa_nil))
      (pss_cons (ps_for PassesOwn.never rfl (pi_range1 (by rfl) T.range (pa_cons (pv 1) pa_nil)) (pg_name (i := 3) scLPrices.nd rfl (.inl rfl))
        (pss_one (ps_if (PW.pt (pw_and (pt_cmpR op_lt (pe_callB call_len_seq (by rfl) T.len PySem.boot_len (pa_cons (pv 2) pa_nil)) pe_int (nomark _)) (pw_and1 (pt_cmpR op_eq (pe_call GT hr1 (by rfl) mT kT bT .nil pass0 (pa_cons (pv 0) (pa_cons pe_int pa_nil))) pe_int (nomark _)))))
          (pss_one (ps_expr (pe_bm PySem.F.plainAttrs_list PySem.F.slot_list_append PySem.F.type_list_append mt_append (pv 2)
            (pa_cons (pe_tup (pa_cons (pv 3) (pa_cons (pe_call GO hr (by rfl) mO kO bO .nil pass0 (pa_cons (pv 0) (pa_cons (pe_lst (pa_cons pe_int (pa_cons pe_int (pa_cons pe_int (pa_cons pe_int (pa_cons pe_int pa_nil)))))) pa_nil))) pa_nil))) pa_nil)))) pss_nil)))
      (pss_one (ps_ret (pv 2)))), ?_⟩
    refine ⟨by decide, fun t nt => ?_⟩
    have e1 := same_upd (o := .lst []) nt
    obtain ⟨jo, jm, jc, hp, _⟩ := id hj
    have npt : t ≠ p := fun z => by rw [z, hp] at nt; cases nt
    refine ⟨_, rfl, (n : Int), rfl, by omega, by omega, ?_⟩
    refine for_it (walk_range0 (n := (n : Int).toNat)) (fun i σ H' => ∃ (ps : List (Nat × Nat)) (s3 : Option V), σ = [some (.ref p), some (.int n), some (.ref t), s3] ∧ (∀ b u, H b = some u → b ≠ p → H' b = some u) ∧ JarAt H' p (N + 2 * i) ∧ LstAt prO H' t ps ∧ PrOk i ps) ?_ (fun _ _ _ _ _ => trivial) ?_ ?_
    · refine ⟨[], _, rfl, fun b u e _ => e1 _ _ e, (hj.same e1).mono (by omega), LstAt.nil upd_same, ⟨by decide, by simp, fun x hx => absurd hx List.not_mem_nil⟩⟩
    · rintro i v σ H1 H2 hi ⟨ps, s3, rfl, es, hji, hl, ok⟩ ⟨rfl, rfl⟩
      obtain ⟨rs, hlt, hrs⟩ := id hl
      refine ⟨_, rfl, t, _, rfl, .inl (SqL.of hlt), ?_⟩
      rw [List.length_map, hrs.1]
      refine ⟨_, _, rfl, rfl, _, rfl, ?_⟩
      have fin : ∀ H3, (∀ b u, H b = some u → b ≠ p → H3 b = some u) → JarAt H3 p (N + 2 * i + 1) → LstAt prO H3 t ps → _ := fun H3 a b c => (⟨ps, _, rfl, a, b.mono (by omega), c, ok.mono (by omega)⟩ : ∃ (ps : List (Nat × Nat)) (s3 : Option V), [some (V.ref p), some (.int n), some (.ref t), some (.int i)] = [some (.ref p), some (.int n), some (.ref t), s3] ∧ (∀ b u, H b = some u → b ≠ p → H3 b = some u) ∧ JarAt H3 p (N + 2 * ((i + 1 : Nat) : Int)) ∧ LstAt prO H3 t ps ∧ PrOk (i + 1) ps)
      cases c : decide ((ps.length : Int) < 3) with
      | false => exact iteF (iteF (fin H2 es (hji.mono (by omega)) hl))
      | true =>
        have l3 : ps.length < 3 := by have := of_decide_eq_true c; omega
        refine iteT ⟨_, rfl, p, 4, N + 2 * i, rfl, ⟨by decide, by decide⟩, hji, by omega, fun d H3 hd c3 j3 => ?_⟩
        have hl3 := hl.jar hji npt c3 prO_nl
        have es3 : ∀ b u, H b = some u → b ≠ p → H3 b = some u := fun b u e nb => c3 _ _ (es _ _ e nb) nb
        refine ⟨rfl, _, rfl, ?_⟩
        cases c2 : decide (V.int d = V.int 0) with
        | false => exact iteF (fin H3 es3 j3 hl3)
        | true =>
          obtain ⟨rs3, hlt3, hrs3⟩ := id hl3
          refine iteT ⟨_, rfl, .inl ⟨rfl, _, SqL.of hlt3⟩, _, rfl, _, rfl, by decide, fun q1 nq1 => ?_⟩
          have e4 := same_upd (o := .lst [V.int 0, .int 1, .int 2, .int 3, .int 99]) nq1
          have nq1p : q1 ≠ p := by
            obtain ⟨_, _, _, hp3, _⟩ := id j3
            intro z
            rw [z, hp3] at nq1
            cases nq1
          refine ⟨p, q1, _, N + 2 * i + 1, rfl, upd_same, nq1p, ⟨by decide, by decide⟩, j3.same e4, by omega, fun v H5 hv c5 j5 => ?_⟩
          have hl5 := (hl3.same e4).jar (j3.same e4) npt c5 prO_nl
          have es5 : ∀ b u, H b = some u → b ≠ p → H5 b = some u := fun b u e nb => c5 _ _ (e4 _ _ (es3 _ _ e nb)) nb
          obtain ⟨k, rfl, hk⟩ : ∃ k : Nat, v = .int k ∧ k ≤ 99 := by
            simp only [List.mem_cons, List.not_mem_nil, or_false] at hv
            rcases hv with rfl | rfl | rfl | rfl | rfl
            · exact ⟨0, rfl, by decide⟩
            · exact ⟨1, rfl, by decide⟩
            · exact ⟨2, rfl, by decide⟩
            · exact ⟨3, rfl, by decide⟩
            · exact ⟨99, rfl, by decide⟩
          refine ⟨(show 2 ≤ sizeLine by decide), fun D nD => ?_⟩
          obtain ⟨rs5, hlt5, hrs5⟩ := hl5
          obtain ⟨g1, g2⟩ := LstAt.grow (x := (i, k)) hlt5 hrs5 nD prO_nl
          refine ⟨t, rs5.map V.ref, _, rfl, rfl, (upd_ne (ne_of_none hlt5 nD)).trans hlt5, ?_, ?_⟩
          · rw [List.length_map, hrs5.1]
            exact Nat.lt_trans l3 (by decide)
          · refine ⟨_, _, rfl, fun b u e nb => ?_, ?_, g1, ok.snoc l3 hk⟩
            · refine g2 _ _ (es5 _ _ e nb) (by simpa using ne_of_none e nt)
            · obtain ⟨o, mm, cc, hp5, r⟩ := j5.mono (M := N + 2 * ((i + 1 : Nat) : Int)) (by omega)
              exact ⟨o, mm, cc, g2 _ _ hp5 (by simpa using npt.symm), r⟩
    · rintro σ H1 ⟨ps, s3, rfl, es, hji, hl, ok⟩
      exact ⟨_, rfl, q _ t ps (fun b u e nb => es _ _ e nb) nt (hji.mono (by omega)) hl (ok.mono (by omega))⟩
end
end Hs
/-! the law: stays -/
namespace Hs
open PySem PySem.Spec PyProof.Rows L2 Am
def apart (s t : St) : Prop := s.pl = t.pl → s.b ≤ t.a ∨ t.b ≤ s.a
structure StOk (n : Nat) (names ppl : List Str) (ss : List St) : Prop where
  l : ss.length ≤ 8
  ok : ∀ s ∈ ss, s.a < s.b ∧ s.b ≤ n ∧ s.who ∈ ppl ∧ s.pl ∈ names
  ap : ss.Pairwise apart
theorem apart_symm {s t : St} (h : apart s t) : apart t s := fun e => (h e.symm).symm
theorem StOk.rev {n : Nat} {names ppl : List Str} {ss : List St} (h : StOk n names ppl ss) : StOk n names ppl ss.reverse :=
  ⟨by rw [List.length_reverse]; exact h.l, fun s hs => h.ok s (List.mem_reverse.mp hs), by rw [List.pairwise_reverse]; exact h.ap.imp apart_symm⟩
theorem Refs.rev {α : Type} {f : α → HO} {H : Hp} {rs : List Addr} {xs : List α} (h : Refs f H rs xs) : Refs f H rs.reverse xs.reverse := by
  refine ⟨by simp [h.1], fun i r x a b => ?_⟩
  have hi : i < rs.length := by
    have := (List.getElem?_eq_some_iff.mp a).1
    simpa using this
  rw [List.getElem?_reverse hi] at a
  rw [List.getElem?_reverse (by rw [← h.1]; exact hi), ← h.1] at b
  exact h.2 _ r x a b
def muS (σ : L2.St) (_ : Hp) : Nat := match σ[1]?, σ[8]? with
  | some (some (V.int n)), some (some (V.int a)) => (n - a).toNat
  | _, _ => 0
def spStays : Sp := fun vs H Q _ => ∃ (p l : Addr) (n : Nat) (N : Int) (pls : List Pl), vs = [.ref p, .int n, .ref l] ∧ (1 ≤ n ∧ n ≤ 14) ∧ JarAt H p N ∧ N ≤ 9000 ∧ LstAt plO H l pls ∧ l ≠ p ∧ pls.length ≤ 4 ∧ (pls.map (·.name)).Nodup ∧
  ∀ (H' : Hp) (t : Addr) (ppl : List Str) (ss : List Hs.St), Chg p H H' → H t = none → JarAt H' p (N + 60) → LstAt stO H' t ss → (∀ x ∈ ppl, x ∈ pool) → StOk n (pls.map (·.name)) ppl ss → Q (.ref t) H'
section
variable {P : Program} {w : World} {K : PySem.W.Frag} {mg : Str → Option Value} {base : Heap}
theorem scStays : FnScope ["_law_jar_here", "_law_days", "_law_places_here", "_law_people", "_law_found", "_law_name", "_law_room", "_law_is_metered", "_law_at", "_law_behind"] ["_law_jar_here", "_law_days", "_law_places_here"] (defScope sL_stays) := ⟨rfl, rfl, rfl, by decide +kernel, rfl, by decide +kernel, by decide +kernel⟩
theorem ok_stays {f : Addr} {fd : FuncData} (F : Fun K "_law_stays" "_law_stays" sL_stays f fd) (T : Nm mg) (GT : GotF P w K mg base "_law_take" 1 ["_law_jar_here", "_law_upto"] Am.spTake) (GO : GotF P w K mg base "_law_of" 2 ["_law_jar_here", "_law_some"] spOf) (GN : GotF P w K mg base "_law_titles" 2 ["_law_jar_here", "_law_many"] spTitles) : FnOk P w K mg base CX0 3 f fd ["_law_jar_here", "_law_days", "_law_places_here"] spStays := by
  obtain ⟨fT, fdT, GT, bT, mT, kT⟩ := GT
  obtain ⟨fO, fdO, GO, bO, mO, kO⟩ := GO
  obtain ⟨fN, fdN, GN, bN, mN, kN⟩ := GN
  refine F.ok scStays (fun vs H Q E h => ?_) (fun cdv A outer s H vs Q E hr h => ?_)
  · obtain ⟨p, l, n, N, pls, rfl, _⟩ := h
    rfl
  · obtain ⟨p, l, n, N, pls, rfl, ⟨n1, n14⟩, hj, hN, hl, nlp, l4, nd, q⟩ := h
    have hr1 : Room 1 _ := hr.mono (by decide)
    refine ⟨_, pss_cons (ps_par (by rfl) scStays.nd (i := 3) (j := 4) rfl rfl (by decide) rfl rfl (pa_cons (pe_call GN hr (by rfl) mN kN bN .nil pass0 (pa_cons (pv 0) (pa_cons pe_int pa_nil))) (pa_cons (pe_lst pa_nil) pa_nil)) (by rfl))
      (pss_cons (ps_for (g := gTup K 3 (gCons (gName 5) (gCons (gName 6) (gCons (gName 7) gNil)))) PassesOwn.never rfl (pi_list (pv 2))
        (pg_tup rfl (pgs_cons (pg_name (i := 5) scStays.nd rfl (.inl rfl)) (pgs_cons (pg_name (i := 6) scStays.nd rfl (.inl rfl)) (pgs_cons (pg_name (i := 7) scStays.nd rfl (.inl rfl)) pgs_nil))))
        (pss_cons (ps_set (i := 8) scStays.nd rfl (.inl rfl) (pe_call GO hr (by rfl) mO kO bO .nil pass0 (pa_cons (pv 0) (pa_cons (pe_lst (pa_cons pe_int (pa_cons pe_int (pa_cons (pe_call GT hr1 (by rfl) mT kT bT .nil pass0 (pa_cons (pv 0) (pa_cons (pv 1) pa_nil))) pa_nil)))) pa_nil))))
        (pss_one (ps_while PassesOwn.never (PW.pt (pw_and (pt_cmpR op_lt (pv 8) (pv 1) (nomark _)) (pw_and (pt_cmpR op_lt (pe_callB call_len_seq (by rfl) T.len PySem.boot_len (pa_cons (pv 4) pa_nil)) pe_int (nomark _)) (pw_and1 (pt_cmpR op_gt (pe_call GT hr1 (by rfl) mT kT bT .nil pass0 (pa_cons (pv 0) (pa_cons pe_int pa_nil))) pe_int (nomark _))))))
          (pss_cons (ps_set (i := 9) scStays.nd rfl (.inl rfl) (pe_op op_add (pe_op op_add (pv 8) pe_int) (pe_call GT hr1 (by rfl) mT kT bT .nil pass0 (pa_cons (pv 0) (pa_cons (pe_op op_sub (pv 1) (pv 8)) pa_nil)))))
          (pss_cons (ps_expr (pe_bm PySem.F.plainAttrs_list PySem.F.slot_list_append PySem.F.type_list_append mt_append (pv 4)
            (pa_cons (pe_tup (pa_cons (pe_call GO hr (by rfl) mO kO bO .nil pass0 (pa_cons (pv 0) (pa_cons (pv 3) pa_nil))) (pa_cons (pv 5) (pa_cons (pv 8) (pa_cons (pv 9) pa_nil))))) pa_nil)))
          (pss_one (ps_set (i := 8) scStays.nd rfl (.inl rfl) (pe_op op_add (pv 9) (pe_call GO hr (by rfl) mO kO bO .nil pass0 (pa_cons (pv 0) (pa_cons (pe_lst (pa_cons pe_int (pa_cons pe_int (pa_cons pe_int pa_nil)))) pa_nil))))))))))))
      (pss_one (ps_ret (pe_ifExp (pt_cmpR op_eq (pe_call GT hr1 (by rfl) mT kT bT .nil pass0 (pa_cons (pv 0) (pa_cons pe_int pa_nil))) pe_int (nomark _)) (pv 4) (pe_revL (pv 4)))))), ?_⟩
    refine ⟨_, rfl, p, 3, N, rfl, by decide, hj, hN, fun H1 lpe ppl pl3 pnd psub c1 nlpe j1 hpe => ?_⟩
    refine ⟨by decide, fun lf nlf => ⟨_, _, rfl, ?_⟩⟩
    obtain ⟨jo, jm, jc, hp, _⟩ := id hj
    obtain ⟨_, _, _, hp1, _⟩ := id j1
    have nlpep : lpe ≠ p := fun z => by rw [z, hp] at nlpe; cases nlpe
    have nlfp : lf ≠ p := fun z => by rw [z, hp1] at nlf; cases nlf
    have nlfH : H lf = none := by
      cases e : H lf with
      | none => rfl
      | some u => rw [c1 _ _ e nlfp] at nlf; cases nlf
    have e2 := same_upd (o := .lst []) nlf
    have hl1 := (hl.jar hj nlp c1 plO_nl).same e2
    obtain ⟨rs, hlr, hrs⟩ := id hl1
    have hj2 := j1.same e2
    have hpe2 := e2 _ _ hpe
    have c2 : Chg p H (upd H1 lf (.lst [])) := c1.trans (Chg.of e2)
    have hf2 : LstAt stO (upd H1 lf (.lst [])) lf [] := LstAt.nil upd_same
    have nllf : l ≠ lf := fun z => by
      obtain ⟨_, a, _⟩ := hl
      rw [z, nlfH] at a
      cases a
    have nlpelf : lpe ≠ lf := fun z => by rw [z, nlf] at hpe; cases hpe
    generalize upd H1 lf (.lst []) = H2 at *
    have cf : ∀ {A B : Hp}, Chg p A B → Fr [p, lf] A B := fun h => (Chg.fr h).mono (by simp)
    have toH : ∀ {A : Hp}, Fr [p, lf] H2 A → Chg p H A := fun h b u e nb => h b u (c2 _ _ e nb) (by
      have := ne_of_none e nlfH
      simp [nb, this])
    refine ⟨_, rfl, l, rfl, ⟨_, SqL.of hlr⟩, ?_⟩
    refine for_it (walk_list (xs := rs.map V.ref)) (fun i σ H' => ∃ (ss : List Hs.St) (s5 s6 s7 s8 s9 : Option V), σ = [some (.ref p), some (.int n), some (.ref l), some (.ref lpe), some (.ref lf), s5, s6, s7, s8, s9] ∧ Fr [p, lf] H2 H' ∧
      JarAt H' p (N + 3 + 3 * i + 4 * ss.length) ∧ LstAt stO H' lf ss ∧ StOk n ((pls.take i).map (·.name)) ppl ss) ?_ ?_ ?_ ?_
    · exact ⟨[], _, _, _, _, _, rfl, Fr.same (Same.refl _), hj2.mono (by simp), hf2, ⟨by decide, fun s hs => absurd hs List.not_mem_nil, by simp⟩⟩
    · rintro i σ H' _ ⟨_, _, _, _, _, _, _, c, _⟩
      exact SqL.of (c _ _ hlr (by simp [nlp, nllf]))
    · rintro i v σ H3 H4 hi ⟨ss, s5, s6, s7, s8, s9, rfl, c3, j3, hf3, ok⟩ ⟨rfl, hv⟩
      obtain ⟨q1, pp, rfl, _, hpp, ho⟩ := hrs.at hv
      have i4 : i < 4 := by
        rw [List.length_map, hrs.1] at hi
        omega
      have ho3 := c3 _ _ ho (by
        obtain ⟨_, _, _, hpz, _⟩ := id hj2
        obtain ⟨_, hfz, _⟩ := id hf2
        have a1 := ne_of ho hpz (by intro z; unfold plO at z; cases z)
        have a2 := ne_of ho hfz (by intro z; unfold plO at z; cases z)
        simp [a1, a2])
      refine ⟨q1, _, rfl, SqT.of ho3, rfl, _, _, rfl, _, _, rfl, _, _, rfl, rfl, ?_⟩
      refine ⟨_, rfl, _, rfl, _, rfl, p, (n : Int), _, rfl, ⟨by omega, by omega⟩, j3, by have := ok.l; omega, fun d H5 hd c5 j5 => ?_⟩
      have hf5 := hf3.jar j3 nlfp c5 stO_nl
      refine ⟨(show 3 ≤ sizeLine by decide), fun q2 nq2 => ?_⟩
      obtain ⟨_, _, _, hp5, _⟩ := id j5
      have nq2p : q2 ≠ p := fun z => by rw [z, hp5] at nq2; cases nq2
      have e6 := same_upd (o := .lst [V.int 0, .int 0, .int d]) nq2
      refine ⟨p, q2, _, _, rfl, upd_same, nq2p, ⟨show 0 < 3 by decide, show 3 ≤ 1000 by decide⟩, j5.same e6, by have := ok.l; omega, fun v H7 hv7 c7 j7 => ?_⟩
      have hf7 := (hf5.same e6).jar (j5.same e6) nlfp c7 stO_nl
      obtain ⟨at0, rfl⟩ : ∃ a : Nat, v = .int a := by
        simp only [List.mem_cons, List.not_mem_nil, or_false] at hv7
        rcases hv7 with rfl | rfl | rfl
        · exact ⟨0, rfl⟩
        · exact ⟨0, rfl⟩
        · exact ⟨d.toNat, by congr 1; omega⟩
      have c27 : Fr [p, lf] H2 H7 := (c3.trans (cf c5)).trans ((Fr.same e6).trans (cf c7))
      have et : pls.take (i + 1) = pls.take i ++ [pp] := by rw [List.take_add_one, hpp]; rfl
      have nin : pp.name ∉ (pls.take i).map (·.name) := by
        have e0 := List.take_append_drop (i + 1) pls
        rw [et] at e0
        rw [← e0, List.map_append, List.map_append, List.nodup_append] at nd
        have nn1 := nd.1
        rw [List.nodup_append] at nn1
        exact fun z => nn1.2.2 _ z pp.name (by simp) rfl
      refine ⟨fun m σ H => (∃ (at' : Nat) (ss : List Hs.St) (s9 : Option V), σ = [some (.ref p), some (.int n), some (.ref l), some (.ref lpe), some (.ref lf), some (.str pp.name), some (.int pp.room), some (.bl pp.inner), some (.int at'), s9] ∧ Fr [p, lf] H2 H ∧
        JarAt H p (N + 3 + 3 * i + 2 + 4 * ss.length) ∧ LstAt stO H lf ss ∧ StOk n ((pls.take (i + 1)).map (·.name)) ppl ss ∧ ∀ s ∈ ss, s.pl = pp.name → s.b ≤ at') ∧ m = muS σ H, ⟨_, ⟨at0, ss, _, rfl, c27, j7.mono (by omega), hf7, ⟨ok.l, fun s hs => ?_, ok.ap⟩, fun s hs e => ?_⟩, rfl⟩, ?_⟩
      · obtain ⟨a, b, c, d⟩ := ok.ok s hs
        refine ⟨a, b, c, ?_⟩
        rw [et, List.map_append]
        exact List.mem_append_left _ d
      · exact absurd (e ▸ (ok.ok s hs).2.2.2) nin
      rintro _ σ' H8 ⟨⟨at', ss', s9', rfl, c8, j8, hf8, ok8, be8⟩, rfl⟩
      refine ⟨_, rfl, _, rfl, _, _, rfl, rfl, _, rfl, ?_⟩
      have fin : ∀ H9, Fr [p, lf] H2 H9 → JarAt H9 p (N + 3 + 3 * i + 2 + 4 * ss'.length + 1) → LstAt stO H9 lf ss' → ∃ (ss : List Hs.St) (s5 s6 s7 s8 s9 : Option V), [some (V.ref p), some (.int n), some (.ref l), some (.ref lpe), some (.ref lf), some (.str pp.name), some (.int pp.room), some (.bl pp.inner), some (.int at'), s9'] = [some (.ref p), some (.int n), some (.ref l), some (.ref lpe), some (.ref lf), s5, s6, s7, s8, s9] ∧ Fr [p, lf] H2 H9 ∧
          JarAt H9 p (N + 3 + 3 * ((i + 1 : Nat) : Int) + 4 * ss.length) ∧ LstAt stO H9 lf ss ∧ StOk n ((pls.take (i + 1)).map (·.name)) ppl ss := fun H9 a b c => ⟨ss', _, _, _, _, _, rfl, a, b.mono (by omega), c, ok8⟩
      have l8 := ok8.l
      cases ca : decide ((at' : Int) < (n : Int)) with
      | false => exact iteF (iteF (fin H8 c8 (j8.mono (by omega)) hf8))
      | true =>
        have atn : at' < n := by have := of_decide_eq_true ca; omega
        obtain ⟨rs8, hlf8, hrs8⟩ := id hf8
        refine iteT ⟨_, rfl, lf, _, rfl, .inl (SqL.of hlf8), ?_⟩
        rw [List.length_map, hrs8.1]
        refine ⟨_, _, rfl, rfl, _, rfl, ?_⟩
        cases cb : decide ((ss'.length : Int) < 8) with
        | false => exact iteF (iteF (fin H8 c8 (j8.mono (by omega)) hf8))
        | true =>
          have l7 : ss'.length < 8 := by have := of_decide_eq_true cb; omega
          refine iteT ⟨_, rfl, p, 5, _, rfl, ⟨by decide, by decide⟩, j8, by omega, fun d9 H9 hd9 c9 j9 => ?_⟩
          have hf9 := hf8.jar j8 nlfp c9 stO_nl
          have c29 := c8.trans (cf c9)
          refine ⟨_, _, rfl, rfl, _, rfl, ?_⟩
          cases cd : decide (d9 > 0) with
          | false => exact iteF (fin H9 c29 j9 hf9)
          | true =>
            refine iteT ⟨fun σ' H' => (∃ (at' : Nat) (ss : List Hs.St) (s9 : Option V), σ' = [some (.ref p), some (.int n), some (.ref l), some (.ref lpe), some (.ref lf), some (.str pp.name), some (.int pp.room), some (.bl pp.inner), some (.int at'), s9] ∧ Fr [p, lf] H2 H' ∧
        JarAt H' p (N + 3 + 3 * i + 2 + 4 * ss.length) ∧ LstAt stO H' lf ss ∧ StOk n ((pls.take (i + 1)).map (·.name)) ppl ss ∧ ∀ s ∈ ss, s.pl = pp.name → s.b ≤ at') ∧ muS σ' H' < n - at', fun σ' H' hn => ⟨_, ?_, hn.1, rfl⟩, ?_⟩
            · have e0 : muS [some (V.ref p), some (.int n), some (.ref l), some (.ref lpe), some (.ref lf), some (.str pp.name), some (.int pp.room), some (.bl pp.inner), some (.int at'), s9'] H8 = n - at' := by
                show ((n : Int) - (at' : Int)).toNat = n - at'
                omega
              rw [e0]
              exact hn.2
            refine ⟨_, rfl, _, _, rfl, rfl, _, rfl, _, rfl, _, rfl, _, _, rfl, rfl, p, (n : Int) - (at' : Int), _, rfl, ⟨by omega, by omega⟩, j9, by omega, fun d10 H10 hd10 c10 j10 => ⟨_, _, rfl, rfl, ?_⟩⟩
            have hf10 := hf9.jar j9 nlfp c10 stO_nl
            have c210 := c29.trans (cf c10)
            obtain ⟨bb, hbb⟩ : ∃ b : Nat, (at' : Int) + 1 + d10 = (b : Int) := ⟨at' + 1 + d10.toNat, by omega⟩
            simp only [hbb]
            refine ⟨_, rfl, .inl ⟨rfl, _, SqL.of hf10.choose_spec.1⟩, _, rfl, _, rfl, p, lpe, _, _, rfl, c210 _ _ hpe2 (by simp [nlpep, nlpelf]), nlpep, ?_, j10, by omega, fun v11 H11 hv11 c11 j11 => ?_⟩
            · rw [List.length_map, pl3]
              decide
            have hf11 := hf10.jar j10 nlfp c11 stO_nl
            have c211 := c210.trans (cf c11)
            obtain ⟨wh, hwh, rfl⟩ := List.mem_map.mp hv11
            refine ⟨_, rfl, _, rfl, _, rfl, (show 4 ≤ sizeLine by decide), fun D nD => ?_⟩
            obtain ⟨rs11, hlf11, hrs11⟩ := id hf11
            obtain ⟨g1, g2⟩ := LstAt.grow (x := (⟨wh, pp.name, at', bb⟩ : Hs.St)) hlf11 hrs11 nD stO_nl
            refine ⟨lf, rs11.map V.ref, _, rfl, rfl, (upd_ne (ne_of_none hlf11 nD)).trans hlf11, ?_, ?_⟩
            · rw [List.length_map, hrs11.1]
              exact Nat.lt_trans l7 (by decide)
            have fr12 := g2
            have hf12 := g1
            have j12 : JarAt (upd (upd H11 D (stO ⟨wh, pp.name, at', bb⟩)) lf (.lst (rs11.map V.ref ++ [.ref D]))) p (N + 3 + 3 * i + 2 + 4 * ss'.length + 1 + 1 + 1) := by
              obtain ⟨o, mm, cc, hp5, r⟩ := j11
              exact ⟨o, mm, cc, g2 _ _ hp5 (by simpa using nlfp.symm), r⟩
            have c212 : Fr [p, lf] H2 (upd (upd H11 D (stO ⟨wh, pp.name, at', bb⟩)) lf (.lst (rs11.map V.ref ++ [.ref D]))) := c211.trans (g2.mono (by simp))
            refine ⟨_, rfl, _, rfl, (show 3 ≤ sizeLine by decide), fun q3 nq3 => ?_⟩
            have e13 := same_upd (o := .lst [V.int 0, .int 0, .int 1]) nq3
            obtain ⟨_, _, _, hp12, _⟩ := id j12
            have nq3p : q3 ≠ p := fun z => by subst z; exact absurd (hp12.symm.trans nq3) (by intro z; cases z)
            refine ⟨p, q3, _, _, rfl, upd_same, nq3p, ⟨show 0 < 3 by decide, show 3 ≤ 1000 by decide⟩, j12.same e13, by omega, fun v14 H14 hv14 c14 j14 => ?_⟩
            have hf14 := (hf12.same e13).jar (j12.same e13) nlfp c14 stO_nl
            have c214 := (c212.trans (Fr.same e13)).trans (cf c14)
            obtain ⟨dd, rfl, hdd⟩ : ∃ a : Nat, v14 = .int a ∧ a ≤ 1 := by
              simp only [List.mem_cons, List.not_mem_nil, or_false] at hv14
              rcases hv14 with rfl | rfl | rfl
              · exact ⟨0, rfl, by decide⟩
              · exact ⟨0, rfl, by decide⟩
              · exact ⟨1, rfl, by decide⟩
            refine ⟨_, _, rfl, rfl, ?_⟩
            refine ⟨⟨bb + dd, ss' ++ [⟨wh, pp.name, at', bb⟩], _, rfl, c214, ?_, hf14, ⟨?_, ?_, ?_⟩, ?_⟩, ?_⟩
            · rw [List.length_append, List.length_singleton]
              exact j14.mono (by omega)
            · rw [List.length_append, List.length_singleton]
              omega
            · intro s hs
              rcases List.mem_append.mp hs with hs | hs
              · exact ok8.ok s hs
              · rw [List.mem_singleton.mp hs]
                refine ⟨by show at' < bb; omega, by show bb ≤ n; omega, hwh, ?_⟩
                rw [et, List.map_append]
                exact List.mem_append_right _ (by simp)
            · rw [List.pairwise_append]
              refine ⟨ok8.ap, by simp, fun s hs t ht e => ?_⟩
              rw [List.mem_singleton.mp ht] at e ⊢
              exact .inl (be8 s hs e)
            · intro s hs e
              rcases List.mem_append.mp hs with hs | hs
              · have := be8 s hs e
                omega
              · rw [List.mem_singleton.mp hs]
                show bb ≤ bb + dd
                omega
            · show ((n : Int) - ((bb : Int) + (dd : Int))).toNat < n - at'
              omega
    · rintro σ H3 ⟨ss, s5, s6, s7, s8, s9, rfl, c3, j3, hf3, ok⟩
      rw [show pls.take (rs.map V.ref).length = pls from by rw [List.length_map, hrs.1]; exact List.take_length] at ok
      have l8 := ok.l
      have len4 : (rs.map V.ref).length ≤ 4 := by rw [List.length_map, hrs.1]; exact l4
      refine ⟨_, rfl, p, 2, _, rfl, ⟨by decide, by decide⟩, j3, by omega, fun d H4 hd c4 j4 => ⟨rfl, _, rfl, ?_⟩⟩
      have hf4 := hf3.jar j3 nlfp c4 stO_nl
      have c24 := (toH c3).trans c4
      cases decide (V.int d = V.int 0) with
      | true => exact iteT ⟨_, rfl, q _ lf ppl ss c24 nlfH (j4.mono (by omega)) hf4 psub ok⟩
      | false =>
        obtain ⟨rs4, hlf4, hrs4⟩ := hf4
        refine iteF ⟨_, rfl, lf, _, rfl, SqL.of hlf4, fun t nt => ?_⟩
        have e5 := same_upd (o := .lst (rs4.map V.ref).reverse) nt
        have nntp : H t = none := by
          cases e : H t with
          | none => rfl
          | some u =>
            by_cases z : t = p
            · obtain ⟨_, _, _, hp4, _⟩ := id j4
              rw [z, hp4] at nt
              cases nt
            · rw [c24 _ _ e z] at nt
              cases nt
        refine q _ t ppl ss.reverse (c24.trans (Chg.of e5)) nntp ((j4.same e5).mono (by omega)) ⟨rs4.reverse, ?_, (hrs4.same e5).rev⟩ psub ok.rev
        rw [upd_same, List.map_reverse]
end
end Hs
/-! joined texts, and their parts again -/
namespace SL
open PySem PySem.StrLaws PySem.Builtin PySem.Builtin.Str
theorem fold_list (g : Array Nat) : ∀ (l : List Str) (acc : Array Nat), (l.foldl (fun acc p => acc ++ g ++ p.cps) acc).toList = acc.toList ++ l.flatMap fun p => g.toList ++ p.cps.toList
  | [], acc => by simp
  | p :: l, acc => by
    rw [List.foldl_cons, fold_list g l, List.flatMap_cons]
    simp
theorem join_list (g a : Str) (l : List Str) : (Txt.join g (a :: l)).cps.toList = a.cps.toList ++ l.flatMap fun p => g.cps.toList ++ p.cps.toList := by
  show (List.foldl (fun acc p => acc ++ g.cps ++ p.cps) (List.headD (a :: l) Str.empty).cps (List.drop 1 (a :: l))).toList = _
  exact fold_list g.cps l a.cps
theorem cut_join (c : Nat) : ∀ (l : List Str) (a : Str), c ∉ a.cps.toList → (∀ p ∈ l, c ∉ p.cps.toList) → cutAt c (a.cps.toList ++ l.flatMap fun p => [c] ++ p.cps.toList) = a.cps.toList :: l.map fun p => p.cps.toList
  | [], a, h, _ => by rw [List.flatMap_nil, List.append_nil]; exact cut_none h
  | p :: l, a, h, k => by
    rw [List.flatMap_cons]
    show cutAt c (a.cps.toList ++ (c :: (p.cps.toList ++ _))) = _
    rw [cut_app h, cut_join c l p (k p (by simp)) (fun q hq => k q (by simp [hq]))]
    rfl
theorem split_join (c : Nat) (a : Str) (l : List Str) (h : ∀ p ∈ a :: l, c ∉ p.cps.toList) (h0 : ∀ x : Str, Builtin.Str.strKind x ≥ Builtin.Str.strKind ⟨#[c]⟩) : Txt.split (Txt.join ⟨#[c]⟩ (a :: l)) ⟨#[c]⟩ = a :: l := by
  rw [split_sign _ _ (fun _ => h0 _), join_list]
  have e : (⟨#[c]⟩ : Str).cps.toList = [c] := rfl
  rw [e, cut_join c l a (h a (by simp)) (fun p hp => h p (by simp [hp])), List.map_cons, List.map_map, ofL_toList]
  congr 1
  rw [show (ofL ∘ fun p : Str => p.cps.toList) = _root_.id from funext fun p => ofL_toList p, List.map_id]
theorem join_len (g a : Str) (l : List Str) : (Txt.join g (a :: l)).length = a.length + (l.map fun p => g.length + p.length).sum := by
  rw [← len_toList, join_list, List.length_append, len_toList, List.length_flatMap]
  congr 2
  apply List.map_congr_left
  intro p _
  rw [List.length_append, len_toList, len_toList]
theorem kind_ge {c : Nat} (hc : c < 256) (x : Str) : Builtin.Str.strKind x ≥ Builtin.Str.strKind ⟨#[c]⟩ := by
  have e : Builtin.Str.strKind ⟨#[c]⟩ = 1 := by
    unfold Builtin.Str.strKind
    rw [if_pos (by simp [hc])]
  rw [e]
  unfold Builtin.Str.strKind
  split
  · exact Nat.le_refl _
  · split <;> decide
end SL
/-! the law: the page of a house -/
namespace Hs
open PySem PySem.Spec PyProof.Rows L2 Am
abbrev si (n : Nat) : Str := Str.ofString (toString (n : Int))
def dayL (n : Nat) : Str := ("days " : Str) ++ si n
def plL (p : Pl) : Str := (if p.inner then ("flat " : Str) else "bare ") ++ p.name ++ " " ++ si p.room
def prL (p : Nat × Nat) : Str := ("price " : Str) ++ si p.1 ++ " " ++ si p.2
def stL (s : St) : Str := Txt.join " " ["lives", s.who, s.pl, si s.a, si s.b]
def linesOf (L : Lore) : List Str := dayL L.days :: (L.places.map plL ++ (L.prices.map prL ++ L.stays.map stL))
def pageOf (L : Lore) : Str := Txt.join "\n" (linesOf L)
def lkv (n : Nat) (lp ls lt : Addr) : List (Key × V) := [(.inr "days", .int n), (.inr "prices", .ref lt), (.inr "places", .ref lp), (.inr "stays", .ref ls)]
def LoreAt (H : Hp) (d : Addr) (L : Lore) : Prop := ∃ lp ls lt, H d = some (.dK (lkv L.days lp ls lt)) ∧ LstAt plO H lp L.places ∧ LstAt stO H ls L.stays ∧ LstAt prO H lt L.prices
theorem LoreAt.same {H H' : Hp} {d : Addr} {L : Lore} (h : LoreAt H d L) (e : Same H H') : LoreAt H' d L := by
  obtain ⟨lp, ls, lt, a, b, c, f⟩ := h
  exact ⟨lp, ls, lt, e _ _ a, b.same e, c.same e, f.same e⟩
/-- small enough to be written -/
structure Fit (L : Lore) : Prop where
  d : L.days ≤ 14
  sm : Small L
  pl : ∀ p ∈ L.places, p.name.length ≤ 8 ∧ p.room ≤ 9
  pr : ∀ p ∈ L.prices, p.1 ≤ 14 ∧ p.2 ≤ 99
  st : ∀ s ∈ L.stays, s.who.length ≤ 8 ∧ s.pl.length ≤ 8 ∧ s.a ≤ 14 ∧ s.b ≤ 14
theorem si_len {n : Nat} (h : n ≤ 99) : (si n).length ≤ 2 := by
  have : ∀ k : Fin 100, (si k.val).length ≤ 2 := by decide +kernel
  exact this ⟨n, by omega⟩
theorem lg {n : Nat} (h : n ≤ 99) : ((n : Int).natAbs).log2 < 1920 := log2_lt (by decide) (Nat.lt_of_le_of_lt (show (n : Int).natAbs ≤ 99 by omega) (by decide))
theorem big {k : Nat} (h : k ≤ 4000) : k ≤ sizeLine := Nat.le_trans h (by decide)
section
variable (n : Nat) (lp ls lt : Addr)
theorem lk_d : some (V.int n) = valV (lkv n lp ls lt) (.inr "days") := by
  unfold lkv valV
  simp only [List.find?, show decide ((Sum.inr ("days" : Str) : Key) = Sum.inr ("days" : Str)) = true from by decide +kernel]
  rfl
theorem lk_p : some (V.ref lp) = valV (lkv n lp ls lt) (.inr "places") := by
  unfold lkv valV
  simp only [List.find?, show decide ((Sum.inr ("days" : Str) : Key) = Sum.inr ("places" : Str)) = false from by decide +kernel, show decide ((Sum.inr ("places" : Str) : Key) = Sum.inr ("places" : Str)) = true from by decide +kernel]
  rfl
theorem lk_s : some (V.ref ls) = valV (lkv n lp ls lt) (.inr "stays") := by
  unfold lkv valV
  simp only [List.find?, show decide ((Sum.inr ("days" : Str) : Key) = Sum.inr ("stays" : Str)) = false from by decide +kernel, show decide ((Sum.inr ("places" : Str) : Key) = Sum.inr ("stays" : Str)) = false from by decide +kernel, show decide ((Sum.inr ("stays" : Str) : Key) = Sum.inr ("stays" : Str)) = true from by decide +kernel]
  rfl
theorem lk_t : some (V.ref lt) = valV (lkv n lp ls lt) (.inr "prices") := by
  unfold lkv valV
  simp only [List.find?, show decide ((Sum.inr ("days" : Str) : Key) = Sum.inr ("prices" : Str)) = false from by decide +kernel, show decide ((Sum.inr ("places" : Str) : Key) = Sum.inr ("prices" : Str)) = false from by decide +kernel, show decide ((Sum.inr ("stays" : Str) : Key) = Sum.inr ("prices" : Str)) = false from by decide +kernel, show decide ((Sum.inr ("prices" : Str) : Key) = Sum.inr ("prices" : Str)) = true from by decide +kernel]
  rfl
end
theorem sum_le {α : Type} (f : α → Nat) (k : Nat) : ∀ xs : List α, (∀ x ∈ xs, f x ≤ k) → (xs.map f).sum ≤ xs.length * k
  | [], _ => by simp
  | x :: xs, h => by
    have := sum_le f k xs fun y hy => h y (by simp [hy])
    have h0 := h x (by simp)
    rw [List.map_cons, List.sum_cons, List.length_cons, Nat.succ_mul]
    omega
theorem lines_len {L : Lore} (fit : Fit L) (l : Str) (h : l ∈ linesOf L) : l.length ≤ 40 := by
  unfold linesOf at h
  rcases List.mem_cons.mp h with rfl | h
  · have := si_len (n := L.days) (by have := fit.d; omega)
    unfold dayL
    rw [strLen_append]
    exact Nat.le_trans (Nat.add_le_add (show ("days " : Str).length ≤ 5 by decide) this) (by decide)
  rcases List.mem_append.mp h with h | h
  · obtain ⟨p, hp, rfl⟩ := List.mem_map.mp h
    obtain ⟨a, b⟩ := fit.pl p hp
    have sl := si_len (n := p.room) (by omega)
    have l5 : (if p.inner then ("flat " : Str) else ("bare " : Str)).length = 5 := by cases p.inner <;> rfl
    unfold plL
    rw [strLen_append, strLen_append, strLen_append, l5]
    exact Nat.le_trans (Nat.add_le_add (Nat.add_le_add (Nat.add_le_add_left a 5) (show (" " : Str).length ≤ 1 by decide)) sl) (by decide)
  rcases List.mem_append.mp h with h | h
  · obtain ⟨p, hp, rfl⟩ := List.mem_map.mp h
    obtain ⟨a, b⟩ := fit.pr p hp
    have sl1 := si_len (n := p.1) (by omega)
    have sl2 := si_len (n := p.2) (by omega)
    unfold prL
    rw [strLen_append, strLen_append, strLen_append]
    exact Nat.le_trans (Nat.add_le_add (Nat.add_le_add (Nat.add_le_add (show ("price " : Str).length ≤ 6 by decide) sl1) (show (" " : Str).length ≤ 1 by decide)) sl2) (by decide)
  · obtain ⟨s, hs, rfl⟩ := List.mem_map.mp h
    obtain ⟨a, b, c, d⟩ := fit.st s hs
    have sl1 := si_len (n := s.a) (by omega)
    have sl2 := si_len (n := s.b) (by omega)
    unfold stL
    rw [SL.join_len]
    show 5 + ((1 + s.who.length) + ((1 + s.pl.length) + ((1 + (si s.a).length) + ((1 + (si s.b).length) + 0)))) ≤ 40
    omega
def spPage : Sp := fun vs H Q _ => ∃ (d : Addr) (L : Lore), vs = [.ref d] ∧ LoreAt H d L ∧ Fit L ∧ ∀ H', Same H H' → Q (.str (pageOf L)) H'
section
variable {P : Program} {w : World} {K : PySem.W.Frag} {mg : Str → Option Value} {base : Heap}
theorem scPage : FnScope ["_law_lore", "_law_found", "_law_name", "_law_room", "_law_is_metered", "_law_person", "_law_place", "_law_first", "_law_behind", "_law_day", "_law_number"] ["_law_lore"] (defScope sL_page) := ⟨rfl, rfl, rfl, by decide +kernel, rfl, by decide +kernel, by decide +kernel⟩
theorem ok_page {f : Addr} {fd : FuncData} (F : Fun K "_law_page" "_law_page" sL_page f fd) (nst : mg "str" = none) : FnOk P w K mg base CX0 1 f fd ["_law_lore"] spPage := by
  refine F.ok scPage (fun vs H Q E h => ?_) (fun cdv A outer s H vs Q E hr h => ?_)
  · obtain ⟨d, L, rfl, _⟩ := h
    rfl
  · obtain ⟨d, L, rfl, hd, fit, q⟩ := h
    have hu := hu_of hr
    have b_str : bootBuiltins "str" = some (.type "str") := by decide +kernel
    refine ⟨_, pss_cons (ps_set (i := 1) scPage.nd rfl (.inl rfl) (pe_lst (pa_cons (pe_op op_add_str pe_str (pe_callTy call_str_int (by rfl) nst b_str (pa_cons (pe_dget hu (pv 0) pe_str (fun _ _ => rfl)) pa_nil))) pa_nil)))
      (pss_cons (ps_for (g := gTup K 3 (gCons (gName 2) (gCons (gName 3) (gCons (gName 4) gNil)))) PassesOwn.never rfl (pi_list (pe_dget hu (pv 0) pe_str (fun _ _ => rfl)))
        (pg_tup rfl (pgs_cons (pg_name (i := 2) scPage.nd rfl (.inl rfl)) (pgs_cons (pg_name (i := 3) scPage.nd rfl (.inl rfl)) (pgs_cons (pg_name (i := 4) scPage.nd rfl (.inl rfl)) pgs_nil))))
        (pss_one (ps_expr (pe_bm PySem.F.plainAttrs_list PySem.F.slot_list_append PySem.F.type_list_append mt_append (pv 1)
          (pa_cons (pe_op op_add_str (pe_op op_add_str (pe_op op_add_str (pe_ifExp (pt_val (pv 4)) pe_str pe_str) (pv 2)) pe_str) (pe_callTy call_str_int (by rfl) nst b_str (pa_cons (pv 3) pa_nil))) pa_nil)))))
      (pss_cons (ps_expr (pe_bm PySem.F.plainAttrs_list PySem.F.slot_list_extend PySem.F.type_list_extend mt_extend (pv 1)
        (pa_cons (pe_lc (own := [("_law_day", 9), ("_law_number", 10)]) (g := gTup K 2 (gCons (gName 9) (gCons (gName 10) gNil))) (tt := tYes) rfl scPage.nd (pi_list (pe_dget hu (pv 0) pe_str (fun _ _ => rfl)))
          (blkOk_by (N := ["_law_lore", "_law_found", "_law_name", "_law_room", "_law_is_metered", "_law_person", "_law_place", "_law_first", "_law_behind", "_law_day", "_law_number"]) (sc := defScope sL_page) (by decide +kernel))
          (fun _ _ _ _ _ => pg_tup rfl (pgs_cons (pg_name (i := 9) scPage.nd rfl (.inl rfl)) (pgs_cons (pg_name (i := 10) scPage.nd rfl (.inl rfl)) pgs_nil))) (fun _ _ _ _ _ => pts_nil)
          (fun _ _ _ _ _ => pe_op op_add_str (pe_op op_add_str (pe_op op_add_str pe_str (pe_callTy call_str_int (by rfl) nst b_str (pa_cons (pv 9) pa_nil))) pe_str) (pe_callTy call_str_int (by rfl) nst b_str (pa_cons (pv 10) pa_nil)))) pa_nil)))
      (pss_cons (ps_for (g := gTup K 4 (gCons (gName 5) (gCons (gName 6) (gCons (gName 7) (gCons (gName 8) gNil))))) PassesOwn.never rfl (pi_list (pe_dget hu (pv 0) pe_str (fun _ _ => rfl)))
        (pg_tup rfl (pgs_cons (pg_name (i := 5) scPage.nd rfl (.inl rfl)) (pgs_cons (pg_name (i := 6) scPage.nd rfl (.inl rfl)) (pgs_cons (pg_name (i := 7) scPage.nd rfl (.inl rfl)) (pgs_cons (pg_name (i := 8) scPage.nd rfl (.inl rfl)) pgs_nil)))))
        (pss_one (ps_expr (pe_bm PySem.F.plainAttrs_list PySem.F.slot_list_append PySem.F.type_list_append mt_append (pv 1)
          (pa_cons (pe_join pe_str (pe_lst (pa_cons pe_str (pa_cons (pv 5) (pa_cons (pv 6) (pa_cons (pe_callTy call_str_int (by rfl) nst b_str (pa_cons (pv 7) pa_nil)) (pa_cons (pe_callTy call_str_int (by rfl) nst b_str (pa_cons (pv 8) pa_nil)) pa_nil))))))) pa_nil)))))
      (pss_one (ps_ret (pe_join pe_str (pv 1))))))), ?_⟩
    obtain ⟨lp, ls, lt, hdd, hlp, hls, hlt⟩ := hd
    obtain ⟨rp, hp, hrp⟩ := hlp
    obtain ⟨rs, hs', hrs⟩ := hls
    obtain ⟨rt, ht, hrt⟩ := hlt
    obtain ⟨s1, s2, s3⟩ := fit.sm
    refine ⟨_, rfl, d, _, rfl, .inl ⟨_, .inr "days", .inl hdd, rfl, lk_d _ _ _ _⟩, (L.days : Int), rfl, lg (by have := fit.d; omega), _, _, rfl, rfl, ?_, (show 1 ≤ sizeLine by decide), fun lf nlf => ?_⟩
    · have := si_len (n := L.days) (by have := fit.d; omega)
      exact big (Nat.le_trans (Nat.add_le_add_left this 5) (by decide))
    have e1 := same_upd (o := .lst [V.str (dayL L.days)]) nlf
    refine ⟨_, rfl, d, _, rfl, .inl ⟨_, .inr "places", .inl (e1 _ _ hdd), rfl, lk_p _ _ _ _⟩, lp, rfl, ⟨_, SqL.of (e1 _ _ hp)⟩, ?_⟩
    refine for_it (walk_list (xs := rp.map V.ref)) (fun i σ H' => ∃ (s2 s3 s4 : Option V), σ = [some (.ref d), some (.ref lf), s2, s3, s4, none, none, none, none, none, none] ∧ Same H H' ∧ H' lf = some (.lst ((dayL L.days :: (L.places.take i).map plL).map V.str))) ?_ ?_ ?_ ?_
    · exact ⟨_, _, _, rfl, e1, upd_same⟩
    · rintro i σ H' _ ⟨_, _, _, _, es, _⟩
      exact SqL.of (es _ _ hp)
    · rintro i v σ H1 H2 hi ⟨s2, s3, s4, rfl, es, hl⟩ ⟨rfl, hv⟩
      obtain ⟨q1, pp, rfl, _, hpp, ho⟩ := hrp.at hv
      obtain ⟨f1, f2⟩ := fit.pl pp (List.mem_of_getElem? hpp)
      have sl := si_len (n := pp.room) (by omega)
      refine ⟨q1, _, rfl, SqT.of (es _ _ ho), rfl, _, _, rfl, _, _, rfl, _, _, rfl, rfl, ?_⟩
      refine ⟨_, rfl, .inl ⟨rfl, _, SqL.of hl⟩, _, rfl, pp.inner, rfl, if_val (.str (if pp.inner then ("flat " : Str) else "bare ")) ?_ (fun e Q' h => by rw [e] at h; exact h) (fun e Q' h => by rw [e] at h; exact h)⟩
      have l5 : (if pp.inner then ("flat " : Str) else ("bare " : Str)).length = 5 := by cases pp.inner <;> rfl
      refine ⟨_, rfl, _, _, rfl, rfl, big (by omega), _, _, rfl, rfl, ?_, _, rfl, (pp.room : Int), rfl, lg (by omega), _, _, rfl, rfl, ?_, ?_⟩
      · rw [strLen_append, l5]
        exact big (Nat.le_trans (Nat.add_le_add_left (show (" " : Str).length ≤ 1 by decide) _) (by omega))
      · rw [strLen_append, strLen_append, l5]
        exact big (Nat.le_trans (Nat.add_le_add (Nat.add_le_add_left (show (" " : Str).length ≤ 1 by decide) _) sl) (by omega))
      refine ⟨lf, _, _, rfl, rfl, hl, ?_, ?_⟩
      · rw [List.length_map, List.length_cons, List.length_map, List.length_take]
        exact Nat.lt_of_le_of_lt (show _ ≤ 5 by omega) (by decide)
      refine ⟨_, _, _, rfl, fun b u e => ?_, ?_⟩
      · rw [upd_ne (ne_of_none e nlf)]
        exact es _ _ e
      · rw [upd_same, List.take_add_one, hpp]
        rw [show (some pp).toList = [pp] from rfl, List.map_append, ← List.cons_append, List.map_append]
        rfl
    · rintro σ H1 ⟨s2, s3, s4, rfl, es, hl⟩
      rw [show L.places.take (rp.map V.ref).length = L.places from by rw [List.length_map, hrp.1]; exact List.take_length] at hl
      generalize hbase : (dayL L.days :: L.places.map plL) = pre at *
      have prl : pre.length ≤ 5 := by rw [← hbase, List.length_cons, List.length_map]; omega
      refine ⟨_, rfl, .inl ⟨rfl, _, SqL.of hl⟩, _, rfl, d, _, rfl, .inl ⟨_, .inr "prices", .inl (es _ _ hdd), rfl, lk_t _ _ _ _⟩, lt, rfl, ⟨_, SqL.of (es _ _ ht)⟩, fun D nD => ?_⟩
      refine lc_it (walk_list (xs := rt.map V.ref)) (Pv := Tk H1 D (L.prices.map fun x => V.str (prL x))) (Tk.start nD) (fun i H' _ hh => SqL.of (hh.1 _ _ (es _ _ ht))) ?_ ?_
      · rintro i v G1 G2 hi hk ⟨rfl, hv⟩
        obtain ⟨q1, pp, rfl, _, hpp, ho⟩ := (hrt.same es).at hv
        obtain ⟨f1, f2⟩ := fit.pr pp (List.mem_of_getElem? hpp)
        have sl1 := si_len (n := pp.1) (by omega)
        have sl2 := si_len (n := pp.2) (by omega)
        refine ⟨q1, _, rfl, SqT.of (hk.1 _ _ ho), rfl, _, _, rfl, _, _, rfl, rfl, rfl, ?_⟩
        unfold tYes
        refine iteT ⟨_, rfl, (pp.1 : Int), rfl, lg (by omega), _, _, rfl, rfl, ?_, _, _, rfl, rfl, ?_, _, rfl, (pp.2 : Int), rfl, lg (by omega), _, _, rfl, rfl, ?_, ?_⟩
        · exact big (Nat.le_trans (Nat.add_le_add (show ("price " : Str).length ≤ 6 by decide) sl1) (by decide))
        · rw [strLen_append]
          exact big (Nat.le_trans (Nat.add_le_add (Nat.add_le_add (show ("price " : Str).length ≤ 6 by decide) sl1) (show (" " : Str).length ≤ 1 by decide)) (by decide))
        · rw [strLen_append, strLen_append]
          exact big (Nat.le_trans (Nat.add_le_add (Nat.add_le_add (Nat.add_le_add (show ("price " : Str).length ≤ 6 by decide) sl1) (show (" " : Str).length ≤ 1 by decide)) sl2) (by decide))
        · exact hk.step nD (Same.refl _) (by rw [List.getElem?_map, hpp]; rfl) (by rw [List.length_map]; omega)
      · rintro G1 hk
        have hD := hk.done (by simp [hrt.1])
        refine ⟨lf, D, _, _, rfl, rfl, hk.1 _ _ hl, hD, ?_, ?_⟩
        · rw [List.length_map, List.length_map]
          exact big (by omega)
        have e3 : Same H (upd G1 lf (.lst (pre.map V.str ++ L.prices.map fun x => V.str (prL x)))) := fun b u e => by
          rw [upd_ne (ne_of_none e nlf)]
          exact hk.1 _ _ (es _ _ e)
        have hl3 : (upd G1 lf (.lst (pre.map V.str ++ L.prices.map fun x => V.str (prL x)))) lf = some (.lst ((pre ++ L.prices.map prL).map V.str)) := by
          rw [upd_same, List.map_append, List.map_map]
          rfl
        generalize upd G1 lf (.lst (pre.map V.str ++ L.prices.map fun x => V.str (prL x))) = G3 at *
        refine ⟨_, rfl, d, _, rfl, .inl ⟨_, .inr "stays", .inl (e3 _ _ hdd), rfl, lk_s _ _ _ _⟩, ls, rfl, ⟨_, SqL.of (e3 _ _ hs')⟩, ?_⟩
        refine for_it (walk_list (xs := rs.map V.ref)) (fun i σ H' => ∃ (s2 s3 s4 s5 s6 s7 s8 : Option V), σ = [some (.ref d), some (.ref lf), s2, s3, s4, s5, s6, s7, s8, none, none] ∧ Same H H' ∧ H' lf = some (.lst ((pre ++ (L.prices.map prL ++ (L.stays.take i).map stL)).map V.str))) ?_ ?_ ?_ ?_
        · refine ⟨_, _, _, _, _, _, _, rfl, e3, ?_⟩
          rw [hl3]
          simp
        · rintro i σ H' _ ⟨_, _, _, _, _, _, _, _, es', _⟩
          exact SqL.of (es' _ _ hs')
        · rintro i v σ H4 H2 hi ⟨s2, s3, s4, s5, s6, s7, s8, rfl, es4, hl4⟩ ⟨rfl, hv⟩
          obtain ⟨q1, pp, rfl, _, hpp, ho⟩ := hrs.at hv
          obtain ⟨f1, f2, f3, f4⟩ := fit.st pp (List.mem_of_getElem? hpp)
          have sl1 := si_len (n := pp.a) (by omega)
          have sl2 := si_len (n := pp.b) (by omega)
          refine ⟨q1, _, rfl, SqT.of (es4 _ _ ho), rfl, _, _, rfl, _, _, rfl, _, _, rfl, _, _, rfl, rfl, ?_⟩
          refine ⟨_, rfl, .inl ⟨rfl, _, SqL.of hl4⟩, ⟨_, rfl⟩, _, rfl, _, rfl, _, rfl, (pp.a : Int), rfl, lg (by omega), _, rfl, (pp.b : Int), rfl, lg (by omega), (show 5 ≤ sizeLine by decide), fun q2 nq2 => ?_⟩
          refine ⟨_, q2, [("lives" : Str), pp.who, pp.pl, si pp.a, si pp.b], rfl, rfl, .inl (SqL.of upd_same), ?_, ?_⟩
          · show ((5 : Nat) + (pp.who.length + (pp.pl.length + ((si pp.a).length + ((si pp.b).length + 0))))) + 5 * 1 ≤ 16777216
            omega
          have e5 := same_upd (o := .lst [V.str "lives", .str pp.who, .str pp.pl, .str (si pp.a), .str (si pp.b)]) nq2
          refine ⟨lf, _, _, rfl, rfl, e5 _ _ hl4, ?_, ?_⟩
          · rw [List.length_map, List.length_append, List.length_append, List.length_map, List.length_map, List.length_take]
            exact Nat.lt_of_le_of_lt (show _ ≤ 40 by omega) (by decide)
          refine ⟨_, _, _, _, _, _, _, rfl, fun b u e => ?_, ?_⟩
          · rw [upd_ne (ne_of_none e nlf)]
            exact e5 _ _ (es4 _ _ e)
          · rw [upd_same, List.take_add_one, hpp, show (some pp).toList = [pp] from rfl]
            simp only [List.map_append, List.append_assoc]
            rfl
        · rintro σ H4 ⟨s2, s3, s4, s5, s6, s7, s8, rfl, es4, hl4⟩
          rw [show L.stays.take (rs.map V.ref).length = L.stays from by rw [List.length_map, hrs.1]; exact List.take_length, ← hbase] at hl4
          refine ⟨⟨_, rfl⟩, _, rfl, _, lf, linesOf L, rfl, rfl, .inl (SqL.of hl4), ?_, q H4 es4⟩
          have b1 : ((linesOf L).map (·.length)).sum ≤ (linesOf L).length * 40 := sum_le _ _ _ fun l hl => lines_len fit l hl
          have b2 : (linesOf L).length ≤ 16 := by
            unfold linesOf
            rw [List.length_cons, List.length_append, List.length_append, List.length_map, List.length_map, List.length_map]
            omega
          have b3 : (linesOf L).length * ("\n" : Str).length ≤ 16 * 1 := Nat.mul_le_mul b2 (by decide)
          have b4 : (linesOf L).length * 40 ≤ 16 * 40 := Nat.mul_le_mul b2 (by decide)
          omega
end
end Hs
/-! the law: how many rows of uses, what a meter covers -/
namespace Hs
open PySem PySem.Spec PyProof.Rows L2 Am
def covB (m : Str) (p : Pl) : Bool := decide (m = "main") || (decide (m = p.name) && p.inner)
def spCov : Sp := fun vs H Q _ => ∃ (m : Str) (q : Addr) (p : Pl), vs = [.str m, .ref q] ∧ H q = some (plO p) ∧ Q (.bl (covB m p)) H
def spMany : Sp := fun vs H Q _ => ∃ (r n : Nat), vs = [.int r, .int n] ∧ r ≤ 9 ∧ n ≤ 14 ∧ Q (.int (((r + 1) ^ n : Nat) : Int)) H
section
variable {P : Program} {w : World} {K : PySem.W.Frag} {mg : Str → Option Value} {base : Heap}
theorem scMu : FnScope ["_law_room", "_law_days", "_law_found", "_law_lap"] ["_law_room", "_law_days"] (defScope sL_many_uses) := ⟨rfl, rfl, rfl, by decide +kernel, rfl, by decide +kernel, by decide +kernel⟩
theorem ok_many {f : Addr} {fd : FuncData} (F : Fun K "_law_many_uses" "_law_many_uses" sL_many_uses f fd) (T : Nm mg) : FnOk P w K mg base CX0 1 f fd ["_law_room", "_law_days"] spMany := by
  refine F.ok scMu (fun vs H Q E h => ?_) (fun cdv A outer s H vs Q E hr h => ?_)
  · obtain ⟨r, n, rfl, _⟩ := h
    rfl
  · obtain ⟨r, n, rfl, hr9, hn, q⟩ := h
    refine ⟨_, (pss_cons (ps_set (i := 2) scMu.nd rfl (.inl rfl) pe_int)
      (pss_cons (ps_for PassesOwn.never rfl (pi_range1 (by rfl) T.range (pa_cons (pv 1) pa_nil)) (pg_name (i := 3) scMu.nd rfl (.inl rfl)) (pss_one (ps_set (i := 2) scMu.nd rfl (.inl rfl) (pe_op op_mulW (pv 2) (pe_op op_add (pv 0) pe_int)))))
      (pss_one (ps_ret (pv 2))))), ?_⟩
    refine ⟨_, rfl, (n : Int), rfl, by omega, by omega, ?_⟩
    rw [Int.toNat_natCast]
    refine for_it (walk_range0 (n := n)) (fun i σ H' => ∃ s3 : Option V, σ = [some (.int r), some (.int n), some (.int (((r + 1) ^ i : Nat) : Int)), s3] ∧ H' = H) ?_ (fun _ _ _ _ _ => trivial) ?_ ?_
    · exact ⟨_, rfl, rfl⟩
    · rintro i v σ G1 G2 hi ⟨s3, rfl, rfl⟩ ⟨rfl, rfl⟩
      refine ⟨_, rfl, _, rfl, _, _, rfl, rfl, _, _, rfl, rfl, ?_, ?_⟩
      · have b1 : (r + 1) ^ i ≤ 10 ^ 14 := Nat.le_trans (Nat.pow_le_pow_left (show r + 1 ≤ 10 by omega) i) (Nat.pow_le_pow_right (by decide) (by omega))
        have b2 : Bd 60 (((r + 1) ^ i : Nat) : Int) := by
          unfold Bd
          rw [Int.natAbs_natCast]
          exact Nat.lt_of_le_of_lt b1 (by decide)
        have b3 : Bd 60 ((r : Int) + 1) := by
          unfold Bd
          have : ((r : Int) + 1).natAbs = r + 1 := by omega
          rw [this]
          exact Nat.lt_of_le_of_lt (show r + 1 ≤ 10 by omega) (by decide)
        exact b2.cmul b3 (by decide) (by decide)
      · have em : (((r + 1) ^ (i + 1) : Nat) : Int) = (((r + 1) ^ i : Nat) : Int) * ((r : Int) + 1) := by
          rw [Nat.pow_succ, Int.natCast_mul]
          rfl
        exact ⟨some (.int i), by rw [em]; rfl, rfl⟩
    · rintro σ G1 ⟨s3, rfl, rfl⟩
      exact ⟨_, rfl, q⟩
theorem scCo : FnScope ["_law_meter", "_law_place"] ["_law_meter", "_law_place"] (defScope sL_is_covered) := ⟨rfl, rfl, rfl, by decide +kernel, rfl, by decide +kernel, by decide +kernel⟩
theorem ok_cov {f : Addr} {fd : FuncData} (F : Fun K "_law_is_covered" "_law_is_covered" sL_is_covered f fd) : FnOk P w K mg base CX0 1 f fd ["_law_meter", "_law_place"] spCov := by
  refine F.ok scCo (fun vs H Q E h => ?_) (fun cdv A outer s H vs Q E hr h => ?_)
  · obtain ⟨m, q, p, rfl, _⟩ := h
    rfl
  · obtain ⟨m, q0, p, rfl, hp, q⟩ := h
    refine ⟨_, (pss_one (ps_ret (pe_or (pe_cmpR op_eq (pv 0) pe_str (nomark _)) (pe_one (pe_and (pe_cmpR op_eq (pv 0) (pe_ix ix_tup (pv 1) pe_int (fun _ _ => rfl)) (nomark _)) (pe_one (pe_ix ix_tup (pv 1) pe_int (fun _ _ => rfl)))))))), ?_⟩
    refine ⟨_, rfl, rfl, ?_⟩
    by_cases h1 : m = "main"
    · rw [show decide (V.str m = V.str "main") = true from decide_eq_true (by rw [h1])]
      refine ⟨_, rfl, iteT ?_⟩
      have : covB m p = true := by unfold covB; rw [decide_eq_true h1]; rfl
      rw [this] at q
      exact q
    · rw [show decide (V.str m = V.str "main") = false from decide_eq_false (fun z => h1 (V.str.inj z))]
      refine ⟨_, rfl, iteF ⟨_, rfl, _, rfl, q0, _, _, _, rfl, rfl, SqT.of hp, rfl, rfl, ?_⟩⟩
      by_cases h2 : m = p.name
      · rw [show decide (V.str m = V.str p.name) = true from decide_eq_true (by rw [h2])]
        have : covB m p = p.inner := by unfold covB; rw [decide_eq_false h1, decide_eq_true h2]; rfl
        rw [this] at q
        exact ⟨_, rfl, iteT ⟨_, rfl, q0, _, _, _, rfl, rfl, SqT.of hp, rfl, q⟩⟩
      · rw [show decide (V.str m = V.str p.name) = false from decide_eq_false (fun z => h2 (V.str.inj z))]
        have : covB m p = false := by unfold covB; rw [decide_eq_false h1, decide_eq_false h2]; rfl
        rw [this] at q
        exact ⟨_, rfl, iteF q⟩
end
end Hs
/-! the law: the meters -/
namespace Hs
open PySem PySem.Spec PyProof.Rows L2 Am
def spMeters : Sp := fun vs H Q _ => ∃ (d : Addr) (L : Lore), vs = [.ref d] ∧ LoreAt H d L ∧ Small L ∧
  ∀ (H' : Hp) (t : Addr), Same H H' → H t = none → H' t = some (.lst ((metersOf L).map V.str)) → Q (.ref t) H'
section
variable {P : Program} {w : World} {K : PySem.W.Frag} {mg : Str → Option Value} {base : Heap}
theorem scMeters : FnScope ["_law_lore", "_law_name", "_law_room", "_law_is_metered"] ["_law_lore"] (defScope sL_meters) := ⟨rfl, rfl, rfl, by decide +kernel, rfl, by decide +kernel, by decide +kernel⟩
theorem ok_meters {f : Addr} {fd : FuncData} (F : Fun K "_law_meters" "_law_meters" sL_meters f fd) : FnOk P w K mg base CX0 1 f fd ["_law_lore"] spMeters := by
  refine F.ok scMeters (fun vs H Q E h => ?_) (fun cdv A outer s H vs Q E hr h => ?_)
  · obtain ⟨d, L, rfl, _⟩ := h
    rfl
  · obtain ⟨d, L, rfl, ⟨lp, ls, lt, hd, hlp, hls, hlt⟩, sm, q⟩ := h
    have hu := hu_of hr
    refine ⟨_, pss_one (ps_ret (pe_op op_cat (pe_lst (pa_cons pe_str pa_nil)) (pe_lc (own := [("_law_name", 1), ("_law_room", 2), ("_law_is_metered", 3)]) (g := gTup K 3 (gCons (gName 1) (gCons (gName 2) (gCons (gName 3) gNil)))) rfl scMeters.nd (pi_list (pe_dget hu (pv 0) pe_str (fun _ _ => rfl)))
      (blkOk_by (N := ["_law_lore", "_law_name", "_law_room", "_law_is_metered"]) (sc := defScope sL_meters) (by decide +kernel))
      (fun _ _ _ _ _ => pg_tup rfl (pgs_cons (pg_name (i := 1) scMeters.nd rfl (.inl rfl)) (pgs_cons (pg_name (i := 2) scMeters.nd rfl (.inl rfl)) (pgs_cons (pg_name (i := 3) scMeters.nd rfl (.inl rfl)) pgs_nil)))) (fun _ _ _ _ _ => pts_one (pt_val (pv 3)))
      (fun _ _ _ _ _ => pv 1)))), ?_⟩
    obtain ⟨rp, hp, hrp⟩ := hlp
    refine ⟨(show 1 ≤ sizeLine by decide), fun l1 nl1 => ?_⟩
    have e5 := same_upd (o := .lst [V.str "main"]) nl1
    refine ⟨_, rfl, d, _, rfl, .inl ⟨_, .inr "places", .inl (e5 _ _ hd), rfl, lk_p _ _ _ _⟩, lp, rfl, ⟨_, SqL.of (e5 _ _ hp)⟩, fun D nD => ?_⟩
    refine lc_it (walk_list (xs := rp.map V.ref)) (Pv := fun i H' => Same (upd H l1 (.lst [V.str "main"])) H' ∧ H' D = some (.lst ((((L.places.take i).filter (·.inner)).map (·.name)).map V.str))) ⟨same_upd nD, by rw [upd_same]; rfl⟩ (fun i H' _ hh => SqL.of (hh.1 _ _ (e5 _ _ hp))) ?_ ?_
    · rintro i v G1 G2 hi ⟨es, hD⟩ ⟨rfl, hv⟩
      obtain ⟨q1, pp, rfl, _, hpp, ho⟩ := (hrp.same e5).at hv
      refine ⟨q1, _, rfl, SqT.of (es _ _ ho), rfl, _, _, rfl, _, _, rfl, _, _, rfl, rfl, rfl, ?_⟩
      refine ⟨_, rfl, _, rfl, ?_⟩
      have et : L.places.take (i + 1) = L.places.take i ++ [pp] := by rw [List.take_add_one, hpp]; rfl
      cases ci : pp.inner with
      | false =>
        refine iteF ⟨es, ?_⟩
        rw [et, List.filter_append]
        simp only [List.filter_cons, ci, List.filter_nil]
        rw [if_neg (by decide), List.append_nil]
        exact hD
      | true =>
        refine iteT ⟨_, rfl, _, hD, ?_, fun b u e => ?_, ?_⟩
        · rw [List.length_map, List.length_map]
          exact Nat.lt_of_le_of_lt (Nat.le_trans (List.length_filter_le _ _) (Nat.le_trans (by rw [List.length_take]; exact Nat.min_le_right _ _) sm.1)) (show 4 < sizeLine by decide)
        · rw [upd_ne (ne_of_none e nD)]
          exact es _ _ e
        · rw [upd_same, et, List.filter_append]
          simp [ci]
    · rintro G1 ⟨es, hD⟩
      rw [show L.places.take (rp.map V.ref).length = L.places from by rw [List.length_map, hrp.1]; exact List.take_length] at hD
      refine ⟨l1, D, _, _, rfl, rfl, es _ _ upd_same, hD, ?_, fun l2 nl2 => ?_⟩
      · rw [List.length_map, List.length_map]
        exact Nat.le_trans (Nat.add_le_add_left (Nat.le_trans (List.length_filter_le _ _) sm.1) 1) (by decide)
      have e6 := e5.trans es
      refine q _ l2 (e6.trans (same_upd nl2)) ?_ upd_same
      cases e : H l2 with
      | none => rfl
      | some u => rw [e6 _ _ e] at nl2; cases nl2

end
end Hs
/-! the law: rows in their sequence, people, meters -/
namespace Hs
open PySem PySem.Spec PyProof.Rows L2 Am
def spOrd : Sp := fun vs H Q _ => ∃ (a : Addr) (xs : List Str), vs = [.ref a] ∧ H a = some (.lst (xs.map V.str)) ∧ xs.length ≤ 60 ∧
  ∀ (H' : Hp) (t : Addr) (ys : List Str), Same H H' → H t = none → H' t = some (.lst (ys.map V.str)) → ys.length ≤ 60 → AscOf xs ys → Q (.ref t) H'
def muO (σ : L2.St) (_ : Hp) : Nat := match σ[3]? with
  | some (some (V.int a)) => (1000 - a).toNat
  | _ => 0
theorem ins_pw {ys : List Str} {r : Str} {k : Nat} (pw : ys.Pairwise ltS) (lo : ∀ j (h : j < ys.length), j < k → ltS ys[j] r) (hi : ∀ h : k < ys.length, ¬ ltS ys[k] r ∧ ys[k] ≠ r) (hk : k ≤ ys.length) :
    (ys.take k ++ r :: ys.drop k).Pairwise ltS := by
  have pw' := pw
  rw [← List.take_append_drop k ys, List.pairwise_append] at pw'
  obtain ⟨p1, p2, p3⟩ := pw'
  have lo' : ∀ x ∈ ys.take k, ltS x r := by
    intro x hx
    obtain ⟨j, hj, rfl⟩ := List.getElem_of_mem hx
    rw [List.length_take] at hj
    rw [List.getElem_take]
    exact lo j (by omega) (by omega)
  have hi' : ∀ x ∈ ys.drop k, ltS r x := by
    intro x hx
    by_cases c : k < ys.length
    · obtain ⟨h1, h2⟩ := hi c
      have lt : ltS r ys[k] := ltS_of h1 (Ne.symm h2)
      rw [List.drop_eq_getElem_cons c] at hx p2
      rcases List.mem_cons.mp hx with rfl | hx
      · exact lt
      · exact ltS_trans lt ((List.pairwise_cons.mp p2).1 x hx)
    · rw [List.drop_of_length_le (by omega)] at hx
      cases hx
  rw [List.pairwise_append]
  refine ⟨p1, List.pairwise_cons.mpr ⟨hi', p2⟩, fun x hx y hy => ?_⟩
  rcases List.mem_cons.mp hy with rfl | hy
  · exact lo' x hx
  · exact ltS_trans (lo' x hx) (hi' y hy)
theorem atI_map {ys : List Str} {k : Nat} (h : k < ys.length) : atI (ys.map V.str) (k : Int) = some (.str ys[k]) := by
  unfold atI
  rw [ixN_of (by rw [List.length_map]; exact h)]
  show (ys.map V.str)[k]? = _
  rw [List.getElem?_map, List.getElem?_eq_getElem h]
  rfl
section
variable {P : Program} {w : World} {K : PySem.W.Frag} {mg : Str → Option Value} {base : Heap}
theorem scOrd : FnScope ["_law_rows", "_law_found", "_law_row", "_law_at"] ["_law_rows"] (defScope sL_ordered) := ⟨rfl, rfl, rfl, by decide +kernel, rfl, by decide +kernel, by decide +kernel⟩
theorem ok_ord {f : Addr} {fd : FuncData} (F : Fun K "_law_ordered" "_law_ordered" sL_ordered f fd) (T : Nm mg) : FnOk P w K mg base CX0 1 f fd ["_law_rows"] spOrd := by
  refine F.ok scOrd (fun vs H Q E h => ?_) (fun cdv A outer s H vs Q E hr h => ?_)
  · obtain ⟨a, xs, rfl, _⟩ := h
    rfl
  · obtain ⟨a, xs, rfl, ha, hxl, q⟩ := h
    refine ⟨_, pss_cons (ps_set (i := 1) scOrd.nd rfl (.inl rfl) (pe_lst pa_nil))
      (pss_cons (ps_for PassesOwn.never rfl (pi_list (pv 0)) (pg_name (i := 2) scOrd.nd rfl (.inl rfl))
        (pss_cons (ps_set (i := 3) scOrd.nd rfl (.inl rfl) pe_int)
        (pss_cons (ps_while PassesOwn.never (PW.pt (pw_and (pt_cmpR op_lt (pv 3) (pe_callB call_len_seq (by rfl) T.len PySem.boot_len (pa_cons (pv 1) pa_nil)) (nomark _)) (pw_and1 (pt_cmpR op_lt_str (pe_ix ix_list (pv 1) (pv 3) (fun _ _ => rfl)) (pv 2) (nomark _)))))
          (pss_one (ps_set (i := 3) scOrd.nd rfl (.inl rfl) (pe_op op_add (pv 3) pe_int))))
        (pss_one (ps_if (PW.pt (pw_or (pt_cmpR op_eq (pv 3) (pe_callB call_len_seq (by rfl) T.len PySem.boot_len (pa_cons (pv 1) pa_nil)) (nomark _)) (pw_or1 (pt_cmpR op_ne (pe_ix ix_list (pv 1) (pv 3) (fun _ _ => rfl)) (pv 2) (nomark _)))))
          (pss_one (ps_expr (pe_bm PySem.F.plainAttrs_list PySem.F.slot_list_insert PySem.F.type_list_insert mt_insert (pv 1) (pa_cons (pv 3) (pa_cons (pv 2) pa_nil))))) pss_nil)))))
      (pss_one (ps_ret (pv 1)))), ?_⟩
    refine ⟨by decide, fun t nt => ?_⟩
    have e1 := same_upd (o := .lst []) nt
    refine ⟨_, rfl, a, rfl, ⟨_, SqL.of (e1 _ _ ha)⟩, ?_⟩
    have nta : t ≠ a := fun z => by rw [z, ha] at nt; cases nt
    refine for_it (walk_list (xs := xs.map V.str)) (fun i σ H' => ∃ (ys : List Str) (s2 s3 : Option V), σ = [some (.ref a), some (.ref t), s2, s3] ∧ Same H H' ∧ H' t = some (.lst (ys.map V.str)) ∧ AscOf (xs.take i) ys ∧ ys.length ≤ i) ?_ ?_ ?_ ?_
    · exact ⟨[], _, _, rfl, e1, upd_same, ⟨by simp, fun n => by simp⟩, Nat.le_refl _⟩
    · rintro i σ H' _ ⟨_, _, _, _, es, _⟩
      exact SqL.of (es _ _ ha)
    · rintro i v σ H1 H2 hi ⟨ys, s2, s3, rfl, es, ht, asc, yl⟩ ⟨rfl, hv⟩
      have hi' : i < xs.length := by simpa using hi
      rw [List.getElem?_map, List.getElem?_eq_getElem hi'] at hv
      obtain rfl : V.str xs[i] = v := Option.some.inj hv
      have et : xs.take (i + 1) = xs.take i ++ [xs[i]] := by rw [List.take_add_one, List.getElem?_eq_getElem hi']; rfl
      generalize xs[i] = r at *
      refine ⟨fun m σ H => (∃ k : Nat, σ = [some (.ref a), some (.ref t), some (.str r), some (.int k)] ∧ H = H2 ∧ k ≤ ys.length ∧ ∀ j (h : j < ys.length), j < k → ltS ys[j] r) ∧ m = muO σ H, ⟨_, ⟨0, rfl, rfl, Nat.zero_le _, fun j _ z => absurd z (Nat.not_lt_zero _)⟩, rfl⟩, ?_⟩
      rintro _ σ' H3 ⟨⟨k, rfl, rfl, hk, lo⟩, rfl⟩
      refine ⟨_, rfl, _, rfl, t, _, rfl, .inl (SqL.of ht), ?_⟩
      rw [List.length_map]
      refine ⟨_, _, rfl, rfl, _, rfl, ?_⟩
      cases cK : decide ((k : Int) < (ys.length : Int)) with
      | false =>
        have kK := of_decide_eq_false cK
        have hx : ∀ h : k < ys.length, ¬ ltS ys[k] r := fun h => by omega
        refine iteF (iteF ?_)
        refine ⟨_, rfl, _, rfl, t, _, rfl, .inl (SqL.of ht), ?_⟩
        rw [List.length_map]
        refine ⟨rfl, _, rfl, ?_⟩
        rw [int_eq]
        cases cE : decide ((k : Int) = (ys.length : Int)) with
        | true =>
          have kE := of_decide_eq_true cE
          have hx2 : ∀ h : k < ys.length, ¬ ltS ys[k] r ∧ ys[k] ≠ r := fun h => by omega
          refine iteT ?_
          refine ⟨_, rfl, .inl ⟨rfl, _, SqL.of ht⟩, _, rfl, _, rfl, t, _, (k : Int), .str r, rfl, rfl, ht, ?_, by omega, by omega, ?_⟩
          · rw [List.length_map]
            exact Nat.lt_of_le_of_lt (show _ ≤ 60 by omega) (by decide)
          refine ⟨ys.take k ++ r :: ys.drop k, _, _, rfl, fun b u e => ?_, ?_, ⟨ins_pw asc.pw lo hx2 hk, fun n => ?_⟩, ?_⟩
          · rw [upd_ne (ne_of_none e nt)]
            exact es _ _ e
          · rw [upd_same, show ((k : Int)).toNat = k from rfl, List.map_append, List.map_cons, List.map_take, List.map_drop, List.append_assoc]
            rfl
          · rw [et]; simp only [List.mem_append, List.mem_cons, List.not_mem_nil, or_false]; rw [← asc.mem]
            have := List.take_append_drop k ys
            constructor
            · rintro (z | z | z)
              · exact .inl (List.mem_of_mem_take z)
              · exact .inr z
              · exact .inl (List.mem_of_mem_drop z)
            · rintro (z | z)
              · rw [← this] at z
                rcases List.mem_append.mp z with z | z
                · exact .inl z
                · exact .inr (.inr z)
              · exact .inr (.inl z)
          · rw [List.length_append, List.length_cons, List.length_take, List.length_drop]
            omega
        | false =>
          have kE := of_decide_eq_false cE
          have kl : k < ys.length := by omega
          refine iteF ⟨_, rfl, _, rfl, t, _, (k : Int), .str ys[k], rfl, rfl, SqL.of ht, atI_map kl, _, rfl, rfl, _, rfl, ?_⟩
          rw [str_eq]
          cases cN : decide (ys[k] = r) with
          | true =>
            have eN := of_decide_eq_true cN
            refine iteF ⟨ys, _, _, rfl, es, ht, ⟨asc.pw, fun n => ?_⟩, by omega⟩
            rw [et, List.mem_append, List.mem_singleton, ← asc.mem]
            exact ⟨.inl, fun z => z.elim id fun z => by rw [z, ← eN]; exact List.getElem_mem kl⟩
          | false =>
            have eN := of_decide_eq_false cN
            have hx2 : ∀ h : k < ys.length, ¬ ltS ys[k] r ∧ ys[k] ≠ r := fun h => ⟨hx h, eN⟩
            refine iteT ?_
            refine ⟨_, rfl, .inl ⟨rfl, _, SqL.of ht⟩, _, rfl, _, rfl, t, _, (k : Int), .str r, rfl, rfl, ht, ?_, by omega, by omega, ?_⟩
            · rw [List.length_map]
              exact Nat.lt_of_le_of_lt (show _ ≤ 60 by omega) (by decide)
            refine ⟨ys.take k ++ r :: ys.drop k, _, _, rfl, fun b u e => ?_, ?_, ⟨ins_pw asc.pw lo hx2 hk, fun n => ?_⟩, ?_⟩
            · rw [upd_ne (ne_of_none e nt)]
              exact es _ _ e
            · rw [upd_same, show ((k : Int)).toNat = k from rfl, List.map_append, List.map_cons, List.map_take, List.map_drop, List.append_assoc]
              rfl
            · rw [et]; simp only [List.mem_append, List.mem_cons, List.not_mem_nil, or_false]; rw [← asc.mem]
              have := List.take_append_drop k ys
              constructor
              · rintro (z | z | z)
                · exact .inl (List.mem_of_mem_take z)
                · exact .inr z
                · exact .inl (List.mem_of_mem_drop z)
              · rintro (z | z)
                · rw [← this] at z
                  rcases List.mem_append.mp z with z | z
                  · exact .inl z
                  · exact .inr (.inr z)
                · exact .inr (.inl z)
            · rw [List.length_append, List.length_cons, List.length_take, List.length_drop]
              omega
      | true =>
        have kl0 : k < ys.length := by have := of_decide_eq_true cK; omega
        refine iteT ⟨_, rfl, _, rfl, t, _, (k : Int), .str ys[k], rfl, rfl, SqL.of ht, atI_map kl0, _, rfl, _, _, rfl, rfl, _, rfl, ?_⟩
        cases cL : decide (ys[k].cps.toList < r.cps.toList) with
        | true =>
          have lt : ltS ys[k] r := (of_decide_eq_true cL : ys[k].cps.toList < r.cps.toList)
          refine iteT ⟨fun σ' H' => (∃ k' : Nat, σ' = [some (.ref a), some (.ref t), some (.str r), some (.int k')] ∧ H' = H3 ∧ k' ≤ ys.length ∧ ∀ j (h : j < ys.length), j < k' → ltS ys[j] r) ∧ muO σ' H' < 1000 - k, fun σ' H' hn => ⟨_, ?_, hn.1, rfl⟩, ?_⟩
          · have e0 : muO [some (V.ref a), some (.ref t), some (.str r), some (.int k)] H3 = 1000 - k := by
              show ((1000 : Int) - (k : Int)).toNat = 1000 - k
              omega
            rw [e0]
            exact hn.2
          refine ⟨_, rfl, _, _, rfl, rfl, ⟨k + 1, rfl, rfl, kl0, fun j h z => ?_⟩, ?_⟩
          · by_cases c : j < k
            · exact lo j h c
            · have : j = k := by omega
              subst this
              exact lt
          · show ((1000 : Int) - ((k : Int) + 1)).toNat < 1000 - k
            omega
        | false =>
          have hx : ∀ h : k < ys.length, ¬ ltS ys[k] r := fun _ z => (of_decide_eq_false cL : ¬ ys[k].cps.toList < r.cps.toList) z
          refine iteF ?_
          refine ⟨_, rfl, _, rfl, t, _, rfl, .inl (SqL.of ht), ?_⟩
          rw [List.length_map]
          refine ⟨rfl, _, rfl, ?_⟩
          rw [int_eq]
          cases cE : decide ((k : Int) = (ys.length : Int)) with
          | true =>
            have kE := of_decide_eq_true cE
            have hx2 : ∀ h : k < ys.length, ¬ ltS ys[k] r ∧ ys[k] ≠ r := fun h => by omega
            refine iteT ?_
            refine ⟨_, rfl, .inl ⟨rfl, _, SqL.of ht⟩, _, rfl, _, rfl, t, _, (k : Int), .str r, rfl, rfl, ht, ?_, by omega, by omega, ?_⟩
            · rw [List.length_map]
              exact Nat.lt_of_le_of_lt (show _ ≤ 60 by omega) (by decide)
            refine ⟨ys.take k ++ r :: ys.drop k, _, _, rfl, fun b u e => ?_, ?_, ⟨ins_pw asc.pw lo hx2 hk, fun n => ?_⟩, ?_⟩
            · rw [upd_ne (ne_of_none e nt)]
              exact es _ _ e
            · rw [upd_same, show ((k : Int)).toNat = k from rfl, List.map_append, List.map_cons, List.map_take, List.map_drop, List.append_assoc]
              rfl
            · rw [et]; simp only [List.mem_append, List.mem_cons, List.not_mem_nil, or_false]; rw [← asc.mem]
              have := List.take_append_drop k ys
              constructor
              · rintro (z | z | z)
                · exact .inl (List.mem_of_mem_take z)
                · exact .inr z
                · exact .inl (List.mem_of_mem_drop z)
              · rintro (z | z)
                · rw [← this] at z
                  rcases List.mem_append.mp z with z | z
                  · exact .inl z
                  · exact .inr (.inr z)
                · exact .inr (.inl z)
            · rw [List.length_append, List.length_cons, List.length_take, List.length_drop]
              omega
          | false =>
            have kE := of_decide_eq_false cE
            have kl : k < ys.length := by omega
            refine iteF ⟨_, rfl, _, rfl, t, _, (k : Int), .str ys[k], rfl, rfl, SqL.of ht, atI_map kl, _, rfl, rfl, _, rfl, ?_⟩
            rw [str_eq]
            cases cN : decide (ys[k] = r) with
            | true =>
              have eN := of_decide_eq_true cN
              refine iteF ⟨ys, _, _, rfl, es, ht, ⟨asc.pw, fun n => ?_⟩, by omega⟩
              rw [et, List.mem_append, List.mem_singleton, ← asc.mem]
              exact ⟨.inl, fun z => z.elim id fun z => by rw [z, ← eN]; exact List.getElem_mem kl⟩
            | false =>
              have eN := of_decide_eq_false cN
              have hx2 : ∀ h : k < ys.length, ¬ ltS ys[k] r ∧ ys[k] ≠ r := fun h => ⟨hx h, eN⟩
              refine iteT ?_
              refine ⟨_, rfl, .inl ⟨rfl, _, SqL.of ht⟩, _, rfl, _, rfl, t, _, (k : Int), .str r, rfl, rfl, ht, ?_, by omega, by omega, ?_⟩
              · rw [List.length_map]
                exact Nat.lt_of_le_of_lt (show _ ≤ 60 by omega) (by decide)
              refine ⟨ys.take k ++ r :: ys.drop k, _, _, rfl, fun b u e => ?_, ?_, ⟨ins_pw asc.pw lo hx2 hk, fun n => ?_⟩, ?_⟩
              · rw [upd_ne (ne_of_none e nt)]
                exact es _ _ e
              · rw [upd_same, show ((k : Int)).toNat = k from rfl, List.map_append, List.map_cons, List.map_take, List.map_drop, List.append_assoc]
                rfl
              · rw [et]; simp only [List.mem_append, List.mem_cons, List.not_mem_nil, or_false]; rw [← asc.mem]
                have := List.take_append_drop k ys
                constructor
                · rintro (z | z | z)
                  · exact .inl (List.mem_of_mem_take z)
                  · exact .inr z
                  · exact .inl (List.mem_of_mem_drop z)
                · rintro (z | z)
                  · rw [← this] at z
                    rcases List.mem_append.mp z with z | z
                    · exact .inl z
                    · exact .inr (.inr z)
                  · exact .inr (.inl z)
              · rw [List.length_append, List.length_cons, List.length_take, List.length_drop]
                omega
    · rintro σ H1 ⟨ys, s2, s3, rfl, es, ht, asc, yl⟩
      rw [show xs.take (xs.map V.str).length = xs from by rw [List.length_map]; exact List.take_length] at asc
      rw [List.length_map] at yl
      exact ⟨_, rfl, q _ t ys es nt ht (by omega) asc⟩
end
end Hs
namespace Hs
open PySem PySem.Spec PyProof.Rows L2 Am
structure PlOk (pls : List Pl) : Prop where
  l : pls.length ≤ 3
  pool : ∀ x ∈ pls, x.name ∈ pool
  nd : (pls.map (·.name)).Nodup
  rm : ∀ x ∈ pls, 1 ≤ x.room ∧ x.room ≤ 3
  fl : (pls.any fun x => x.inner) = true
theorem PlOk.rev {pls : List Pl} (h : PlOk pls) : PlOk pls.reverse := ⟨by rw [List.length_reverse]; exact h.l, fun x hx => h.pool x (List.mem_reverse.mp hx), by rw [List.map_reverse]; exact (List.reverse_perm _).nodup_iff.mpr h.nd, fun x hx => h.rm x (List.mem_reverse.mp hx), by rw [List.any_reverse]; exact h.fl⟩
def spPlaces : Sp := fun vs H Q _ => ∃ (p : Addr) (n M : Nat) (N : Int), vs = [.ref p, .int n, .int M] ∧ (1 ≤ n ∧ n ≤ 4) ∧ (256 ≤ M ∧ M ≤ 1000000) ∧ JarAt H p N ∧ N ≤ 8000 ∧
  ∀ (H' : Hp) (t : Addr) (pls : List Pl), Chg p H H' → H t = none → JarAt H' p (N + 15) → LstAt plO H' t pls → PlOk pls → Q (.ref t) H'
section
variable {P : Program} {w : World} {K : PySem.W.Frag} {mg : Str → Option Value} {base : Heap}
theorem sc_l_places : FnScope ["_law_jar_here", "_law_days", "_law_most", "_law_found", "_law_uses", "_law_name", "_law_room", "_law_is_metered"] ["_law_jar_here", "_law_days", "_law_most"] (defScope sL_places) := ⟨rfl, rfl, rfl, by decide +kernel, rfl, by decide +kernel, by decide +kernel⟩
theorem ok_places {f : Addr} {fd : FuncData} (F : Fun K "_law_places" "_law_places" sL_places f fd) (T : Nm mg) (G_l_take : GotF P w K mg base "_law_take" 1 ["_law_jar_here", "_law_upto"] Am.spTake) (G_l_titles : GotF P w K mg base "_law_titles" 2 ["_law_jar_here", "_law_many"] spTitles) (G_l_of : GotF P w K mg base "_law_of" 2 ["_law_jar_here", "_law_some"] spOf) (G_l_many_uses : GotF P w K mg base "_law_many_uses" 1 ["_law_room", "_law_days"] spMany) : FnOk P w K mg base CX0 3 f fd ["_law_jar_here", "_law_days", "_law_most"] (spPlaces) := by
  obtain ⟨f_l_take, d_l_take, G_l_take, b_l_take, m_l_take, k_l_take⟩ := G_l_take
  obtain ⟨f_l_titles, d_l_titles, G_l_titles, b_l_titles, m_l_titles, k_l_titles⟩ := G_l_titles
  obtain ⟨f_l_of, d_l_of, G_l_of, b_l_of, m_l_of, k_l_of⟩ := G_l_of
  obtain ⟨f_l_many_uses, d_l_many_uses, G_l_many_uses, b_l_many_uses, m_l_many_uses, k_l_many_uses⟩ := G_l_many_uses
  refine F.ok sc_l_places (fun vs H Q E h => ?_) (fun cdv A outer s H vs Q E hr h => ?_)
  · obtain ⟨p, n, M, N, rfl, hn, hM, hj, hN, q⟩ := h
    rfl
  · obtain ⟨p, n, M, N, rfl, hn, hM, hj, hN, q⟩ := h
    have hr1 : Room 1 _ := hr.mono (by decide)
    have hr2 : Room 2 _ := hr.mono (by decide)
    have hu := hu_of hr
    have hu0 := Nat.lt_of_succ_lt hu
    refine ⟨_, (pss_cons (ps_par (by rfl) sc_l_places.nd (i := 3) (j := 4) rfl rfl (by decide) rfl rfl (pa_cons (pe_lst pa_nil) (pa_cons pe_int pa_nil)) (by rfl))
      (pss_cons (ps_for (g := gName 5) PassesOwn.never rfl (pi_list (pe_call G_l_titles hr2 (by rfl) m_l_titles k_l_titles b_l_titles .nil pass0 (pa_cons (pv 0) (pa_cons (pe_op op_add pe_int (pe_call G_l_take hr1 (by rfl) m_l_take k_l_take b_l_take .nil pass0 (pa_cons (pv 0) (pa_cons pe_int pa_nil)))) pa_nil)))) (pg_name (i := 5) sc_l_places.nd rfl (.inl rfl)) (C8.pss_cut (ps_par (by rfl) sc_l_places.nd (i := 6) (j := 7) rfl rfl (by decide) rfl rfl (pa_cons (pe_call G_l_of hr2 (by rfl) m_l_of k_l_of b_l_of .nil pass0 (pa_cons (pv 0) (pa_cons (pe_lst (pa_cons pe_int (pa_cons pe_int (pa_cons pe_int (pa_cons pe_int pa_nil))))) pa_nil))) (pa_cons (pe_or (pe_cmpR (r := Ot.rEqL0 K) (by exact Ot.op_eqL0 hu0) (pv 3) (pe_lst pa_nil) (nomark _)) (pe_one (pe_cmpR op_gt (pe_call G_l_take hr1 (by rfl) m_l_take k_l_take b_l_take .nil pass0 (pa_cons (pv 0) (pa_cons pe_int pa_nil))) pe_int (nomark _)))) pa_nil)) (by rfl))
      (C8.pss_cut (ps_while PassesOwn.never (PW.pt (pw_and (pt_cmpR op_gt (pv 6) pe_int (nomark _)) (pw_and1 (pt_cmpR op_gt (pe_op op_mulW (pv 4) (pe_call G_l_many_uses hr1 (by rfl) m_l_many_uses k_l_many_uses b_l_many_uses .nil pass0 (pa_cons (pv 6) (pa_cons (pv 1) pa_nil)))) (pv 2) (nomark _))))) (pss_one (ps_set (i := 6) sc_l_places.nd rfl (.inl rfl) (pe_op op_sub (pv 6) pe_int))))
      (pss_one (ps_if (pt_cmpR op_le (pe_op op_mulW (pv 4) (pe_call G_l_many_uses hr1 (by rfl) m_l_many_uses k_l_many_uses b_l_many_uses .nil pass0 (pa_cons (pv 6) (pa_cons (pv 1) pa_nil)))) (pv 2) (nomark _)) (pss_cons (ps_set (i := 4) sc_l_places.nd rfl (.inl rfl) (pe_op op_mulW (pv 4) (pe_call G_l_many_uses hr1 (by rfl) m_l_many_uses k_l_many_uses b_l_many_uses .nil pass0 (pa_cons (pv 6) (pa_cons (pv 1) pa_nil)))))
      (pss_one (ps_expr (pe_bm PySem.F.plainAttrs_list PySem.F.slot_list_append PySem.F.type_list_append mt_append (pv 3) (pa_cons (pe_tup (pa_cons (pv 5) (pa_cons (pv 6) (pa_cons (pv 7) pa_nil)))) pa_nil))))) pss_nil)))))
      (pss_one (ps_ret (pe_ifExp (pt_cmpR op_eq (pe_call G_l_take hr1 (by rfl) m_l_take k_l_take b_l_take .nil pass0 (pa_cons (pv 0) (pa_cons pe_int pa_nil))) pe_int (nomark _)) (pv 3) (pe_revL (pv 3))))))), ?_⟩
    refine ⟨by decide, fun t nt => ⟨_, _, rfl, ?_⟩⟩
    have e1 := same_upd (o := .lst []) nt
    obtain ⟨_, _, _, hp, _⟩ := id hj
    have ntp : t ≠ p := fun z => by rw [z, hp] at nt; cases nt
    have hf0 : LstAt plO (upd H t (.lst [])) t [] := LstAt.nil upd_same
    have j0 := hj.same e1
    generalize upd H t (.lst []) = H1 at *
    refine ⟨_, rfl, _, rfl, p, 3, N, rfl, ⟨by decide, by decide⟩, j0, by omega, fun d2 H2 hd2 c2 j2 => ⟨_, _, rfl, rfl, ?_⟩⟩
    obtain ⟨m, hm, m1, m3⟩ : ∃ m : Nat, (1 : Int) + d2 = m ∧ 1 ≤ m ∧ m ≤ 3 := ⟨(1 + d2).toNat, by omega, by omega, by omega⟩
    refine ⟨p, m, _, (by show [V.ref p, V.int (1 + d2)] = [V.ref p, V.int (m : Int)]; rw [hm]), by omega, j2, by omega, fun H3 lw ws hws wnd wsub c3 nlw j3 hlw => ?_⟩
    have hf3 := (hf0.jar j0 ntp c2 plO_nl).jar j2 ntp c3 plO_nl
    obtain ⟨_, _, _, hp2, _⟩ := id j2
    have nlwp : lw ≠ p := fun z => by rw [z, hp2] at nlw; cases nlw
    have nlwt : lw ≠ t := fun z => by
      obtain ⟨_, a, _⟩ := hf0.jar j0 ntp c2 plO_nl
      rw [z, a] at nlw
      cases nlw
    have c03 : ∀ b u, H b = some u → b ≠ p → H3 b = some u := fun b u e nb => c3 _ _ (c2 _ _ (e1 _ _ e) nb) nb
    refine ⟨lw, rfl, ⟨_, SqL.of hlw⟩, ?_⟩
    refine for_it (walk_list (xs := ws.map V.str)) (fun i σ H' => ∃ (pls : List Pl) (u : Nat) (s5 s6 s7 : Option V), σ = [some (.ref p), some (.int n), some (.int (M : Int)), some (.ref t), some (.int u), s5, s6, s7] ∧ Fr [p, t] H3 H' ∧
      JarAt H' p (N + 4 + 2 * i) ∧ LstAt plO H' t pls ∧ (pls.map (·.name)).Sublist (ws.take i) ∧ (∀ x ∈ pls, 1 ≤ x.room ∧ x.room ≤ 3) ∧ u ≤ M ∧ (pls = [] → i = 0 ∧ u = 1) ∧ (0 < i → (pls.any fun x => x.inner) = true)) ?_ ?_ ?_ ?_
    · exact ⟨[], 1, _, _, _, rfl, Fr.same (Same.refl _), j3.mono (by omega), hf3, List.Sublist.slnil, fun x hx => absurd hx List.not_mem_nil, by omega, fun _ => ⟨rfl, rfl⟩, fun z => absurd z (Nat.lt_irrefl 0)⟩
    · rintro i σ H' _ ⟨_, _, _, _, _, _, c, _⟩
      exact SqL.of (c _ _ hlw (by simp [nlwp, nlwt]))
    · rintro i v σ H4 H5 hi ⟨pls, u, s5, s6, s7, rfl, c4, j4, hf4, sub, rms, u6, emp, inn⟩ ⟨rfl, hv⟩
      have hi' : i < ws.length := by simpa using hi
      have i3 : i < 3 := by omega
      obtain rfl : v = .str ws[i] := by
        replace hv : (ws.map V.str)[i]? = some v := hv
        rw [List.getElem?_map, List.getElem?_eq_getElem hi'] at hv
        exact (Option.some.inj hv).symm
      have et : ws.take (i + 1) = ws.take i ++ [ws[i]] := by rw [List.take_add_one, List.getElem?_eq_getElem hi']; rfl
      have pl3 : pls.length ≤ i := by
        have := sub.length_le
        rw [List.length_map, List.length_take] at this
        omega
      generalize ws[i] = nm at *
      refine ⟨fun σ' H' => ∃ (r : Nat) (b : Bool), σ' = [some (.ref p), some (.int n), some (.int (M : Int)), some (.ref t), some (.int u), some (.str nm), some (.int r), some (.bl b)] ∧ (1 ≤ r ∧ r ≤ 3) ∧ Fr [p, t] H3 H' ∧ JarAt H' p (N + 4 + 2 * i + 2) ∧ LstAt plO H' t pls ∧ (pls = [] → b = true), ?_, ?_⟩
      · refine ⟨_, rfl, (show 4 ≤ sizeLine by decide), fun q nq => ?_⟩
        have e5 := same_upd (o := .lst [V.int 1, .int 1, .int 2, .int 3]) nq
        obtain ⟨_, _, _, hp4, _⟩ := id j4
        have nqp : q ≠ p := fun z => by rw [z, hp4] at nq; cases nq
        refine ⟨p, q, _, _, rfl, upd_same, nqp, ⟨show 0 < 4 by decide, show 4 ≤ 1000 by decide⟩, j4.same e5, by omega, fun v6 H6 hv6 c6 j6 => ?_⟩
        obtain ⟨r, rfl, r1, r3⟩ : ∃ k : Nat, v6 = .int k ∧ 1 ≤ k ∧ k ≤ 3 := by
          simp only [List.mem_cons, List.not_mem_nil, or_false] at hv6
          rcases hv6 with rfl | rfl | rfl | rfl
          · exact ⟨1, rfl, by decide⟩
          · exact ⟨1, rfl, by decide⟩
          · exact ⟨2, rfl, by decide⟩
          · exact ⟨3, rfl, by decide⟩
        have hf6 := (hf4.same e5).jar (j4.same e5) ntp c6 plO_nl
        have c06 : Fr [p, t] H3 H6 := (c4.trans (Fr.same e5)).trans ((Chg.fr c6).mono (by simp))
        refine ⟨_, rfl, by decide, fun le nle => ?_⟩
        have e7 := same_upd (o := .lst []) nle
        obtain ⟨rs6, hl6, hrs6⟩ := id (hf6.same e7)
        refine ⟨t, le, _, rfl, rfl, SqL.of hl6, SqL.of upd_same, _, rfl, ?_⟩
        have hf7 := hf6.same e7
        have j7 := j6.same e7
        have c07 := c06.trans (Fr.same e7)
        generalize upd H6 le (.lst []) = H7 at *
        by_cases ce : pls = []
        · rw [decide_eq_true (by rw [List.map_eq_nil_iff, ← List.length_eq_zero_iff, hrs6.1, ce]; rfl)]
          exact iteT ⟨_, _, rfl, r, true, rfl, ⟨r1, r3⟩, c07, j7.mono (by omega), hf7, fun _ => rfl⟩
        · rw [decide_eq_false (by rw [List.map_eq_nil_iff, ← List.length_eq_zero_iff, hrs6.1, List.length_eq_zero_iff]; exact ce)]
          refine iteF ⟨_, rfl, p, 3, _, rfl, ⟨by decide, by decide⟩, j7, by omega, fun d8 H8 hd8 c8 j8 => ⟨_, _, rfl, rfl, ?_⟩⟩
          exact ⟨_, _, rfl, r, _, rfl, ⟨r1, r3⟩, c07.trans ((Chg.fr c8).mono (by simp)), j8.mono (by omega), hf7.jar j7 ntp c8 plO_nl, fun z => absurd z ce⟩
      · rintro σ6 H6 ⟨r, b, rfl, ⟨r1, r3⟩, c6, j6, hf6, eb⟩
        have mulok : ∀ r : Nat, r ≤ 3 → CMulW (u : Int) (((r + 1) ^ n : Nat) : Int) ∧ (r + 1) ^ n ≤ 256 := by
          intro r r3
          have b1 : (r + 1) ^ n ≤ 4 ^ 4 := Nat.le_trans (Nat.pow_le_pow_left (show r + 1 ≤ 4 by omega) n) (Nat.pow_le_pow_right (by decide) hn.2)
          refine ⟨?_, b1⟩
          have b2 : Bd 60 (u : Int) := by
            unfold Bd
            rw [Int.natAbs_natCast]
            exact Nat.lt_of_le_of_lt (Nat.le_trans u6 hM.2) (by decide)
          have b3 : Bd 60 (((r + 1) ^ n : Nat) : Int) := by
            unfold Bd
            rw [Int.natAbs_natCast]
            exact Nat.lt_of_le_of_lt b1 (by decide)
          exact b2.cmul b3 (by decide) (by decide)
        refine ⟨fun σ' H' => ∃ (r : Nat), σ' = [some (.ref p), some (.int n), some (.int (M : Int)), some (.ref t), some (.int u), some (.str nm), some (.int r), some (.bl b)] ∧ (1 ≤ r ∧ r ≤ 3) ∧ H' = H6, ?_, ?_⟩
        · refine ⟨fun m σ H => (∃ (r : Nat), σ = [some (.ref p), some (.int n), some (.int (M : Int)), some (.ref t), some (.int u), some (.str nm), some (.int r), some (.bl b)] ∧ (1 ≤ r ∧ r ≤ 3) ∧ H = H6 ∧ m = r), ⟨_, r, rfl, ⟨r1, r3⟩, rfl, rfl⟩, ?_⟩
          rintro r σ' G ⟨_, rfl, ⟨r1, r3⟩, rfl, rfl⟩
          refine ⟨_, rfl, _, _, rfl, rfl, _, rfl, ?_⟩
          cases cr : decide ((r : Int) > 1) with
          | false =>
            refine iteF ?_
            refine iteF ?_
            exact ⟨r, rfl, ⟨r1, r3⟩, rfl⟩
          | true =>
            have r2 : 1 < r := by have := of_decide_eq_true cr; omega
            refine iteT ⟨_, rfl, _, rfl, _, rfl, r, n, rfl, by omega, by omega, _, _, rfl, rfl, (mulok r r3).1, _, rfl, _, _, rfl, rfl, _, rfl, ?_⟩
            cases decide ((M : Int) < (u : Int) * (((r + 1) ^ n : Nat) : Int)) with
            | false => exact iteF ⟨r, rfl, ⟨r1, r3⟩, rfl⟩
            | true =>
              refine iteT ⟨fun σ' H' => ∃ (r' : Nat), σ' = [some (.ref p), some (.int n), some (.int (M : Int)), some (.ref t), some (.int u), some (.str nm), some (.int r'), some (.bl b)] ∧ (1 ≤ r' ∧ r' ≤ 3) ∧ H' = G ∧ r' < r, fun σ' H' hn => ?_, ?_⟩
              · obtain ⟨r', a1, a2, a3, a4⟩ := hn
                exact ⟨r', a4, r', a1, a2, a3, rfl⟩
              · refine ⟨_, rfl, _, _, rfl, rfl, r - 1, ?_, by omega, rfl, by omega⟩
                rw [show ((r - 1 : Nat) : Int) = (r : Int) - 1 by omega]
                rfl
        · rintro _ _ ⟨r, rfl, ⟨r1, r3⟩, rfl⟩
          refine ⟨_, rfl, _, rfl, _, rfl, r, n, rfl, by omega, by omega, _, _, rfl, rfl, (mulok r r3).1, _, rfl, _, _, rfl, rfl, _, rfl, ?_⟩
          cases cl : decide ((u : Int) * (((r + 1) ^ n : Nat) : Int) ≤ (M : Int)) with
          | false =>
            have := of_decide_eq_false cl
            have ne : pls ≠ [] := fun z => by
              have h1 := (emp z).2
              have h2 := (mulok r r3).2
              rw [h1] at this
              omega
            refine iteF ⟨pls, u, _, _, _, rfl, c6, j6.mono (by omega), hf6, ?_, rms, u6, fun z => absurd z ne, fun _ => inn ?_⟩
            · rw [et]
              exact sub.trans (List.sublist_append_left _ _)
            · rcases Nat.eq_zero_or_pos i with z | z
              · exact absurd (List.length_eq_zero_iff.mp (by omega)) ne
              · exact z
          | true =>
            have le := of_decide_eq_true cl
            refine iteT ⟨_, rfl, _, rfl, _, rfl, r, n, rfl, by omega, by omega, _, _, rfl, rfl, (mulok r r3).1, ?_⟩
            obtain ⟨rs6, hl6, hrs6⟩ := id hf6
            refine ⟨_, rfl, .inl ⟨rfl, _, SqL.of hl6⟩, _, rfl, _, rfl, _, rfl, (show 3 ≤ sizeLine by decide), fun D nD => ?_⟩
            obtain ⟨g1, g2⟩ := LstAt.grow (x := (⟨nm, r, b⟩ : Pl)) hl6 hrs6 nD plO_nl
            refine ⟨t, _, _, rfl, rfl, (upd_ne (ne_of_none hl6 nD)).trans hl6, ?_, ?_⟩
            · rw [List.length_map, hrs6.1]
              exact Nat.lt_of_lt_of_le (show pls.length < 4 by omega) (by decide)
            refine ⟨pls ++ [(⟨nm, r, b⟩ : Pl)], u * (r + 1) ^ n, some (.str nm), some (.int r), some (.bl b), ?_, c6.trans (g2.mono (by simp)), ?_, g1, ?_, ?_, (by rw [← Int.natCast_mul] at le; exact Int.ofNat_le.mp le), fun z => ?_, fun _ => ?_⟩
            · rw [Int.natCast_mul]
              rfl
            · obtain ⟨o, mm, cc, hpp, rr⟩ := j6.mono (M := N + 4 + 2 * ((i + 1 : Nat) : Int)) (by omega)
              exact ⟨o, mm, cc, g2 _ _ hpp (by simpa using ntp.symm), rr⟩
            · rw [et, List.map_append]
              exact sub.append (List.Sublist.refl _)
            · intro x hx
              rcases List.mem_append.mp hx with hx | hx
              · exact rms x hx
              · rw [List.mem_singleton.mp hx]
                exact ⟨r1, r3⟩
            · exact absurd z (by simp)
            · rw [List.any_append, Bool.or_eq_true]
              rcases Nat.eq_zero_or_pos i with z | z
              · refine .inr ?_
                have := eb (List.length_eq_zero_iff.mp (by omega))
                simp [this]
              · exact .inl (inn z)
    · rintro σ H4 ⟨pls, u, s5, s6, s7, rfl, c4, j4, hf4, sub, rms, u6, emp, inn⟩
      have ewl : (ws.map V.str).length = m := by rw [List.length_map, hws]
      rw [ewl] at j4 sub inn
      rw [show ws.take m = ws from by rw [← hws]; exact List.take_length] at sub
      have pl3 : pls.length ≤ 3 := by
        have := sub.length_le
        rw [List.length_map] at this
        omega
      have ok : PlOk pls := ⟨pl3, fun x hx => wsub _ (sub.subset (List.mem_map_of_mem hx)), sub.nodup wnd, rms, inn (by omega)⟩
      have toH : ∀ {A : Hp}, Fr [p, t] H3 A → Chg p H A := fun h b u e nb => h b u (c03 _ _ e nb) (by
        have := ne_of_none e nt
        simp [nb, this])
      refine ⟨_, rfl, p, 2, _, rfl, ⟨by decide, by decide⟩, j4, by omega, fun d H5 hd c5 j5 => ⟨rfl, _, rfl, ?_⟩⟩
      have hf5 := hf4.jar j4 ntp c5 plO_nl
      have c05 := (toH c4).trans c5
      cases decide (V.int d = V.int 0) with
      | true => exact iteT ⟨_, rfl, q _ t pls c05 nt (j5.mono (by omega)) hf5 ok⟩
      | false =>
        obtain ⟨rs5, hl5, hrs5⟩ := hf5
        refine iteF ⟨_, rfl, t, _, rfl, SqL.of hl5, fun t2 nt2 => ?_⟩
        have e6 := same_upd (o := .lst (rs5.map V.ref).reverse) nt2
        have nt2H : H t2 = none := by
          cases e : H t2 with
          | none => rfl
          | some u =>
            by_cases z : t2 = p
            · obtain ⟨_, _, _, hp5, _⟩ := id j5
              rw [z, hp5] at nt2
              cases nt2
            · rw [c05 _ _ e z] at nt2
              cases nt2
        refine q _ t2 pls.reverse (c05.trans (Chg.of e6)) nt2H ((j5.same e6).mono (by omega)) ⟨rs5.reverse, ?_, (hrs5.same e6).rev⟩ ok.rev
        rw [upd_same, List.map_reverse]

end
end Hs
/-! the page of a sound lore tells it -/
namespace Hs
open PySem PySem.Spec PyProof.Rows L2 Am
structure Valid (L : Lore) : Prop where
  d : 1 ≤ L.days ∧ L.days ≤ 14
  l4 : L.places.length ≤ 4
  nd : (L.places.map (·.name)).Nodup
  ok : ∀ p ∈ L.places, p.name ∈ pool ∧ 1 ≤ p.room ∧ p.room ≤ 9
  fl : hasF L = true
  pr : PrOk L.days L.prices
  st : ∃ ppl : List Str, (∀ x ∈ ppl, x ∈ pool) ∧ StOk L.days (L.places.map (·.name)) ppl L.stays
theorem pool_len : ∀ x ∈ pool, x.length ≤ 8 := by decide +kernel
theorem Valid.who {L : Lore} (v : Valid L) {s : St} (h : s ∈ L.stays) : s.a < s.b ∧ s.b ≤ L.days ∧ s.who ∈ pool ∧ s.pl ∈ L.places.map (·.name) ∧ s.pl ∈ pool := by
  obtain ⟨ppl, a, b⟩ := v.st
  obtain ⟨c, d, e, f⟩ := b.ok s h
  refine ⟨c, d, a _ e, f, ?_⟩
  obtain ⟨p, hp, hn⟩ := List.mem_map.mp f
  rw [← hn]
  exact (v.ok p hp).1
theorem Valid.small {L : Lore} (v : Valid L) : Small L := ⟨v.l4, v.pr.l, by obtain ⟨_, _, b⟩ := v.st; exact b.l⟩
theorem Valid.fit {L : Lore} (v : Valid L) : Fit L := by
  have d := v.d
  refine ⟨d.2, v.small, fun p hp => ⟨pool_len _ (v.ok p hp).1, (v.ok p hp).2.2⟩, fun p hp => ⟨by have := (v.pr.ok p hp).1; omega, (v.pr.ok p hp).2⟩, fun s hs => ?_⟩
  obtain ⟨a, b, c, _, e⟩ := v.who hs
  exact ⟨pool_len _ c, pool_len _ e, by omega, by omega⟩
/-- no blank, no end of a line -/
def Pure (x : Str) : Prop := 32 ∉ x.cps.toList ∧ 10 ∉ x.cps.toList
theorem pool_pure : ∀ x ∈ pool, Pure x := by unfold Pure; decide +kernel
theorem si_pure {n : Nat} (h : n ≤ 99) : Pure (si n) := by
  have : ∀ k : Fin 100, Pure (si k.val) := by unfold Pure; decide +kernel
  exact this ⟨n, by omega⟩
theorem si_num {n : Nat} (h : n ≤ 99) : Mt.num (si n).cps.toList = n := by
  have : ∀ k : Fin 100, Mt.num (si k.val).cps.toList = ((k.val : Nat) : Int) := by decide +kernel
  exact this ⟨n, by omega⟩
theorem split_bl (a : Str) (l : List Str) (h : ∀ p ∈ a :: l, Pure p) : Txt.split (Txt.join " " (a :: l)) " " = a :: l :=
  SL.split_join 32 a l (fun p hp => (h p hp).1) (SL.kind_ge (by decide))
theorem nl_join (a : Str) (l : List Str) (h : ∀ p ∈ a :: l, Pure p) : 10 ∉ (Txt.join " " (a :: l)).cps.toList := by
  rw [SL.join_list]
  intro z
  rcases List.mem_append.mp z with z | z
  · exact (h a (by simp)).2 z
  · obtain ⟨p, hp, z⟩ := List.mem_flatMap.mp z
    rcases List.mem_append.mp z with z | z
    · exact absurd z (by decide +kernel)
    · exact (h p (by simp [hp])).2 z
theorem app_list (a b : Str) : (a ++ b).cps.toList = a.cps.toList ++ b.cps.toList := by rw [Str.cps_append, Array.toList_append]
theorem dayL_join (n : Nat) : dayL n = Txt.join " " ["days", si n] := by
  apply SL.ext
  rw [SL.join_list]
  unfold dayL
  rw [app_list, show ("days " : Str).cps.toList = ("days" : Str).cps.toList ++ (" " : Str).cps.toList from by decide +kernel]
  simp only [List.flatMap_cons, List.flatMap_nil, List.append_nil, List.append_assoc]
theorem plL_join (p : Pl) : plL p = Txt.join " " [if p.inner then ("flat" : Str) else "bare", p.name, si p.room] := by
  apply SL.ext
  rw [SL.join_list]
  unfold plL
  rw [app_list, app_list, app_list]
  have e : (if p.inner then ("flat " : Str) else ("bare " : Str)).cps.toList = (if p.inner then ("flat" : Str) else ("bare" : Str)).cps.toList ++ (" " : Str).cps.toList := by cases p.inner <;> decide +kernel
  rw [e]
  simp only [List.flatMap_cons, List.flatMap_nil, List.append_nil, List.append_assoc]
theorem prL_join (p : Nat × Nat) : prL p = Txt.join " " ["price", si p.1, si p.2] := by
  apply SL.ext
  rw [SL.join_list]
  unfold prL
  rw [app_list, app_list, app_list, show ("price " : Str).cps.toList = ("price" : Str).cps.toList ++ (" " : Str).cps.toList from by decide +kernel]
  simp only [List.flatMap_cons, List.flatMap_nil, List.append_nil, List.append_assoc]
theorem kinds_pure : Pure ("days" : Str) ∧ Pure ("flat" : Str) ∧ Pure ("bare" : Str) ∧ Pure ("price" : Str) ∧ Pure ("lives" : Str) := by unfold Pure; decide +kernel
theorem Steps.app {L1 L2 L3 : Lore} {xs ys : List Str} (h : Steps L1 xs L2) (k : Steps L2 ys L3) : Steps L1 (xs ++ ys) L3 := by
  induction h with
  | nil => exact k
  | cons s _ ih => exact .cons s (ih k)
theorem Steps.one {L1 L2 : Lore} {x : Str} (h : Step L1 x L2) : Steps L1 [x] L2 := .cons h .nil
theorem places_steps {n : Nat} (hn : n ≠ 0) : ∀ (ps ps0 : List Pl), (ps0 ++ ps).length ≤ 4 → ((ps0 ++ ps).map (·.name)).Nodup → (∀ p ∈ ps, p.name ∈ pool ∧ 1 ≤ p.room ∧ p.room ≤ 9) → ((ps0 ++ ps).any fun p => p.inner) = true →
    Steps ⟨n, ps0, [], []⟩ (ps.map plL) ⟨n, ps0 ++ ps, [], []⟩
  | [], ps0, _, _, _, _ => by rw [List.append_nil]; exact .nil
  | p :: ps, ps0, h4, nd, ok, fl => by
    have e : ps0 ++ p :: ps = (ps0 ++ [p]) ++ ps := by simp
    obtain ⟨o1, o2, o3⟩ := ok p (by simp)
    have ih := places_steps hn ps (ps0 ++ [p]) (by rw [← e]; exact h4) (by rw [← e]; exact nd) (fun q hq => ok q (by simp [hq])) (by rw [← e]; exact fl)
    rw [e]
    rw [List.map_cons]
    have pl := pool_len _ o1
    have sl := si_len (n := p.room) (by omega)
    have l4 : ps0.length < 4 := by rw [List.length_append, List.length_cons] at h4; omega
    refine .cons (L1 := ⟨n, ps0 ++ [p], [], []⟩) ?_ ih
    refine Step.place (L := ⟨n, ps0, [], []⟩) (x := p.name) (r := si p.room) (n := p.room) (inner := p.inner) ?_ hn rfl rfl (by omega) (by omega) (pool_ok _ o1) ?_ (si_num (by omega)) ⟨o2, o3⟩ l4 (fun h3 => ?_)
    · rw [plL_join]
      refine split_bl _ _ fun q hq => ?_
      simp only [List.mem_cons, List.not_mem_nil, or_false] at hq
      rcases hq with rfl | rfl | rfl
      · cases p.inner
        · exact kinds_pure.2.2.1
        · exact kinds_pure.2.1
      · exact pool_pure _ o1
      · exact si_pure (by omega)
    · cases hh : hasP ⟨n, ps0, [], []⟩ p.name with
      | false => rfl
      | true =>
        have := hasP_mem.mp hh
        rw [List.map_append, List.nodup_append] at nd
        exact absurd rfl (nd.2.2 _ this p.name (by simp))
    · have h3' : ps0.length = 3 := h3
      have : ps = [] := by
        rw [List.length_append, List.length_cons] at h4
        exact List.eq_nil_of_length_eq_zero (by omega)
      rw [this, List.any_append, Bool.or_eq_true] at fl
      rcases fl with fl | fl
      · exact .inr fl
      · refine .inl ?_
        simpa using fl
theorem prices_steps {n : Nat} {P : List Pl} (hf : hasF ⟨n, P, [], []⟩ = true) (hn : n ≤ 14) : ∀ (qs q0 : List (Nat × Nat)), PrOk n (q0 ++ qs) → Steps ⟨n, P, q0, []⟩ (qs.map prL) ⟨n, P, q0 ++ qs, []⟩
  | [], q0, _ => by rw [List.append_nil]; exact .nil
  | q :: qs, q0, ok => by
    have e : q0 ++ q :: qs = (q0 ++ [q]) ++ qs := by simp
    have ih := prices_steps hf hn qs (q0 ++ [q]) (by rw [← e]; exact ok)
    obtain ⟨o1, o2⟩ := ok.ok q (by simp)
    have l3 := ok.l
    rw [List.length_append, List.length_cons] at l3
    have sl1 := si_len (n := q.1) (by omega)
    have sl2 := si_len (n := q.2) (by omega)
    rw [e, List.map_cons]
    refine .cons (L1 := ⟨n, P, q0 ++ [q], []⟩) ?_ ih
    refine Step.price (L := ⟨n, P, q0, []⟩) (x := si q.1) (y := si q.2) (a := q.1) (n := q.2) ?_ hf rfl (by show q0.length < 3; omega) (by omega) (by omega) (si_num (by omega)) (si_num (by omega)) (fun r hr => ?_) o1 o2
    · rw [prL_join]
      refine split_bl _ _ fun x hx => ?_
      simp only [List.mem_cons, List.not_mem_nil, or_false] at hx
      rcases hx with rfl | rfl | rfl
      · exact kinds_pure.2.2.2.1
      · exact si_pure (by omega)
      · exact si_pure (by omega)
    · have up := ok.up
      rw [List.pairwise_append] at up
      exact up.2.2 r (List.mem_of_getLast? hr) q (by simp)
theorem stays_steps {n : Nat} {P : List Pl} {Qs : List (Nat × Nat)} {ppl : List Str} (hf : hasF ⟨n, P, Qs, []⟩ = true) (hn : n ≤ 14) (pp : ∀ x ∈ ppl, x ∈ pool) (np : ∀ x ∈ P.map (·.name), x ∈ pool) : ∀ (ss s0 : List St), StOk n (P.map (·.name)) ppl (s0 ++ ss) → Steps ⟨n, P, Qs, s0⟩ (ss.map stL) ⟨n, P, Qs, s0 ++ ss⟩
  | [], s0, _ => by rw [List.append_nil]; exact .nil
  | s :: ss, s0, ok => by
    have e : s0 ++ s :: ss = (s0 ++ [s]) ++ ss := by simp
    have ih := stays_steps hf hn pp np ss (s0 ++ [s]) (by rw [← e]; exact ok)
    obtain ⟨o1, o2, o3, o4⟩ := ok.ok s (by simp)
    have l8 := ok.l
    rw [List.length_append, List.length_cons] at l8
    have sl1 := si_len (n := s.a) (by omega)
    have sl2 := si_len (n := s.b) (by omega)
    have w1 := pool_len _ (pp _ o3)
    have w2 := pool_len _ (np _ o4)
    rw [e, List.map_cons]
    refine .cons (L1 := ⟨n, P, Qs, s0 ++ [s]⟩) ?_ ih
    refine Step.stay (L := ⟨n, P, Qs, s0⟩) (x := s.who) (y := s.pl) (u := si s.a) (v := si s.b) (a := s.a) (b := s.b) ?_ hf (by show s0.length < 8; omega) (by omega) (by omega) (by omega) (by omega) (pool_ok _ (pp _ o3)) (hasP_mem.mpr o4) (si_num (by omega)) (si_num (by omega)) o1 o2 ?_
    · refine split_bl _ _ fun x hx => ?_
      simp only [List.mem_cons, List.not_mem_nil, or_false] at hx
      rcases hx with rfl | rfl | rfl | rfl | rfl
      · exact kinds_pure.2.2.2.2
      · exact pool_pure _ (pp _ o3)
      · exact pool_pure _ (np _ o4)
      · exact si_pure (by omega)
      · exact si_pure (by omega)
    · cases hh : letS ⟨n, P, Qs, s0⟩ s.pl s.a s.b with
      | false => rfl
      | true =>
        unfold letS at hh
        obtain ⟨t, ht, hb⟩ := List.any_eq_true.mp hh
        rw [Bool.and_eq_true, Bool.and_eq_true] at hb
        have ap := ok.ap
        rw [List.pairwise_append] at ap
        have := ap.2.2 t ht s (by simp) (of_decide_eq_true hb.1)
        have h1 := of_decide_eq_true hb.2.1
        have h2 := of_decide_eq_true hb.2.2
        omega
theorem Valid.steps {L : Lore} (v : Valid L) : Steps L0 (linesOf L) L := by
  obtain ⟨n, P, Qs, S⟩ := L
  obtain ⟨⟨d1, d14⟩, l4, nd, ok, fl, pr, ppl, hp, st⟩ := v
  have d1' : 1 ≤ n := d1
  have d14' : n ≤ 14 := d14
  unfold linesOf
  refine .cons (L1 := ⟨n, [], [], []⟩) ?_ (Steps.app (L2 := ⟨n, P, [], []⟩) (places_steps (by omega) P [] l4 nd ok fl) (Steps.app (L2 := ⟨n, P, Qs, []⟩) (prices_steps fl d14 Qs [] pr) (stays_steps fl d14 hp (fun x hx => ?_) S [] st)))
  · have sl := si_len (n := n) (by omega)
    refine Step.days (L := L0) (x := si n) (n := n) ?_ rfl (by omega) (si_num (by omega)) ⟨d1, d14⟩
    rw [dayL_join]
    refine split_bl _ _ fun q hq => ?_
    simp only [List.mem_cons, List.not_mem_nil, or_false] at hq
    rcases hq with rfl | rfl
    · exact kinds_pure.1
    · exact si_pure (by omega)
  · obtain ⟨p, hp', rfl⟩ := List.mem_map.mp hx
    exact (ok p hp').1
end Hs
namespace Hs
open PySem PySem.Spec PyProof.Rows L2 Am
theorem Valid.nl {L : Lore} (v : Valid L) : ∀ l ∈ linesOf L, 10 ∉ l.cps.toList := by
  have fit := v.fit
  have d := v.d
  intro l h
  unfold linesOf at h
  rcases List.mem_cons.mp h with rfl | h
  · rw [dayL_join]
    refine nl_join _ _ fun q hq => ?_
    simp only [List.mem_cons, List.not_mem_nil, or_false] at hq
    rcases hq with rfl | rfl
    · exact kinds_pure.1
    · exact si_pure (by omega)
  rcases List.mem_append.mp h with h | h
  · obtain ⟨p, hp, rfl⟩ := List.mem_map.mp h
    obtain ⟨o1, o2, o3⟩ := v.ok p hp
    rw [plL_join]
    refine nl_join _ _ fun q hq => ?_
    simp only [List.mem_cons, List.not_mem_nil, or_false] at hq
    rcases hq with rfl | rfl | rfl
    · cases p.inner
      · exact kinds_pure.2.2.1
      · exact kinds_pure.2.1
    · exact pool_pure _ o1
    · exact si_pure (by omega)
  rcases List.mem_append.mp h with h | h
  · obtain ⟨p, hp, rfl⟩ := List.mem_map.mp h
    obtain ⟨a, b⟩ := v.pr.ok p hp
    rw [prL_join]
    refine nl_join _ _ fun q hq => ?_
    simp only [List.mem_cons, List.not_mem_nil, or_false] at hq
    rcases hq with rfl | rfl | rfl
    · exact kinds_pure.2.2.2.1
    · exact si_pure (by omega)
    · exact si_pure (by omega)
  · obtain ⟨s, hs, rfl⟩ := List.mem_map.mp h
    obtain ⟨a, b, c, _, e⟩ := v.who hs
    refine nl_join _ _ fun q hq => ?_
    simp only [List.mem_cons, List.not_mem_nil, or_false] at hq
    rcases hq with rfl | rfl | rfl | rfl | rfl
    · exact kinds_pure.2.2.2.2
    · exact pool_pure _ c
    · exact pool_pure _ e
    · exact si_pure (by omega)
    · exact si_pure (by omega)
theorem Valid.split {L : Lore} (v : Valid L) : Txt.split (pageOf L) "\n" = linesOf L :=
  SL.split_join 10 _ _ v.nl (SL.kind_ge (by decide))
theorem Valid.many {L : Lore} (v : Valid L) : (linesOf L).length ≤ 16 := by
  obtain ⟨a, b, c⟩ := v.small
  unfold linesOf
  rw [List.length_cons, List.length_append, List.length_append, List.length_map, List.length_map, List.length_map]
  omega
theorem Valid.told {L : Lore} (v : Valid L) : Told (pageOf L) L := by
  refine ⟨by rw [v.split]; exact v.steps, v.fl, fun l hl => ?_, ?_, ?_⟩
  · rw [v.split] at hl
    exact Nat.le_trans (lines_len v.fit l hl) (by decide)
  · rw [v.split]
    exact Nat.le_trans v.many (by decide)
  · have h1 := lines_len v.fit
    have h2 := v.many
    unfold pageOf
    unfold linesOf at h1 h2 ⊢
    rw [SL.join_len]
    rw [List.length_cons] at h2
    have a1 := h1 _ (List.mem_cons_self)
    have a2 := sum_le (fun p : Str => ("\n" : Str).length + p.length) 41 (L.places.map plL ++ (L.prices.map prL ++ L.stays.map stL)) (fun x hx => by
      have := h1 x (List.mem_cons_of_mem _ hx)
      exact Nat.le_trans (Nat.add_le_add (show ("\n" : Str).length ≤ 1 by decide) this) (by decide))
    have a3 : (L.places.map plL ++ (L.prices.map prL ++ L.stays.map stL)).length * 41 ≤ 16 * 41 := Nat.mul_le_mul_right _ (by omega)
    omega
theorem Valid.revP {L : Lore} (v : Valid L) : Valid { L with places := L.places.reverse } := by
  obtain ⟨d, l4, nd, ok, fl, pr, ppl, hp, st⟩ := v
  refine ⟨d, by rw [List.length_reverse]; exact l4, by show (L.places.reverse.map (·.name)).Nodup; rw [List.map_reverse]; exact (List.reverse_perm _).nodup_iff.mpr nd, fun p h => ok p (List.mem_reverse.mp h), ?_, pr, ppl, hp, st.l, fun s hs => ?_, st.ap⟩
  · unfold hasF
    rw [List.any_reverse]
    exact fl
  · obtain ⟨a, b, c, e⟩ := st.ok s hs
    exact ⟨a, b, c, by show s.pl ∈ L.places.reverse.map (·.name); rw [List.map_reverse]; exact List.mem_reverse.mpr e⟩
theorem Valid.tailS {L : Lore} (v : Valid L) : Valid { L with stays := L.stays.drop 1 } := by
  obtain ⟨d, l4, nd, ok, fl, pr, ppl, hp, st⟩ := v
  refine ⟨d, l4, nd, ok, fl, pr, ppl, hp, by rw [List.length_drop]; have := st.l; omega, fun s hs => st.ok s (List.mem_of_mem_drop hs), st.ap.sublist (List.drop_sublist 1 _)⟩
theorem Valid.revS {L : Lore} (v : Valid L) : Valid { L with stays := L.stays.reverse } := by
  obtain ⟨d, l4, nd, ok, fl, pr, ppl, hp, st⟩ := v
  exact ⟨d, l4, nd, ok, fl, pr, ppl, hp, st.rev⟩
theorem Valid.initP {L : Lore} (v : Valid L) : Valid { L with prices := L.prices.dropLast } := by
  obtain ⟨d, l4, nd, ok, fl, pr, ppl, hp, st⟩ := v
  exact ⟨d, l4, nd, ok, fl, ⟨by rw [List.length_dropLast]; have := pr.l; omega, pr.up.sublist (List.dropLast_sublist _), fun x hx => pr.ok x ((List.dropLast_sublist _).mem hx)⟩, ppl, hp, st⟩
end Hs
namespace Hs
open PySem PySem.Spec PyProof.Rows L2 Am
structure SmOk (b : Bool) (L : Lore) : Prop where
  d : 1 ≤ L.days ∧ L.days ≤ 4
  pl : PlOk L.places
  pr : PrOk L.days L.prices
  np : b = false → L.prices = []
  st : ∃ ppl : List Str, (∀ x ∈ ppl, x ∈ pool) ∧ StOk L.days (L.places.map (·.name)) ppl L.stays
theorem SmOk.valid {b : Bool} {L : Lore} (h : SmOk b L) : Valid L := ⟨by have := h.d; omega, by have := h.pl.l; omega, h.pl.nd, fun x hx => ⟨h.pl.pool x hx, by have := h.pl.rm x hx; omega⟩, h.pl.fl, h.pr, h.st⟩
def spSmall : Sp := fun vs H Q _ => ∃ (p : Addr) (M : Nat) (b : Bool) (N : Int), vs = [.ref p, .int M, .bl b] ∧ (256 ≤ M ∧ M ≤ 1000000) ∧ JarAt H p N ∧ N ≤ 7900 ∧
  ∀ (H' : Hp) (d : Addr) (L : Lore), Chg p H H' → H d = none → JarAt H' p (N + 90) → LoreAt H' d L → SmOk b L → Q (.ref d) H'
def kvA (n : Nat) (lt : Addr) : List (Key × V) := [(.inr ("days" : Str), .int n), (.inr ("prices" : Str), .ref lt)]
theorem mergeA (n : Nat) (lt : Addr) : mergeK [] (kvA n lt) = kvA n lt := by
  show putK (putK [] (.inr ("days" : Str) : Key) (.int n)) (.inr ("prices" : Str) : Key) (.ref lt) = _
  rw [putK_new (kvs := []) (fun kv h => absurd h List.not_mem_nil), putK_new]
  · rfl
  · intro kv h
    simp at h
    rw [h]
    show ¬ (Sum.inr ("days" : Str) : Key) = Sum.inr ("prices" : Str)
    decide +kernel
def kvB (n : Nat) (lt lp : Addr) : List (Key × V) := [(.inr ("days" : Str), .int n), (.inr ("prices" : Str), .ref lt), (.inr ("places" : Str), .ref lp)]
theorem putA (n : Nat) (lt lp : Addr) : putK (kvA n lt) (.inr ("places" : Str) : Key) (.ref lp) = kvB n lt lp := by
  rw [putK_new]
  · rfl
  · intro kv h
    unfold kvA at h
    simp only [List.mem_cons, List.not_mem_nil, or_false] at h
    rcases h with rfl | rfl
    · show ¬ (Sum.inr ("days" : Str) : Key) = Sum.inr ("places" : Str); decide +kernel
    · show ¬ (Sum.inr ("prices" : Str) : Key) = Sum.inr ("places" : Str); decide +kernel
theorem putB (n : Nat) (lt lp ls : Addr) : putK (kvB n lt lp) (.inr ("stays" : Str) : Key) (.ref ls) = lkv n lp ls lt := by
  rw [putK_new]
  · rfl
  · intro kv h
    unfold kvB at h
    simp only [List.mem_cons, List.not_mem_nil, or_false] at h
    rcases h with rfl | rfl | rfl
    · show ¬ (Sum.inr ("days" : Str) : Key) = Sum.inr ("stays" : Str); decide +kernel
    · show ¬ (Sum.inr ("prices" : Str) : Key) = Sum.inr ("stays" : Str); decide +kernel
    · show ¬ (Sum.inr ("places" : Str) : Key) = Sum.inr ("stays" : Str); decide +kernel
theorem putC (n : Nat) (lt lp ls lt2 : Addr) : putK (lkv n lp ls lt) (.inr ("prices" : Str) : Key) (.ref lt2) = lkv n lp ls lt2 := by
  have h1 : ¬ (Sum.inr ("days" : Str) : Key) = Sum.inr ("prices" : Str) := by decide +kernel
  have h3 : ¬ (Sum.inr ("places" : Str) : Key) = Sum.inr ("prices" : Str) := by decide +kernel
  have h4 : ¬ (Sum.inr ("stays" : Str) : Key) = Sum.inr ("prices" : Str) := by decide +kernel
  unfold putK lkv
  rw [if_pos (by simp)]
  simp only [List.map_cons, List.map_nil, if_neg h1, if_neg h3, if_neg h4, if_true]
section
variable {P : Program} {w : World} {K : PySem.W.Frag} {mg : Str → Option Value} {base : Heap}
theorem sc_l_small : FnScope ["_law_jar_here", "_law_most", "_law_has_prices", "_law_lore"] ["_law_jar_here", "_law_most", "_law_has_prices"] (defScope sL_small) := ⟨rfl, rfl, rfl, by decide +kernel, rfl, by decide +kernel, by decide +kernel⟩
theorem ok_small {f : Addr} {fd : FuncData} (F : Fun K "_law_small" "_law_small" sL_small f fd) (T : Nm mg) (G_l_take : GotF P w K mg base "_law_take" 1 ["_law_jar_here", "_law_upto"] Am.spTake) (G_l_places : GotF P w K mg base "_law_places" 3 ["_law_jar_here", "_law_days", "_law_most"] spPlaces) (G_l_stays : GotF P w K mg base "_law_stays" 3 ["_law_jar_here", "_law_days", "_law_places_here"] spStays) (G_l_prices : GotF P w K mg base "_law_prices" 3 ["_law_jar_here", "_law_days"] spLPrices) : FnOk P w K mg base CX0 4 f fd ["_law_jar_here", "_law_most", "_law_has_prices"] (spSmall) := by
  obtain ⟨f_l_take, d_l_take, G_l_take, b_l_take, m_l_take, k_l_take⟩ := G_l_take
  obtain ⟨f_l_places, d_l_places, G_l_places, b_l_places, m_l_places, k_l_places⟩ := G_l_places
  obtain ⟨f_l_stays, d_l_stays, G_l_stays, b_l_stays, m_l_stays, k_l_stays⟩ := G_l_stays
  obtain ⟨f_l_prices, d_l_prices, G_l_prices, b_l_prices, m_l_prices, k_l_prices⟩ := G_l_prices
  refine F.ok sc_l_small (fun vs H Q E h => ?_) (fun cdv A outer s H vs Q E hr h => ?_)
  · obtain ⟨p, M, b, N, rfl, hM, hj, hN, q⟩ := h
    rfl
  · obtain ⟨p, M, b, N, rfl, hM, hj, hN, q⟩ := h
    have hr1 : Room 1 _ := hr.mono (by decide)
    have hr3 : Room 3 _ := hr.mono (by decide)
    have hu := hu_of hr
    refine ⟨_, (pss_cons (ps_set (i := 3) sc_l_small.nd rfl (.inl rfl) (pe_disp (pps_cons pe_str (pe_op op_add pe_int (pe_call G_l_take hr1 (by rfl) m_l_take k_l_take b_l_take .nil pass0 (pa_cons (pv 0) (pa_cons pe_int pa_nil)))) (pps_cons pe_str (pe_lst pa_nil) pps_nil)) rfl rfl (by intro z; cases z) (by decide)))
      (pss_cons (ps_dput hu (pv 3) pe_str (pe_call G_l_places hr3 (by rfl) m_l_places k_l_places b_l_places .nil pass0 (pa_cons (pv 0) (pa_cons (pe_dget hu (pv 3) pe_str (fun _ _ => rfl)) (pa_cons (pv 1) pa_nil)))) rfl)
      (pss_cons (ps_dput hu (pv 3) pe_str (pe_call G_l_stays hr3 (by rfl) m_l_stays k_l_stays b_l_stays .nil pass0 (pa_cons (pv 0) (pa_cons (pe_dget hu (pv 3) pe_str (fun _ _ => rfl)) (pa_cons (pe_dget hu (pv 3) pe_str (fun _ _ => rfl)) pa_nil)))) rfl)
      (C8.pss_cut (ps_if (pt_val (pv 2)) (pss_one (ps_dput hu (pv 3) pe_str (pe_call G_l_prices hr3 (by rfl) m_l_prices k_l_prices b_l_prices .nil pass0 (pa_cons (pv 0) (pa_cons (pe_dget hu (pv 3) pe_str (fun _ _ => rfl)) pa_nil))) rfl)) pss_nil)
      (pss_one (ps_ret (pv 3))))))), ?_⟩
    intro dd ndd
    have e0 := same_upd (o := .dK []) ndd
    obtain ⟨_, _, _, hp, _⟩ := id hj
    have nddp : dd ≠ p := fun z => by rw [z, hp] at ndd; cases ndd
    refine ⟨_, rfl, p, 4, N, rfl, ⟨by decide, by decide⟩, hj.same e0, by omega, fun d1 H1 hd1 c1 j1 => ⟨_, _, rfl, rfl, ?_⟩⟩
    obtain ⟨n, hn, n1, n4⟩ : ∃ n : Nat, (1 : Int) + d1 = n ∧ 1 ≤ n ∧ n ≤ 4 := ⟨(1 + d1).toNat, by omega, by omega, by omega⟩
    refine ⟨by decide, fun lt nlt => ?_⟩
    have hd1' := c1 _ _ upd_same nddp
    have e2 := same_upd (o := .lst []) nlt
    obtain ⟨_, _, _, hp1, _⟩ := id j1
    have nltp : lt ≠ p := fun z => by rw [z, hp1] at nlt; cases nlt
    have nltd : lt ≠ dd := fun z => by rw [z, hd1'] at nlt; cases nlt
    refine ⟨e2 _ _ hd1', kvA n lt, by show [(V.str ("days" : Str), V.int (1 + d1)), (V.str ("prices" : Str), V.ref lt)] = [(V.str ("days" : Str), V.int (n : Int)), (V.str ("prices" : Str), V.ref lt)]; rw [hn], show 2 ≤ 15 by decide, ?_⟩
    rw [mergeA]
    have f1 : ∀ b u, H b = some u → b ≠ p → (upd (upd H1 lt (.lst [])) dd (.dK (kvA n lt))) b = some u := fun b u e nb => by
      rw [upd_ne (ne_of_none e ndd)]
      exact e2 _ _ (c1 _ _ (e0 _ _ e) nb)
    have hd2 : (upd (upd H1 lt (.lst [])) dd (.dK (kvA n lt))) dd = some (.dK (kvA n lt)) := upd_same
    have ht2 : LstAt prO (upd (upd H1 lt (.lst [])) dd (.dK (kvA n lt))) lt [] := LstAt.nil (by rw [upd_ne nltd]; exact upd_same)
    have j2 : JarAt (upd (upd H1 lt (.lst [])) dd (.dK (kvA n lt))) p (N + 1) := by
      obtain ⟨o, mm, c, hpp, r⟩ := j1
      exact ⟨o, mm, c, by rw [upd_ne nddp.symm]; exact e2 _ _ hpp, r⟩
    generalize upd (upd H1 lt (.lst [])) dd (.dK (kvA n lt)) = H2 at *
    clear hp1 hd1' e2 nlt j1 c1 e0 hd1 hn d1
    have nodk : ∀ {α : Type} {f : α → HO} {G : Hp} {kvs : List (Key × V)} (hf : ∀ x kvs, f x ≠ .dK kvs) (hg : G dd = some (.dK kvs)) (r : Addr) (x : α), G r = some (f x) → r ∉ [dd] := by
      intro α f G kvs hf hg r x e z
      rw [List.mem_singleton.mp z, hg] at e
      exact hf _ _ (Option.some.inj e).symm
    refine ⟨_, rfl, _, rfl, dd, _, rfl, .inl ⟨_, .inr "days", .inl hd2, rfl, rfl⟩, _, rfl, p, n, M, _, rfl, ⟨n1, n4⟩, hM, j2, by omega, fun H3 lp pls c3 nlp j3 hlp pok => ?_⟩
    have hd3 := c3 _ _ hd2 nddp
    have ht3 := ht2.jar j2 nltp c3 prO_nl
    have nlpdd : lp ≠ dd := fun z => by rw [z, hd2] at nlp; cases nlp
    have nlpp : lp ≠ p := fun z => by
      obtain ⟨_, _, _, hpz, _⟩ := id j2
      rw [z, hpz] at nlp
      cases nlp
    refine ⟨_, rfl, dd, _, rfl, .inl ⟨_, .inr "places", hd3, rfl, show 2 < sizeLine by decide, rfl⟩, ?_⟩
    rw [putA]
    have frd : Fr [dd] H3 (upd H3 dd (.dK (kvB n lt lp))) := Fr.upd (by simp)
    have hl4 := hlp.keep frd (by simpa using nlpdd) (nodk (fun x _ z => by unfold plO at z; cases z) hd3)
    have ht4 := ht3.keep frd (by simpa using nltd) (nodk (fun x _ z => by unfold prO at z; cases z) hd3)
    have hd4 : (upd H3 dd (.dK (kvB n lt lp))) dd = some (.dK (kvB n lt lp)) := upd_same
    have f4 : ∀ b u, H b = some u → b ≠ p → (upd H3 dd (.dK (kvB n lt lp))) b = some u := fun b u e nb => frd _ _ (c3 _ _ (f1 _ _ e nb) nb) (by simpa using ne_of_none e ndd)
    have j4 : JarAt (upd H3 dd (.dK (kvB n lt lp))) p (N + 1 + 15) := by
      obtain ⟨o, mm, c, hpp, r⟩ := j3
      exact ⟨o, mm, c, frd _ _ hpp (by simpa using nddp.symm), r⟩
    generalize upd H3 dd (.dK (kvB n lt lp)) = H4 at *
    clear hd2 ht2 j2 hd3 ht3 c3 nlp j3 hlp frd f1
    refine ⟨_, rfl, _, rfl, dd, _, rfl, .inl ⟨_, .inr "days", .inl hd4, rfl, rfl⟩, _, rfl, dd, _, rfl, .inl ⟨_, .inr "places", .inl hd4, rfl, rfl⟩, ?_⟩
    refine ⟨p, lp, n, _, pls, rfl, ⟨n1, by omega⟩, j4, by omega, hl4, nlpp, by have := pok.l; omega, pok.nd, fun H5 ls ppl ss c5 nls j5 hls psub sok => ?_⟩
    have hd5 := c5 _ _ hd4 nddp
    have hl5 := hl4.jar j4 nlpp c5 plO_nl
    have ht5 := ht4.jar j4 nltp c5 prO_nl
    have nlsdd : ls ≠ dd := fun z => by rw [z, hd4] at nls; cases nls
    have nlsp : ls ≠ p := fun z => by
      obtain ⟨_, _, _, hpz, _⟩ := id j4
      rw [z, hpz] at nls
      cases nls
    refine ⟨_, rfl, dd, _, rfl, .inl ⟨_, .inr "stays", hd5, rfl, show 3 < sizeLine by decide, rfl⟩, ?_⟩
    rw [putB]
    have frd : Fr [dd] H5 (upd H5 dd (.dK (lkv n lp ls lt))) := Fr.upd (by simp)
    have hl6 := hl5.keep frd (by simpa using nlpdd) (nodk (fun x _ z => by unfold plO at z; cases z) hd5)
    have ht6 := ht5.keep frd (by simpa using nltd) (nodk (fun x _ z => by unfold prO at z; cases z) hd5)
    have hs6 := hls.keep frd (by simpa using nlsdd) (nodk (fun x _ z => by unfold stO at z; cases z) hd5)
    have hd6 : (upd H5 dd (.dK (lkv n lp ls lt))) dd = some (.dK (lkv n lp ls lt)) := upd_same
    have f6 : ∀ b u, H b = some u → b ≠ p → (upd H5 dd (.dK (lkv n lp ls lt))) b = some u := fun b u e nb => frd _ _ (c5 _ _ (f4 _ _ e nb) nb) (by simpa using ne_of_none e ndd)
    have j6 : JarAt (upd H5 dd (.dK (lkv n lp ls lt))) p (N + 1 + 15 + 60) := by
      obtain ⟨o, mm, c, hpp, r⟩ := j5
      exact ⟨o, mm, c, frd _ _ hpp (by simpa using nddp.symm), r⟩
    generalize upd H5 dd (.dK (lkv n lp ls lt)) = H6 at *
    clear hd4 j4 hd5 c5 nls j5 hls frd f4 hl4 ht4 hl5 ht5
    refine ⟨fun σ' H' => ∃ L : Lore, σ' = [some (.ref p), some (.int M), some (.bl b), some (.ref dd)] ∧ Chg p H H' ∧ JarAt H' p (N + 90) ∧ LoreAt H' dd L ∧ SmOk b L, ?_, ?_⟩
    · refine ⟨_, rfl, _, rfl, ?_⟩
      cases b with
      | false => exact iteF ⟨⟨n, pls, [], ss⟩, rfl, f6, j6.mono (by omega), ⟨lp, ls, lt, hd6, hl6, hs6, ht6⟩, ⟨n1, n4⟩, pok, ⟨Nat.zero_le 3, by simp, fun x hx => absurd hx List.not_mem_nil⟩, fun _ => rfl, ppl, psub, sok⟩
      | true =>
        refine iteT ⟨_, rfl, _, rfl, dd, _, rfl, .inl ⟨_, .inr "days", .inl hd6, rfl, lk_d _ _ _ _⟩, p, n, _, rfl, by omega, j6, by omega, fun H7 lt7 ps c7 nlt7 j7 hlt7 prok => ?_⟩
        have hd7 := c7 _ _ hd6 nddp
        have hl7 := hl6.jar j6 nlpp c7 plO_nl
        have hs7 := hs6.jar j6 nlsp c7 stO_nl
        have nlt7d : lt7 ≠ dd := fun z => by rw [z, hd6] at nlt7; cases nlt7
        refine ⟨_, rfl, dd, _, rfl, .inl ⟨_, .inr "prices", hd7, rfl, show 4 < sizeLine by decide, rfl⟩, ?_⟩
        rw [putC]
        have frd : Fr [dd] H7 (upd H7 dd (.dK (lkv n lp ls lt7))) := Fr.upd (by simp)
        refine ⟨⟨n, pls, ps, ss⟩, rfl, fun b u e nb => frd _ _ (c7 _ _ (f6 _ _ e nb) nb) (by simpa using ne_of_none e ndd), ?_, ⟨lp, ls, lt7, upd_same, hl7.keep frd (by simpa using nlpdd) (nodk (fun x _ z => by unfold plO at z; cases z) hd7), hs7.keep frd (by simpa using nlsdd) (nodk (fun x _ z => by unfold stO at z; cases z) hd7), hlt7.keep frd (by simpa using nlt7d) (nodk (fun x _ z => by unfold prO at z; cases z) hd7)⟩, ⟨n1, n4⟩, pok, prok, fun z => (by cases z), ppl, psub, sok⟩
        obtain ⟨o, mm, c, hpp, r⟩ := j7.mono (M := N + 90) (by omega)
        exact ⟨o, mm, c, frd _ _ hpp (by simpa using nddp.symm), r⟩
    · rintro _ H7 ⟨L, rfl, c, j, hL, ok⟩
      exact ⟨_, rfl, q _ dd L c ndd j hL ok⟩

end
end Hs
/-! the order of tuples of texts and ints: strict, total among such of one kind; sorted lists are told by their items -/
namespace Ot
open PySem PySem.Spec PyProof.Rows L2
theorem kLt_irrefl (a : Key) : kLt a a = false := by
  cases a with
  | inl i => exact decide_eq_false (Int.lt_irrefl i)
  | inr s => exact decide_eq_false (List.lt_irrefl _)
theorem kLt_trans {a b c : Key} (h : kLt a b = true) (k : kLt b c = true) : kLt a c = true := by
  cases a <;> cases b <;> cases c <;> first
    | exact decide_eq_true (Int.lt_trans (of_decide_eq_true h) (of_decide_eq_true k))
    | exact decide_eq_true (List.lt_trans (of_decide_eq_true h) (of_decide_eq_true k))
    | cases h
    | cases k
theorem kLt_total {a b : Key} (n : a ≠ b) (k : kin [a] [b] = true) (h : kLt b a = false) : kLt a b = true := by
  cases a with
  | inl i =>
    cases b with
    | inl j =>
      have h' := of_decide_eq_false h
      refine decide_eq_true ?_
      have : i ≠ j := fun e => n (by rw [e])
      omega
    | inr t => cases k
  | inr s =>
    cases b with
    | inl j => cases k
    | inr t =>
      have h' : ¬ t.cps.toList < s.cps.toList := of_decide_eq_false h
      refine decide_eq_true ?_
      rcases List.le_iff_lt_or_eq.mp (List.not_lt.mp h') with z | z
      · exact z
      · refine absurd ?_ n
        cases s with | mk c => cases t with | mk d => 
          have : c = d := Array.toList_inj.mp z
          rw [this]
theorem lexK_irrefl : ∀ a : List Key, lexK a a = false
  | [] => rfl
  | a :: as => by
    show (if a = a then lexK as as else kLt a a) = false
    rw [if_pos rfl]
    exact lexK_irrefl as
theorem lexK_trans : ∀ {a b c : List Key}, lexK a b = true → lexK b c = true → lexK a c = true
  | [], [], _, h, _ => by cases h
  | [], _ :: _, [], _, h => by cases h
  | [], _ :: _, _ :: _, _, _ => rfl
  | _ :: _, [], _, h, _ => by cases h
  | _ :: _, _ :: _, [], _, h => by cases h
  | a :: as, b :: bs, c :: cs, h, k => by
    have h' : (if a = b then lexK as bs else kLt a b) = true := h
    have k' : (if b = c then lexK bs cs else kLt b c) = true := k
    show (if a = c then lexK as cs else kLt a c) = true
    by_cases e1 : a = b
    · rw [if_pos e1] at h'
      by_cases e2 : b = c
      · rw [if_pos e2] at k'
        rw [if_pos (e1.trans e2)]
        exact lexK_trans h' k'
      · rw [if_neg e2] at k'
        rw [if_neg (fun z => e2 (e1.symm.trans z)), e1]
        exact k'
    · rw [if_neg e1] at h'
      by_cases e2 : b = c
      · rw [if_neg (fun z => e1 (z.trans e2.symm)), ← e2]
        exact h'
      · rw [if_neg e2] at k'
        have t := kLt_trans h' k'
        rw [if_neg (fun z => by rw [z, kLt_irrefl] at t; cases t)]
        exact t
theorem lexK_total : ∀ {a b : List Key}, a ≠ b → kin a b = true → lexK b a = false → lexK a b = true
  | [], [], n, _, _ => absurd rfl n
  | [], _ :: _, _, _, _ => rfl
  | _ :: _, [], _, _, h => by cases h
  | a :: as, b :: bs, n, k, h => by
    have h' : (if b = a then lexK bs as else kLt b a) = false := h
    show (if a = b then lexK as bs else kLt a b) = true
    have k1 : kin [a] [b] = true ∧ kin as bs = true := by
      cases a <;> cases b <;> first
        | exact ⟨rfl, k⟩
        | cases k
    by_cases e : a = b
    · rw [if_pos e.symm] at h'
      rw [if_pos e]
      exact lexK_total (fun z => n (by rw [e, z])) k1.2 h'
    · rw [if_neg (fun z => e z.symm)] at h'
      rw [if_neg e]
      exact kLt_total e k1.1 h'
/-- sorted lists with the same items are the same -/
theorem pw_unique {α : Type} {lt : α → α → Prop} (irr : ∀ a, ¬ lt a a) (tr : ∀ a b c, lt a b → lt b c → lt a c) : ∀ {ys zs : List α}, ys.Pairwise lt → zs.Pairwise lt → (∀ n, n ∈ ys ↔ n ∈ zs) → ys = zs
  | [], [], _, _, _ => rfl
  | [], z :: zs, _, _, h => absurd ((h z).mpr (by simp)) (by simp)
  | y :: ys, [], _, _, h => absurd ((h y).mp (by simp)) (by simp)
  | y :: ys, z :: zs, p, q, h => by
    obtain ⟨p1, p2⟩ := List.pairwise_cons.mp p
    obtain ⟨q1, q2⟩ := List.pairwise_cons.mp q
    have e : y = z := by
      rcases List.mem_cons.mp ((h y).mp (by simp)) with a | a
      · exact a
      · rcases List.mem_cons.mp ((h z).mpr (by simp)) with b | b
        · exact b.symm
        · exact absurd (tr _ _ _ (q1 y a) (p1 z b)) (irr _)
    subst e
    refine congrArg (y :: ·) (pw_unique irr tr p2 q2 fun n => ⟨fun hn => ?_, fun hn => ?_⟩)
    · rcases List.mem_cons.mp ((h n).mp (by simp [hn])) with a | a
      · exact absurd (by rw [a] at hn; exact p1 y hn) (irr _)
      · exact a
    · rcases List.mem_cons.mp ((h n).mpr (by simp [hn])) with a | a
      · exact absurd (by rw [a] at hn; exact q1 y hn) (irr _)
      · exact a
theorem pw_insert {α : Type} {lt : α → α → Prop} (tr : ∀ a b c, lt a b → lt b c → lt a c) {ys : List α} {r : α} {k : Nat} (pw : ys.Pairwise lt) (lo : ∀ j (h : j < ys.length), j < k → lt ys[j] r) (hi : ∀ h : k < ys.length, lt r ys[k]) (hk : k ≤ ys.length) :
    (ys.take k ++ r :: ys.drop k).Pairwise lt := by
  have pw' := pw
  rw [← List.take_append_drop k ys, List.pairwise_append] at pw'
  obtain ⟨p1, p2, p3⟩ := pw'
  have lo' : ∀ x ∈ ys.take k, lt x r := by
    intro x hx
    obtain ⟨j, hj, rfl⟩ := List.getElem_of_mem hx
    rw [List.length_take] at hj
    rw [List.getElem_take]
    exact lo j (by omega) (by omega)
  have hi' : ∀ x ∈ ys.drop k, lt r x := by
    intro x hx
    by_cases c : k < ys.length
    · have l := hi c
      rw [List.drop_eq_getElem_cons c] at hx p2
      rcases List.mem_cons.mp hx with rfl | hx
      · exact l
      · exact tr _ _ _ l ((List.pairwise_cons.mp p2).1 x hx)
    · rw [List.drop_of_length_le (by omega)] at hx
      cases hx
  rw [List.pairwise_append]
  refine ⟨p1, List.pairwise_cons.mpr ⟨hi', p2⟩, fun x hx y hy => ?_⟩
  rcases List.mem_cons.mp hy with rfl | hy
  · exact lo' x hx
  · exact tr _ _ _ (lo' x hx) (hi' y hy)
theorem climb_pw : ∀ {ms : List (List Key)}, climbB ms = true ↔ ms.Pairwise (fun a b => lexK a b = true)
  | [] => by simp [climbB]
  | [a] => by simp [climbB]
  | a :: b :: ms => by
    have ih := climb_pw (ms := b :: ms)
    have e : climbB (a :: b :: ms) = (lexK a b && climbB (b :: ms)) := rfl
    rw [e, Bool.and_eq_true, ih]
    refine ⟨fun z => List.pairwise_cons.mpr ⟨fun x hx => ?_, z.2⟩, fun z => ⟨(List.pairwise_cons.mp z).1 b (by simp), (List.pairwise_cons.mp z).2⟩⟩
    rcases List.mem_cons.mp hx with rfl | hx
    · exact z.1
    · exact lexK_trans z.1 ((List.pairwise_cons.mp z.2).1 x hx)
end Ot
/-! what numbers tell -/
namespace Hs
open PySem PySem.Spec PyProof.Rows L2 Am Rv
theorem nfs_st (h a d t : Addr) : (nfs h a d t).lookup ("_stretches" : Str) = some (V.ref t) := by unfold nfs; simp [lookup_putF]
theorem nfs_rows (h a d t : Addr) : (nfs h a d t).lookup ("_rows" : Str) = some (V.ref a) := by unfold nfs; rw [lookup_putF, if_neg (by decide +kernel), lookup_putF, if_neg (by decide +kernel), lookup_putF, if_pos rfl]
theorem nfs_house (h a d t : Addr) : (nfs h a d t).lookup ("_house" : Str) = some (V.ref h) := by unfold nfs; rw [lookup_putF, if_neg (by decide +kernel), lookup_putF, if_neg (by decide +kernel), lookup_putF, if_neg (by decide +kernel), lookup_putF, if_pos rfl]
theorem nfs_table (h a d t : Addr) : (nfs h a d t).lookup ("_table" : Str) = some (V.ref d) := by unfold nfs; rw [lookup_putF, if_neg (by decide +kernel), lookup_putF, if_pos rfl]
/-- what the class Numbers must have -/
structure NuC (K : PySem.W.Frag) (C : Addr) : Prop where
  cl : Cls K C
  n1 : NoAttr K C "_house"
  n2 : NoAttr K C "_rows"
  n3 : NoAttr K C "_table"
  n4 : NoAttr K C "_stretches"
theorem NumAt.same {C CH n : Addr} {H H' : Hp} {x : Str} {L : Lore} {rs : List Rw} (k : NumAt C CH H n x L rs) (e : Same H H') : NumAt C CH H' n x L rs := by
  obtain ⟨dx, h, a, d, t, h1, h2, h3, h4, ls, h5, h6⟩ := k
  exact ⟨dx, h, a, d, t, e _ _ h1, h2.same e, h3.same e, e _ _ h4, ls, e _ _ h5, h6.same e⟩
section
variable {P : Program} {w : World} {K : PySem.W.Frag} {mg : Str → Option Value} {base : Heap} {C CH : Addr}
def spNRows (C CH : Addr) : Sp := fun vs H Q _ => ∃ (n : Addr) (x : Str) (L : Lore) (rs : List Rw), vs = [.ref n] ∧ NumAt C CH H n x L rs ∧ ∀ a, RowsAt H a rs → Q (.ref a) H
def spNHouse (C CH : Addr) : Sp := fun vs H Q _ => ∃ (n : Addr) (x : Str) (L : Lore) (rs : List Rw), vs = [.ref n] ∧ NumAt C CH H n x L rs ∧ ∀ h, HouseAt CH H h x L → Q (.ref h) H
theorem scNRows : FnScope ["self"] ["self"] (defScope sNumbers_rows) := ⟨rfl, rfl, rfl, by decide +kernel, rfl, by decide +kernel, by decide +kernel⟩
theorem ok_nRows {f : Addr} {fd : FuncData} (F : Fun K "rows" "Numbers.rows" sNumbers_rows f fd) (nc : NuC K C) : FnOk P w K mg base CX0 1 f fd ["self"] (spNRows C CH) := by
  refine F.ok scNRows (fun vs H Q E h => ?_) (fun cdv A outer s H vs Q E hr h => ?_)
  · obtain ⟨n, x, L, rs, rfl, _⟩ := h
    rfl
  · obtain ⟨n, x, L, rs, rfl, k, q⟩ := h
    refine ⟨_, pss_one (ps_ret (pe_fld (pv 0) rfl)), ?_⟩
    obtain ⟨dx, h, a, d, t, h1, h2, h3, h4, la⟩ := k
    exact ⟨_, rfl, n, C, dx, _, _, rfl, h1, nc.cl, nc.n2, nfs_rows _ _ _ _, q a h3⟩
theorem scNHouse : FnScope ["self"] ["self"] (defScope sNumbers_house) := ⟨rfl, rfl, rfl, by decide +kernel, rfl, by decide +kernel, by decide +kernel⟩
theorem ok_nHouse {f : Addr} {fd : FuncData} (F : Fun K "house" "Numbers.house" sNumbers_house f fd) (nc : NuC K C) : FnOk P w K mg base CX0 1 f fd ["self"] (spNHouse C CH) := by
  refine F.ok scNHouse (fun vs H Q E h => ?_) (fun cdv A outer s H vs Q E hr h => ?_)
  · obtain ⟨n, x, L, rs, rfl, _⟩ := h
    rfl
  · obtain ⟨n, x, L, rs, rfl, k, q⟩ := h
    refine ⟨_, pss_one (ps_ret (pe_fld (pv 0) rfl)), ?_⟩
    obtain ⟨dx, h, a, d, t, h1, h2, h3, h4, la⟩ := k
    exact ⟨_, rfl, n, C, dx, _, _, rfl, h1, nc.cl, nc.n1, nfs_house _ _ _ _, q h h2⟩
end
end Hs
namespace Hs
open PySem PySem.Spec PyProof.Rows L2 Am
def rwK (r : Rw) : List Key := [.inr r.m, .inl r.t, .inl r.n]
theorem rwK_inj {a b : Rw} (h : rwK a = rwK b) : a = b := by
  cases a; cases b
  simp only [rwK, List.cons.injEq, Sum.inr.injEq, Sum.inl.injEq, and_true] at h
  obtain ⟨h1, h2, h3⟩ := h
  simp only [Rw.mk.injEq]
  exact ⟨h1, by omega, h3⟩
def ltR (a b : Rw) : Prop := Ot.lexK (rwK a) (rwK b) = true
theorem ltR_irrefl (a : Rw) : ¬ ltR a a := fun h => by rw [ltR, Ot.lexK_irrefl] at h; cases h
theorem ltR_trans (a b c : Rw) (h : ltR a b) (k : ltR b c) : ltR a c := Ot.lexK_trans h k
theorem ltR_of {a b : Rw} (h : ¬ ltR b a) (n : b ≠ a) : ltR a b := Ot.lexK_total (fun z => n (rwK_inj z.symm)) rfl (by simpa [ltR] using h)
structure AscR (xs ys : List Rw) : Prop where
  pw : ys.Pairwise ltR
  mem : ∀ n, n ∈ ys ↔ n ∈ xs
theorem AscR.unique {xs ys zs : List Rw} (a : AscR xs ys) (b : AscR xs zs) : ys = zs := Ot.pw_unique ltR_irrefl ltR_trans a.pw b.pw fun n => (a.mem n).trans (b.mem n).symm
theorem Refs.ins {α : Type} {f : α → HO} {H : Hp} {ds : List Addr} {ys : List α} {d : Addr} {x : α} {k : Nat} (h : Refs f H ds ys) (hd : H d = some (f x)) (hk : k ≤ ds.length) : Refs f H (ds.take k ++ d :: ds.drop k) (ys.take k ++ x :: ys.drop k) := by
  have l := h.1
  refine ⟨by simp [List.length_take, List.length_drop]; omega, fun i q y a b => ?_⟩
  have l1 : (ds.take k).length = k := by rw [List.length_take]; omega
  have l2 : (ys.take k).length = k := by rw [List.length_take]; omega
  by_cases c : i < k
  · rw [List.getElem?_append_left (by omega), List.getElem?_take_of_lt c] at a
    rw [List.getElem?_append_left (by omega), List.getElem?_take_of_lt c] at b
    exact h.2 i q y a b
  · rw [List.getElem?_append_right (by omega), l1] at a
    rw [List.getElem?_append_right (by omega), l2] at b
    cases z : i - k with
    | zero =>
      rw [z] at a b
      cases a
      cases b
      exact hd
    | succ j =>
      rw [z, List.getElem?_cons_succ, List.getElem?_drop] at a b
      exact h.2 _ q y a b
theorem atI_ref {ds : List Addr} {k : Nat} (h : k < ds.length) : atI (ds.map V.ref) (k : Int) = some (.ref ds[k]) := by
  rw [atI_nat (v := V.ref ds[k])]
  rw [List.getElem?_map, List.getElem?_eq_getElem h]
  rfl
def spOrdR : Sp := fun vs H Q _ => ∃ (a : Addr) (xs : List Rw), vs = [.ref a] ∧ LstAt rwO H a xs ∧ xs.length ≤ 100 ∧
  ∀ (H' : Hp) (t : Addr) (ys : List Rw), Same H H' → H t = none → LstAt rwO H' t ys → ys.length ≤ 100 → AscR xs ys → Q (.ref t) H'
section
variable {P : Program} {w : World} {K : PySem.W.Frag} {mg : Str → Option Value} {base : Heap}
theorem sc_ordR : FnScope ["_law_rows", "_law_found", "_law_row", "_law_at"] ["_law_rows"] (defScope sL_ordered) := ⟨rfl, rfl, rfl, by decide +kernel, rfl, by decide +kernel, by decide +kernel⟩
theorem ok_ordR {f : Addr} {fd : FuncData} (F : Fun K "_law_ordered" "_law_ordered" sL_ordered f fd) (T : Nm mg) : FnOk P w K mg base CX0 1 f fd ["_law_rows"] (spOrdR) := by
  refine F.ok sc_ordR (fun vs H Q E h => ?_) (fun cdv A outer s H vs Q E hr h => ?_)
  · obtain ⟨a, xs, rfl, ha, hxl, q⟩ := h
    rfl
  · obtain ⟨a, xs, rfl, ha, hxl, q⟩ := h
    have hu := hu_of hr
    have hu0 := Nat.lt_of_succ_lt hu
    refine ⟨_, (pss_cons (ps_set (i := 1) sc_ordR.nd rfl (.inl rfl) (pe_lst pa_nil))
      (pss_cons (ps_for (g := gName 2) PassesOwn.never rfl (pi_list (pv 0)) (pg_name (i := 2) sc_ordR.nd rfl (.inl rfl)) (pss_cons (ps_set (i := 3) sc_ordR.nd rfl (.inl rfl) pe_int)
      (C8.pss_cut (ps_while PassesOwn.never (PW.pt (pw_and (pt_cmpR op_lt (pv 3) (pe_callB call_len_seq (by rfl) T.len PySem.boot_len (pa_cons (pv 1) pa_nil)) (nomark _)) (pw_and1 (pt_cmpR (r := Ot.rLtK K) (by exact Ot.op_ltK hu0) (pe_ix ix_list (pv 1) (pv 3) (fun _ _ => rfl)) (pv 2) (nomark _))))) (pss_one (ps_set (i := 3) sc_ordR.nd rfl (.inl rfl) (pe_op op_add (pv 3) pe_int))))
      (pss_one (ps_if (PW.pt (pw_or (pt_cmpR op_eq (pv 3) (pe_callB call_len_seq (by rfl) T.len PySem.boot_len (pa_cons (pv 1) pa_nil)) (nomark _)) (pw_or1 (pt_cmpR (r := Ot.rNeK K) (by exact Ot.op_neK hu0) (pe_ix ix_list (pv 1) (pv 3) (fun _ _ => rfl)) (pv 2) (nomark _))))) (pss_one (ps_expr (pe_bm PySem.F.plainAttrs_list PySem.F.slot_list_insert PySem.F.type_list_insert mt_insert (pv 1) (pa_cons (pv 3) (pa_cons (pv 2) pa_nil))))) pss_nil)))))
      (pss_one (ps_ret (pv 1))))), ?_⟩
    have hu0 := Nat.lt_of_succ_lt (hu_of hr)
    obtain ⟨as, ha, ras⟩ := ha
    have lm : as.length = xs.length := ras.1
    refine ⟨by decide, fun t nt => ?_⟩
    have e1 := same_upd (o := .lst []) nt
    refine ⟨_, rfl, a, rfl, ⟨_, SqL.of (e1 _ _ ha)⟩, ?_⟩
    have nta : t ≠ a := fun z => by rw [z, ha] at nt; cases nt
    refine for_it (walk_list (xs := as.map V.ref)) (fun i σ H' => ∃ (ys : List Rw) (s2 s3 : Option V), σ = [some (.ref a), some (.ref t), s2, s3] ∧ Same H H' ∧ LstAt rwO H' t ys ∧ AscR (xs.take i) ys ∧ ys.length ≤ i) ?_ ?_ ?_ ?_
    · exact ⟨[], _, _, rfl, e1, LstAt.nil upd_same, ⟨by simp, fun n => by simp⟩, Nat.le_refl _⟩
    · rintro i σ H' _ ⟨_, _, _, _, es, _⟩
      exact SqL.of (es _ _ ha)
    · rintro i v σ H1 H2 hi ⟨ys, s2, s3, rfl, es, ⟨ds, ht, rds⟩, asc, yl⟩ ⟨rfl, hv⟩
      obtain ⟨d, r, rfl, hd', hy, hod⟩ := ras.at hv
      have hi' : i < xs.length := (List.getElem?_eq_some_iff.mp hy).1
      have et : xs.take (i + 1) = xs.take i ++ [r] := by rw [List.take_add_one, hy]; rfl
      have hod2 := es _ _ hod
      have ld : ds.length = ys.length := rds.1
      refine ⟨fun σ' H' => ∃ k : Nat, σ' = [some (.ref a), some (.ref t), some (.ref d), some (.int k)] ∧ H' = H2 ∧ k ≤ ys.length ∧ (∀ j (h : j < ys.length), j < k → ltR ys[j] r) ∧ ∀ h : k < ys.length, ¬ ltR ys[k] r, ?_, ?_⟩
      · refine ⟨fun m σ H => ∃ k : Nat, σ = [some (.ref a), some (.ref t), some (.ref d), some (.int k)] ∧ H = H2 ∧ k ≤ ys.length ∧ (∀ j (h : j < ys.length), j < k → ltR ys[j] r) ∧ m = ys.length - k, ⟨_, 0, rfl, rfl, Nat.zero_le _, fun j _ z => absurd z (Nat.not_lt_zero _), rfl⟩, ?_⟩
        rintro m σ' G ⟨k, rfl, rfl, hk, lo, rfl⟩
        refine ⟨_, rfl, _, rfl, t, _, rfl, .inl (SqL.of ht), ?_⟩
        rw [List.length_map, ld]
        refine ⟨_, _, rfl, rfl, _, rfl, ?_⟩
        cases cK : decide ((k : Int) < (ys.length : Int)) with
        | false =>
          have kK := of_decide_eq_false cK
          refine iteF ?_
          refine iteF ?_
          exact ⟨k, rfl, rfl, hk, lo, fun h => by omega⟩
        | true =>
          have kl : k < ys.length := by have := of_decide_eq_true cK; omega
          have kl' : k < ds.length := by omega
          have hok := rds.2 k ds[k] ys[k] (List.getElem?_eq_getElem kl') (List.getElem?_eq_getElem kl)
          refine iteT ⟨_, rfl, _, rfl, t, _, (k : Int), .ref ds[k], rfl, rfl, SqL.of ht, atI_ref kl', _, rfl, ds[k], d, rwK ys[k], rwK r, rfl, rfl, SqT.of hok, SqT.of hod2, rfl, _, rfl, ?_⟩
          cases cL : Ot.lexK (rwK ys[k]) (rwK r) with
          | true =>
            refine iteT ⟨fun σ' H' => ∃ k' : Nat, σ' = [some (.ref a), some (.ref t), some (.ref d), some (.int k')] ∧ H' = G ∧ k' ≤ ys.length ∧ (∀ j (h : j < ys.length), j < k' → ltR ys[j] r) ∧ ys.length - k' < ys.length - k, fun σ' H' hn => ?_, ?_⟩
            · obtain ⟨k', b1, b2, b3, b4, b5⟩ := hn
              exact ⟨_, b5, k', b1, b2, b3, b4, rfl⟩
            · refine ⟨_, rfl, _, _, rfl, rfl, k + 1, rfl, rfl, kl, fun j h z => ?_, by omega⟩
              by_cases c : j < k
              · exact lo j h c
              · have : j = k := by omega
                subst this
                exact cL
          | false =>
            refine iteF ?_
            exact ⟨k, rfl, rfl, hk, lo, fun _ z => by rw [show Ot.lexK (rwK ys[k]) (rwK r) = true from z] at cL; cases cL⟩
      · rintro _ G ⟨k, rfl, rfl, hk, lo, hx⟩
        have fin : (∀ h : k < ys.length, ys[k] ≠ r) → ∃ (ys' : List Rw) (s2 s3 : Option V), [some (V.ref a), some (.ref t), some (.ref d), some (.int k)] = [some (.ref a), some (.ref t), s2, s3] ∧ Same H (upd G t (.lst ((ds.map V.ref).take k ++ [V.ref d] ++ (ds.map V.ref).drop k))) ∧ LstAt rwO (upd G t (.lst ((ds.map V.ref).take k ++ [V.ref d] ++ (ds.map V.ref).drop k))) t ys' ∧ AscR (xs.take (i + 1)) ys' ∧ ys'.length ≤ i + 1 := by
          intro ne
          have hx2 : ∀ h : k < ys.length, ltR r ys[k] := fun h => ltR_of (hx h) (ne h)
          refine ⟨ys.take k ++ r :: ys.drop k, _, _, rfl, fun b u e => ?_, ⟨ds.take k ++ d :: ds.drop k, ?_, ?_⟩, ⟨Ot.pw_insert ltR_trans asc.pw lo hx2 hk, fun n => ?_⟩, ?_⟩
          · rw [upd_ne (ne_of_none e nt)]
            exact es _ _ e
          · rw [upd_same]
            simp [List.map_take, List.map_drop]
          · refine Refs.ins (x := r) ?_ ?_ (by omega)
            · refine ⟨rds.1, fun j q y x1 x2 => ?_⟩
              have := rds.2 j q y x1 x2
              rw [upd_ne (fun z => by rw [z, ht] at this; unfold rwO at this; cases this)]
              exact this
            · rw [upd_ne (fun z => by rw [z, ht] at hod2; unfold rwO at hod2; cases hod2)]
              exact hod2
          · rw [et]
            simp only [List.mem_append, List.mem_cons, List.not_mem_nil, or_false]
            rw [← asc.mem]
            have := List.take_append_drop k ys
            constructor
            · rintro (z | z | z)
              · exact .inl (List.mem_of_mem_take z)
              · exact .inr z
              · exact .inl (List.mem_of_mem_drop z)
            · rintro (z | z)
              · rw [← this] at z
                rcases List.mem_append.mp z with z | z
                · exact .inl z
                · exact .inr (.inr z)
              · exact .inr (.inl z)
          · rw [List.length_append, List.length_cons, List.length_take, List.length_drop]
            omega
        have szl : (ds.map V.ref).length < sizeLine := by
          rw [List.length_map, sizeLine_eq]
          omega
        refine ⟨_, rfl, _, rfl, t, _, rfl, .inl (SqL.of ht), ?_⟩
        rw [List.length_map, ld]
        refine ⟨rfl, _, rfl, ?_⟩
        rw [int_eq]
        cases cE : decide ((k : Int) = (ys.length : Int)) with
        | true =>
          have kE := of_decide_eq_true cE
          refine iteT ?_
          refine ⟨_, rfl, .inl ⟨rfl, _, SqL.of ht⟩, _, rfl, _, rfl, t, _, (k : Int), .ref d, rfl, rfl, ht, szl, by omega, by omega, ?_⟩
          exact fin fun h => by omega
        | false =>
          have kE := of_decide_eq_false cE
          have kl : k < ys.length := by omega
          have kl' : k < ds.length := by omega
          have hok := rds.2 k ds[k] ys[k] (List.getElem?_eq_getElem kl') (List.getElem?_eq_getElem kl)
          refine iteF ⟨_, rfl, _, rfl, t, _, (k : Int), .ref ds[k], rfl, rfl, SqL.of ht, atI_ref kl', _, rfl, ds[k], d, rwK ys[k], rwK r, rfl, rfl, SqT.of hok, SqT.of hod2, _, rfl, ?_⟩
          by_cases eK : ys[k] = r
          · rw [decide_eq_true (show rwK ys[k] = rwK r by rw [eK])]
            refine iteF ⟨ys, _, _, rfl, es, ⟨ds, ht, rds⟩, ⟨asc.pw, fun n => ?_⟩, by omega⟩
            rw [et, List.mem_append, List.mem_singleton, ← asc.mem]
            exact ⟨.inl, fun z => z.elim id fun z => by rw [z, ← eK]; exact List.getElem_mem kl⟩
          · rw [decide_eq_false (fun z => eK (rwK_inj z))]
            refine iteT ?_
            refine ⟨_, rfl, .inl ⟨rfl, _, SqL.of ht⟩, _, rfl, _, rfl, t, _, (k : Int), .ref d, rfl, rfl, ht, szl, by omega, by omega, ?_⟩
            exact fin fun _ => eK
    · rintro σ H1 ⟨ys, s2, s3, rfl, es, ht, asc, yl⟩
      rw [show xs.take (as.map V.ref).length = xs from by rw [List.length_map, lm]; exact List.take_length] at asc
      rw [List.length_map] at yl
      exact ⟨_, rfl, q _ t ys es nt ht (by omega) asc⟩

end
end Hs
/-! what stays while the jar is taken from and a list of one's own grows -/
namespace Hs
open PySem PySem.Spec PyProof.Rows L2 Am Rv
theorem ne_jar {H : Hp} {p b : Addr} {N : Int} (j : JarAt H p N) (n : H b = none) : b ≠ p := fun z => by
  obtain ⟨_, _, _, hp, _⟩ := j
  rw [z, hp] at n
  cases n
theorem jar_not {p b : Addr} {H : Hp} {N : Int} {o : HO} (j : JarAt H p N) (h : H b = some o) (no : ∀ xs, o ≠ .lst xs) : b ≠ p := fun e => by
  obtain ⟨xs, hp⟩ := j.lst
  rw [e, hp] at h
  exact no _ (Option.some.inj h).symm
theorem HouseAt.chg {C p : Addr} {H H' : Hp} {h : Addr} {x : Str} {L : Lore} {N : Int} (k : HouseAt C H h x L) (j : JarAt H p N) (c : Chg p H H') : HouseAt C H' h x L := by
  obtain ⟨dx, a, b, cc, r, t, pp, rs, ts, ys, h1, h2, h3, h4, h5, h6, h7, h8, h9, h10⟩ := k
  have e : ∀ b o, H b = some o → (∀ xs, o ≠ .lst xs) → H' b = some o := fun b o h no => c b o h (jar_not j h no)
  exact ⟨dx, a, b, cc, r, t, pp, rs, ts, ys, e _ _ h1 (fun _ z => by cases z), e _ _ h2 (fun _ z => by cases z), ⟨h3.1, fun i r y a b => e _ _ (h3.2 i r y a b) (fun _ z => by unfold plO at z; cases z)⟩, e _ _ h4 (fun _ z => by cases z), e _ _ h5 (fun _ z => by cases z), h6, e _ _ h7 (fun _ z => by cases z), e _ _ h8 (fun _ z => by cases z),
    ⟨h9.1, fun i r y a b => e _ _ (h9.2 i r y a b) (fun _ z => by cases z)⟩, e _ _ h10 (fun _ z => by cases z)⟩
theorem refs_ne {α : Type} {f : α → HO} {H : Hp} {l p : Addr} {xs : List α} {N : Int} (h : LstAt f H l xs) (j : JarAt H p N) : l ≠ p := fun e => by
  obtain ⟨rs, h, _⟩ := h
  obtain ⟨o, m, c, hp, _⟩ := j
  rw [e, hp] at h
  cases rs <;> cases h
theorem LoreAt.chg {p d : Addr} {H H' : Hp} {L : Lore} {N : Int} (k : LoreAt H d L) (j : JarAt H p N) (c : Chg p H H') : LoreAt H' d L := by
  obtain ⟨lp, ls, lt, h1, h2, h3, h4⟩ := k
  exact ⟨lp, ls, lt, c _ _ h1 (jar_not j h1 (fun _ z => by cases z)), h2.jar j (refs_ne h2 j) c (fun x ys z => by unfold plO at z; cases z), h3.jar j (refs_ne h3 j) c (fun x ys z => by unfold stO at z; cases z), h4.jar j (refs_ne h4 j) c (fun x ys z => by unfold prO at z; cases z)⟩
theorem LoreAt.nj {p d : Addr} {H : Hp} {L : Lore} {N : Int} (k : LoreAt H d L) (j : JarAt H p N) : d ≠ p := by
  obtain ⟨lp, ls, lt, h1, _⟩ := k
  exact jar_not j h1 (fun _ z => by cases z)
/-- a tuple of objects -/
def TupAt {α : Type} (f : α → HO) (H : Hp) (a : Addr) (xs : List α) : Prop := ∃ rs : List Addr, H a = some (.tup (rs.map V.ref)) ∧ Refs f H rs xs
theorem TupAt.same {α : Type} {f : α → HO} {H H' : Hp} {a : Addr} {xs : List α} (h : TupAt f H a xs) (e : Same H H') : TupAt f H' a xs := by
  obtain ⟨as, h1, h2⟩ := h
  exact ⟨as, e _ _ h1, h2.same e⟩
theorem TupAt.chg {α : Type} {f : α → HO} {H H' : Hp} {a p : Addr} {xs : List α} {N : Int} (h : TupAt f H a xs) (j : JarAt H p N) (c : Chg p H H') (hf : ∀ x ys, f x ≠ .lst ys) : TupAt f H' a xs := by
  obtain ⟨as, h1, h2⟩ := h
  exact ⟨as, c _ _ h1 (jar_not j h1 (fun _ z => by cases z)), h2.1, fun i r x a b => c _ _ (h2.2 i r x a b) (jar_not j (h2.2 i r x a b) (hf x))⟩
theorem RowsAt.chg {H H' : Hp} {a p : Addr} {rs : List Rw} {N : Int} (h : RowsAt H a rs) (j : JarAt H p N) (c : Chg p H H') : RowsAt H' a rs := TupAt.chg h j c (fun x ys z => by unfold rwO at z; cases z)
theorem NumAt.chg {C CH n p : Addr} {H H' : Hp} {x : Str} {L : Lore} {rs : List Rw} {N : Int} (k : NumAt C CH H n x L rs) (j : JarAt H p N) (c : Chg p H H') : NumAt C CH H' n x L rs := by
  obtain ⟨dx, h, a, d, t, h1, h2, h3, h4, h5⟩ := k
  exact ⟨dx, h, a, d, t, c _ _ h1 (jar_not j h1 (fun _ z => by cases z)), h2.chg j c, h3.chg j c, c _ _ h4 (jar_not j h4 (fun _ z => by cases z)), TupAt.chg h5 j c (fun x ys z => by unfold laO at z; cases z)⟩
theorem LstAt.len {α : Type} {f : α → HO} {H : Hp} {l : Addr} {xs : List α} (h : LstAt f H l xs) : ∃ rs : List Addr, H l = some (.lst (rs.map V.ref)) ∧ rs.length = xs.length := by
  obtain ⟨rs, a, b⟩ := h
  exact ⟨rs, a, b.1⟩
theorem rwO_nl : ∀ (r : Rw) ys, rwO r ≠ .lst ys := fun _ _ z => by cases z
/-- one's own list grows, the jar beside it -/
theorem grow_jar {α : Type} {f : α → HO} {H G : Hp} {p t D : Addr} {xs : List α} {x : α} {N : Int} {rs : List Addr} (ht : G t = some (.lst (rs.map V.ref))) (hr : Refs f G rs xs) (nt : H t = none) (c : Chg p H G) (j : JarAt G p N) (ntp : t ≠ p) (nD : G D = none) (hf : ∀ x ys, f x ≠ .lst ys) :
    (upd G D (f x)) t = some (.lst (rs.map V.ref)) ∧ LstAt f (upd (upd G D (f x)) t (.lst (rs.map V.ref ++ [.ref D]))) t (xs ++ [x]) ∧ Chg p H (upd (upd G D (f x)) t (.lst (rs.map V.ref ++ [.ref D]))) ∧ JarAt (upd (upd G D (f x)) t (.lst (rs.map V.ref ++ [.ref D]))) p N := by
  obtain ⟨g1, g2⟩ := LstAt.grow (x := x) ht hr nD hf
  refine ⟨(upd_ne (ne_of_none ht nD)).trans ht, g1, fun b u e nb => g2 _ _ (c _ _ e nb) (by simpa using ne_of_none e nt), ?_⟩
  obtain ⟨o, mm, cc, hpp, rr⟩ := j
  exact ⟨o, mm, cc, g2 _ _ hpp (by simpa using ntp.symm), rr⟩
theorem grow_same {α : Type} {f : α → HO} {H G : Hp} {t D : Addr} {xs : List α} {x : α} {rs : List Addr} (ht : G t = some (.lst (rs.map V.ref))) (hr : Refs f G rs xs) (nt : H t = none) (c : Same H G) (nD : G D = none) (hf : ∀ x ys, f x ≠ .lst ys) :
    (upd G D (f x)) t = some (.lst (rs.map V.ref)) ∧ LstAt f (upd (upd G D (f x)) t (.lst (rs.map V.ref ++ [.ref D]))) t (xs ++ [x]) ∧ Same H (upd (upd G D (f x)) t (.lst (rs.map V.ref ++ [.ref D]))) := by
  obtain ⟨g1, g2⟩ := LstAt.grow (x := x) ht hr nD hf
  exact ⟨(upd_ne (ne_of_none ht nD)).trans ht, g1, fun b u e => g2 _ _ (c _ _ e) (by simpa using ne_of_none e nt)⟩
theorem chg_none {p b : Addr} {H G : Hp} (c : Chg p H G) (nb : b ≠ p) (h : G b = none) : H b = none := by
  cases e : H b with
  | none => rfl
  | some u => rw [c _ _ e nb] at h; cases h
theorem same_none {b : Addr} {H G : Hp} (c : Same H G) (h : G b = none) : H b = none := by
  cases e : H b with
  | none => rfl
  | some u => rw [c _ _ e] at h; cases h
theorem szl {k : Nat} (h : k ≤ 100000) : k < sizeLine := by rw [sizeLine_eq]; omega
theorem szl' {k : Nat} (h : k ≤ 100000) : k ≤ sizeLine := by rw [sizeLine_eq]; omega
theorem getE {α : Type} {xs : List α} {i : Nat} {v : V} {g : α → V} (hv : (xs.map g)[i]? = some v) : ∃ (h : i < xs.length), v = g xs[i] := by
  rw [List.getElem?_map] at hv
  cases e : xs[i]? with
  | none => rw [e] at hv; cases hv
  | some y =>
    rw [e] at hv
    obtain ⟨h, h2⟩ := List.getElem?_eq_some_iff.mp e
    exact ⟨h, by rw [h2]; exact (Option.some.inj hv).symm⟩
theorem take_snoc {α : Type} {xs : List α} {i : Nat} (h : i < xs.length) : xs.take (i + 1) = xs.take i ++ [xs[i]] := by
  rw [List.take_add_one, List.getElem?_eq_getElem h]
  rfl
end Hs
namespace Zj
open PySem RZ Zi
/-! ### a list and a tuple -/
abbrev N1 (h : Heap) (l1 : Addr) : Heap := h.push { cls := .type "list_iterator", data := .fields #[.ref l1, .int 0 0] }
abbrev N2 (h : Heap) (l1 l2 : Addr) : Heap := (N1 h l1).push { cls := .type "tuple_iterator", data := .fields #[.ref l2, .int 0 0] }
abbrev N3 (h : Heap) (l1 l2 : Addr) : Heap := (N2 h l1 l2).push { cls := .type "tuple", data := .seq #[.ref h.objs.size, .ref (N1 h l1).objs.size] }
abbrev N4 (h : Heap) (l1 l2 : Addr) : Heap := (N3 h l1 l2).push { cls := .type "tuple", data := .seq #[.none, .none] }
abbrev N5 (h : Heap) (l1 l2 : Addr) : Heap := (N4 h l1 l2).push { cls := .type "zip", data := .fields #[.none, .bool false, .bool false, .ref (N2 h l1 l2).objs.size, .ref (N3 h l1 l2).objs.size] }
theorem made (l1 l2 : Addr) (xs ys : Array Value) :
    Meets (Builtin.«zip.__new__» ⟨[.type "zip", .ref l1, .ref l2], []⟩) (fun _ R z => z.heap.IsList l1 xs ∧ z.heap.IsTuple l2 ys ∧ R (.ok (.ret (.ref (N4 z.heap l1 l2).objs.size))) { z with heap := N5 z.heap l1 l2 }) :=
  .of_wp fun _ _ _ R z h => by
    obtain ⟨hp, g, d, tk, os⟩ := z
    obtain ⟨t1, t2, want⟩ := h
    have self := sub_zip
    have q1 : Heap.IsList (Shared.heap ⟨hp, g, d, tk, os⟩) l1 xs := t1
    have q2 : Heap.IsTuple (Shared.heap ⟨hp.push { cls := .type "list_iterator", data := .fields #[.ref l1, .int 0 0] }, g, d, tk, os⟩) l2 ys := Heap.IsTuple.push t2 _
    wp_walk using wpAny_pyIter_list q1, wpAny_pyIter_tuple q2
    exact ⟨_, rfl, want⟩
section
variable {pr : Program} {wd : World} {Ar : Around} {st : Shared} {Ex : Value → Shared → Prop}
theorem called {l1 l2 : Addr} {xs ys : Array Value} {R : Value → Shared → Prop} (t1 : st.heap.IsList l1 xs) (t2 : st.heap.IsTuple l2 ys)
    (hR : ∀ g, IsZip g (st.heap.objs.size + 4) (st.heap.objs.size + 2) (st.heap.objs.size + 3) .none → IsPair g (st.heap.objs.size + 2) (.ref st.heap.objs.size) (.ref (st.heap.objs.size + 1)) → IsPair g (st.heap.objs.size + 3) .none .none →
      g.IsListIter st.heap.objs.size l1 0 → g.IsTupleIter (st.heap.objs.size + 1) l2 0 → (∀ c o, st.heap.get? c = some o → g.get? c = some o) → R (.ref (st.heap.objs.size + 4)) { st with heap := g }) :
    wpAny (model pr wd) Ar (call (.type "zip") [.ref l1, .ref l2]) R Ex st := by
  refine callType_new F.called_zip (by decide) (F.typeCall_zip_2 _ _) (F.newCall_zip_2 _ _) (fun ob => F.args_object_init_3 ob _ _) F.entry_zip_new (made l1 l2 xs ys) ⟨t1, t2, ?_⟩
  have n1 : (N1 st.heap l1).objs.size = st.heap.objs.size + 1 := Heap.size_push ..
  have n2 : (N2 st.heap l1 l2).objs.size = st.heap.objs.size + 2 := by rw [Heap.size_push, n1]
  have n3 : (N3 st.heap l1 l2).objs.size = st.heap.objs.size + 3 := by rw [Heap.size_push, n2]
  have n4 : (N4 st.heap l1 l2).objs.size = st.heap.objs.size + 4 := by rw [Heap.size_push, n3]
  have top : (N5 st.heap l1 l2).get? (N4 st.heap l1 l2).objs.size = some _ := Heap.get?_push_size _ rfl
  have w4 : (N5 st.heap l1 l2).get? (N3 st.heap l1 l2).objs.size = some _ := Heap.get?_push_of_some _ (Heap.get?_push_size _ rfl)
  have w3 : (N5 st.heap l1 l2).get? (N2 st.heap l1 l2).objs.size = some _ := Heap.get?_push_of_some _ (Heap.get?_push_of_some _ (Heap.get?_push_size _ rfl))
  have w2 : (N5 st.heap l1 l2).get? (N1 st.heap l1).objs.size = some _ := Heap.get?_push_of_some _ (Heap.get?_push_of_some _ (Heap.get?_push_of_some _ (Heap.get?_push_size _ rfl)))
  have w1 : (N5 st.heap l1 l2).get? st.heap.objs.size = some _ := Heap.get?_push_of_some _ (Heap.get?_push_of_some _ (Heap.get?_push_of_some _ (Heap.get?_push_of_some _ (Heap.get?_push_size _ rfl))))
  refine (show _ ∧ _ from ?_)
  rw [n2, n3, n4] at top
  rw [n1, n2] at w3
  rw [n3] at w4
  rw [n1] at w2
  rw [n4]
  exact ⟨⟨_, top, rfl⟩, hR _ top w3 w4 ⟨_, w1, rfl, rfl⟩ ⟨_, w2, rfl, rfl⟩ fun c o e => Heap.get?_push_of_some _ (Heap.get?_push_of_some _ (Heap.get?_push_of_some _ (Heap.get?_push_of_some _ (Heap.get?_push_of_some _ e))))⟩
end
open PySem.Spec PyProof.Rows L2
/-- the list at a and the tuple at b, as they stand at each turn, the items in new pairs -/
def ItzL (K : PySem.W.Frag) (a b : Addr) : It :=
  ⟨fun i H => ∃ (xs ys : List V) (x y : V), SqL K H a xs ∧ SqT K H b ys ∧ xs[i]? = some x ∧ ys[i]? = some y,
    fun i H v H' => ∃ T x y, v = .ref T ∧ H T = none ∧ H' = upd H T (.tup [x, y]) ∧ (∀ xs, SqL K H a xs → xs[i]? = some x) ∧ ∀ ys, SqT K H b ys → ys[i]? = some y,
    fun i H => ∃ xs ys : List V, SqL K H a xs ∧ SqT K H b ys ∧ (xs.length ≤ i ∨ ys.length ≤ i)⟩
theorem turns {P : Program} {w : World} {K : PySem.W.Frag} {elts : List Expr} {kk : Nat} {tpos : Pos} {a b z TI TO i1 i2 : Addr} (D : ZipApart z TI TO i1 i2 a b) :
    Turn P w K (.Tuple elts kk tpos) (ItzL K a b) [z, TI, TO, i1, i2] z (fun i h => IsZip h z TI TO .none ∧ IsPair h TI (.ref i1) (.ref i2) ∧ (∃ x y, IsPair h TO x y) ∧ h.IsListIter i1 a i ∧ h.IsTupleIter i2 b i) where
  mem := by simp
  obj := by
    rintro i h ⟨hz, hI, ⟨x, y, hO⟩, ⟨o1, e1, _, d1⟩, ⟨o2, e2, _, d2⟩⟩ c hc
    simp only [List.mem_cons, List.not_mem_nil, or_false] at hc
    rcases hc with rfl | rfl | rfl | rfl | rfl
    · exact ⟨_, hz, fun _ => nofun⟩
    · exact ⟨_, hI, fun _ => nofun⟩
    · exact ⟨_, hO, fun _ => nofun⟩
    · exact ⟨o1, e1, fun v q => by rw [d1] at q; cases q⟩
    · exact ⟨o2, e2, fun v q => by rw [d2] at q; cases q⟩
  keep := by
    rintro i h g ⟨hz, hI, ⟨x, y, hO⟩, t1, t2⟩ k
    exact ⟨k z (by simp) _ hz, k TI (by simp) _ hI, ⟨x, y, k TO (by simp) _ hO⟩, t1.at fun o q => k i1 (by simp) o q, t2.at fun o q => k i2 (by simp) o q⟩
  item := by
    rintro X rfl rfl rfl hc i pins st σ H E inv hf ⟨hz, hI, ⟨x0, y0, hO⟩, t1, t2⟩ ⟨xs, ys, x, y, hqx, hqy, hx, hy⟩
    obtain ⟨us, rv, p1, _⟩ := inv.list hqx
    obtain ⟨ws, rw_, p2, _⟩ := inv.tuple hqy
    obtain ⟨u, hu, ru⟩ := rv.get hx
    obtain ⟨w2, hw, rw2⟩ := rw_.get hy
    have zl : z < st.heap.objs.size := Heap.lt_size hz
    refine next_item D (feed_list D.l1i1) (feed_tuple D.l2i2) hz hI hO ⟨t1, p1.isList⟩ ⟨t2, p2⟩ (x := u) (y := w2) (by simpa using hu) (by simpa using hw) fun g z' O' s1 s2 hT hsz keep => ?_
    refine ⟨_, rfl, wpAny_letOwnedTupleGo_zip (s := { st with heap := g }) z' fun g2 z2 sb => ?_⟩
    have hT2 : g2.get? st.heap.objs.size = some { cls := .type "tuple", data := .seq #[u, w2] } := (sb.2 _ (Nat.ne_of_gt zl)).trans hT
    have laid : ObjOk X.prog X.w (upd H st.heap.objs.size (.tup [x, y])) g2 st.heap.objs.size (.tup [x, y]) := ⟨show 2 ≤ sizeLine by decide, [u, w2], .cons ru (.cons rw2 .nil), ⟨_, hT2, rfl, _, rfl⟩⟩
    have inv2 : Inv X pins σ (upd H st.heap.objs.size (.tup [x, y])) { st with heap := g2 } := inv.turnedNew (t' := st.toks) (ch := [z, TI, TO, i1, i2])
      (fun c o hb q => (sb.2 c (fun e => hb (by simp [e]))).trans (keep c o (fun e => hb (by simp [e])) (fun e => hb (by simp [e])) (fun e => hb (by simp [e])) (fun e => hb (by simp [e])) q)) hf (Nat.le_refl _) laid
    refine ⟨.ref st.heap.objs.size, _, inv2, rfl, ⟨_, x, y, rfl, inv.hok.fresh (Nat.le_refl _), rfl, fun l hl => inv.list_inj hl hqx ▸ hx, fun l hl => ?_⟩, ⟨z2, (sb.2 _ D.TIz).trans (keep _ _ D.TIz D.TITO D.TIi1 D.TIi2 hI), ⟨u, w2, (sb.2 _ D.TOz).trans O'⟩, s1.1.at fun o q => (sb.2 _ D.i1z).trans q, s2.1.at fun o q => (sb.2 _ D.i2z).trans q⟩, fun c hcm => ?_⟩
    · exact inv.tuple_inj hl hqy ▸ hy
    · have lt : c < st.heap.objs.size := by
        simp only [List.mem_cons, List.not_mem_nil, or_false] at hcm
        rcases hcm with rfl | rfl | rfl | rfl | rfl
        · exact zl
        · exact Heap.lt_size hI
        · exact Heap.lt_size hO
        · exact let ⟨_, e, _⟩ := t1; Heap.lt_size e
        · exact let ⟨_, e, _⟩ := t2; Heap.lt_size e
      rw [upd_ne (Nat.ne_of_lt lt)]
      exact (hf c hcm).1
  done := by
    rintro X rfl rfl rfl hc i pins st σ H E inv hf ⟨hz, hI, ⟨x0, y0, hO⟩, t1, t2⟩ ⟨xs, ys, hqx, hqy, out⟩
    obtain ⟨us, rv, p1, _⟩ := inv.list hqx
    obtain ⟨ws, rw_, p2, _⟩ := inv.tuple hqy
    have l1 := rv.length
    have l2 := rw_.length
    refine next_end (inv.ok.hd hc) D (feed_list D.l1i1) (feed_tuple D.l2i2) hz hI hO ⟨t1, p1.isList⟩ ⟨t2, p2⟩ (out.imp (fun q => by simp; omega) fun q => by simp; omega) fun g keep => ⟨rfl, ?_⟩
    exact inv.turnedL (t' := st.toks) (ch := [z, TI, TO, i1, i2]) (fun c o hb q => keep c o (fun e => hb (by simp [e])) (fun e => hb (by simp [e])) (fun e => hb (by simp [e])) (fun e => hb (by simp [e])) q) hf
  self := fun A i st Q E s h => wpAny_pyIter_zip s.1 h
def iZipL (K : PySem.W.Frag) (ta : TA) : TI := fun σ H R => ta σ H fun vs H1 => ∃ a b xs ys, vs = [.ref a, .ref b] ∧ SqL K H1 a xs ∧ SqT K H1 b ys ∧ R (ItzL K a b) H1
/-- zip(l, t): a list and a tuple -/
theorem pi_zipL {X : Cx} {e e2 : Expr} {ta : TA} {q1 q2 q3 : Pos} {elts : List Expr} {kk : Nat} (hg : Gl X "zip") (hm : X.mg "zip" = none) (ha : PA X [e, e2] ta)
    (h1 : starEach [e, e2] X.env = (false, eval e X.env) :: starEach [e2] X.env := by rfl) (h2 : (backTo q2 (starEach [e2] X.env)).any (·.1) = false := by rfl) :
    PI X (.Tuple elts kk q3) (.Call (.Name "zip" q1) [e, e2] [] q2) (iZipL X.K ta) := by
  refine ⟨fun pins st σ H R inv want => Call_ (ld_blt inv hg hm PyProof.Rows.boot_zip (PyProof.Rows.callWith_type1 (thn (ha.run q2 pins st σ H _ inv want) fun us s1 ⟨vs, H1, inv1, rel, a, b, xs, ys, ex, hqx, hqy, go⟩ => ?_) h1 h2))⟩
  subst ex
  cases rel with
  | cons r rest =>
  cases rest with
  | cons r' rest =>
  cases rest
  cases r
  cases r'
  obtain ⟨us, _, p1, _⟩ := inv1.list hqx
  obtain ⟨ws, _, p2, _⟩ := inv1.tuple hqy
  have fresh : ∀ c, c ∈ [s1.heap.objs.size + 4, s1.heap.objs.size + 2, s1.heap.objs.size + 3, s1.heap.objs.size, s1.heap.objs.size + 1] → FpOk X pins H1 c := fun c hc => by
    have le : s1.heap.objs.size ≤ c := by
      simp only [List.mem_cons, List.not_mem_nil, or_false] at hc
      omega
    exact inv1.fpOk le (inv1.hok.fresh le)
  refine called p1.isList p2 fun g hz hI hO t1 t2 keep => wpAny_pyIter_zip hz ?_
  have inv2 : Inv X pins σ H1 { s1 with heap := g } := inv1.kept (t' := s1.toks) keep
  exact ⟨s1.heap.objs.size + 4, [s1.heap.objs.size + 4, s1.heap.objs.size + 2, s1.heap.objs.size + 3, s1.heap.objs.size, s1.heap.objs.size + 1], _, _, H1, rfl, inv2, turns (PySem.W.ktu_apart s1.heap.objs.size a b p1.lt p2.lt), ⟨hz, hI, ⟨_, _, hO⟩, t1, t2⟩, fresh, go⟩
theorem walkL {K : PySem.W.Frag} {a b : Addr} {xs ys : List V} (hl : xs.length = ys.length) : Walk (ItzL K a b) xs.length (fun H => SqL K H a xs ∧ SqT K H b ys) (YPair (fun i => xs[i]?) fun i => ys[i]?) := by
  refine ⟨fun i H hi g => ⟨xs, ys, xs[i], ys[i], g.1, g.2, List.getElem?_eq_getElem hi, List.getElem?_eq_getElem (hl ▸ hi)⟩, fun H g => ⟨xs, ys, g.1, g.2, .inl (Nat.le_refl _)⟩, ?_⟩
  rintro i H x H' hi g ⟨T, y, z, rfl, nT, rfl, h1, h2⟩
  exact ⟨T, y, z, rfl, nT, rfl, (h1 xs g.1), (h2 ys g.2)⟩
end Zj
/-! sum of a tuple of ints -/
namespace Sut
open PySem
section
variable {prog : Program} {w : World} {A : Around} {E : Value → Shared → Prop} {s : Shared} {l : Addr} {xs : Array (Int × Tok)}
theorem sum_intTuple {Q : Value → Shared → Prop} (hh : A.handled = none) (hl : s.heap.IsTuple l (intItems xs))
    (h : ∀ h' tk t', (∀ b o, s.heap.get? b = some o → h'.get? b = some o) → Q (.int (preSum (numAt xs) xs.size) t') { s with heap := h', toks := tk }) :
    wpAny (model prog w) A (call (.builtin "sum") [.ref l]) Q E s := by
  refine call_sum_walkG (wpAny_pyIter_tuple hl ?_)
  have hlt : l < s.heap.objs.size := by
    obtain ⟨o, ho, _⟩ := id hl
    exact Heap.lt_size ho
  refine ⟨_, [_, l], [_], _, _, _, numAt xs, rfl, Walks.tuple (A := A.in1) hh _ l (Nat.ne_of_lt hlt) (intItems xs), ⟨⟨_, Heap.get?_push_size _ rfl, rfl, rfl⟩, hl.push _⟩, fun c hc => ?_, (fun _ _ => intItems_at), fun h' tk t' hk => ?_⟩
  · show c < (s.heap.push _).objs.size
    rw [Heap.size_push]
    rcases List.mem_cons.mp hc with rfl | hc
    · exact Nat.lt_succ_self _
    · rcases List.mem_cons.mp hc with rfl | hc
      · exact Nat.lt_succ_of_lt hlt
      · cases hc
  · have := h h' tk t' (fun b o e => hk b o (fun hm => by
      rcases List.mem_cons.mp hm with e1 | hm
      · exact absurd (e1 ▸ Heap.lt_size e) (Nat.lt_irrefl _)
      · cases hm) (Heap.get?_push_of_some _ e))
    simpa [intItems] using this
end
open PySem.Spec PyProof.Rows L2
def rSumT (K : PySem.W.Frag) : List V → Hp → VK → Prop := fun vs H Q => ∃ (a : Addr) (ns : List Int), vs = [V.ref a] ∧ SqT K H a (ns.map V.int) ∧ Q (.int ns.sum) H
theorem cr_sumT {X : Cx} (hc : X.calm = true) : CallR X (.builtin "sum") (rSumT X.K) := by
  intro pins s σ H vs us Q I r h
  obtain ⟨a, ns, rfl, hs, q⟩ := h
  obtain ⟨its, rv, hl, _⟩ := I.tuple hs
  rw [Vals.ref1 r]
  have hi := rv.ints
  obtain ⟨xs, e⟩ := hi.allInts.items
  have hn : numsOf (intItems xs).toList = ns := by rw [← e]; exact hi.numsOf
  rw [nums_intItems] at hn
  rw [e] at hl
  refine sum_intTuple (I.ok.hd hc) hl fun h' tk t' hk => ?_
  rw [preSum_eq, List.take_of_length_le (by simp), hn]
  exact ⟨.int _, H, I.kept hk, ⟨_, rfl⟩, q⟩
end Sut
namespace Hs
open PySem PySem.Spec PyProof.Rows L2 Am
def rowO (us : List Nat) : HO := .tup (us.map fun n : Nat => V.int n)
theorem rowO_nl : ∀ (r : List Nat) ys, rowO r ≠ .lst ys := fun _ _ z => by unfold rowO at z; cases z
/-- a use of these places -/
def UseG (n : Nat) (pls : List Pl) (rows : List (List Nat)) : Prop := rows.length = pls.length ∧ ∀ (j : Nat) (pl : Pl) (row : List Nat), pls[j]? = some pl → rows[j]? = some row → row.length = n ∧ ∀ u ∈ row, u ≤ pl.room
theorem UseG.snoc {n i : Nat} {pls : List Pl} {rows : List (List Nat)} {pl : Pl} {row : List Nat} (h : UseG n (pls.take i) rows) (hp : pls[i]? = some pl) (l : row.length = n) (b : ∀ u ∈ row, u ≤ pl.room) : UseG n (pls.take (i + 1)) (rows ++ [row]) := by
  have hi : i < pls.length := (List.getElem?_eq_some_iff.mp hp).1
  have l1 : (pls.take i).length = i := by rw [List.length_take]; omega
  have l2 : rows.length = i := by rw [h.1, l1]
  rw [List.take_add_one, hp]
  refine ⟨by simp [l1, l2], fun j q r h1 h2 => ?_⟩
  by_cases c : j < i
  · rw [List.getElem?_append_left (by omega)] at h1 h2
    exact h.2 j q r h1 h2
  · rw [List.getElem?_append_right (by omega), l1] at h1
    rw [List.getElem?_append_right (by omega), l2] at h2
    cases z : j - i with
    | zero =>
      rw [z] at h1 h2
      cases h1
      cases h2
      exact ⟨l, b⟩
    | succ k =>
      rw [z] at h2
      cases h2
def spAUse : Sp := fun vs H Q _ => ∃ (p d : Addr) (L : Lore) (N : Int), vs = [.ref p, .ref d] ∧ LoreAt H d L ∧ JarAt H p N ∧ N ≤ 8500 ∧ L.places.length ≤ 4 ∧ (1 ≤ L.days ∧ L.days ≤ 14) ∧ (∀ q ∈ L.places, q.room ≤ 9) ∧
  ∀ (H' : Hp) (t : Addr) (rows : List (List Nat)), Chg p H H' → H t = none → JarAt H' p (N + 56) → TupAt rowO H' t rows → UseG L.days L.places rows → Q (.ref t) H'
/-- what a meter shows of a use from a morning to another one -/
def unitsGo (m : Str) (f b : Nat) : List Pl → List (List Nat) → Nat
  | p :: ps, r :: rs => (if covB m p = true then ((r.drop f).take (b - f)).sum else 0) + unitsGo m f b ps rs
  | _, _ => 0
theorem unitsGo_snoc {m : Str} {f b : Nat} {p : Pl} {r : List Nat} : ∀ {ps : List Pl} {rs : List (List Nat)}, ps.length = rs.length → unitsGo m f b (ps ++ [p]) (rs ++ [r]) = unitsGo m f b ps rs + (if covB m p = true then ((r.drop f).take (b - f)).sum else 0)
  | [], [], _ => by simp [unitsGo]
  | _ :: ps, _ :: rs, h => by
    have ih := unitsGo_snoc (m := m) (f := f) (b := b) (p := p) (r := r) (ps := ps) (rs := rs) (by simpa using h)
    simp only [List.cons_append, unitsGo]
    rw [ih, Nat.add_assoc]
theorem b_sum_ : bootBuiltins "sum" = some (.builtin "sum") := by decide +kernel
theorem cutV_ft (xs : List V) (f b : Nat) (h : f ≤ b) : cutV xs (some (f : Int)) (some (b : Int)) = (xs.drop f).take (b - f) := by
  unfold cutV
  rw [HT.sIx_nat, HT.sIx_nat]
  by_cases c : b ≤ xs.length
  · rw [Nat.min_eq_left c, Nat.min_eq_left (by omega)]
  · rw [Nat.min_eq_right (show xs.length ≤ b by omega)]
    by_cases c2 : f ≤ xs.length
    · rw [Nat.min_eq_left c2, List.take_of_length_le (by simp), List.take_of_length_le (by simp; omega)]
    · rw [Nat.min_eq_right (by omega), List.drop_eq_nil_of_le (Nat.le_refl _), List.drop_eq_nil_of_le (by omega), List.take_nil, List.take_nil]
theorem sum_cast : ∀ ns : List Nat, ((ns.sum : Nat) : Int) = (ns.map fun n : Nat => (n : Int)).sum
  | [] => rfl
  | n :: ns => by rw [List.sum_cons, Int.natCast_add, sum_cast ns, List.map_cons, List.sum_cons]
def spUnits : Sp := fun vs H Q _ => ∃ (d u : Addr) (m : Str) (f b : Nat) (L : Lore) (rows : List (List Nat)), vs = [.ref d, .ref u, .str m, .int f, .int b] ∧ LoreAt H d L ∧ TupAt rowO H u rows ∧ UseG L.days L.places rows ∧ f ≤ b ∧
  ∀ H', Same H H' → Q (.int (unitsGo m f b L.places rows : Nat)) H'
section
variable {P : Program} {w : World} {K : PySem.W.Frag} {mg : Str → Option Value} {base : Heap}
theorem sc_l_a_use : FnScope ["_law_jar_here", "_law_lore", "_law_found", "_law_name", "_law_room", "_law_is_metered", "_law_day"] ["_law_jar_here", "_law_lore"] (defScope sL_a_use) := ⟨rfl, rfl, rfl, by decide +kernel, rfl, by decide +kernel, by decide +kernel⟩
theorem ok_ause {f : Addr} {fd : FuncData} (F : Fun K "_law_a_use" "_law_a_use" sL_a_use f fd) (T : Nm mg) (n_tuple : mg "tuple" = none) (G_l_take : GotF P w K mg base "_law_take" 1 ["_law_jar_here", "_law_upto"] Am.spTake) : FnOk P w K mg base CX0 2 f fd ["_law_jar_here", "_law_lore"] (spAUse) := by
  obtain ⟨f_l_take, d_l_take, G_l_take, b_l_take, m_l_take, k_l_take⟩ := G_l_take
  refine F.ok sc_l_a_use (fun vs H Q E h => ?_) (fun cdv A outer s H vs Q E hr h => ?_)
  · obtain ⟨p, d, L, N, rfl, hL, hj, hN, hp4, hd14, hr9, q⟩ := h
    rfl
  · obtain ⟨p, d, L, N, rfl, hL, hj, hN, hp4, hd14, hr9, q⟩ := h
    have hr1 : Room 1 _ := hr.mono (by decide)
    have hu := hu_of hr
    have b_tuple_ : bootBuiltins "tuple" = some (.type "tuple") := by decide +kernel
    refine ⟨_, (pss_cons (ps_set (i := 2) sc_l_a_use.nd rfl (.inl rfl) (pe_lst pa_nil))
      (pss_cons (ps_for (g := (gTup K 3 (gCons (gName 3) (gCons (gName 4) (gCons (gName 5) gNil))))) PassesOwn.never rfl (pi_list (pe_dget hu (pv 1) pe_str (fun _ _ => rfl))) (pg_tup rfl (pgs_cons (pg_name (i := 3) sc_l_a_use.nd rfl (.inl rfl)) (pgs_cons (pg_name (i := 4) sc_l_a_use.nd rfl (.inr rfl)) (pgs_cons (pg_name (i := 5) sc_l_a_use.nd rfl (.inl rfl)) pgs_nil)))) (pss_one (ps_expr (pe_bm PySem.F.plainAttrs_list PySem.F.slot_list_append PySem.F.type_list_append mt_append (pv 2) (pa_cons (pe_callTy (call_tuple_of) (by rfl) n_tuple b_tuple_ (pa_cons (pe_lc (own := [("_law_day", 6)]) (g := gName 6) (tt := tYes) rfl sc_l_a_use.nd (pi_range1 (by rfl) T.range (pa_cons (pe_dget hu (pv 1) pe_str (fun _ _ => rfl)) pa_nil))
          (blkOk_by (N := ["_law_jar_here", "_law_lore", "_law_found", "_law_name", "_law_room", "_law_is_metered", "_law_day"]) (sc := defScope sL_a_use) (by decide +kernel)) (fun _ _ _ _ _ => (pg_name (i := 6) sc_l_a_use.nd rfl (.inl rfl))) (fun _ _ _ _ _ => pts_nil) (fun _ _ _ _ _ => (pe_call G_l_take hr1 (by rfl) m_l_take k_l_take b_l_take .nil pass0 (pa_cons (pv 0) (pa_cons (pe_op op_add (pv 4) pe_int) pa_nil))))) pa_nil)) pa_nil)))))
      (pss_one (ps_ret (pe_callTy (call_tuple_of) (by rfl) n_tuple b_tuple_ (pa_cons (pv 2) pa_nil)))))), ?_⟩
    have hLc := hL
    obtain ⟨lp, ls, lt, hd, ⟨rs, hrs, rrs⟩, _, _⟩ := hL
    have ndp : d ≠ p := hLc.nj hj
    have nlp : lp ≠ p := refs_ne (f := plO) (xs := L.places) ⟨rs, hrs, rrs⟩ hj
    have lrs : rs.length = L.places.length := rrs.1
    refine ⟨(show 0 ≤ sizeLine by decide), fun lf nlf => ?_⟩
    have e0 := same_upd (o := .lst []) nlf
    have mlf := ne_jar hj nlf
    have hlf : LstAt rowO (upd H lf (.lst [])) lf [] := LstAt.nil upd_same
    have j0 := hj.same e0
    generalize upd H lf (.lst []) = H1 at *
    refine ⟨_, rfl, d, _, rfl, .inl ⟨_, .inr "places", .inl (e0 _ _ hd), rfl, lk_p _ _ _ _⟩, lp, rfl, ⟨_, SqL.of (e0 _ _ hrs)⟩, ?_⟩
    refine for_it (walk_list (xs := rs.map V.ref)) (fun i σ H' => ∃ (s3 s4 s5 s6 : Option V) (rows : List (List Nat)), σ = [some (.ref p), some (.ref d), some (.ref lf), s3, s4, s5, s6] ∧ Chg p H H' ∧ JarAt H' p (N + 14 * i) ∧ LstAt rowO H' lf rows ∧ UseG L.days (L.places.take i) rows) ?_ ?_ ?_ ?_
    · exact ⟨_, _, _, _, [], rfl, Chg.of e0, j0.mono (by omega), hlf, ⟨rfl, fun j pl row h => by simp at h⟩⟩
    · rintro i σ H' _ ⟨_, _, _, _, _, _, c, _⟩
      exact SqL.of (c _ _ hrs nlp)
    · rintro i v σ H2 H3 hi ⟨s3, s4, s5, s6, rows, rfl, c, j, hf, us⟩ ⟨rfl, hv⟩
      obtain ⟨q1, pp, rfl, hq1, hpp, ho⟩ := rrs.at hv
      have hi4 : i < L.places.length := (List.getElem?_eq_some_iff.mp hpp).1
      have hop := c _ _ ho (jar_not hj ho (fun _ z => by unfold plO at z; cases z))
      have hpr := hr9 _ (List.mem_of_getElem? hpp)
      refine ⟨q1, _, rfl, SqT.of hop, rfl, _, _, rfl, _, _, rfl, _, _, rfl, rfl, ?_⟩
      obtain ⟨ds, hds, rds⟩ := id hf
      refine ⟨_, rfl, .inl ⟨rfl, _, SqL.of hds⟩, _, rfl, d, _, rfl, .inl ⟨_, .inr "days", .inl (c _ _ hd ndp), rfl, lk_d _ _ _ _⟩, _, rfl, by omega, by omega, fun D nD => ?_⟩
      have mD := ne_jar j nD
      have em : ((L.days : Int)).toNat = L.days := by omega
      rw [em]
      refine lc_it (walk_range (lo := 0) (n := L.days)) (Pv := fun k H' => Chg p H3 H' ∧ JarAt H' p (N + 14 * i + k) ∧ ∃ us : List Nat, H' D = some (.lst (us.map fun u : Nat => V.int u)) ∧ us.length = k ∧ ∀ u ∈ us, u ≤ pp.room) ⟨Chg.of (same_upd nD), (j.same (same_upd nD)).mono (by omega), [], upd_same, rfl, fun u h => absurd h List.not_mem_nil⟩ (fun _ _ _ _ => trivial) ?_ ?_
      · rintro k v G1 G2 hk ⟨c1, j1, us1, hD, lu, bu⟩ ⟨rfl, rfl⟩
        refine ⟨rfl, ?_⟩
        unfold tYes
        refine iteT ⟨_, rfl, _, rfl, _, _, rfl, rfl, p, _, _, rfl, ⟨by omega, by omega⟩, j1, by omega, fun z G3 hz c2 j2 => ?_⟩
        obtain ⟨zn, rfl⟩ := Int.eq_ofNat_of_zero_le hz.1
        have hD3 := c2 _ _ hD mD
        refine ⟨_, hD3, szl (by rw [List.length_map, lu]; omega), fun b o hb nb => ?_, ?_, us1 ++ [zn], ?_, by simp [lu], fun u hu2 => ?_⟩
        · rw [upd_ne (ne_of_none hb nD)]
          exact c2 _ _ (c1 _ _ hb nb) nb
        · obtain ⟨x1, x2, x3, hp, r1, r2, r3, r4⟩ := j2
          exact ⟨x1, x2, x3, by rw [upd_ne (Ne.symm mD)]; exact hp, r1, r2, r3, by omega⟩
        · rw [upd_same, List.map_append]
          rfl
        · rcases List.mem_append.mp hu2 with h | h
          · exact bu u h
          · rw [List.mem_singleton.mp h]; omega
      · rintro G1 ⟨c1, j1, us1, hD, lu, bu⟩
        have hf1 := hf.jar j mlf c1 rowO_nl
        obtain ⟨ds1, hds1, rds1⟩ := hf1
        refine ⟨D, _, rfl, .inl ⟨SqL.of hD, fun l nl => ?_⟩⟩
        obtain ⟨g0, g1, g2, g3⟩ := grow_jar (f := rowO) (x := us1) hds1 rds1 nlf (c.trans c1) j1 mlf nl rowO_nl
        refine ⟨lf, _, _, rfl, rfl, g0, szl (by rw [List.length_map, rds1.1, us.1, List.length_take]; omega), ?_⟩
        refine ⟨_, _, _, _, rows ++ [us1], rfl, g2, g3.mono (by omega), g1, us.snoc hpp lu bu⟩
    · rintro σ H2 ⟨s3, s4, s5, s6, rows, rfl, c, j, hf, us⟩
      rw [show L.places.take (rs.map V.ref).length = L.places from by rw [List.length_map, lrs]; exact List.take_length] at us
      obtain ⟨ds, hds, rds⟩ := hf
      refine ⟨_, rfl, lf, _, rfl, .inl ⟨SqL.of hds, fun l nl => ?_⟩⟩
      have e2 := same_upd (o := .tup (ds.map V.ref)) nl
      have ll : (rs.map V.ref).length ≤ 4 := by rw [List.length_map, lrs]; exact hp4
      exact q _ l rows (c.trans (Chg.of e2)) (chg_none c (ne_jar j nl) nl) ((j.same e2).mono (by omega)) ⟨ds, upd_same, rds.same e2⟩ us
theorem sc_l_units : FnScope ["_law_lore", "_law_use", "_law_meter", "_law_first", "_law_behind", "_law_found", "_law_place", "_law_row"] ["_law_lore", "_law_use", "_law_meter", "_law_first", "_law_behind"] (defScope sL_units) := ⟨rfl, rfl, rfl, by decide +kernel, rfl, by decide +kernel, by decide +kernel⟩
theorem ok_units {f : Addr} {fd : FuncData} (F : Fun K "_law_units" "_law_units" sL_units f fd) (T : Nm mg) (n_zip : mg "zip" = none) (n_sum : mg "sum" = none) (G_l_is_covered : GotF P w K mg base "_law_is_covered" 1 ["_law_meter", "_law_place"] spCov) : FnOk P w K mg base CX0 2 f fd ["_law_lore", "_law_use", "_law_meter", "_law_first", "_law_behind"] (spUnits) := by
  obtain ⟨f_l_is_covered, d_l_is_covered, G_l_is_covered, b_l_is_covered, m_l_is_covered, k_l_is_covered⟩ := G_l_is_covered
  refine F.ok sc_l_units (fun vs H Q E h => ?_) (fun cdv A outer s H vs Q E hr h => ?_)
  · obtain ⟨d, u, m, f, b, L, rows, rfl, hL, hU, us, hfb, q⟩ := h
    rfl
  · obtain ⟨d, u, m, f, b, L, rows, rfl, hL, hU, us, hfb, q⟩ := h
    have hr1 : Room 1 _ := hr.mono (by decide)
    have hu := hu_of hr
    refine ⟨_, (pss_cons (ps_set (i := 5) sc_l_units.nd rfl (.inl rfl) pe_int)
      (pss_cons (ps_for (g := (gTup K 2 (gCons (gName 6) (gCons (gName 7) gNil)))) PassesOwn.never rfl (Zj.pi_zipL (by rfl) n_zip (pa_cons (pe_dget hu (pv 0) pe_str (fun _ _ => rfl)) (pa_cons (pv 1) pa_nil))) (pg_tup rfl (pgs_cons (pg_name (i := 6) sc_l_units.nd rfl (.inl rfl)) (pgs_cons (pg_name (i := 7) sc_l_units.nd rfl (.inl rfl)) pgs_nil))) (pss_one (ps_if (pt_val (pe_call G_l_is_covered hr1 (by rfl) m_l_is_covered k_l_is_covered b_l_is_covered .nil pass0 (pa_cons (pv 2) (pa_cons (pv 6) pa_nil)))) (pss_one (ps_set (i := 5) sc_l_units.nd rfl (.inl rfl) (pe_op op_add (pv 5) (pe_callB (Sut.cr_sumT rfl) (by rfl) n_sum b_sum_ (pa_cons (pe_slice sl_tupA (pv 7) (po_some (pv 3)) (po_some (pv 4))) pa_nil))))) pss_nil)))
      (pss_one (ps_ret (pv 5))))), ?_⟩
    have hLc := hL
    obtain ⟨lp, ls, lt, hd, ⟨rs, hrs, rrs⟩, _, _⟩ := hL
    obtain ⟨as, ha, ras⟩ := hU
    have lrs : rs.length = L.places.length := rrs.1
    have las : as.length = rows.length := ras.1
    have lus := us.1
    refine ⟨_, rfl, d, _, rfl, .inl ⟨_, .inr "places", .inl hd, rfl, lk_p _ _ _ _⟩, _, rfl, lp, u, _, _, rfl, SqL.of hrs, SqT.of ha, ?_⟩
    refine for_it (Zj.walkL (xs := rs.map V.ref) (ys := as.map V.ref) (by rw [List.length_map, List.length_map]; omega)) (fun i σ H' => ∃ (s6 s7 : Option V), σ = [some (.ref d), some (.ref u), some (.str m), some (.int f), some (.int b), some (.int (unitsGo m f b (L.places.take i) (rows.take i) : Nat)), s6, s7] ∧ Same H H') ?_ ?_ ?_ ?_
    · exact ⟨_, _, rfl, Same.refl _⟩
    · rintro i σ H' _ ⟨_, _, _, e⟩
      exact ⟨SqL.of (e _ _ hrs), SqT.of (e _ _ ha)⟩
    · rintro i v σ H1 H2 hi ⟨s6, s7, rfl, e⟩ ⟨T1, v1, v2, rfl, nT, rfl, hv1, hv2⟩
      have hi' : i < L.places.length := by rw [List.length_map] at hi; omega
      obtain ⟨q1, pp, rfl, hq1, hpp, ho⟩ := rrs.at hv1
      obtain ⟨q2, row, rfl, hq2, hrow, ho2⟩ := ras.at hv2
      have eT := same_upd (o := .tup [V.ref q1, .ref q2]) nT
      have hoT := upd_same (H := H1) (a := T1) (o := .tup [V.ref q1, .ref q2])
      have e2 := e.trans eT
      have hop := e2 _ _ ho
      have hor := e2 _ _ ho2
      generalize upd H1 T1 (.tup [V.ref q1, .ref q2]) = H3 at *
      refine ⟨T1, _, rfl, SqT.of hoT, rfl, _, _, rfl, _, _, rfl, rfl, ?_⟩
      have tk : unitsGo m f b (L.places.take (i + 1)) (rows.take (i + 1)) = unitsGo m f b (L.places.take i) (rows.take i) + (if covB m pp = true then ((row.drop f).take (b - f)).sum else 0) := by
        rw [List.take_add_one, List.take_add_one, hpp, hrow]
        exact unitsGo_snoc (by rw [List.length_take, List.length_take]; omega)
      refine ⟨_, rfl, _, rfl, m, q1, pp, rfl, hop, _, rfl, ?_⟩
      cases hc : covB m pp with
      | false =>
        rw [hc, if_neg (by decide), Nat.add_zero] at tk
        exact iteF ⟨_, _, by rw [tk]; rfl, e2⟩
      | true =>
        rw [hc, if_pos rfl] at tk
        refine iteT ⟨_, rfl, _, rfl, _, rfl, f, rfl, _, rfl, b, rfl, ?_⟩
        refine Ot.slA_read hor fun l H4 e4 hl => ?_
        rw [cutV_ft _ f b hfb] at hl
        refine ⟨l, ((row.drop f).take (b - f)).map fun n : Nat => (n : Int), rfl, SqT.of ?_, _, _, rfl, rfl, some (.ref q1), some (.ref q2), ?_, e2.trans e4⟩
        · rw [hl, List.map_map, ← List.map_drop, ← List.map_take]
          rfl
        · rw [tk, Int.natCast_add, sum_cast]
          rfl
    · rintro σ H1 ⟨s6, s7, rfl, e⟩
      rw [show L.places.take (rs.map V.ref).length = L.places from by rw [List.length_map, lrs]; exact List.take_length, show rows.take (rs.map V.ref).length = rows from by rw [List.length_map, lrs, ← lus]; exact List.take_length]
      exact ⟨_, rfl, q _ e⟩

end
end Hs
namespace Hs
open PySem PySem.Spec PyProof.Rows L2 Am
def seO (s : Str × Nat) : HO := .tup [.str s.1, .int s.2]
theorem seO_nl : ∀ (r : Str × Nat) ys, seO r ≠ .lst ys := fun _ _ z => by unfold seO at z; cases z
def seatsOf (ms : List Str) (n : Nat) : List (Str × Nat) := ms.flatMap fun m => (List.range n).map fun j => (m, j + 1)
theorem seatsOf_snoc (ms : List Str) (m : Str) (n : Nat) : seatsOf (ms ++ [m]) n = seatsOf ms n ++ (List.range n).map fun j => (m, j + 1) := by
  unfold seatsOf
  rw [List.flatMap_append]
  simp
theorem seatsOf_len (n : Nat) : ∀ ms : List Str, (seatsOf ms n).length = ms.length * n
  | [] => by simp [seatsOf]
  | m :: ms => by
    have e : seatsOf (m :: ms) n = ((List.range n).map fun j => (m, j + 1)) ++ seatsOf ms n := rfl
    rw [e, List.length_append, seatsOf_len n ms, List.length_map, List.length_range, List.length_cons, Nat.succ_mul]
    omega
theorem nodup_len : ∀ {xs ys : List Str}, ys.Nodup → (∀ y ∈ ys, y ∈ xs) → ys.length ≤ xs.length := by
  intro xs
  intro ys
  induction ys generalizing xs with
  | nil => intro _ _; exact Nat.zero_le _
  | cons y ys ih =>
    intro h k
    obtain ⟨h1, h2⟩ := List.nodup_cons.mp h
    have hy := k y (by simp)
    have := ih (xs := xs.erase y) h2 fun z hz => (List.mem_erase_of_ne (by intro e; rw [e] at hz; exact h1 hz)).mpr (k z (by simp [hz]))
    rw [List.length_erase_of_mem hy] at this
    have := List.length_pos_of_mem hy
    rw [List.length_cons]
    omega
theorem asc_len {xs ys : List Str} (h : AscOf xs ys) : ys.length ≤ xs.length := nodup_len (h.pw.imp fun {a b} (l : ltS a b) (e : a = b) => ltS_irrefl b (by rw [e] at l; exact l)) fun y hy => (h.mem y).mp hy
theorem Refs.app {α : Type} {f : α → HO} {H : Hp} {rs ds : List Addr} {xs ys : List α} (h : Refs f H rs xs) (k : Refs f H ds ys) : Refs f H (rs ++ ds) (xs ++ ys) := by
  refine ⟨by simp [h.1, k.1], fun i q y a b => ?_⟩
  have l := h.1
  by_cases c : i < rs.length
  · rw [List.getElem?_append_left c] at a
    rw [List.getElem?_append_left (by omega)] at b
    exact h.2 i q y a b
  · rw [List.getElem?_append_right (by omega)] at a
    rw [List.getElem?_append_right (by omega), ← l] at b
    exact k.2 _ q y a b
/-- one's own list takes another one's items -/
theorem extend_same {α : Type} {f : α → HO} {H G : Hp} {t : Addr} {xs ys : List α} {rs ds : List Addr} (ht : G t = some (.lst (rs.map V.ref))) (hr : Refs f G rs xs) (hd : Refs f G ds ys) (nt : H t = none) (c : Same H G) (hf : ∀ x zs, f x ≠ .lst zs) :
    LstAt f (upd G t (.lst (rs.map V.ref ++ ds.map V.ref))) t (xs ++ ys) ∧ Same H (upd G t (.lst (rs.map V.ref ++ ds.map V.ref))) := by
  have k : Refs f (upd G t (.lst (rs.map V.ref ++ ds.map V.ref))) (rs ++ ds) (xs ++ ys) := by
    have z := hr.app hd
    refine ⟨z.1, fun i q y a b => ?_⟩
    have e := z.2 i q y a b
    refine (upd_ne fun w => ?_).trans e
    rw [w, ht] at e
    exact hf _ _ (Option.some.inj e).symm
  refine ⟨⟨rs ++ ds, by rw [upd_same, List.map_append], k⟩, fun b u e => ?_⟩
  rw [upd_ne (ne_of_none e nt)]
  exact c _ _ e
def spSeats : Sp := fun vs H Q _ => ∃ (d : Addr) (L : Lore), vs = [.ref d] ∧ LoreAt H d L ∧ Small L ∧ L.days ≤ 14 ∧
  ∀ (H' : Hp) (t : Addr) (ys : List Str), Same H H' → H t = none → AscOf (metersOf L) ys → LstAt seO H' t (seatsOf ys L.days) → Q (.ref t) H'
section
variable {P : Program} {w : World} {K : PySem.W.Frag} {mg : Str → Option Value} {base : Heap}
theorem sc_l_seats : FnScope ["_law_lore", "_law_found", "_law_meter", "_law_morning"] ["_law_lore"] (defScope sL_seats) := ⟨rfl, rfl, rfl, by decide +kernel, rfl, by decide +kernel, by decide +kernel⟩
theorem ok_seats {f : Addr} {fd : FuncData} (F : Fun K "_law_seats" "_law_seats" sL_seats f fd) (T : Nm mg) (G_l_meters : GotF P w K mg base "_law_meters" 1 ["_law_lore"] spMeters) (G_l_ordered : GotF P w K mg base "_law_ordered" 1 ["_law_rows"] spOrd) : FnOk P w K mg base CX0 2 f fd ["_law_lore"] (spSeats) := by
  obtain ⟨f_l_meters, d_l_meters, G_l_meters, b_l_meters, m_l_meters, k_l_meters⟩ := G_l_meters
  obtain ⟨f_l_ordered, d_l_ordered, G_l_ordered, b_l_ordered, m_l_ordered, k_l_ordered⟩ := G_l_ordered
  refine F.ok sc_l_seats (fun vs H Q E h => ?_) (fun cdv A outer s H vs Q E hr h => ?_)
  · obtain ⟨d, L, rfl, hL, sm, dm, q⟩ := h
    rfl
  · obtain ⟨d, L, rfl, hL, sm, dm, q⟩ := h
    have hr1 : Room 1 _ := hr.mono (by decide)
    have hu := hu_of hr
    refine ⟨_, (pss_cons (ps_set (i := 1) sc_l_seats.nd rfl (.inl rfl) (pe_lst pa_nil))
      (pss_cons (ps_for (g := gName 2) PassesOwn.never rfl (pi_list (pe_call G_l_ordered hr1 (by rfl) m_l_ordered k_l_ordered b_l_ordered .nil pass0 (pa_cons (pe_call G_l_meters hr1 (by rfl) m_l_meters k_l_meters b_l_meters .nil pass0 (pa_cons (pv 0) pa_nil)) pa_nil))) (pg_name (i := 2) sc_l_seats.nd rfl (.inr rfl)) (pss_one (ps_expr (pe_bm PySem.F.plainAttrs_list PySem.F.slot_list_extend PySem.F.type_list_extend mt_extend (pv 1) (pa_cons (pe_lc (own := [("_law_morning", 3)]) (g := gName 3) (tt := tYes) rfl sc_l_seats.nd (pi_range2 (by rfl) T.range (pa_cons pe_int (pa_cons (pe_op op_add (pe_dget hu (pv 0) pe_str (fun _ _ => rfl)) pe_int) pa_nil)))
          (blkOk_by (N := ["_law_lore", "_law_found", "_law_meter", "_law_morning"]) (sc := defScope sL_seats) (by decide +kernel)) (fun _ _ _ _ _ => (pg_name (i := 3) sc_l_seats.nd rfl (.inl rfl))) (fun _ _ _ _ _ => pts_nil) (fun _ _ _ _ _ => (pe_tup (pa_cons (pv 2) (pa_cons (pv 3) pa_nil))))) pa_nil)))))
      (pss_one (ps_ret (pv 1))))), ?_⟩
    have hLc := hL
    obtain ⟨lp, ls, lt, hd, _⟩ := hL
    have ml : (metersOf L).length ≤ 5 := by
      show (((L.places.filter (·.inner)).map (·.name)).length + 1) ≤ 5
      rw [List.length_map]
      have := List.length_filter_le (·.inner) L.places
      have := sm.1
      omega
    refine ⟨(show 0 ≤ sizeLine by decide), fun lf nlf => ?_⟩
    have e0 := same_upd (o := .lst []) nlf
    have hf0 : LstAt seO (upd H lf (.lst [])) lf [] := LstAt.nil upd_same
    generalize upd H lf (.lst []) = H1 at *
    refine ⟨_, rfl, d, L, rfl, hLc.same e0, sm, fun H2 t2 e2 nt2 h2 => ?_⟩
    refine ⟨t2, _, rfl, h2, by omega, fun H3 t3 ys e3 nt3 h3 yl asc => ?_⟩
    have e03 := (e0.trans e2).trans e3
    refine ⟨t3, rfl, ⟨_, SqL.of h3⟩, ?_⟩
    have nlt3 : t3 ≠ lf := fun z => by
      obtain ⟨_, a, _⟩ := (hf0.same e2).same e3
      obtain ⟨_, b, _⟩ := (hf0.same e2)
      rw [z] at nt3
      rw [nt3] at b
      cases b
    have yl5 : ys.length ≤ 5 := by
      have := asc.pw
      have h := asc_len asc
      omega
    refine for_it (walk_list (xs := ys.map V.str)) (fun i σ H' => ∃ (s2 s3 : Option V), σ = [some (.ref d), some (.ref lf), s2, s3] ∧ Same H H' ∧ H' t3 = some (.lst (ys.map V.str)) ∧ LstAt seO H' lf (seatsOf (ys.take i) L.days)) ?_ ?_ ?_ ?_
    · exact ⟨_, _, rfl, e03, h3, (hf0.same e2).same e3⟩
    · rintro i σ H' _ ⟨_, _, _, _, h, _⟩
      exact SqL.of h
    · rintro i v σ H4 H5 hi ⟨s2, s3, rfl, e, ht, hf⟩ ⟨rfl, hv⟩
      obtain ⟨hi', rfl⟩ := getE hv
      have et := take_snoc hi'
      generalize ys[i] = m at *
      obtain ⟨rs, hl, hrs⟩ := id hf
      refine ⟨_, rfl, .inl ⟨rfl, _, SqL.of hl⟩, _, rfl, d, _, rfl, .inl ⟨_, .inr "days", .inl (e _ _ hd), rfl, lk_d _ _ _ _⟩, _, _, rfl, rfl, _, _, rfl, ⟨by omega, by omega, by omega, by omega⟩, fun D nD => ?_⟩
      rw [show ((L.days : Int) + 1 - 1).toNat = L.days by omega]
      refine lc_it (walk_range (lo := 1) (n := L.days)) (Pv := fun k H' => Same H5 H' ∧ LstAt seO H' D ((List.range k).map fun j => (m, j + 1))) ⟨same_upd nD, LstAt.nil upd_same⟩ (fun _ _ _ _ => trivial) ?_ ?_
      · rintro k v G1 G2 hk ⟨f1, hD⟩ ⟨rfl, rfl⟩
        refine ⟨rfl, ?_⟩
        unfold tYes
        refine iteT ⟨_, rfl, _, rfl, (show 2 ≤ sizeLine by decide), fun T nT => ?_⟩
        obtain ⟨ds, hds, rds⟩ := hD
        obtain ⟨g0, g1, g2⟩ := grow_same (f := seO) (x := (m, k + 1)) hds rds nD f1 nT seO_nl
        have eq : (.tup [V.str m, .int (1 + (k : Int))] : HO) = seO (m, k + 1) := by
          unfold seO
          rw [show (1 : Int) + (k : Int) = ((k + 1 : Nat) : Int) by omega]
        rw [eq]
        refine ⟨ds.map V.ref, g0, szl (by rw [List.length_map, rds.1, List.length_map, List.length_range]; omega), g2, ?_⟩
        rw [List.range_succ, List.map_append]
        exact g1
      · rintro G1 ⟨f1, ds, hds, rds⟩
        have hl1 := f1 _ _ hl
        have e6 := e.trans f1
        obtain ⟨g1, g2⟩ := extend_same hl1 (hrs.same f1) rds nlf e6 seO_nl
        refine ⟨lf, D, _, _, rfl, rfl, hl1, hds, szl' ?_, ?_⟩
        · rw [List.length_map, List.length_map, rds.1, hrs.1, seatsOf_len, List.length_map, List.length_range, List.length_take]
          have : min i ys.length * L.days ≤ 5 * 14 := Nat.mul_le_mul (by omega) dm
          omega
        · refine ⟨_, _, rfl, g2, ?_, ?_⟩
          · rw [upd_ne nlt3]
            exact f1 _ _ ht
          · rw [et, seatsOf_snoc]
            exact g1
    · rintro σ H4 ⟨s2, s3, rfl, e, ht, hf⟩
      rw [show ys.take (ys.map V.str).length = ys from by rw [List.length_map]; exact List.take_length] at hf
      exact ⟨_, rfl, q _ lf ys e nlf asc hf⟩

end
end Hs
namespace Hs
open PySem PySem.Spec PyProof.Rows L2 Am
def seK (s : Str × Nat) : List Key := [.inr s.1, .inl s.2]
theorem seats_pw {n : Nat} : ∀ {ys : List Str}, ys.Pairwise ltS → (seatsOf ys n).Pairwise fun a b => Ot.lexK (seK a) (seK b) = true
  | [], _ => List.Pairwise.nil
  | m :: ms, h => by
    obtain ⟨h1, h2⟩ := List.pairwise_cons.mp h
    have e : seatsOf (m :: ms) n = ((List.range n).map fun j => (m, j + 1)) ++ seatsOf ms n := rfl
    rw [e, List.pairwise_append]
    refine ⟨?_, seats_pw h2, ?_⟩
    · rw [List.pairwise_map]
      refine List.pairwise_lt_range.imp ?_
      intro a b l
      show (if (Sum.inr m : Key) = Sum.inr m then (if (Sum.inl ((a + 1 : Nat) : Int) : Key) = Sum.inl ((b + 1 : Nat) : Int) then Ot.lexK [] [] else Ot.kLt (Sum.inl ((a + 1 : Nat) : Int)) (Sum.inl ((b + 1 : Nat) : Int))) else Ot.kLt (Sum.inr m) (Sum.inr m)) = true
      rw [if_pos rfl, if_neg (fun z => by have := Sum.inl.inj z; omega)]
      exact decide_eq_true (by omega)
    · intro a ha b hb
      obtain ⟨j, _, rfl⟩ := List.mem_map.mp ha
      obtain ⟨m2, hm2, hb2⟩ := List.mem_flatMap.mp hb
      obtain ⟨j2, _, rfl⟩ := List.mem_map.mp hb2
      have l := h1 m2 hm2
      show (if (Sum.inr m : Key) = Sum.inr m2 then _ else Ot.kLt (Sum.inr m) (Sum.inr m2)) = true
      rw [if_neg (fun z => by rw [Sum.inr.inj z] at l; exact ltS_irrefl _ l)]
      exact decide_eq_true l
theorem mem_seats {n : Nat} {ys : List Str} {s : Str × Nat} (h : s ∈ seatsOf ys n) : s.1 ∈ ys ∧ 1 ≤ s.2 ∧ s.2 ≤ n := by
  obtain ⟨m, hm, h2⟩ := List.mem_flatMap.mp h
  obtain ⟨j, hj, rfl⟩ := List.mem_map.mp h2
  have := List.mem_range.mp hj
  exact ⟨hm, by show 1 ≤ j + 1; omega, by show j + 1 ≤ n; omega⟩
theorem sum_le' (k : Nat) : ∀ xs : List Nat, (∀ x ∈ xs, x ≤ k) → xs.sum ≤ xs.length * k
  | [], _ => by simp
  | x :: xs, h => by
    have := sum_le' k xs fun y hy => h y (by simp [hy])
    have h0 := h x (by simp)
    rw [List.sum_cons, List.length_cons, Nat.succ_mul]
    omega
theorem UseG.tail {n : Nat} {p : Pl} {ps : List Pl} {r : List Nat} {rs : List (List Nat)} (h : UseG n (p :: ps) (r :: rs)) : UseG n ps rs := ⟨by simpa using h.1, fun j q w a b => h.2 (j + 1) q w (by simpa using a) (by simpa using b)⟩
theorem units_le {m : Str} {f b n : Nat} : ∀ {pls : List Pl} {rows : List (List Nat)}, (∀ q ∈ pls, q.room ≤ 9) → UseG n pls rows → unitsGo m f b pls rows ≤ pls.length * (n * 9)
  | [], _, _, _ => by simp [unitsGo]
  | _ :: _, [], _, _ => by simp [unitsGo]
  | p :: ps, r :: rs, h, u => by
    have ih := units_le (m := m) (f := f) (b := b) (fun q hq => h q (by simp [hq])) u.tail
    obtain ⟨l, bd⟩ := u.2 0 p r rfl rfl
    have hp := h p (by simp)
    have s : ((r.drop f).take (b - f)).sum ≤ n * 9 := by
      refine Nat.le_trans (sum_le' 9 _ fun x hx => ?_) (Nat.mul_le_mul ?_ (Nat.le_refl 9))
      · have := bd x (List.mem_of_mem_drop (List.mem_of_mem_take hx))
        omega
      · rw [List.length_take, List.length_drop]
        omega
    have e : unitsGo m f b (p :: ps) (r :: rs) = (if covB m p = true then ((r.drop f).take (b - f)).sum else 0) + unitsGo m f b ps rs := rfl
    rw [e, List.length_cons, Nat.succ_mul]
    split <;> omega
/-- rows that a use shows -/
structure RdOk (L : Lore) (rows : List (List Nat)) (rs : List Rw) : Prop where
  ok : RowsOk L rs
  l : rs.length ≤ 70
  n : ∀ r ∈ rs, r.n = (unitsGo r.m 0 r.t L.places rows : Nat)
def spRead : Sp := fun vs H Q _ => ∃ (p d u : Addr) (o : Int) (L : Lore) (rows : List (List Nat)) (N : Int), vs = [.ref p, .ref d, .ref u, .int o] ∧ LoreAt H d L ∧ TupAt rowO H u rows ∧ UseG L.days L.places rows ∧ Small L ∧ (1 ≤ L.days ∧ L.days ≤ 14) ∧ (∀ q ∈ L.places, q.room ≤ 9) ∧ JarAt H p N ∧ N ≤ 8800 ∧
  ∀ (H' : Hp) (t : Addr) (rs : List Rw), Chg p H H' → H t = none → JarAt H' p (N + 70) → RowsAt H' t rs → RdOk L rows rs → Q (.ref t) H'
section
variable {P : Program} {w : World} {K : PySem.W.Frag} {mg : Str → Option Value} {base : Heap}
theorem sc_l_read : FnScope ["_law_jar_here", "_law_lore", "_law_use", "_law_odds", "_law_found", "_law_meter", "_law_morning"] ["_law_jar_here", "_law_lore", "_law_use", "_law_odds"] (defScope sL_read) := ⟨rfl, rfl, rfl, by decide +kernel, rfl, by decide +kernel, by decide +kernel⟩
theorem ok_read {f : Addr} {fd : FuncData} (F : Fun K "_law_read" "_law_read" sL_read f fd) (T : Nm mg) (n_tuple : mg "tuple" = none) (G_l_seats : GotF P w K mg base "_law_seats" 2 ["_law_lore"] spSeats) (G_l_take : GotF P w K mg base "_law_take" 1 ["_law_jar_here", "_law_upto"] Am.spTake) (G_l_units : GotF P w K mg base "_law_units" 2 ["_law_lore", "_law_use", "_law_meter", "_law_first", "_law_behind"] spUnits) : FnOk P w K mg base CX0 3 f fd ["_law_jar_here", "_law_lore", "_law_use", "_law_odds"] (spRead) := by
  obtain ⟨f_l_seats, d_l_seats, G_l_seats, b_l_seats, m_l_seats, k_l_seats⟩ := G_l_seats
  obtain ⟨f_l_take, d_l_take, G_l_take, b_l_take, m_l_take, k_l_take⟩ := G_l_take
  obtain ⟨f_l_units, d_l_units, G_l_units, b_l_units, m_l_units, k_l_units⟩ := G_l_units
  refine F.ok sc_l_read (fun vs H Q E h => ?_) (fun cdv A outer s H vs Q E hr h => ?_)
  · obtain ⟨p, d, u, o, L, rows, N, rfl, hL, hU, us, sm, dm, hr9, hj, hN, q⟩ := h
    rfl
  · obtain ⟨p, d, u, o, L, rows, N, rfl, hL, hU, us, sm, dm, hr9, hj, hN, q⟩ := h
    have hr1 : Room 1 _ := hr.mono (by decide)
    have hr2 : Room 2 _ := hr.mono (by decide)
    have b_tuple_ : bootBuiltins "tuple" = some (.type "tuple") := by decide +kernel
    refine ⟨_, (pss_cons (ps_set (i := 4) sc_l_read.nd rfl (.inl rfl) (pe_lst pa_nil))
      (pss_cons (ps_for (g := (gTup K 2 (gCons (gName 5) (gCons (gName 6) gNil)))) PassesOwn.never rfl (pi_list (pe_call G_l_seats hr2 (by rfl) m_l_seats k_l_seats b_l_seats .nil pass0 (pa_cons (pv 1) pa_nil))) (pg_tup rfl (pgs_cons (pg_name (i := 5) sc_l_read.nd rfl (.inl rfl)) (pgs_cons (pg_name (i := 6) sc_l_read.nd rfl (.inl rfl)) pgs_nil))) (pss_one (ps_if (pt_cmpR op_lt (pe_call G_l_take hr1 (by rfl) m_l_take k_l_take b_l_take .nil pass0 (pa_cons (pv 0) (pa_cons pe_int pa_nil))) (pv 3) (nomark _)) (pss_one (ps_expr (pe_bm PySem.F.plainAttrs_list PySem.F.slot_list_append PySem.F.type_list_append mt_append (pv 4) (pa_cons (pe_tup (pa_cons (pv 5) (pa_cons (pv 6) (pa_cons (pe_call G_l_units hr2 (by rfl) m_l_units k_l_units b_l_units .nil pass0 (pa_cons (pv 1) (pa_cons (pv 2) (pa_cons (pv 5) (pa_cons pe_int (pa_cons (pv 6) pa_nil)))))) pa_nil)))) pa_nil)))) pss_nil)))
      (pss_one (ps_ret (pe_callTy (call_tuple_of) (by rfl) n_tuple b_tuple_ (pa_cons (pv 4) pa_nil)))))), ?_⟩
    refine ⟨(show 0 ≤ sizeLine by decide), fun lf nlf => ?_⟩
    have e0 := same_upd (o := .lst []) nlf
    have mlf := ne_jar hj nlf
    have hf0 : LstAt rwO (upd H lf (.lst [])) lf [] := LstAt.nil upd_same
    have j0 := hj.same e0
    generalize upd H lf (.lst []) = H1 at *
    refine ⟨_, rfl, d, L, rfl, hL.same e0, sm, dm.2, fun H2 t2 ys e2 nt2 asc h2 => ?_⟩
    obtain ⟨ss, hs, rss⟩ := h2
    have e02 := e0.trans e2
    have nt2p : t2 ≠ p := ne_jar j0 nt2
    have nt2f : t2 ≠ lf := fun z => by
      obtain ⟨_, a, _⟩ := hf0
      rw [z, a] at nt2
      cases nt2
    have j2 := j0.same e2
    have lss : ss.length = (seatsOf ys L.days).length := rss.1
    have ln70 : (seatsOf ys L.days).length ≤ 70 := by
      have h1 := asc_len asc
      have ml : (metersOf L).length ≤ 5 := by
        show (((L.places.filter (·.inner)).map (·.name)).length + 1) ≤ 5
        rw [List.length_map]
        have := List.length_filter_le (·.inner) L.places
        have := sm.1
        omega
      rw [seatsOf_len]
      have : ys.length * L.days ≤ 5 * 14 := Nat.mul_le_mul (by omega) dm.2
      omega
    refine ⟨t2, rfl, ⟨_, SqL.of hs⟩, ?_⟩
    refine for_it (walk_list (xs := ss.map V.ref)) (fun i σ H' => ∃ (s5 s6 : Option V) (rs : List Rw), σ = [some (.ref p), some (.ref d), some (.ref u), some (.int o), some (.ref lf), s5, s6] ∧ Fr [p, lf] H2 H' ∧ JarAt H' p (N + i) ∧ LstAt rwO H' lf rs ∧ (rs.map fun r => (r.m, r.t)).Sublist ((seatsOf ys L.days).take i) ∧ ∀ r ∈ rs, r.n = (unitsGo r.m 0 r.t L.places rows : Nat)) ?_ ?_ ?_ ?_
    · exact ⟨_, _, [], rfl, Fr.same (Same.refl _), j2.mono (by omega), hf0.same e2, List.nil_sublist _, fun r h => absurd h List.not_mem_nil⟩
    · rintro i σ H' _ ⟨_, _, _, _, c, _⟩
      exact SqL.of (c _ _ hs (by simp [nt2p, nt2f]))
    · rintro i v σ H3 H4 hi ⟨s5, s6, rs, rfl, c, j, hf, sub, hn⟩ ⟨rfl, hv⟩
      obtain ⟨q1, se, rfl, hq1, hse, ho⟩ := rss.at hv
      have hi' : i < (seatsOf ys L.days).length := (List.getElem?_eq_some_iff.mp hse).1
      have et := take_snoc hi'
      rw [show (seatsOf ys L.days)[i] = se from by rw [List.getElem?_eq_getElem hi'] at hse; exact Option.some.inj hse] at et
      have n1 : q1 ≠ p := jar_not j2 ho (fun _ z => by unfold seO at z; cases z)
      have n2 : q1 ≠ lf := fun z => by
        obtain ⟨_, a, _⟩ := hf0.same e2
        rw [z, a] at ho
        unfold seO at ho
        cases ho
      have hop := c _ _ ho (by simp [n1, n2])
      refine ⟨q1, _, rfl, SqT.of hop, rfl, _, _, rfl, _, _, rfl, rfl, ?_⟩
      refine ⟨_, rfl, p, 8, _, rfl, ⟨by decide, by decide⟩, j, by omega, fun z H5 hz c5 j5 => ⟨_, rfl, _, _, rfl, rfl, _, rfl, ?_⟩⟩
      have hf5 := hf.jar j mlf c5 rwO_nl
      have c25 := c.trans ((Chg.fr c5).mono (ns := [p, lf]) (by simp))
      cases decide (z < o) with
      | false => exact iteF ⟨_, _, rs, rfl, c25, j5.mono (by omega), hf5, by rw [et]; exact sub.trans (List.sublist_append_left _ _), hn⟩
      | true =>
        obtain ⟨ds, hds, rds⟩ := id hf5
        have toH : ∀ {G : Hp}, Fr [p, lf] H2 G → Chg p H G := fun h b u e nb => h b u (e02 _ _ e) (by
          have := ne_of_none e nlf
          simp [nb, this])
        have cH := toH c25
        refine iteT ⟨_, rfl, .inl ⟨rfl, _, SqL.of hds⟩, _, rfl, _, rfl, _, rfl, _, rfl, _, rfl, _, rfl, d, u, se.1, 0, se.2, L, rows, rfl, hL.chg hj cH, hU.chg hj cH rowO_nl, us, Nat.zero_le _, fun H6 e6 => ⟨(show 3 ≤ sizeLine by decide), fun D nD => ?_⟩⟩
        have hds6 := e6 _ _ hds
        obtain ⟨g1, g2⟩ := LstAt.grow (f := rwO) (x := (⟨se.1, se.2, (unitsGo se.1 0 se.2 L.places rows : Nat)⟩ : Rw)) hds6 (rds.same e6) nD rwO_nl
        have rl : rs.length ≤ i := by
          have := sub.length_le
          rw [List.length_map, List.length_take] at this
          omega
        refine ⟨lf, _, _, rfl, rfl, (upd_ne (ne_of_none hds6 nD)).trans hds6, szl (by rw [List.length_map, rds.1]; omega), some (.str se.1), some (.int se.2), rs ++ [(⟨se.1, se.2, (unitsGo se.1 0 se.2 L.places rows : Nat)⟩ : Rw)], rfl, (c25.trans (Fr.same e6)).trans (g2.mono (by simp)), ?_, g1, ?_, ?_⟩
        · obtain ⟨x1, x2, x3, hp, r1, r2, r3, r4⟩ := j5.same e6
          exact ⟨x1, x2, x3, g2 _ _ hp (by simpa using mlf.symm), r1, r2, r3, by omega⟩
        · rw [et, List.map_append]
          exact sub.append (List.Sublist.refl _)
        · intro r h
          rcases List.mem_append.mp h with h | h
          · exact hn r h
          · rw [List.mem_singleton.mp h]
    · rintro σ H3 ⟨s5, s6, rs, rfl, c, j, hf, sub, hn⟩
      rw [show (seatsOf ys L.days).take (ss.map V.ref).length = seatsOf ys L.days from by rw [List.length_map, lss]; exact List.take_length] at sub
      obtain ⟨ds, hds, rds⟩ := hf
      refine ⟨_, rfl, lf, _, rfl, .inl ⟨SqL.of hds, fun l nl => ?_⟩⟩
      have e2 := same_upd (o := .tup (ds.map V.ref)) nl
      have toH : Chg p H H3 := fun b u e nb => c b u (e02 _ _ e) (by
        have := ne_of_none e nlf
        simp [nb, this])
      have lm : (ss.map V.ref).length ≤ 70 := by rw [List.length_map, lss]; exact ln70
      refine q _ l rs (toH.trans (Chg.of e2)) (chg_none toH (ne_jar j nl) nl) ((j.same e2).mono (by omega)) ⟨ds, upd_same, rds.same e2⟩ ⟨⟨fun r h => ?_, ?_⟩, ?_, hn⟩
      · have hs := sub.subset (List.mem_map_of_mem h)
        obtain ⟨a1, a2⟩ := mem_seats hs
        refine ⟨(asc.mem _).mp a1, a2, ?_⟩
        have := units_le (m := r.m) (f := 0) (b := r.t) hr9 us
        have h1 : L.places.length * (L.days * 9) ≤ 4 * (14 * 9) := Nat.mul_le_mul sm.1 (Nat.mul_le_mul dm.2 (Nat.le_refl 9))
        rw [hn r h]
        omega
      · rw [Ot.climb_pw, show rs.map seatK = (rs.map fun r => (r.m, r.t)).map seK from by rw [List.map_map]; rfl, List.pairwise_map]
        exact (seats_pw asc.pw).sublist sub
      · have := sub.length_le
        rw [List.length_map] at this
        omega

end
end Hs
/-! t == () and t != () for a tuple of anything -/
namespace Ot
open PySem PySem.Spec PyProof.Rows L2
def rNeT0 (K : PySem.W.Frag) : R2 := fun x y H Q => ∃ a b xs, x = .ref a ∧ y = .ref b ∧ SqT K H a xs ∧ SqT K H b [] ∧ Q (.bl (decide (xs ≠ []))) H
theorem op_neT0 {X : Cx} (hu : X.A.units < cLine) : OpR X (compareOp .NotEq) (rNeT0 X.K) := by
  intro pins s σ H x y v u Q I rx ry h
  obtain ⟨a, b, xs, rfl, rfl, ha, hb, q⟩ := h
  cases rx
  cases ry
  obtain ⟨its, r1, p1, _⟩ := I.tuple ha
  obtain ⟨its2, r2, p2, _⟩ := I.tuple hb
  cases r2
  have key := PySem.SeqAt.RcNeAt.tuples (A := X.A) (e := fun _ => true) p1 p2 hu (fun j h1 h2 => absurd h2 (by simp))
  have e : (!((List.range (min its.toArray.size ([] : List Value).toArray.size)).all (fun _ => true) && its.toArray.size == ([] : List Value).toArray.size)) = decide (xs ≠ []) := by
    have hl := r1.length
    cases xs with
    | nil =>
      cases its with
      | nil => rfl
      | cons _ _ => cases hl
    | cons x xs =>
      cases its with
      | nil => cases hl
      | cons y ys => simp
  rw [e] at key
  exact key _ _ _ _ ⟨.bl _, H, I, rfl, q⟩
def rEqT0 (K : PySem.W.Frag) : R2 := fun x y H Q => ∃ a b xs, x = .ref a ∧ y = .ref b ∧ SqT K H a xs ∧ SqT K H b [] ∧ Q (.bl (decide (xs = []))) H
theorem op_eqT0 {X : Cx} (hu : X.A.units < cLine) : OpR X (compareOp .Eq) (rEqT0 X.K) := by
  intro pins s σ H x y v u Q I rx ry h
  obtain ⟨a, b, xs, rfl, rfl, ha, hb, q⟩ := h
  cases rx
  cases ry
  obtain ⟨its, r1, p1, _⟩ := I.tuple ha
  obtain ⟨its2, r2, p2, _⟩ := I.tuple hb
  cases r2
  have key := PySem.SeqAt.RcAt.tuples (A := X.A) (e := fun _ => true) p1 p2 hu (fun j h1 h2 => absurd h2 (by simp))
  have e : ((List.range (min its.toArray.size ([] : List Value).toArray.size)).all (fun _ => true) && its.toArray.size == ([] : List Value).toArray.size) = decide (xs = []) := by
    have hl := r1.length
    cases xs with
    | nil =>
      cases its with
      | nil => rfl
      | cons _ _ => cases hl
    | cons x xs =>
      cases its with
      | nil => cases hl
      | cons y ys => simp
  first | rw [e] at key | skip
  exact key _ _ _ _ ⟨.bl _, H, I, rfl, q⟩
end Ot
namespace Hs
open PySem PySem.Spec PyProof.Rows L2 Am
theorem Refs.take {α : Type} {f : α → HO} {H : Hp} {rs : List Addr} {xs : List α} (h : Refs f H rs xs) (k : Nat) : Refs f H (rs.take k) (xs.take k) := by
  refine ⟨by simp [h.1], fun i q y a b => ?_⟩
  rw [List.getElem?_take] at a b
  split at a
  · rename_i c
    rw [if_pos c] at b
    exact h.2 i q y a b
  · cases a
theorem Refs.drop {α : Type} {f : α → HO} {H : Hp} {rs : List Addr} {xs : List α} (h : Refs f H rs xs) (k : Nat) : Refs f H (rs.drop k) (xs.drop k) := by
  refine ⟨by simp [h.1], fun i q y a b => ?_⟩
  rw [List.getElem?_drop] at a b
  exact h.2 _ q y a b
theorem seats_set {rs : List Rw} {k : Nat} {o : Int} (h : k < rs.length) : (rs.take k ++ ⟨rs[k].m, rs[k].t, o⟩ :: rs.drop (k + 1)).map seatK = rs.map seatK := by
  have e : rs.map seatK = (rs.take k ++ rs[k] :: rs.drop (k + 1)).map seatK := by rw [← List.drop_eq_getElem_cons h, List.take_append_drop]
  rw [e, List.map_append, List.map_append, List.map_cons, List.map_cons]
  rfl
def spMis : Sp := fun vs H Q _ => ∃ (p a : Addr) (L : Lore) (rs : List Rw) (N : Int), vs = [.ref p, .ref a] ∧ RowsAt H a rs ∧ RowsOk L rs ∧ rs.length ≤ 70 ∧ JarAt H p N ∧ N ≤ 9900 ∧
  ∀ (H' : Hp) (t : Addr) (rs' : List Rw), Chg p H H' → JarAt H' p (N + 2) → RowsAt H' t rs' → RowsOk L rs' → rs'.map seatK = rs.map seatK → Q (.ref t) H'
section
variable {P : Program} {w : World} {K : PySem.W.Frag} {mg : Str → Option Value} {base : Heap}
theorem sc_l_misread : FnScope ["_law_jar_here", "_law_rows", "_law_at", "_law_meter", "_law_morning", "_law_number", "_law_other"] ["_law_jar_here", "_law_rows"] (defScope sL_misread) := ⟨rfl, rfl, rfl, by decide +kernel, rfl, by decide +kernel, by decide +kernel⟩
theorem ok_misread {f : Addr} {fd : FuncData} (F : Fun K "_law_misread" "_law_misread" sL_misread f fd) (T : Nm mg) (G_l_take : GotF P w K mg base "_law_take" 1 ["_law_jar_here", "_law_upto"] Am.spTake) (G_l_of : GotF P w K mg base "_law_of" 2 ["_law_jar_here", "_law_some"] spOf) : FnOk P w K mg base CX0 3 f fd ["_law_jar_here", "_law_rows"] (spMis) := by
  obtain ⟨f_l_take, d_l_take, G_l_take, b_l_take, m_l_take, k_l_take⟩ := G_l_take
  obtain ⟨f_l_of, d_l_of, G_l_of, b_l_of, m_l_of, k_l_of⟩ := G_l_of
  refine F.ok sc_l_misread (fun vs H Q E h => ?_) (fun cdv A outer s H vs Q E hr h => ?_)
  · obtain ⟨p, a, L, rs, N, rfl, hHr0, ok, l70, hj, hN, q⟩ := h
    rfl
  · obtain ⟨p, a, L, rs, N, rfl, hHr0, ok, l70, hj, hN, q⟩ := h
    have hr1 : Room 1 _ := hr.mono (by decide)
    have hr2 : Room 2 _ := hr.mono (by decide)
    have hu := hu_of hr
    have hu0 := Nat.lt_of_succ_lt hu
    refine ⟨_, (pss_cons (ps_if (pt_cmpR (r := Ot.rEqT0 K) (by exact Ot.op_eqT0 hu0) (pv 1) (pe_tup pa_nil) (nomark _)) (pss_one (ps_ret (pv 1))) pss_nil)
      (pss_cons (ps_set (i := 2) sc_l_misread.nd rfl (.inl rfl) (pe_call G_l_take hr1 (by rfl) m_l_take k_l_take b_l_take .nil pass0 (pa_cons (pv 0) (pa_cons (pe_callB call_len_seq (by rfl) T.len PySem.boot_len (pa_cons (pv 1) pa_nil)) pa_nil))))
      (pss_cons (ps_asg (g := (gTup K 3 (gCons (gName 3) (gCons (gName 4) (gCons (gName 5) gNil))))) (pe_ix ix_tup (pv 1) (pv 2) (fun _ _ => rfl)) (pg_tup rfl (pgs_cons (pg_name (i := 3) sc_l_misread.nd rfl (.inl rfl)) (pgs_cons (pg_name (i := 4) sc_l_misread.nd rfl (.inl rfl)) (pgs_cons (pg_name (i := 5) sc_l_misread.nd rfl (.inl rfl)) pgs_nil)))))
      (pss_cons (ps_set (i := 6) sc_l_misread.nd rfl (.inl rfl) (pe_callB (call_max2 rfl) (by rfl) T.max b_max (pa_cons pe_int (pa_cons (pe_callB (call_min2 rfl) (by rfl) T.min b_min (pa_cons pe_int (pa_cons (pe_op op_add (pv 5) (pe_call G_l_of hr2 (by rfl) m_l_of k_l_of b_l_of .nil pass0 (pa_cons (pv 0) (pa_cons (pe_lst (pa_cons pe_int (pa_cons (pe_un un_neg pe_int) (pa_cons pe_int (pa_cons (pe_un un_neg pe_int) (pa_cons pe_int pa_nil)))))) pa_nil)))) pa_nil))) pa_nil))))
      (pss_one (ps_ret (pe_op op_catA (pe_op op_catA (pe_slice sl_tupA (pv 1) po_none (po_some (pv 2))) (pe_tup (pa_cons (pe_tup (pa_cons (pv 3) (pa_cons (pv 4) (pa_cons (pv 6) pa_nil)))) pa_nil))) (pe_slice sl_tupA (pv 1) (po_some (pe_op op_add (pv 2) pe_int)) po_none)))))))), ?_⟩
    have hHr := hHr0
    obtain ⟨as, ha, ras⟩ := hHr0
    have las : as.length = rs.length := ras.1
    refine ⟨_, rfl, (show 0 ≤ sizeLine by decide), fun T0 nT0 => ?_⟩
    have e0 := same_upd (o := .tup []) nT0
    refine ⟨a, T0, _, rfl, rfl, SqT.of (e0 _ _ ha), SqT.of upd_same, _, rfl, ?_⟩
    have j0 := hj.same e0
    generalize upd H T0 (.tup []) = H1 at *
    by_cases ce : rs = []
    · rw [decide_eq_true (by rw [List.map_eq_nil_iff, ← List.length_eq_zero_iff, las, ce]; rfl)]
      exact iteT ⟨_, rfl, q _ a rs (Chg.of e0) (j0.mono (by omega)) (hHr.same e0) ok rfl⟩
    · rw [decide_eq_false (by rw [List.map_eq_nil_iff, ← List.length_eq_zero_iff, las, List.length_eq_zero_iff]; exact ce)]
      have l0 : 0 < rs.length := by
        rcases Nat.eq_zero_or_pos rs.length with z | z
        · exact absurd (List.length_eq_zero_iff.mp z) ce
        · exact z
      refine iteF ⟨_, rfl, _, rfl, a, _, rfl, .inr (SqT.of (e0 _ _ ha)), ?_⟩
      rw [List.length_map, las]
      refine ⟨p, (rs.length : Int), _, rfl, ⟨by omega, by omega⟩, j0, by omega, fun z H2 hz c2 j2 => ?_⟩
      obtain ⟨k, rfl⟩ := Int.eq_ofNat_of_zero_le hz.1
      have hk : k < rs.length := by omega
      have hk' : k < as.length := by omega
      have c02 : Chg p H H2 := (Chg.of e0).trans c2
      have hA2 : RowsAt H2 a rs := hHr.chg hj c02
      have ha2 := c02 _ _ ha (jar_not hj ha (fun _ z => by cases z))
      have ras2 : Refs rwO H2 as rs := ⟨ras.1, fun i r x b1 b2 => c02 _ _ (ras.2 i r x b1 b2) (jar_not hj (ras.2 i r x b1 b2) (rwO_nl x))⟩
      have hok := ras2.2 k as[k] rs[k] (List.getElem?_eq_getElem hk') (List.getElem?_eq_getElem hk)
      have hrk := ok.ok rs[k] (List.getElem_mem hk)
      have e_set := List.take_append_drop k rs
      refine ⟨_, rfl, _, rfl, a, _, _, _, rfl, rfl, SqT.of ha2, atI_ref hk', as[k], _, rfl, SqT.of hok, rfl, _, _, rfl, _, _, rfl, _, _, rfl, rfl, ?_⟩
      refine ⟨_, rfl, _, rfl, _, rfl, _, rfl, (show 5 ≤ sizeLine by decide), fun lq nlq => ?_⟩
      have e3 := same_upd (o := .lst [V.int 1, .int (-1), .int 2, .int (-2), .int 5]) nlq
      refine ⟨p, lq, _, _, rfl, upd_same, ne_jar j2 nlq, ⟨show 0 < 5 by decide, show 5 ≤ 1000 by decide⟩, j2.same e3, by omega, fun v H3 hv c3 j3 => ?_⟩
      obtain ⟨y, rfl⟩ : ∃ y : Int, v = .int y := by
        simp only [List.mem_cons, List.not_mem_nil, or_false] at hv
        rcases hv with rfl | rfl | rfl | rfl | rfl <;> exact ⟨_, rfl⟩
      have c23 : Chg p H2 H3 := (Chg.of e3).trans c3
      refine ⟨_, _, rfl, rfl, _, _, rfl, _, _, rfl, ?_⟩
      obtain ⟨o, ho, hob⟩ : ∃ o : Int, o = (if (if rs[k].n + y < 9999 then rs[k].n + y else 9999) > 0 then (if rs[k].n + y < 9999 then rs[k].n + y else 9999) else 0) ∧ (0 ≤ o ∧ o ≤ 9999) := ⟨_, rfl, by split <;> split <;> omega⟩
      rw [← ho]
      clear ho
      have ha3 := c23 _ _ ha2 (jar_not j2 ha2 (fun _ z => by cases z))
      have ras3 : Refs rwO H3 as rs := ⟨ras.1, fun i r x b1 b2 => c23 _ _ (ras2.2 i r x b1 b2) (jar_not j2 (ras2.2 i r x b1 b2) (rwO_nl x))⟩
      have l70' : rs.length ≤ 70 := l70
      refine ⟨_, rfl, _, rfl, (k : Int), rfl, ?_⟩
      refine Ot.slA_read ha3 fun s1 H4 e4 hs1 => ?_
      rw [Ot.cutV_to] at hs1
      refine ⟨_, rfl, _, rfl, _, rfl, (show 3 ≤ sizeLine by decide), fun D nD => ?_⟩
      have e5 := same_upd (o := .tup [V.str rs[k].m, .int rs[k].t, .int o]) nD
      have hD := upd_same (H := H4) (a := D) (o := .tup [V.str rs[k].m, .int rs[k].t, .int o])
      generalize upd H4 D (.tup [V.str rs[k].m, .int rs[k].t, .int o]) = H5 at *
      refine ⟨(show 1 ≤ sizeLine by decide), fun T1 nT1 => ?_⟩
      have e6 := same_upd (o := .tup [V.ref D]) nT1
      have hT1 := upd_same (H := H5) (a := T1) (o := .tup [V.ref D])
      generalize upd H5 T1 (.tup [V.ref D]) = H6 at *
      refine Ot.catA_read ((e5.trans e6) _ _ hs1) hT1 (by rw [List.length_take, List.length_map]; show _ + 1 ≤ 100; omega) fun s2 H7 e7 hs2 => ?_
      have e37 := ((e4.trans e5).trans e6).trans e7
      refine ⟨_, rfl, _, rfl, _, _, rfl, rfl, (k : Int) + 1, rfl, ?_⟩
      simp only [tNoPart]
      refine Ot.slA_read (e37 _ _ ha3) fun s3 H8 e8 hs3 => ?_
      rw [show ((k : Int) + 1) = ((k + 1 : Nat) : Int) by omega, Ot.cutV_from] at hs3
      refine Ot.catA_read (e8 _ _ hs2) hs3 (by rw [List.length_append, List.length_take, List.length_drop, List.length_map]; show _ + 1 + _ ≤ 100; omega) fun s4 H9 e9 hs4 => ?_
      have e39 := (e37.trans e8).trans e9
      have hD9 := (((e6.trans e7).trans e8).trans e9) _ _ hD
      refine q _ s4 (rs.take k ++ ⟨rs[k].m, rs[k].t, o⟩ :: rs.drop (k + 1)) ((c02.trans c23).trans (Chg.of e39)) ((j3.same e39).mono (by omega)) ⟨as.take k ++ D :: as.drop (k + 1), ?_, ?_⟩ ⟨?_, ?_⟩ ?_
      · rw [hs4]
        simp [List.map_take, List.map_drop]
      · have z := (ras3.same e39)
        have z1 : Refs rwO H9 (as.take k) (rs.take k) := z.take k
        have z2 : Refs rwO H9 (as.drop (k + 1)) (rs.drop (k + 1)) := z.drop (k + 1)
        have := (z1.snoc (x := (⟨rs[k].m, rs[k].t, o⟩ : Rw)) hD9).app z2
        simpa using this
      · intro r hr'
        rcases List.mem_append.mp hr' with h | h
        · exact ok.ok r (List.mem_of_mem_take h)
        · rcases List.mem_cons.mp h with rfl | h
          · exact ⟨hrk.m, hrk.t, hob⟩
          · exact ok.ok r (List.mem_of_mem_drop h)
      · rw [seats_set hk]
        exact ok.cl
      · exact seats_set hk

end
end Hs
namespace Hs
open PySem PySem.Spec PyProof.Rows L2 Am
theorem rows_ok {L : Lore} {rs ys : List Rw} (ok : RowsOk L rs) (e : ys.map seatK = rs.map seatK) (b : ∀ r ∈ ys, 0 ≤ r.n ∧ r.n ≤ 9999) : RowsOk L ys := by
  refine ⟨fun r h => ?_, by rw [e]; exact ok.cl⟩
  have h1 : seatK r ∈ rs.map seatK := by rw [← e]; exact List.mem_map_of_mem h
  obtain ⟨r2, h2, e2⟩ := List.mem_map.mp h1
  have k := ok.ok r2 h2
  simp only [seatK, List.cons.injEq, Sum.inr.injEq, Sum.inl.injEq, and_true] at e2
  exact ⟨by rw [← e2.1]; exact k.m, by have := k.t; omega, b r h⟩
def spAny : Sp := fun vs H Q _ => ∃ (p d : Addr) (L : Lore) (N : Int), vs = [.ref p, .ref d] ∧ LoreAt H d L ∧ Small L ∧ (1 ≤ L.days ∧ L.days ≤ 14) ∧ (∀ q ∈ L.places, q.room ≤ 9) ∧ JarAt H p N ∧ N ≤ 8000 ∧
  ∀ (H' : Hp) (t : Addr) (rs : List Rw), Chg p H H' → JarAt H' p (N + 210) → RowsAt H' t rs → RowsOk L rs → rs.length ≤ 70 → Q (.ref t) H'
section
variable {P : Program} {w : World} {K : PySem.W.Frag} {mg : Str → Option Value} {base : Heap}
theorem sc_l_any_rows : FnScope ["_law_jar_here", "_law_lore", "_law_rows", "_law_some", "_law_meter", "_law_morning", "_law_number"] ["_law_jar_here", "_law_lore"] (defScope sL_any_rows) := ⟨rfl, rfl, rfl, by decide +kernel, rfl, by decide +kernel, by decide +kernel⟩
theorem ok_any {f : Addr} {fd : FuncData} (F : Fun K "_law_any_rows" "_law_any_rows" sL_any_rows f fd) (T : Nm mg) (n_tuple : mg "tuple" = none) (G_l_a_use : GotF P w K mg base "_law_a_use" 2 ["_law_jar_here", "_law_lore"] spAUse) (G_l_of : GotF P w K mg base "_law_of" 2 ["_law_jar_here", "_law_some"] spOf) (G_l_read : GotF P w K mg base "_law_read" 3 ["_law_jar_here", "_law_lore", "_law_use", "_law_odds"] spRead) (G_l_take : GotF P w K mg base "_law_take" 1 ["_law_jar_here", "_law_upto"] Am.spTake) (G_l_misread : GotF P w K mg base "_law_misread" 3 ["_law_jar_here", "_law_rows"] spMis) : FnOk P w K mg base CX0 4 f fd ["_law_jar_here", "_law_lore"] (spAny) := by
  obtain ⟨f_l_a_use, d_l_a_use, G_l_a_use, b_l_a_use, m_l_a_use, k_l_a_use⟩ := G_l_a_use
  obtain ⟨f_l_of, d_l_of, G_l_of, b_l_of, m_l_of, k_l_of⟩ := G_l_of
  obtain ⟨f_l_read, d_l_read, G_l_read, b_l_read, m_l_read, k_l_read⟩ := G_l_read
  obtain ⟨f_l_take, d_l_take, G_l_take, b_l_take, m_l_take, k_l_take⟩ := G_l_take
  obtain ⟨f_l_misread, d_l_misread, G_l_misread, b_l_misread, m_l_misread, k_l_misread⟩ := G_l_misread
  refine F.ok sc_l_any_rows (fun vs H Q E h => ?_) (fun cdv A outer s H vs Q E hr h => ?_)
  · obtain ⟨p, d, L, N, rfl, hL, sm, dm, hr9, hj, hN, q⟩ := h
    rfl
  · obtain ⟨p, d, L, N, rfl, hL, sm, dm, hr9, hj, hN, q⟩ := h
    have hr1 : Room 1 _ := hr.mono (by decide)
    have hr2 : Room 2 _ := hr.mono (by decide)
    have hr3 : Room 3 _ := hr.mono (by decide)
    have b_tuple_ : bootBuiltins "tuple" = some (.type "tuple") := by decide +kernel
    refine ⟨_, (pss_cons (ps_set (i := 2) sc_l_any_rows.nd rfl (.inl rfl) (pe_call G_l_read hr3 (by rfl) m_l_read k_l_read b_l_read .nil pass0 (pa_cons (pv 0) (pa_cons (pv 1) (pa_cons (pe_call G_l_a_use hr2 (by rfl) m_l_a_use k_l_a_use b_l_a_use .nil pass0 (pa_cons (pv 0) (pa_cons (pv 1) pa_nil))) (pa_cons (pe_call G_l_of hr2 (by rfl) m_l_of k_l_of b_l_of .nil pass0 (pa_cons (pv 0) (pa_cons (pe_lst (pa_cons pe_int (pa_cons pe_int (pa_cons pe_int (pa_cons pe_int pa_nil))))) pa_nil))) pa_nil))))))
      (C8.pss_cut (ps_if (pt_cmpR op_eq (pe_call G_l_take hr1 (by rfl) m_l_take k_l_take b_l_take .nil pass0 (pa_cons (pv 0) (pa_cons pe_int pa_nil))) pe_int (nomark _)) (pss_cons (ps_set (i := 3) sc_l_any_rows.nd rfl (.inr rfl) (pe_lst (pa_cons pe_int (pa_cons pe_int (pa_cons pe_int (pa_cons (pe_call G_l_take hr1 (by rfl) m_l_take k_l_take b_l_take .nil pass0 (pa_cons (pv 0) (pa_cons pe_int pa_nil))) pa_nil))))))
      (pss_one (ps_set (i := 2) sc_l_any_rows.nd rfl (.inl rfl) (pe_callTy (call_tuple_of) (by rfl) n_tuple b_tuple_ (pa_cons (pe_lc (own := [("_law_meter", 4), ("_law_morning", 5), ("_law_number", 6)]) (g := (gTup K 3 (gCons (gName 4) (gCons (gName 5) (gCons (gName 6) gNil))))) (tt := tYes) rfl sc_l_any_rows.nd (pi_tup (pv 2))
          (blkOk_by (N := ["_law_jar_here", "_law_lore", "_law_rows", "_law_some", "_law_meter", "_law_morning", "_law_number"]) (sc := defScope sL_any_rows) (by decide +kernel)) (fun _ _ _ _ _ => (pg_tup rfl (pgs_cons (pg_name (i := 4) sc_l_any_rows.nd rfl (.inl rfl)) (pgs_cons (pg_name (i := 5) sc_l_any_rows.nd rfl (.inl rfl)) (pgs_cons (pg_name (i := 6) sc_l_any_rows.nd rfl (.inl rfl)) pgs_nil))))) (fun _ _ _ _ _ => pts_nil) (fun _ _ _ _ _ => (pe_tup (pa_cons (pv 4) (pa_cons (pv 5) (pa_cons (pe_call G_l_of hr2 (by rfl) m_l_of k_l_of b_l_of .nil pass0 (pa_cons (pv 0) (pa_cons (pv 3) pa_nil))) pa_nil)))))) pa_nil))))) pss_nil)
      (pss_one (ps_ret (pe_call G_l_misread hr3 (by rfl) m_l_misread k_l_misread b_l_misread .nil pass0 (pa_cons (pv 0) (pa_cons (pv 2) pa_nil))))))), ?_⟩
    refine ⟨_, rfl, _, rfl, _, rfl, _, rfl, p, d, L, N, rfl, hL, hj, by omega, sm.1, dm, hr9, fun H1 u rows c1 nu j1 hU us => ?_⟩
    have hL1 := hL.chg hj c1
    refine ⟨_, rfl, (show 4 ≤ sizeLine by decide), fun lq nlq => ?_⟩
    have e2 := same_upd (o := .lst [V.int 0, .int 3, .int 5, .int 8]) nlq
    refine ⟨p, lq, _, _, rfl, upd_same, ne_jar j1 nlq, ⟨show 0 < 4 by decide, show 4 ≤ 1000 by decide⟩, j1.same e2, by omega, fun v H3 hv c3 j3 => ?_⟩
    obtain ⟨o, rfl⟩ : ∃ y : Int, v = .int y := by
      simp only [List.mem_cons, List.not_mem_nil, or_false] at hv
      rcases hv with rfl | rfl | rfl | rfl <;> exact ⟨_, rfl⟩
    have c13 : Chg p H1 H3 := (Chg.of e2).trans c3
    refine ⟨p, d, u, o, L, rows, _, rfl, hL1.chg j1 c13, hU.chg j1 c13 rowO_nl, us, sm, dm, hr9, j3, by omega, fun H4 a rs c4 na j4 hA rd => ?_⟩
    have c04 := (c1.trans c13).trans c4
    refine ⟨fun σ' H' => ∃ (a : Addr) (rs : List Rw) (s3 s4 s5 s6 : Option V), σ' = [some (.ref p), some (.ref d), some (.ref a), s3, s4, s5, s6] ∧ Chg p H H' ∧ JarAt H' p (N + 200) ∧ RowsAt H' a rs ∧ RowsOk L rs ∧ rs.length ≤ 70, ?_, ?_⟩
    · refine ⟨_, rfl, p, 2, _, rfl, ⟨by decide, by decide⟩, j4, by omega, fun z H5 hz c5 j5 => ⟨rfl, _, rfl, ?_⟩⟩
      have c05 := c04.trans c5
      have hA5 := hA.chg j4 c5
      cases decide (V.int z = V.int 0) with
      | false => exact iteF ⟨a, rs, _, _, _, _, rfl, c05, j5.mono (by omega), hA5, rd.ok, rd.l⟩
      | true =>
        refine iteT ⟨_, rfl, p, 10000, _, rfl, ⟨by decide, by decide⟩, j5, by omega, fun y H6 hy c6 j6 => ⟨(show 4 ≤ sizeLine by decide), fun ls nls => ?_⟩⟩
        have e7 := same_upd (o := .lst [V.int 0, .int 9999, .int 10, .int y]) nls
        have hls := upd_same (H := H6) (a := ls) (o := .lst [V.int 0, .int 9999, .int 10, .int y])
        have j7 := j6.same e7
        have lsp := ne_jar j6 nls
        have hA7 := (hA5.chg j5 c6).same e7
        have c07 := (c05.trans c6).trans (Chg.of e7)
        generalize upd H6 ls (.lst [V.int 0, .int 9999, .int 10, .int y]) = H7 at *
        obtain ⟨as, ha, ras⟩ := hA7
        have las : as.length = rs.length := ras.1
        refine ⟨_, rfl, a, rfl, ⟨_, SqT.of ha⟩, fun D nD => ?_⟩
        have mD := ne_jar j7 nD
        have e8 := same_upd (o := .lst []) nD
        have rl := rd.l
        refine lc_it (walk_tup (xs := as.map V.ref)) (Pv := fun k H' => Chg p H7 H' ∧ JarAt H' p (N + 129 + k) ∧ ∃ ys : List Rw, LstAt rwO H' D ys ∧ ys.map seatK = (rs.take k).map seatK ∧ ∀ r ∈ ys, 0 ≤ r.n ∧ r.n ≤ 9999) ⟨Chg.of e8, (j7.same e8).mono (by omega), [], LstAt.nil upd_same, rfl, fun r h => absurd h List.not_mem_nil⟩ (fun k G _ hh => SqT.of (hh.1 _ _ ha (jar_not j7 ha (fun _ z => by cases z)))) ?_ ?_
        · rintro k v G1 G2 hk ⟨f1, g1, ys, hD, ks, bn⟩ ⟨rfl, hv⟩
          obtain ⟨q1, r, rfl, hq1, hr', ho⟩ := ras.at hv
          have hk1 : k < rs.length := (List.getElem?_eq_some_iff.mp hr').1
          have ho1 := f1 _ _ ho (jar_not j7 ho (rwO_nl r))
          refine ⟨q1, _, rfl, SqT.of ho1, rfl, _, _, rfl, _, _, rfl, _, _, rfl, rfl, rfl, ?_⟩
          unfold tYes
          refine iteT ⟨_, rfl, _, rfl, _, rfl, _, rfl, p, ls, _, _, rfl, f1 _ _ hls lsp, lsp, ⟨show 0 < 4 by decide, show 4 ≤ 1000 by decide⟩, g1, by omega, fun v3 G3 hv3 c3 j3 => ?_⟩
          obtain ⟨w0, rfl, hw⟩ : ∃ w0 : Int, v3 = .int w0 ∧ 0 ≤ w0 ∧ w0 ≤ 9999 := by
            simp only [List.mem_cons, List.not_mem_nil, or_false] at hv3
            rcases hv3 with rfl | rfl | rfl | rfl
            · exact ⟨_, rfl, by decide⟩
            · exact ⟨_, rfl, by decide⟩
            · exact ⟨_, rfl, by decide⟩
            · exact ⟨_, rfl, by omega, by omega⟩
          obtain ⟨ds, hds, rds⟩ := hD.jar g1 mD c3 rwO_nl
          refine ⟨(show 3 ≤ sizeLine by decide), fun T nT => ?_⟩
          obtain ⟨b0, b1, b2, b3⟩ := grow_jar (f := rwO) (x := (⟨r.m, r.t, w0⟩ : Rw)) hds rds nD (f1.trans c3) j3 mD nT rwO_nl
          have yl : ys.length = k := by
            have := congrArg List.length ks
            rw [List.length_map, List.length_map, List.length_take] at this
            omega
          refine ⟨ds.map V.ref, b0, szl (by rw [List.length_map, rds.1]; omega), b2, b3.mono (by omega), ys ++ [(⟨r.m, r.t, w0⟩ : Rw)], b1, ?_, ?_⟩
          · rw [List.map_append, ks, List.take_add_one, hr', List.map_append]
            rfl
          · intro r2 h
            rcases List.mem_append.mp h with h | h
            · exact bn r2 h
            · rw [List.mem_singleton.mp h]
              exact hw
        · rintro G1 ⟨f1, g1, ys, ⟨ds, hds, rds⟩, ks, bn⟩
          rw [show rs.take (as.map V.ref).length = rs from by rw [List.length_map, las]; exact List.take_length] at ks
          have lm : (as.map V.ref).length ≤ 70 := by rw [List.length_map, las]; exact rl
          refine ⟨D, _, rfl, .inl ⟨SqL.of hds, fun l nl => ?_⟩⟩
          have e9 := same_upd (o := .tup (ds.map V.ref)) nl
          refine ⟨l, ys, _, _, _, _, rfl, (c07.trans f1).trans (Chg.of e9), (g1.same e9).mono (by omega), ⟨ds, upd_same, rds.same e9⟩, rows_ok rd.ok ks bn, ?_⟩
          have := congrArg List.length ks
          rw [List.length_map, List.length_map] at this
          omega
    · rintro _ H5 ⟨a, rs, s3, s4, s5, s6, rfl, c, j, hA, ok, rl⟩
      refine ⟨_, rfl, _, rfl, p, a, L, rs, _, rfl, hA, ok, rl, j, by omega, fun H6 t rs' c6 j6 hA6 ok6 ks => ?_⟩
      refine q H6 t rs' (c.trans c6) (j6.mono (by omega)) hA6 ok6 ?_
      have := congrArg List.length ks
      rw [List.length_map, List.length_map] at this
      omega

end
end Hs
/-! plain data that is small: it can be shown and compared -/
namespace Sdt
open PySem PySem.Spec PyProof.Rows L2
structure Sd (k w : Nat) (d : PyData) : Prop where
  s : d.showable = true
  h : d.hasDict = false
  c : d.canLay0 = true
  dp : d.depth ≤ k
  l : PyData.leavesShort 13 d = true
  w : d.weight ≤ w
theorem Sd.mono {k w k' w' : Nat} {d : PyData} (a : Sd k w d) (h1 : k ≤ k') (h2 : w ≤ w') : Sd k' w' d := ⟨a.s, a.h, a.c, Nat.le_trans a.dp h1, a.l, Nat.le_trans a.w h2⟩
theorem Sd.non : Sd 0 0 .none := ⟨rfl, rfl, rfl, Nat.le_refl _, rfl, Nat.le_refl _⟩
theorem Sd.bl (b : Bool) : Sd 0 0 (.bool b) := ⟨rfl, rfl, rfl, Nat.le_refl _, rfl, Nat.le_refl _⟩
theorem Sd.int {i : Int} (h : i.natAbs < 10 ^ 12) : Sd 0 40 (.int i) := by
  have h40 : i.natAbs.log2 < 40 := PySem.Flt.log2_lt_of (by decide) (Nat.lt_of_lt_of_le h (by decide))
  refine ⟨?_, by simp only [PyData.hasDict], by simp only [PyData.canLay0], by simp [PyData.depth], ?_, ?_⟩
  · simp only [PyData.showable]
    exact decide_eq_true (Nat.lt_trans h40 (by decide))
  · simp only [PyData.leavesShort]
    exact decide_eq_true (PyData.shown_int_le h)
  · simp only [PyData.weight]
    split <;> omega
theorem Sd.str {x : Str} (ok : PyData.strOk x = true) : Sd 0 x.length (.str x) := by
  refine ⟨by simp only [PyData.showable], by simp only [PyData.hasDict], by simp only [PyData.canLay0]; exact ok, by simp [PyData.depth], ?_, ?_⟩
  · simp only [PyData.leavesShort]
    have h1 : ∀ c ∈ x.cps.toList, c < 0x110000 := by
      have h0 : x.cps.all (· < 0x110000) = true := ok
      intro c hcm
      have := (Array.all_eq_true_iff_forall_mem.mp h0) c (Array.mem_toList_iff.mp hcm)
      simpa using this
    simp only [List.all_eq_true, decide_eq_true_eq]
    intro c hcm
    have h2 := h1 c hcm
    have e : (16 : Nat) ^ 8 = 4294967296 := by decide
    omega
  · simp only [PyData.weight]
    exact Nat.le_refl _
theorem Sd.all {k w : Nat} : ∀ (ds : List PyData), (∀ d ∈ ds, Sd k w d) → PyData.showableAll ds = true ∧ PyData.hasDictAll ds = false ∧ PyData.canLayAll0 ds = true ∧ PyData.depthAll ds ≤ k ∧ PyData.leavesShortAll 13 ds = true ∧ PyData.weightAll ds ≤ ds.length * (w + 1)
  | [], _ => by simp [PyData.showableAll, PyData.hasDictAll, PyData.depthAll, PyData.leavesShortAll, PyData.weightAll, PyData.canLayAll0]
  | d :: ds, h => by
    obtain ⟨a, b, o, c, e, f⟩ := Sd.all ds fun x hx => h x (by simp [hx])
    obtain ⟨a', b', o', c', e', f'⟩ := h d (by simp)
    refine ⟨by simp only [PyData.showableAll, a, a']; rfl, by simp only [PyData.hasDictAll, b, b']; rfl, by simp only [PyData.canLayAll0, o, o']; rfl, ?_, by simp only [PyData.leavesShortAll, e, e']; rfl, ?_⟩
    · simp only [PyData.depthAll]
      omega
    · simp only [PyData.weightAll, List.length_cons, Nat.succ_mul]
      omega
theorem Sd.tup {k w : Nat} {ds : List PyData} (h : ∀ d ∈ ds, Sd k w d) : Sd (k + 1) (ds.length * (w + 1)) (.tuple ds) := by
  obtain ⟨a, b, o, c, e, f⟩ := Sd.all ds h
  exact ⟨by simp only [PyData.showable]; exact a, by simp only [PyData.hasDict]; exact b, by simp only [PyData.canLay0]; exact o, by simp only [PyData.depth]; omega, by simp only [PyData.leavesShort]; exact e, by simp only [PyData.weight]; exact f⟩
theorem Sd.lst {k w : Nat} {ds : List PyData} (h : ∀ d ∈ ds, Sd k w d) : Sd (k + 1) (ds.length * (w + 1)) (.list ds) := by
  obtain ⟨a, b, o, c, e, f⟩ := Sd.all ds h
  exact ⟨by simp only [PyData.showable]; exact a, by simp only [PyData.hasDict]; exact b, by simp only [PyData.canLay0]; exact o, by simp only [PyData.depth]; omega, by simp only [PyData.leavesShort]; exact e, by simp only [PyData.weight]; exact f⟩
theorem Sd.shaped {k w : Nat} {d : PyData} (h : Sd k w d) (hk : k ≤ 64) : SeqAt.shaped d = true := by
  unfold SeqAt.shaped
  rw [h.c, decide_eq_true (Nat.le_trans h.dp hk)]
  rfl
theorem Sd.fits {k w : Nat} {d : PyData} (h : Sd k w d) (hw : w ≤ 100000) : d.shown.length ≤ sizeLine := PyData.shown_fits (B := 13) (by decide) (by decide) h.l (Nat.le_trans h.w (Nat.le_trans hw (by decide)))
theorem Sd.self {k w : Nat} {d : PyData} (h : Sd k w d) : PyData.eqv d d = true := SeqAt.eqv_refl d h.c
/-- what repr asks -/
theorem Sd.rep {k w : Nat} {d : PyData} (h : Sd k w d) (hk : k ≤ 60) (hw : w ≤ 100000) : d.showable = true ∧ d.hasDict = false ∧ d.depth ≤ 60 ∧ d.shown.length ≤ sizeLine := ⟨h.s, h.h, Nat.le_trans h.dp hk, h.fits hw⟩
end Sdt
/-! numbers beside numbers: ==, <=, <, >=, > -/
namespace Hs
open PySem PySem.Spec PyProof.Rows L2 Am Rv
instance : DecidableEq Rw := fun a b => decidable_of_iff (a.m = b.m ∧ a.t = b.t ∧ a.n = b.n) ⟨fun ⟨h1, h2, h3⟩ => by cases a; cases b; simp only at h1 h2 h3; subst h1; subst h2; subst h3; rfl, fun h => by subst h; exact ⟨rfl, rfl, rfl⟩⟩
def rowK (r : Rw) : List Key := [.inr r.m, .inl r.t, .inl r.n]
theorem rowK_inj {a b : Rw} (h : rowK a = rowK b) : a = b := by
  cases a
  cases b
  unfold rowK at h
  simp only [List.cons.injEq, Sum.inr.injEq, Sum.inl.injEq, Int.ofNat.injEq] at h
  obtain ⟨h1, h2, h3, _⟩ := h
  subst h1
  subst h3
  have : _ := Int.ofNat_inj.mp h2
  subst this
  rfl
theorem inK_rows (r : Rw) (rs : List Rw) : Ot.inK (rowK r) (rs.map rowK) = decide (r ∈ rs) := by
  unfold Ot.inK
  rw [Bool.eq_iff_iff, List.any_eq_true, decide_eq_true_iff]
  constructor
  · rintro ⟨m, hm, e⟩
    obtain ⟨q, hq, rfl⟩ := List.mem_map.mp hm
    rw [rowK_inj (of_decide_eq_true e)] at hq
    exact hq
  · intro h
    exact ⟨_, List.mem_map.mpr ⟨r, h, rfl⟩, decide_eq_true rfl⟩
/-- each row of the one is one of the other -/
def allIn (a b : List Rw) : Bool := a.all fun r => decide (r ∈ b)
theorem keyd_rows {K : PySem.W.Frag} {H : Hp} {as : List Addr} {rs : List Rw} (h : Refs rwO H as rs) : Ot.Keyd K H (as.map V.ref) (rs.map rowK) := by
  refine ⟨by rw [List.length_map, List.length_map, h.1], fun i x m hx hm => ?_⟩
  obtain ⟨q, r, rfl, hq, hr, ho⟩ := h.at hx
  rw [List.getElem?_map, hr] at hm
  cases hm
  exact ⟨q, rfl, SqT.of ho⟩
def rowsD (rs : List Rw) : PyData := .tuple (rs.map rwD)
theorem eqv_rw (a b : Rw) : PyData.eqv (rwD a) (rwD b) = decide (a = b) := by
  have e : PyData.eqv (rwD a) (rwD b) = decide (a.m = b.m ∧ (a.t : Int) = b.t ∧ a.n = b.n) := by
    simp [rwD, PyData.eqv, PyData.eqvAll, Bool.beq_eq_decide_eq]
  rw [e]
  refine decide_eq_decide.mpr ⟨fun ⟨h1, h2, h3⟩ => ?_, fun h => by subst h; exact ⟨rfl, rfl, rfl⟩⟩
  cases a
  cases b
  simp only at h1 h2 h3
  have := Int.ofNat_inj.mp h2
  subst h1
  subst h3
  subst this
  rfl
theorem eqvAll_rows : ∀ (rs ss : List Rw), PyData.eqvAll (rs.map rwD) (ss.map rwD) = decide (rs = ss)
  | [], [] => by simp [PyData.eqvAll]
  | [], _ :: _ => by simp [PyData.eqvAll]
  | _ :: _, [] => by simp [PyData.eqvAll]
  | a :: rs, b :: ss => by
    rw [List.map_cons, List.map_cons]
    simp only [PyData.eqvAll]
    rw [eqv_rw, eqvAll_rows rs ss]
    by_cases h1 : a = b
    · by_cases h2 : rs = ss <;> simp [h1, h2]
    · simp [h1]
theorem eqv_rows (rs ss : List Rw) : PyData.eqv (rowsD rs) (rowsD ss) = decide (rs = ss) := by
  unfold rowsD
  simp only [PyData.eqv]
  exact eqvAll_rows rs ss
def RwS (rs : List Rw) : Prop := ∀ r ∈ rs, Sdt.Sd 1 123 (rwD r)
theorem rw_sd {r : Rw} (h1 : PyData.strOk r.m = true) (h2 : r.m.length ≤ 8) (h3 : r.t ≤ 100) (h4 : r.n.natAbs ≤ 9999) : Sdt.Sd 1 123 (rwD r) := by
  have := Sdt.Sd.tup (k := 0) (w := 40) (ds := [.str r.m, .int r.t, .int r.n]) (fun x hx => by
    simp only [List.mem_cons, List.not_mem_nil, or_false] at hx
    have e : (10 : Nat) ^ 12 = 1000000000000 := by decide
    rcases hx with rfl | rfl | rfl
    · exact (Sdt.Sd.str h1).mono (Nat.le_refl _) (by omega)
    · exact Sdt.Sd.int (by omega)
    · exact Sdt.Sd.int (by omega))
  exact this
theorem RwS.sd {rs : List Rw} (h : RwS rs) (l : rs.length ≤ 150) : Sdt.Sd 2 18600 (rowsD rs) := by
  have := Sdt.Sd.tup (ds := rs.map rwD) (k := 1) (w := 123) (fun d hd => by
    obtain ⟨r, hr, rfl⟩ := List.mem_map.mp hd
    exact h r hr)
  refine this.mono (Nat.le_refl _) ?_
  rw [List.length_map]
  omega
theorem rw_dp {K : PySem.W.Frag} {H : Hp} {r : Addr} {x : Rw} (h : H r = some (rwO x)) : Dp K H (.ref r) (rwD x) := .tup (SqT.of h) (.cons (.str _) (.cons (.int _) (.cons (.int _) .nil)))
theorem dp_refsR {K : PySem.W.Frag} {H : Hp} : ∀ {rs : List Addr} {xs : List Rw}, Refs rwO H rs xs → DpAll K H (rs.map V.ref) (xs.map rwD)
  | [], [], _ => .nil
  | [], _ :: _, h => by cases h.1
  | _ :: _, [], h => by cases h.1
  | r :: rs, x :: xs, h => .cons (rw_dp (h.2 0 r x rfl rfl)) (dp_refsR ⟨by simpa using h.1, fun i q y a b => h.2 (i + 1) q y (by simpa using a) (by simpa using b)⟩)
theorem rows_dp {K : PySem.W.Frag} {H : Hp} {t : Addr} {ls : List Rw} (h : RowsAt H t ls) : Dp K H (.ref t) (rowsD ls) := by
  obtain ⟨ts, ht, rts⟩ := h
  exact .tup (SqT.of ht) (dp_refsR rts)
theorem nfs_none {f : Str} (h a d t : Addr) (k : f ∉ [("_stretches" : Str), "_table", "_rows", "_house"]) : (nfs h a d t).lookup f = none := by
  simp only [List.mem_cons, not_or] at k
  obtain ⟨k1, k2, k3, k4, _⟩ := k
  unfold nfs
  simp only [lookup_putF, if_neg k1, if_neg k2, if_neg k3, if_neg k4]
  rfl
theorem HouseAt.ins {C : Addr} {H : Hp} {h : Addr} {x : Str} {L : Lore} (k : HouseAt C H h x L) : ∃ dx a b c r t p, H h = some (.ins C dx (hfs x L.days a b c r t p)) := by
  obtain ⟨dx, a, b, c, r, t, p, _, _, _, h1, _⟩ := k
  exact ⟨dx, a, b, c, r, t, p, h1⟩
theorem NumAt.ins {C CH : Addr} {H : Hp} {n : Addr} {x : Str} {L : Lore} {rs : List Rw} (k : NumAt C CH H n x L rs) : ∃ dx h a d t, H n = some (.ins C dx (nfs h a d t)) ∧ HouseAt CH H h x L ∧ RowsAt H a rs := by
  obtain ⟨dx, h, a, d, t, h1, h2, h3, _⟩ := k
  exact ⟨dx, h, a, d, t, h1, h2, h3⟩
/-- what an isinstance of a class asks -/
structure IsC (K : PySem.W.Frag) (C : Addr) : Prop where
  cl : Cls K C
  ob : PySem.W.mroIn K C (.type "object") = some true
  ca : PySem.W.findIn K (.ref C) "__class__" = some (some (.builtin "object.__class__"))
  cn : PySem.W.specialIn K (.builtin "object.__class__") "__get__" = some (some (.builtin "getset_descriptor.__get__"))
  ct : PySem.W.takesIn K (.builtin "object.__class__") = some true
theorem IsC.ty {K : PySem.W.Frag} {C a dx : Addr} {H : Hp} {fs : List (Str × V)} (t : IsC K C) (h : H a = some (.ins C dx fs)) : TyX K H (.ref a) (.ref C) := .base (.ins h t.cl t.ca t.cn t.ct t.ob)
structure TyH (K : PySem.W.Frag) (mg : Str → Option Value) (C : Addr) : Prop where
  ho : HoC K C
  is : IsC K C
  op : OpC K C
  kC : PySem.W.kitOne K (.ref C) (.ref C) = some true
  gC : mg "House" = some (.ref C)
structure TyN (K : PySem.W.Frag) (mg : Str → Option Value) (C CH : Addr) : Prop where
  nc : NuC K C
  is : IsC K C
  op : OpC K C
  nf : PySem.W.notFirst K C (.ref CH) = true
  kC : PySem.W.kitOne K (.ref C) (.ref C) = some true
  kH : PySem.W.kitOne K (.ref CH) (.ref C) = some false
  k1 : PySem.W.kitOne K (.type "int") (.ref C) = some false
  k2 : PySem.W.kitOne K (.type "bool") (.ref C) = some false
  k3 : PySem.W.kitOne K (.type "NoneType") (.ref C) = some false
  k4 : PySem.W.kitOne K (.type "str") (.ref C) = some false
  k5 : PySem.W.kitOne K (.type "list") (.ref C) = some false
  k6 : PySem.W.kitOne K (.type "tuple") (.ref C) = some false
  k7 : PySem.W.kitOne K (.type "dict") (.ref C) = some false
  gC : mg "Numbers" = some (.ref C)
theorem TyN.kOf {K : PySem.W.Frag} {mg : Str → Option Value} {C CH : Addr} {H : Hp} {x : V} {T : String} (t : TyN K mg C CH) (b : Bk H x T) : PySem.W.kitOne K (.type T) (.ref C) = some false := by
  cases b <;> first | exact t.k1 | exact t.k2 | exact t.k3 | exact t.k4 | exact t.k5 | exact t.k6 | exact t.k7
/-- raised with this value -/
def Rs (E : XK) (H : Hp) (D : Addr) (v : V) : Prop := ∀ d H', Same H H' → H' d = some (.xd [("value", v)]) → E (.ref D) (some d) H'
/-- an operator's method -/
def GotO (P : Program) (w : World) (K : PySem.W.Frag) (mg : Str → Option Value) (base : Heap) (C : Addr) (x : Str) (k : Nat) (sp : Sp) : Prop :=
  ∃ (f : Addr) (fd : FuncData), FnOk P w K mg base (L2.CX P w) k f fd ["self", "other"] sp ∧ Binds K fd ["self", "other"] [] ∧ PySem.W.findIn K (.ref C) x = some (some (.ref f)) ∧ PySem.W.isFn K (.ref f) = true
theorem passF {X : Cx} : Passes (L2.CX X.prog X.w) X (fun _ _ _ => False) := passes_call LamX.takes0 (fun _ _ _ _ h => h)
def spHEqS (CH : Addr) : Sp := fun vs H Q _ => ∃ h x L g x' L', vs = [.ref h, .ref g] ∧ HouseAt CH H h x L ∧ HouseAt CH H g x' L' ∧ Q (.bl (decide (x = x'))) H
def spHold : Sp := fun vs H Q _ => ∃ (a b : Addr) (rs ss : List Rw), vs = [.ref a, .ref b] ∧ RowsAt H a rs ∧ RowsAt H b ss ∧ ss.length ≤ 150 ∧ ∀ H', Same H H' → Q (.bl (allIn ss rs)) H'
def spNEq (C CH : Addr) : Sp := fun vs H Q _ => ∃ (n : Addr) (x : Str) (L : Lore) (rs : List Rw) (y : V), vs = [.ref n, y] ∧ NumAt C CH H n x L rs ∧
  ((∃ m x' L' ss, y = .ref m ∧ NumAt C CH H m x' L' ss ∧ RwS rs ∧ RwS ss ∧ rs.length ≤ 150 ∧ ss.length ≤ 150 ∧ Q (.bl (decide (x = x' ∧ rs = ss))) H) ∨ ((∃ T, Bk H y T) ∧ Q (.bl false) H) ∨ (∃ g x' L', y = .ref g ∧ HouseAt CH H g x' L' ∧ Q (.bl false) H))
def spChk (C CH D : Addr) : Sp := fun vs H Q E => ∃ (n m : Addr) (x x' : Str) (L L' : Lore) (rs ss : List Rw), vs = [.ref n, .ref m] ∧ NumAt C CH H n x L rs ∧ NumAt C CH H m x' L' ss ∧ (x = x' → Q .non H) ∧ (x ≠ x' → Rs E H D (.ref m))
def spNCmp (C CH D : Addr) (r : List Rw → List Rw → Bool) : Sp := fun vs H Q E => ∃ (n m : Addr) (x x' : Str) (L L' : Lore) (rs ss : List Rw), vs = [.ref n, .ref m] ∧ NumAt C CH H n x L rs ∧ NumAt C CH H m x' L' ss ∧ RwS rs ∧ RwS ss ∧ rs.length ≤ 150 ∧ ss.length ≤ 150 ∧
  (x = x' → ∀ H', Same H H' → Q (.bl (r rs ss)) H') ∧ (x ≠ x' → Rs E H D (.ref m))
section
variable {P : Program} {w : World} {K : PySem.W.Frag} {mg : Str → Option Value} {base : Heap} {C CH D fI : Addr}
theorem scHEq : FnScope ["self", "other"] ["self", "other"] (defScope sHEq) := ⟨rfl, rfl, rfl, by decide +kernel, rfl, by decide +kernel, by decide +kernel⟩
theorem ok_hEq {f : Addr} {fd : FuncData} (F : Fun K "__eq__" "House.__eq__" sHEq f fd) (t : TyH K mg CH) (T : Nm mg) : FnOk P w K mg base CX0 1 f fd ["self", "other"] (spHEqS CH) := by
  refine F.ok scHEq (fun vs H Q E h => ?_) (fun cdv A outer s H vs Q E hr h => ?_)
  · obtain ⟨h, x, L, g, x', L', rfl, _⟩ := h
    rfl
  · obtain ⟨h, x, L, g, x', L', rfl, k, k', q⟩ := h
    obtain ⟨dx, a, b, c, r, tt, p, h1⟩ := k.ins
    refine ⟨_, pss_one (ps_ret (pe_and (pe_callB call_isi (by rfl) T.isi b_isi (pa_cons (pv 1) (pa_cons (pe_glob (v := .ref CH) (by rfl) t.gC rfl) pa_nil)))
      (pe_one (pe_cmpR op_eq (pe_fld (pv 0) rfl) (pe_fld (pv 1) rfl) (nomark _))))), ?_⟩
    obtain ⟨dx', a', b', c', r', t', p', h2⟩ := k'.ins
    refine ⟨_, rfl, .ref g, .ref CH, .ref CH, .ref CH, _, rfl, .own _, t.is.ty h2, t.kC, _, rfl, iteT ?_⟩
    refine ⟨_, rfl, h, CH, dx, _, _, rfl, h1, t.ho.cl, t.ho.n1, hfs_tx _ _ _ _ _ _ _ _, _, rfl, g, CH, dx', _, _, rfl, h2, t.ho.cl, t.ho.n1, hfs_tx _ _ _ _ _ _ _ _, rfl, ?_⟩
    rw [str_eq]
    exact q
theorem scHold : FnScope ["rows", "others", "row"] ["rows", "others"] (defScope sF_holds_all) := ⟨rfl, rfl, rfl, by decide +kernel, rfl, by decide +kernel, by decide +kernel⟩
theorem ok_hold {f : Addr} {fd : FuncData} (F : Fun K "holds_all" "holds_all" sF_holds_all f fd) (T : Nm mg) : FnOk P w K mg base CX0 1 f fd ["rows", "others"] spHold := by
  refine F.ok scHold (fun vs H Q E h => ?_) (fun cdv A outer s H vs Q E hr h => ?_)
  · obtain ⟨a, b, rs, ss, rfl, _⟩ := h
    rfl
  · obtain ⟨a, b, rs, ss, rfl, ⟨as, ha, ra⟩, ⟨bs, hb, rb⟩, ln, q⟩ := h
    have hu := hu_of hr
    have hu1 : (A.deeper (envOfC "holds_all" (defScope sF_holds_all) s.heap.objs.size f cdv)).units + 1 < cLine := by have := hr.un; omega
    refine ⟨_, pss_one (ps_ret (pe_callB (cr_all rfl) (by rfl) T.all b_all (pa_cons (pe_lc (own := [("row", 2)]) (g := gName 2) (tt := tYes) rfl scHold.nd (pi_tup (pv 1))
          (blkOk_by (N := ["rows", "others", "row"]) (sc := defScope sF_holds_all) (by decide +kernel)) (fun _ _ _ _ _ => pg_name (i := 2) scHold.nd rfl (.inl rfl)) (fun _ _ _ _ _ => pts_nil)
          (fun _ _ _ _ _ => (pe_cmpR (r := Ot.rInK K false) (by exact Ot.op_inK (by exact hu1)) (pv 2) (pv 0) (by rfl)))) pa_nil))), ?_⟩
    refine ⟨_, rfl, b, rfl, ⟨_, SqT.of hb⟩, fun D nD => ?_⟩
    have lb : bs.length = ss.length := rb.1
    refine lc_it (walk_tup (xs := bs.map V.ref)) (Pv := fun k H' => Same H H' ∧ H' D = some (.lst (((ss.take k).map fun r => decide (r ∈ rs)).map V.bl))) ⟨same_upd nD, upd_same⟩ (fun k G _ hh => SqT.of (hh.1 _ _ hb)) ?_ ?_
    · rintro k v K1 K2 hk ⟨f1, hD⟩ ⟨rfl, hv⟩
      obtain ⟨q2, r, rfl, hq2, hl, ho2⟩ := rb.at hv
      have et : ss.take (k + 1) = ss.take k ++ [r] := by rw [List.take_add_one, hl]; rfl
      have hk' : k < ss.length := (List.getElem?_eq_some_iff.mp hl).1
      refine ⟨rfl, ?_⟩
      unfold tYes
      refine iteT ?_
      refine ⟨_, rfl, _, rfl, q2, a, rowK r, _, rs.map rowK, rfl, rfl, SqT.of (f1 _ _ ho2), .inl (SqT.of (f1 _ _ ha)), keyd_rows (ra.same f1), ?_⟩
      rw [if_neg (by decide), inK_rows]
      refine ⟨_, hD, szl (by rw [List.length_map, List.length_map, List.length_take]; omega), fun b' u z => ?_, ?_⟩
      · rw [upd_ne (ne_of_none z nD)]
        exact f1 _ _ z
      · rw [et, List.map_append, List.map_append]
        exact upd_same
    · rintro K1 ⟨f1, hD⟩
      rw [show ss.take (bs.map V.ref).length = ss from by rw [List.length_map, lb]; exact List.take_length] at hD
      refine ⟨D, _, rfl, SqL.of hD, ?_⟩
      have := q K1 f1
      rw [show allIn ss rs = (ss.map fun r => decide (r ∈ rs)).all id from by unfold allIn; rw [List.all_map]; rfl] at this
      exact this
theorem scNEq : FnScope ["self", "other"] ["self", "other"] (defScope sNumbers_eq) := ⟨rfl, rfl, rfl, by decide +kernel, rfl, by decide +kernel, by decide +kernel⟩
theorem ok_nEq {f : Addr} {fd : FuncData} (F : Fun K "__eq__" "Numbers.__eq__" sNumbers_eq f fd) (th : TyH K mg CH) (tn : TyN K mg C CH) (T : Nm mg) (GH : GotM P w K mg base CH "__eq__" 1 ["self", "other"] (spHEqS CH)) : FnOk P w K mg base CX0 2 f fd ["self", "other"] (spNEq C CH) := by
  obtain ⟨fH, dH, GH, bH, iH, jH⟩ := GH
  refine F.ok scNEq (fun vs H Q E h => ?_) (fun cdv A outer s H vs Q E hr h => ?_)
  · obtain ⟨n, x, L, rs, y, rfl, _⟩ := h
    rfl
  · obtain ⟨n, x, L, rs, y, rfl, k, hy⟩ := h
    obtain ⟨dx, h0, a, d, t, h1, hh, hR⟩ := k.ins
    refine ⟨_, pss_one (ps_ret (pe_and (pe_callB call_isi (by rfl) T.isi b_isi (pa_cons (pv 1) (pa_cons (pe_glob (v := .ref C) (by rfl) tn.gC rfl) pa_nil)))
      (pe_and (pe_cmpR (op_cmpC (op := .Eq) (fun _ _ => rfl) th.op ⟨iH, jH⟩ GH hr bH pass0) (pe_fld (pv 0) rfl) (pe_fld (pv 1) rfl) (nomark _))
      (pe_one (pe_cmpR (op_eqD hr.units) (pe_fld (pv 0) rfl) (pe_fld (pv 1) rfl) (nomark _)))))), ?_⟩
    rcases hy with ⟨m, x', L', ss, rfl, k', s1, s2, l1, l2, q⟩ | ⟨⟨T', bk⟩, q⟩ | ⟨g, x', L', rfl, k', q⟩
    · obtain ⟨dx', h0', a', d', t', h1', hh', hR'⟩ := k'.ins
      refine ⟨_, rfl, .ref m, .ref C, .ref C, .ref C, _, rfl, .own _, tn.is.ty h1', tn.kC, _, rfl, iteT ?_⟩
      obtain ⟨ex, ea, eb, ec, er, et, ep, e1⟩ := hh.ins
      obtain ⟨ex', ea', eb', ec', er', et', ep', e1'⟩ := hh'.ins
      refine ⟨_, rfl, n, C, dx, _, _, rfl, h1, tn.nc.cl, tn.nc.n1, nfs_house _ _ _ _, _, rfl, m, C, dx', _, _, rfl, h1', tn.nc.cl, tn.nc.n1, nfs_house _ _ _ _, ⟨h0, ex, _, rfl, e1⟩, .inl ⟨h0', ex', _, rfl, e1'⟩, h0, x, L, h0', x', L', rfl, hh, hh', _, rfl, ?_⟩
      by_cases c : x = x'
      · rw [decide_eq_true c]
        refine iteT ⟨_, rfl, n, C, dx, _, _, rfl, h1, tn.nc.cl, tn.nc.n2, nfs_rows _ _ _ _, _, rfl, m, C, dx', _, _, rfl, h1', tn.nc.cl, tn.nc.n2, nfs_rows _ _ _ _, rowsD rs, rowsD ss, rows_dp hR, rows_dp hR', (s1.sd l1).shaped (by decide), (s2.sd l2).shaped (by decide), ?_⟩
        rw [eqv_rows]
        rw [show decide (x = x' ∧ rs = ss) = decide (rs = ss) from by simp [c]] at q
        exact q
      · rw [decide_eq_false c]
        rw [show decide (x = x' ∧ rs = ss) = false from by simp [c]] at q
        exact iteF q
    · exact ⟨_, rfl, y, .ref C, .type T', .ref C, _, rfl, .own _, .base bk.tyOf, tn.kOf bk, _, rfl, iteF q⟩
    · obtain ⟨ex', ea', eb', ec', er', et', ep', e1'⟩ := k'.ins
      exact ⟨_, rfl, .ref g, .ref C, .ref CH, .ref C, _, rfl, .own _, th.is.ty e1', tn.kH, _, rfl, iteF q⟩
theorem scChk : FnScope ["self", "other"] ["self", "other"] (defScope sNumbers_check) := ⟨rfl, rfl, rfl, by decide +kernel, rfl, by decide +kernel, by decide +kernel⟩
theorem ok_chk {f : Addr} {fd fdE : FuncData} (F : Fun K "_check" "Numbers._check" sNumbers_check f fd) (th : TyH K mg CH) (tn : TyN K mg C CH) (GH : GotM P w K mg base CH "__eq__" 1 ["self", "other"] (spHEqS CH))
    (TE : Err K mg "OtherHouse" D fI) (GE : FnOk P w K mg base CX0 1 fI fdE ["self", "value"] (spInitE K)) (bE : Binds K fdE ["self", "value"] []) : FnOk P w K mg base (L2.CX P w) 3 f fd ["self", "other"] (spChk C CH D) := by
  obtain ⟨fH, dH, GH, bH, iH, jH⟩ := GH
  refine F.okX scChk (fun vs H Q E h => ?_) (fun cdv A outer s H vs Q E hr h => ?_)
  · obtain ⟨n, m, x, x', L, L', rs, ss, rfl, _⟩ := h
    rfl
  · obtain ⟨n, m, x, x', L, L', rs, ss, rfl, k, k', q1, q2⟩ := h
    obtain ⟨dx, h0, a, d, t, h1, hh, hR⟩ := k.ins
    obtain ⟨dx', h0', a', d', t', h1', hh', hR'⟩ := k'.ins
    obtain ⟨ex, ea, eb, ec, er, et, ep, e1⟩ := hh.ins
    obtain ⟨ex', ea', eb', ec', er', et', ep', e1'⟩ := hh'.ins
    have hr1 : Room 1 _ := hr.mono (by decide)
    have hr2 : Room 2 _ := hr.mono (by decide)
    refine ⟨_, pss_one (ps_if (pt_not (pt_cmpR (op_cmpC (op := .Eq) (fun _ _ => rfl) th.op ⟨iH, jH⟩ GH hr1 bH pass0) (pe_fld (pv 0) rfl) (pe_fld (pv 1) rfl) (nomark _)))
      (pss_one (ps_raise rfl (takes_of rfl rfl rfl rfl) (pmk_oex TE.oex TE.iC TE.tI GE hr2 bE .nil pass0 (by rfl) TE.gD (pa_cons (pv 1) pa_nil)))) pss_nil), ?_⟩
    refine ⟨_, rfl, n, C, dx, _, _, rfl, h1, tn.nc.cl, tn.nc.n1, nfs_house _ _ _ _, _, rfl, m, C, dx', _, _, rfl, h1', tn.nc.cl, tn.nc.n1, nfs_house _ _ _ _, ⟨h0, ex, _, rfl, e1⟩, .inl ⟨h0', ex', _, rfl, e1'⟩, h0, x, L, h0', x', L', rfl, hh, hh', _, rfl, ?_⟩
    by_cases c : x = x'
    · rw [decide_eq_true c]
      exact iteF (q1 c)
    · rw [decide_eq_false c]
      exact iteT ⟨_, rfl, (by show 1 ≤ 1000; decide), err_read TE fun d H' e h => q2 c d H' e h⟩
abbrev rLe : List Rw → List Rw → Bool := fun a b => allIn a b
theorem scLe : FnScope ["self", "other"] ["self", "other"] (defScope sNumbers_le) := ⟨rfl, rfl, rfl, by decide +kernel, rfl, by decide +kernel, by decide +kernel⟩
theorem ok_nLe {f : Addr} {fd : FuncData} (F : Fun K "__le__" "Numbers.__le__" sNumbers_le f fd) (th : TyH K mg CH) (tn : TyN K mg C CH) (T : Nm mg) (GO : GotF P w K mg base "holds_all" 1 ["rows", "others"] spHold)
    (GC : ∃ (f : Addr) (fd : FuncData), FnOk P w K mg base (L2.CX P w) 3 f fd ["self", "other"] (spChk C CH D) ∧ Binds K fd ["self", "other"] [] ∧ Meth K C "_check" f) : FnOk P w K mg base (L2.CX P w) 4 f fd ["self", "other"] (spNCmp C CH D rLe) := by
  obtain ⟨fO, dO, GO, bO, mO, kO⟩ := GO
  obtain ⟨fC, dC, GC, bC, iC⟩ := GC
  refine F.okX scLe (fun vs H Q E h => ?_) (fun cdv A outer s H vs Q E hr h => ?_)
  · obtain ⟨n, m, x, x', L, L', rs, ss, rfl, _⟩ := h
    rfl
  · obtain ⟨n, m, x, x', L, L', rs, ss, rfl, k, k', s1, s2, l1, l2, q1, q2⟩ := h
    obtain ⟨dx, h0, a, d, t, h1, hh, hR⟩ := k.ins
    obtain ⟨dx', h0', a', d', t', h1', hh', hR'⟩ := k'.ins
    have hr1 : Room 1 _ := hr.mono (by decide)
    refine ⟨_, pss_cons (ps_if (pt_not (pt_val (pe_callB call_isi (by rfl) T.isi b_isi (pa_cons (pv 1) (pa_cons (pe_glob (v := .ref C) (by rfl) tn.gC rfl) pa_nil))))) (pss_one ps_never) pss_nil)
      (pss_cons (ps_expr (pe_meth (E := E) (pv 0) tn.nc.cl iC GC hr bC .nil (passes_call (takes_of rfl rfl rfl rfl) (fun _ _ _ _ h => h)) (pa_cons (pv 1) pa_nil)))
      (pss_one (ps_ret (pe_call GO hr1 (by rfl) mO kO bO .nil pass0 (pa_cons (pe_fld (pv 1) rfl) (pa_cons (pe_fld (pv 0) rfl) pa_nil)))))), ?_⟩
    refine ⟨_, rfl, .ref m, .ref C, .ref C, .ref C, _, rfl, .own _, tn.is.ty h1', tn.kC, _, rfl, iteF ?_⟩
    refine ⟨_, rfl, n, dx, _, rfl, h1, nfs_none _ _ _ _ (by decide +kernel), _, rfl, n, m, x, x', L, L', rs, ss, rfl, k, k', fun c => ?_, q2⟩
    · show _
      exact ⟨_, rfl, m, C, dx', _, _, rfl, h1', tn.nc.cl, tn.nc.n2, nfs_rows _ _ _ _, _, rfl, n, C, dx, _, _, rfl, h1, tn.nc.cl, tn.nc.n2, nfs_rows _ _ _ _, a', a, ss, rs, rfl, hR', hR, l1, fun H1 e2 => q1 c H1 e2⟩
abbrev rLt : List Rw → List Rw → Bool := fun a b => allIn a b && !decide (a = b)
theorem scLt : FnScope ["self", "other"] ["self", "other"] (defScope sNumbers_lt) := ⟨rfl, rfl, rfl, by decide +kernel, rfl, by decide +kernel, by decide +kernel⟩
theorem ok_nLt {f : Addr} {fd : FuncData} (F : Fun K "__lt__" "Numbers.__lt__" sNumbers_lt f fd) (th : TyH K mg CH) (tn : TyN K mg C CH) (T : Nm mg) (GO : GotF P w K mg base "holds_all" 1 ["rows", "others"] spHold)
    (GC : ∃ (f : Addr) (fd : FuncData), FnOk P w K mg base (L2.CX P w) 3 f fd ["self", "other"] (spChk C CH D) ∧ Binds K fd ["self", "other"] [] ∧ Meth K C "_check" f) : FnOk P w K mg base (L2.CX P w) 4 f fd ["self", "other"] (spNCmp C CH D rLt) := by
  obtain ⟨fO, dO, GO, bO, mO, kO⟩ := GO
  obtain ⟨fC, dC, GC, bC, iC⟩ := GC
  refine F.okX scLt (fun vs H Q E h => ?_) (fun cdv A outer s H vs Q E hr h => ?_)
  · obtain ⟨n, m, x, x', L, L', rs, ss, rfl, _⟩ := h
    rfl
  · obtain ⟨n, m, x, x', L, L', rs, ss, rfl, k, k', s1, s2, l1, l2, q1, q2⟩ := h
    obtain ⟨dx, h0, a, d, t, h1, hh, hR⟩ := k.ins
    obtain ⟨dx', h0', a', d', t', h1', hh', hR'⟩ := k'.ins
    have hr1 : Room 1 _ := hr.mono (by decide)
    refine ⟨_, pss_cons (ps_if (pt_not (pt_val (pe_callB call_isi (by rfl) T.isi b_isi (pa_cons (pv 1) (pa_cons (pe_glob (v := .ref C) (by rfl) tn.gC rfl) pa_nil))))) (pss_one ps_never) pss_nil)
      (pss_cons (ps_expr (pe_meth (E := E) (pv 0) tn.nc.cl iC GC hr bC .nil (passes_call (takes_of rfl rfl rfl rfl) (fun _ _ _ _ h => h)) (pa_cons (pv 1) pa_nil)))
      (pss_one (ps_ret (pe_and (pe_call GO hr1 (by rfl) mO kO bO .nil pass0 (pa_cons (pe_fld (pv 1) rfl) (pa_cons (pe_fld (pv 0) rfl) pa_nil))) (pe_one (pe_not (pe_cmpR (op_eqD hr.units) (pe_fld (pv 0) rfl) (pe_fld (pv 1) rfl) (nomark _)))))))), ?_⟩
    refine ⟨_, rfl, .ref m, .ref C, .ref C, .ref C, _, rfl, .own _, tn.is.ty h1', tn.kC, _, rfl, iteF ?_⟩
    refine ⟨_, rfl, n, dx, _, rfl, h1, nfs_none _ _ _ _ (by decide +kernel), _, rfl, n, m, x, x', L, L', rs, ss, rfl, k, k', fun c => ?_, q2⟩
    · show _
      refine ⟨_, rfl, m, C, dx', _, _, rfl, h1', tn.nc.cl, tn.nc.n2, nfs_rows _ _ _ _, _, rfl, n, C, dx, _, _, rfl, h1, tn.nc.cl, tn.nc.n2, nfs_rows _ _ _ _, a', a, ss, rs, rfl, hR', hR, l1, fun H1 e2 => ⟨_, rfl, ?_⟩⟩
      have q : Q (.bl (allIn rs ss && !decide (rs = ss))) H1 := q1 c H1 e2
      revert q
      cases c2 : allIn rs ss with
      | false => exact fun q => iteF q
      | true =>
        intro q
        refine iteT ⟨_, rfl, n, C, dx, _, _, rfl, e2 _ _ h1, tn.nc.cl, tn.nc.n2, nfs_rows _ _ _ _, _, rfl, m, C, dx', _, _, rfl, e2 _ _ h1', tn.nc.cl, tn.nc.n2, nfs_rows _ _ _ _, rowsD rs, rowsD ss, rows_dp (hR.same e2), rows_dp (hR'.same e2), (s1.sd l1).shaped (by decide), (s2.sd l2).shaped (by decide), _, rfl, ?_⟩
        rw [eqv_rows]
        exact q
abbrev rGe : List Rw → List Rw → Bool := fun a b => allIn b a
theorem scGe : FnScope ["self", "other"] ["self", "other"] (defScope sNumbers_ge) := ⟨rfl, rfl, rfl, by decide +kernel, rfl, by decide +kernel, by decide +kernel⟩
theorem ok_nGe {f : Addr} {fd : FuncData} (F : Fun K "__ge__" "Numbers.__ge__" sNumbers_ge f fd) (th : TyH K mg CH) (tn : TyN K mg C CH) (T : Nm mg) (GO : GotF P w K mg base "holds_all" 1 ["rows", "others"] spHold)
    (GC : ∃ (f : Addr) (fd : FuncData), FnOk P w K mg base (L2.CX P w) 3 f fd ["self", "other"] (spChk C CH D) ∧ Binds K fd ["self", "other"] [] ∧ Meth K C "_check" f) : FnOk P w K mg base (L2.CX P w) 4 f fd ["self", "other"] (spNCmp C CH D rGe) := by
  obtain ⟨fO, dO, GO, bO, mO, kO⟩ := GO
  obtain ⟨fC, dC, GC, bC, iC⟩ := GC
  refine F.okX scGe (fun vs H Q E h => ?_) (fun cdv A outer s H vs Q E hr h => ?_)
  · obtain ⟨n, m, x, x', L, L', rs, ss, rfl, _⟩ := h
    rfl
  · obtain ⟨n, m, x, x', L, L', rs, ss, rfl, k, k', s1, s2, l1, l2, q1, q2⟩ := h
    obtain ⟨dx, h0, a, d, t, h1, hh, hR⟩ := k.ins
    obtain ⟨dx', h0', a', d', t', h1', hh', hR'⟩ := k'.ins
    have hr1 : Room 1 _ := hr.mono (by decide)
    refine ⟨_, pss_cons (ps_if (pt_not (pt_val (pe_callB call_isi (by rfl) T.isi b_isi (pa_cons (pv 1) (pa_cons (pe_glob (v := .ref C) (by rfl) tn.gC rfl) pa_nil))))) (pss_one ps_never) pss_nil)
      (pss_cons (ps_expr (pe_meth (E := E) (pv 0) tn.nc.cl iC GC hr bC .nil (passes_call (takes_of rfl rfl rfl rfl) (fun _ _ _ _ h => h)) (pa_cons (pv 1) pa_nil)))
      (pss_one (ps_ret (pe_call GO hr1 (by rfl) mO kO bO .nil pass0 (pa_cons (pe_fld (pv 0) rfl) (pa_cons (pe_fld (pv 1) rfl) pa_nil)))))), ?_⟩
    refine ⟨_, rfl, .ref m, .ref C, .ref C, .ref C, _, rfl, .own _, tn.is.ty h1', tn.kC, _, rfl, iteF ?_⟩
    refine ⟨_, rfl, n, dx, _, rfl, h1, nfs_none _ _ _ _ (by decide +kernel), _, rfl, n, m, x, x', L, L', rs, ss, rfl, k, k', fun c => ?_, q2⟩
    · show _
      exact ⟨_, rfl, n, C, dx, _, _, rfl, h1, tn.nc.cl, tn.nc.n2, nfs_rows _ _ _ _, _, rfl, m, C, dx', _, _, rfl, h1', tn.nc.cl, tn.nc.n2, nfs_rows _ _ _ _, a, a', rs, ss, rfl, hR, hR', l2, fun H1 e2 => q1 c H1 e2⟩
abbrev rGt : List Rw → List Rw → Bool := fun a b => allIn b a && !decide (a = b)
theorem scGt : FnScope ["self", "other"] ["self", "other"] (defScope sNumbers_gt) := ⟨rfl, rfl, rfl, by decide +kernel, rfl, by decide +kernel, by decide +kernel⟩
theorem ok_nGt {f : Addr} {fd : FuncData} (F : Fun K "__gt__" "Numbers.__gt__" sNumbers_gt f fd) (th : TyH K mg CH) (tn : TyN K mg C CH) (T : Nm mg) (GO : GotF P w K mg base "holds_all" 1 ["rows", "others"] spHold)
    (GC : ∃ (f : Addr) (fd : FuncData), FnOk P w K mg base (L2.CX P w) 3 f fd ["self", "other"] (spChk C CH D) ∧ Binds K fd ["self", "other"] [] ∧ Meth K C "_check" f) : FnOk P w K mg base (L2.CX P w) 4 f fd ["self", "other"] (spNCmp C CH D rGt) := by
  obtain ⟨fO, dO, GO, bO, mO, kO⟩ := GO
  obtain ⟨fC, dC, GC, bC, iC⟩ := GC
  refine F.okX scGt (fun vs H Q E h => ?_) (fun cdv A outer s H vs Q E hr h => ?_)
  · obtain ⟨n, m, x, x', L, L', rs, ss, rfl, _⟩ := h
    rfl
  · obtain ⟨n, m, x, x', L, L', rs, ss, rfl, k, k', s1, s2, l1, l2, q1, q2⟩ := h
    obtain ⟨dx, h0, a, d, t, h1, hh, hR⟩ := k.ins
    obtain ⟨dx', h0', a', d', t', h1', hh', hR'⟩ := k'.ins
    have hr1 : Room 1 _ := hr.mono (by decide)
    refine ⟨_, pss_cons (ps_if (pt_not (pt_val (pe_callB call_isi (by rfl) T.isi b_isi (pa_cons (pv 1) (pa_cons (pe_glob (v := .ref C) (by rfl) tn.gC rfl) pa_nil))))) (pss_one ps_never) pss_nil)
      (pss_cons (ps_expr (pe_meth (E := E) (pv 0) tn.nc.cl iC GC hr bC .nil (passes_call (takes_of rfl rfl rfl rfl) (fun _ _ _ _ h => h)) (pa_cons (pv 1) pa_nil)))
      (pss_one (ps_ret (pe_and (pe_call GO hr1 (by rfl) mO kO bO .nil pass0 (pa_cons (pe_fld (pv 0) rfl) (pa_cons (pe_fld (pv 1) rfl) pa_nil))) (pe_one (pe_not (pe_cmpR (op_eqD hr.units) (pe_fld (pv 0) rfl) (pe_fld (pv 1) rfl) (nomark _)))))))), ?_⟩
    refine ⟨_, rfl, .ref m, .ref C, .ref C, .ref C, _, rfl, .own _, tn.is.ty h1', tn.kC, _, rfl, iteF ?_⟩
    refine ⟨_, rfl, n, dx, _, rfl, h1, nfs_none _ _ _ _ (by decide +kernel), _, rfl, n, m, x, x', L, L', rs, ss, rfl, k, k', fun c => ?_, q2⟩
    · show _
      refine ⟨_, rfl, n, C, dx, _, _, rfl, h1, tn.nc.cl, tn.nc.n2, nfs_rows _ _ _ _, _, rfl, m, C, dx', _, _, rfl, h1', tn.nc.cl, tn.nc.n2, nfs_rows _ _ _ _, a, a', rs, ss, rfl, hR, hR', l2, fun H1 e2 => ⟨_, rfl, ?_⟩⟩
      have q : Q (.bl (allIn ss rs && !decide (rs = ss))) H1 := q1 c H1 e2
      revert q
      cases c2 : allIn ss rs with
      | false => exact fun q => iteF q
      | true =>
        intro q
        refine iteT ⟨_, rfl, n, C, dx, _, _, rfl, e2 _ _ h1, tn.nc.cl, tn.nc.n2, nfs_rows _ _ _ _, _, rfl, m, C, dx', _, _, rfl, e2 _ _ h1', tn.nc.cl, tn.nc.n2, nfs_rows _ _ _ _, rowsD rs, rowsD ss, rows_dp (hR.same e2), rows_dp (hR'.same e2), (s1.sd l1).shaped (by decide), (s2.sd l2).shaped (by decide), _, rfl, ?_⟩
        rw [eqv_rows]
        exact q
end
end Hs
/-! dict(list of pairs), the keys tuples -/
namespace Dpt
open PySem PySem.Spec PyProof.Rows L2
/-- a pair of a tuple of ints and texts, and a value, of a heap -/
def PrAt (H : Hp) (p : Addr) (kv : List Key × V) : Prop := ∃ b, H p = some (.tup [.ref b, kv.2]) ∧ H b = some (.tup (kv.1.map kV))
def mergeT (m : List (List Key × V)) (kvs : List (List Key × V)) : List (List Key × V) := kvs.foldl (fun m kv => putK m kv.1 kv.2) m
theorem mergeT_len : ∀ (kvs m : List (List Key × V)), (mergeT m kvs).length ≤ m.length + kvs.length
  | [], m => Nat.le_refl _
  | kv :: kvs, m => by
    have h1 := mergeT_len kvs (putK m kv.1 kv.2)
    have h2 := length_putK m kv.1 kv.2
    rw [List.length_cons]
    show (mergeT (putK m kv.1 kv.2) kvs).length ≤ _
    omega
theorem merge_kt {H : Hp} : ∀ {kvs : List (List Key × V)} {xs : List (List Key × Addr × Value)}, KT H kvs xs → ∀ {m : List (List Key × V)} {ms : List (List Key × Addr × Value)}, KT H m ms → KT H (mergeT m kvs) (storedAllH ms xs)
  | _, _, .nil, _, _, r => r
  | _, _, .cons (a := p) (b := q) h t, m, ms, r => by
    show KT H (mergeT (putK m p.1 p.2) _) (storedAllH (storedH ms q.1 q.2.1 q.2.2) _)
    have := r.put p.1 h.2.1 h.2.2
    rw [h.1] at this
    rw [h.1]
    exact merge_kt t this
section
variable {X : Cx}
theorem pairs_of {pins : List (Addr × Obj)} {σ : L2.St} {H : Hp} {s : Shared} (I : Inv X pins σ H s) : ∀ {ps : List Addr} {kvs : List (List Key × V)}, Paired (PrAt H) ps kvs →
    ∃ prs : List (List Key × Addr × Value), KT H kvs prs ∧ prs.length = ps.length ∧ ∀ (j : Nat) (q : List Key × Addr × Value), prs[j]? = some q → ∃ (p : Addr), ps[j]? = some p ∧ IsTup s.heap p #[.ref q.2.1, q.2.2] ∧ H q.2.1 = some (.tup (q.1.map kV))
  | _, _, .nil => ⟨[], .nil, rfl, fun j q e => by simp at e⟩
  | _, _, .cons (a := p) (b := kv) h t => by
    obtain ⟨prs, r, hl, hp⟩ := pairs_of I t
    obtain ⟨b, h, hb⟩ := h
    obtain ⟨its, rv, ht, _⟩ := I.tuple (SqT.of (K := X.K) h)
    obtain ⟨u, y, ei, ru, ry⟩ := vals2 rv
    subst ei
    cases (show u = Value.ref b from ru)
    refine ⟨(kv.1, b, y) :: prs, .cons ⟨rfl, hb, ry⟩ r, by rw [List.length_cons, List.length_cons, hl], fun j q e => ?_⟩
    cases j with
    | zero =>
      have e' : (kv.1, b, y) = q := Option.some.inj e
      subst e'
      exact ⟨p, rfl, ht, hb⟩
    | succ j =>
      obtain ⟨p', e1, e2, e3⟩ := hp j q (by simpa using e)
      exact ⟨p', by simpa using e1, e2, e3⟩
theorem call_dictPT (hu : X.A.units + 2 < cLine) (hcalm : X.calm = true) : CallR X (.type "dict") (fun xs H Q => ∃ (a : Addr) (ps : List Addr) (kvs : List (List Key × V)), xs = [.ref a] ∧ SqL X.K H a (ps.map V.ref) ∧ Paired (PrAt H) ps kvs ∧
    ∀ p, H p = none → Q (.ref p) (upd H p (.dT (mergeT [] kvs)))) := by
  intro pins s σ H xs us Q I r q
  obtain ⟨a, ps, kvs, ex, hq, hp, q⟩ := q
  subst ex
  obtain ⟨u, eu, rx⟩ := vals1 r
  subst eu
  cases rx
  obtain ⟨its, rv, pl, hz⟩ := I.list hq
  have ei := refs_at rv
  subst ei
  rw [List.length_map] at hz
  obtain ⟨prs, rel, hl, hpr⟩ := pairs_of I hp
  obtain ⟨o, n, ho, hc, hd, hdat⟩ := pl
  have item : ∀ j (hj : j < prs.length), ∃ p, ps[j]? = some p ∧ IsTup s.heap p #[.ref prs[j].2.1, prs[j].2.2] ∧ H prs[j].2.1 = some (.tup (prs[j].1.map kV)) := fun j hj => hpr j _ (List.getElem?_eq_getElem hj)
  have big := I.big
  refine call_dict_pairsH (knd := tupleKind (mixKind X.prog X.w)) (ps := prs) (PairArg.list a (ps.map Value.ref).toArray (fun j => ps.getD j 0) (prs.map fun q => (.ref q.2.1, q.2.2))) (I.ok.hd hcalm) (show X.A.units + 2 < cLine from hu)
    ⟨⟨o, n, ho, hc, hd, hdat⟩, by simp [hl], fun j k v e => ?_⟩ ⟨by simp, fun i key v e => ?_⟩ (fun h' hk x hx => ?_) (by rw [List.length_map, hl]; exact hz) fun h' tk hd' k => ?_
  · rw [List.getElem?_map] at e
    cases ej : prs[j]? with
    | none => rw [ej] at e; cases e
    | some q =>
      rw [ej] at e
      cases e
      obtain ⟨p, e1, ⟨o2, t1, t2, n2, t3⟩, e3⟩ := hpr j q ej
      have eD : ps.getD j 0 = p := by rw [List.getD_eq_getElem?_getD, e1]; rfl
      refine ⟨by simp [e1, eD], ?_⟩
      show PairAt s.heap (ps.getD j 0) _ _
      rw [eD]
      exact .inl ⟨o2, t1, t2, n2, t3⟩
  · have e : (prs.map fun q => ((.ref q.2.1, q.2.2) : Value × Value))[i]? = some (key, v) := e
    rw [List.getElem?_map] at e
    cases ej : prs[i]? with
    | none => rw [ej] at e; cases e
    | some q =>
      rw [ej] at e
      cases e
      exact ⟨q.1, q.2.1, rfl, rfl⟩
  · obtain ⟨j, hj, rfl⟩ := List.mem_iff_getElem.mp hx
    obtain ⟨p, e1, e2, e3⟩ := item j hj
    obtain ⟨o1, its1, n1, z1, z2, z3, z4⟩ := key_of (P := X.prog) (w := X.w) I.hok e3
    exact ⟨o1, its1, n1, hk _ _ (Nat.ne_of_lt (Heap.lt_size z1)) (by simp) z1, z2, z3, z4⟩
  · have hm : (s.heap.objs.size == sysModules) = false := beq_eq_false_iff_ne.mpr (Nat.ne_of_gt I.big)
    have free : H s.heap.objs.size = none := I.hok.fresh (Nat.le_refl _)
    have hlen : (mergeT [] kvs).length ≤ sizeLine := by
      refine Nat.le_trans (mergeT_len kvs []) ?_
      rw [List.length_nil, Nat.zero_add, Paired.length rel, hl]
      exact hz
    obtain ⟨o3, es, ep, g1, g2, g3, g4, _, g5⟩ := hd'
    have rel2 : KT (upd H s.heap.objs.size (.dT (mergeT [] kvs))) (mergeT [] kvs) (storedAllH [] prs) := (merge_kt rel .nil).keeps fun c ys ec => (upd_ne (ne_of_none ec free)).trans ec
    exact ⟨.ref s.heap.objs.size, upd H s.heap.objs.size (.dT (mergeT [] kvs)), I.laid (t' := tk) (fun b o e => k b o (by simp) e) (Nat.le_refl _)
      (show ObjOk X.prog X.w _ _ _ (.dT (mergeT [] kvs)) from ⟨hlen, hm, storedAllH [] prs, rel2, o3, es, ep, g1, g2, g3, g4, g5⟩), rfl, q _ free⟩
end
end Dpt
namespace Hs
open PySem PySem.Spec PyProof.Rows L2 Am Rv
theorem refs_push {α : Type} {f : α → HO} {H : Hp} {D q : Addr} {ds : List Addr} {ys : List α} {x : α} (hD : H D = some (.lst (ds.map V.ref))) (rds : Refs f H ds ys) (ho : H q = some (f x)) (hf : ∀ x zs, f x ≠ .lst zs) :
    (upd H D (.lst (ds.map V.ref ++ [.ref q]))) D = some (.lst ((ds ++ [q]).map V.ref)) ∧ Refs f (upd H D (.lst (ds.map V.ref ++ [.ref q]))) (ds ++ [q]) (ys ++ [x]) := by
  refine ⟨by rw [upd_same, List.map_append]; rfl, Refs.snoc ⟨rds.1, fun i r y x1 x2 => ?_⟩ ?_⟩
  · have := rds.2 i r y x1 x2
    rw [upd_ne (fun z => by rw [z, hD] at this; exact hf _ _ (Option.some.inj this).symm)]
    exact this
  · rw [upd_ne (fun z => by rw [z, hD] at ho; exact hf _ _ (Option.some.inj ho).symm)]
    exact ho
theorem seat_pw {L : Lore} {rs : List Rw} (ok : RowsOk L rs) : rs.Pairwise fun a b => Ot.lexK (seatK a) (seatK b) = true := by
  have := Ot.climb_pw.mp ok.cl
  rw [List.pairwise_map] at this
  exact this
theorem meters5 {L : Lore} (sm : Small L) : (metersOf L).length ≤ 5 := by
  show (((L.places.filter (·.inner)).map (·.name)).length + 1) ≤ 5
  rw [List.length_map]
  have := List.length_filter_le (·.inner) L.places
  have := sm.1
  omega
theorem ok_sub {L : Lore} {rs ss : List Rw} (ok : RowsOk L rs) (s : ss.Sublist rs) : RowsOk L ss :=
  ⟨fun r h => ok.ok r (s.subset h), by rw [Ot.climb_pw, List.pairwise_map]; exact (seat_pw ok).sublist s⟩
/-- the number of a seat in a table, 7 if it has none -/
def numOf (kv : List (List Key × V)) (s : Str × Nat) : Int := match valV kv (seK s) with
  | some (.int n) => n
  | _ => 7
def mkR (kv : List (List Key × V)) (s : Str × Nat) : Rw := ⟨s.1, s.2, numOf kv s⟩
def rowP (r : Rw) : List Key × V := (seatK r, V.int r.n)
def IntV (kv : List (List Key × V)) : Prop := ∀ k v, valV kv k = some v → ∃ n : Int, v = .int n ∧ 0 ≤ n ∧ n ≤ 9999
theorem intV_put {kv : List (List Key × V)} (h : IntV kv) {k : List Key} {n : Int} (h0 : 0 ≤ n) (h1 : n ≤ 9999) : IntV (putK kv k (.int n)) := by
  intro j v e
  rw [valV_put] at e
  split at e
  · cases e
    exact ⟨n, rfl, h0, h1⟩
  · exact h j v e
theorem intV_rows : ∀ (rs : List Rw) (kv : List (List Key × V)), IntV kv → (∀ r ∈ rs, 0 ≤ r.n ∧ r.n ≤ 9999) → IntV (Dpt.mergeT kv (rs.map rowP))
  | [], kv, h, _ => h
  | r :: rs, kv, h, b => intV_rows rs (putK kv (seatK r) (.int r.n)) (intV_put h (b r (by simp)).1 (b r (by simp)).2) (fun x hx => b x (by simp [hx]))
theorem numOf_val {kv : List (List Key × V)} (h : IntV kv) (s : Str × Nat) : (valV kv (seK s)).getD (.int 7) = .int (numOf kv s) ∧ 0 ≤ numOf kv s ∧ numOf kv s ≤ 9999 := by
  unfold numOf
  cases e : valV kv (seK s) with
  | none => exact ⟨rfl, by decide, by decide⟩
  | some v =>
    obtain ⟨n, rfl, h0, h1⟩ := h _ _ e
    exact ⟨rfl, h0, h1⟩
theorem paired_same {H H' : Hp} (e : Same H H') {ds : List Addr} {kv : List (List Key × V)} (h : Paired (Dpt.PrAt H) ds kv) : Paired (Dpt.PrAt H') ds kv :=
  Paired.mapP h fun _ _ ⟨b, h1, h2⟩ => ⟨b, e _ _ h1, e _ _ h2⟩
def spOther : Sp := fun vs H Q _ => ∃ (p d a : Addr) (L : Lore) (rs : List Rw) (N : Int), vs = [.ref p, .ref d, .ref a] ∧ LoreAt H d L ∧ Small L ∧ (1 ≤ L.days ∧ L.days ≤ 14) ∧ (∀ q ∈ L.places, q.room ≤ 9) ∧ RowsAt H a rs ∧ RowsOk L rs ∧ rs.length ≤ 70 ∧ JarAt H p N ∧ N ≤ 7900 ∧
  ∀ (H' : Hp) (t : Addr) (ss : List Rw), Chg p H H' → JarAt H' p (N + 230) → RowsAt H' t ss → RowsOk L ss → ss.length ≤ 70 → Q (.ref t) H'

section
variable {P : Program} {w : World} {K : PySem.W.Frag} {mg : Str → Option Value} {base : Heap}
theorem sc_l_other_rows : FnScope ["_law_jar_here", "_law_lore", "_law_rows", "_law_way", "_law_row", "_law_known", "_law_seats_here", "_law_seat"] ["_law_jar_here", "_law_lore", "_law_rows"] (defScope sL_other_rows) := ⟨rfl, rfl, rfl, by decide +kernel, rfl, by decide +kernel, by decide +kernel⟩
theorem ok_other {f : Addr} {fd : FuncData} (F : Fun K "_law_other_rows" "_law_other_rows" sL_other_rows f fd) (T : Nm mg) (n_dict : mg "dict" = none) (n_tuple : mg "tuple" = none) (G_l_take : GotF P w K mg base "_law_take" 1 ["_law_jar_here", "_law_upto"] Am.spTake) (G_l_seats : GotF P w K mg base "_law_seats" 2 ["_law_lore"] spSeats) (G_l_misread : GotF P w K mg base "_law_misread" 3 ["_law_jar_here", "_law_rows"] spMis) (G_l_any_rows : GotF P w K mg base "_law_any_rows" 4 ["_law_jar_here", "_law_lore"] spAny) : FnOk P w K mg base CX0 5 f fd ["_law_jar_here", "_law_lore", "_law_rows"] (spOther) := by
  obtain ⟨f_l_take, d_l_take, G_l_take, b_l_take, m_l_take, k_l_take⟩ := G_l_take
  obtain ⟨f_l_seats, d_l_seats, G_l_seats, b_l_seats, m_l_seats, k_l_seats⟩ := G_l_seats
  obtain ⟨f_l_misread, d_l_misread, G_l_misread, b_l_misread, m_l_misread, k_l_misread⟩ := G_l_misread
  obtain ⟨f_l_any_rows, d_l_any_rows, G_l_any_rows, b_l_any_rows, m_l_any_rows, k_l_any_rows⟩ := G_l_any_rows
  refine F.ok sc_l_other_rows (fun vs H Q E h => ?_) (fun cdv A outer s H vs Q E hr h => ?_)
  · obtain ⟨p, d, a, L, rs, N, rfl, hL, smL, d14, hr9, hA, ok, l70, hj, hN, q⟩ := h
    rfl
  · obtain ⟨p, d, a, L, rs, N, rfl, hL, smL, d14, hr9, hA, ok, l70, hj, hN, q⟩ := h
    have hr1 : Room 1 _ := hr.mono (by decide)
    have hr2 : Room 2 _ := hr.mono (by decide)
    have hr3 : Room 3 _ := hr.mono (by decide)
    have hr4 : Room 4 _ := hr.mono (by decide)
    have hu := hu_of hr
    have b_dict_ : bootBuiltins "dict" = some (.type "dict") := by decide +kernel
    have b_tuple_ : bootBuiltins "tuple" = some (.type "tuple") := by decide +kernel
    refine ⟨_, (pss_cons (ps_set (i := 3) sc_l_other_rows.nd rfl (.inl rfl) (pe_call G_l_take hr1 (by rfl) m_l_take k_l_take b_l_take .nil pass0 (pa_cons (pv 0) (pa_cons pe_int pa_nil))))
      (pss_cons (ps_if (pt_cmpR op_eq (pv 3) pe_int (nomark _)) (pss_one (ps_ret (pe_callTy (call_tuple_of) (by rfl) n_tuple b_tuple_ (pa_cons (pe_lc (own := [("_law_row", 4)]) (g := gName 4) rfl sc_l_other_rows.nd (pi_tup (pv 2))
          (blkOk_by (N := ["_law_jar_here", "_law_lore", "_law_rows", "_law_way", "_law_row", "_law_known", "_law_seats_here", "_law_seat"]) (sc := defScope sL_other_rows) (by decide +kernel)) (fun _ _ _ _ _ => (pg_name (i := 4) sc_l_other_rows.nd rfl (.inl rfl))) (fun _ _ _ _ _ => (pts_one (pt_cmpR op_gt (pe_call G_l_take hr1 (by rfl) m_l_take k_l_take b_l_take .nil pass0 (pa_cons (pv 0) (pa_cons pe_int pa_nil))) pe_int (nomark _)))) (fun _ _ _ _ _ => (pv 4))) pa_nil)))) pss_nil)
      (pss_cons (ps_if (pt_cmpR op_eq (pv 3) pe_int (nomark _)) (pss_one (ps_ret (pv 2))) pss_nil)
      (pss_cons (ps_if (pt_cmpR op_eq (pv 3) pe_int (nomark _)) (pss_cons (ps_set (i := 5) sc_l_other_rows.nd rfl (.inr rfl) (pe_callTy (Dpt.call_dictPT (Nat.lt_of_le_of_lt (Nat.add_le_add_left (by decide) _) hr.units) rfl) (by rfl) n_dict b_dict_ (pa_cons (pe_lc (own := [("_law_row", 4)]) (g := gName 4) (tt := tYes) rfl sc_l_other_rows.nd (pi_tup (pv 2))
          (blkOk_by (N := ["_law_jar_here", "_law_lore", "_law_rows", "_law_way", "_law_row", "_law_known", "_law_seats_here", "_law_seat"]) (sc := defScope sL_other_rows) (by decide +kernel)) (fun _ _ _ _ _ => (pg_name (i := 4) sc_l_other_rows.nd rfl (.inl rfl))) (fun _ _ _ _ _ => pts_nil) (fun _ _ _ _ _ => (pe_tup (pa_cons (pe_slice (r := rSlA K) (by exact sl_tupA) (pv 4) po_none (po_some pe_int)) (pa_cons (pe_ix (r := rIxT K) (by exact ix_tup) (pv 4) pe_int (fun _ _ => rfl)) pa_nil))))) pa_nil)))
      (pss_cons (ps_setLc (i := 6) (own := [("_law_seat", 7)]) (g := gName 7) rfl sc_l_other_rows.nd rfl rfl rfl (pi_list (pe_call G_l_seats hr2 (by rfl) m_l_seats k_l_seats b_l_seats .nil pass0 (pa_cons (pv 1) pa_nil)))
          (blkOk_by (N := ["_law_jar_here", "_law_lore", "_law_rows", "_law_way", "_law_row", "_law_known", "_law_seats_here", "_law_seat"]) (sc := defScope sL_other_rows) (by decide +kernel)) (fun _ _ _ _ _ => (pg_name (i := 7) sc_l_other_rows.nd rfl (.inl rfl))) (fun _ _ _ _ _ => (pts_one (PW.pt (pw_or (pt_cmp (pc_din (by exact hu) (pv 7) (pv 5))) (pw_or1 (pt_cmpR op_eq (pe_call G_l_take hr1 (by rfl) m_l_take k_l_take b_l_take .nil pass0 (pa_cons (pv 0) (pa_cons pe_int pa_nil))) pe_int (nomark _))))))) (fun _ _ _ _ _ => (pv 7)))
      (pss_one (ps_ret (pe_callTy (call_tuple_of) (by rfl) n_tuple b_tuple_ (pa_cons (pe_lc (own := [("_law_seat", 7)]) (g := gName 7) (tt := tYes) rfl sc_l_other_rows.nd (pi_list (pv 6))
          (blkOk_by (N := ["_law_jar_here", "_law_lore", "_law_rows", "_law_way", "_law_row", "_law_known", "_law_seats_here", "_law_seat"]) (sc := defScope sL_other_rows) (by decide +kernel)) (fun _ _ _ _ _ => (pg_name (i := 7) sc_l_other_rows.nd rfl (.inl rfl))) (fun _ _ _ _ _ => pts_nil) (fun _ _ _ _ _ => (pe_op (r := rCatA K) (by exact op_catA) (pv 7) (pe_tup (pa_cons (pe_dget2 (by exact hu) (pv 5) (pv 7) pe_int ⟨rfl, rfl, rfl, rfl⟩) pa_nil))))) pa_nil)))))) pss_nil)
      (pss_one (ps_ret (pe_ifExp (pt_cmpR op_eq (pv 3) pe_int (nomark _)) (pe_call G_l_misread hr3 (by rfl) m_l_misread k_l_misread b_l_misread .nil pass0 (pa_cons (pv 0) (pa_cons (pv 2) pa_nil))) (pe_call G_l_any_rows hr4 (by rfl) m_l_any_rows k_l_any_rows b_l_any_rows .nil pass0 (pa_cons (pv 0) (pa_cons (pv 1) pa_nil)))))))))), ?_⟩
    refine ⟨_, rfl, p, 5, _, rfl, ⟨by decide, by decide⟩, hj, by omega, fun wy H1 hw c1 j1 => ?_⟩
    have hL := hL.chg hj c1; have hA := hA.chg hj c1
    have hA0 := hA
    obtain ⟨as, ha, ras⟩ := hA
    have las : as.length = rs.length := ras.1
    have nap : a ≠ p := jar_not j1 ha (fun _ z => by cases z)
    refine ⟨_, rfl, rfl, _, rfl, ite2 (fun _ => ?_) (fun _ => ?_)⟩
    · refine ⟨_, rfl, a, rfl, ⟨_, SqT.of ha⟩, fun D nD => ?_⟩
      have nDp : D ≠ p := ne_jar j1 nD
      have e0 := same_upd (o := .lst []) nD
      refine lc_it (walk_tup (xs := as.map V.ref)) (Pv := fun k H' => Chg p H1 H' ∧ JarAt H' p (N + 1 + k) ∧ ∃ (ds : List Addr) (ss : List Rw), H' D = some (.lst (ds.map V.ref)) ∧ Refs rwO H' ds ss ∧ ss.Sublist (rs.take k)) ⟨Chg.of e0, (j1.same e0).mono (by omega), [], [], upd_same, Refs.nil, List.nil_sublist _⟩ (fun k G _ hh => SqT.of (hh.1 _ _ ha nap)) ?_ ?_
      · rintro k v K1 K2 hk ⟨f1, j, ds, ss, hD, rds, sub⟩ ⟨rfl, hv⟩
        obtain ⟨q2, r, rfl, hq2, hl, ho2⟩ := ras.at hv
        have hk' : k < rs.length := (List.getElem?_eq_some_iff.mp hl).1
        have et : rs.take (k + 1) = rs.take k ++ [r] := by rw [List.take_add_one, hl]; rfl
        refine ⟨rfl, ?_⟩
        refine ⟨_, rfl, p, 3, _, rfl, ⟨by decide, by decide⟩, j, by omega, fun z K3 hz c3 j3 => ⟨_, _, rfl, rfl, _, rfl, ?_⟩⟩
        have hD3 := c3 _ _ hD nDp
        have rds3 : Refs rwO K3 ds ss := ⟨rds.1, fun i r x b1 b2 => c3 _ _ (rds.2 i r x b1 b2) (jar_not j (rds.2 i r x b1 b2) (rwO_nl x))⟩
        have ho3 := (f1.trans c3) _ _ ho2 (jar_not j1 ho2 (rwO_nl r))
        rw [et]
        refine ite2 (fun _ => ?_) (fun _ => ?_)
        · obtain ⟨z1, z2⟩ := refs_push hD3 rds3 ho3 rwO_nl
          have dl : ds.length ≤ 70 := by rw [rds.1]; exact Nat.le_trans sub.length_le (by rw [List.length_take]; omega)
          refine ⟨_, rfl, _, hD3, szl (by rw [List.length_map]; omega), fun b u z nb => ?_, ?_, ds ++ [q2], ss ++ [r], z1, z2, sub.append (List.Sublist.refl _)⟩
          · rw [upd_ne (ne_of_none z nD)]
            exact (f1.trans c3) _ _ z nb
          · obtain ⟨o, mm, cc, hpp, rr⟩ := j3
            exact JarAt.mono ⟨o, mm, cc, (upd_ne nDp.symm).trans hpp, rr⟩ (by omega)
        · exact ⟨f1.trans c3, j3.mono (by omega), ds, ss, hD3, rds3, sub.trans (List.sublist_append_left _ _)⟩
      · rintro K1 ⟨f1, j, ds, ss, hD, rds, sub⟩
        rw [show rs.take (as.map V.ref).length = rs from by rw [List.length_map, las]; exact List.take_length] at sub
        refine ⟨D, _, rfl, .inl ⟨SqL.of hD, fun tn ntn => ?_⟩⟩
        have f2 := same_upd (o := .tup (ds.map V.ref)) ntn
        have lk : ((as.map V.ref).length : Int) ≤ 70 := by rw [List.length_map, las]; omega
        exact q _ tn ss ((c1.trans f1).trans (Chg.of f2)) ((j.same f2).mono (by omega)) ⟨ds, upd_same, rds.same f2⟩ (ok_sub ok sub) (Nat.le_trans sub.length_le l70)
    refine ⟨_, rfl, rfl, _, rfl, ite2 (fun _ => ?_) (fun _ => ?_)⟩
    · exact ⟨_, rfl, q _ a rs c1 (j1.mono (by omega)) hA0 ok l70⟩
    refine ⟨_, rfl, rfl, _, rfl, ite2 (fun _ => ?_) (fun _ => ?_)⟩
    · refine ⟨_, rfl, a, rfl, ⟨_, SqT.of ha⟩, fun D nD => ?_⟩
      refine lc_it (walk_tup (xs := as.map V.ref)) (Pv := fun k H' => Same H1 H' ∧ ∃ ds : List Addr, H' D = some (.lst (ds.map V.ref)) ∧ Paired (Dpt.PrAt H') ds ((rs.take k).map rowP)) ⟨same_upd nD, [], upd_same, .nil⟩ (fun k G _ hh => SqT.of (hh.1 _ _ ha)) ?_ ?_
      · rintro k v K1 K2 hk ⟨f1, ds, hD, rds⟩ ⟨rfl, hv⟩
        obtain ⟨q2, r, rfl, hq2, hl, ho2⟩ := ras.at hv
        have ho3 := f1 _ _ ho2
        have hk' : k < rs.length := (List.getElem?_eq_some_iff.mp hl).1
        have et : rs.take (k + 1) = rs.take k ++ [r] := by rw [List.take_add_one, hl]; rfl
        refine ⟨rfl, ?_⟩
        unfold tYes
        refine iteT ?_
        refine ⟨_, rfl, 2, rfl, ?_⟩
        refine Ot.slA_read ho3 fun b K3 f2 hb => ?_
        rw [show (some (2 : Int)) = some ((2 : Nat) : Int) from rfl, Ot.cutV_to] at hb
        refine ⟨_, rfl, q2, _, _, .int r.n, rfl, rfl, SqT.of (f2 _ _ ho3), rfl, (show 2 ≤ sizeLine by decide), fun T nT => ?_⟩
        have f3 := same_upd (o := .tup [V.ref b, .int r.n]) nT
        have hT := upd_same (H := K3) (a := T) (o := .tup [V.ref b, .int r.n])
        generalize upd K3 T (.tup [V.ref b, .int r.n]) = K4 at *
        have f4 := f2.trans f3
        have hD4 := f4 _ _ hD
        have dl : ds.length ≤ 70 := by have := Paired.length rds; rw [List.length_map, List.length_take] at this; omega
        have pr : Paired (Dpt.PrAt K4) (ds ++ [T]) ((rs.take (k + 1)).map rowP) := by
          rw [et, List.map_append]
          exact (paired_same f4 rds).snoc ⟨b, hT, f3 _ _ hb⟩
        have nt : ∀ b o, K4 b = some o → (∀ xs, o ≠ .lst xs) → (upd K4 D (.lst ((ds ++ [T]).map V.ref))) b = some o := fun b o h no => (upd_ne (fun z => by rw [z, hD4] at h; exact no _ (Option.some.inj h).symm)).trans h
        refine ⟨_, hD4, szl (by rw [List.length_map]; omega), fun b u z => ?_, ds ++ [T], ?_, ?_⟩
        · rw [upd_ne (ne_of_none z nD)]
          exact f4 _ _ (f1 _ _ z)
        · rw [List.map_append]
          exact upd_same
        · rw [show ds.map V.ref ++ [V.ref T] = (ds ++ [T]).map V.ref from by rw [List.map_append]; rfl]
          exact Paired.mapP pr fun p' kv ⟨b', h1, h2⟩ => ⟨b', nt _ _ h1 (fun _ z => by cases z), nt _ _ h2 (fun _ z => by cases z)⟩
      · rintro K1 ⟨f1, ds, hD, rds⟩
        rw [show rs.take (as.map V.ref).length = rs from by rw [List.length_map, las]; exact List.take_length] at rds
        refine ⟨D, ds, _, rfl, SqL.of hD, rds, fun dd ndd => ?_⟩
        have iv := intV_rows rs [] (fun k v e => by cases e) (fun r hr => (ok.ok r hr).n)
        have f2 := same_upd (o := .dT (Dpt.mergeT [] (rs.map rowP))) ndd
        have hdd := upd_same (H := K1) (a := dd) (o := .dT (Dpt.mergeT [] (rs.map rowP)))
        generalize upd K1 dd (.dT (Dpt.mergeT [] (rs.map rowP))) = K2 at *
        generalize Dpt.mergeT [] (rs.map rowP) = kv at *
        have f12 := f1.trans f2
        have c2 := c1.trans (Chg.of f12)
        have hL2 := hL.same f12
        have j2 := j1.same f12
        clear f1 hD rds f2 ndd nD hA0 ras las ha
        refine ⟨_, rfl, d, L, rfl, hL2, smL, d14.2, fun H2 st ys e2 nst asc hst => ?_⟩
        obtain ⟨ss, hss, rss⟩ := hst
        have c2 := c2.trans (Chg.of e2)
        have hdd2 := e2 _ _ hdd
        have j3 := j2.same e2
        have nstp : st ≠ p := ne_jar j2 nst
        have nddp : dd ≠ p := jar_not j3 hdd2 (fun _ z => by cases z)
        have lss : ss.length = (seatsOf ys L.days).length := rss.1
        have l70s : (seatsOf ys L.days).length ≤ 5 * 14 := by
          rw [seatsOf_len]
          have := asc_len asc
          have := meters5 smL
          exact Nat.mul_le_mul (by omega) d14.2
        refine ⟨st, rfl, ⟨_, SqL.of hss⟩, fun D2 nD2 => ?_⟩
        have nDp2 : D2 ≠ p := ne_jar j3 nD2
        have e3 := same_upd (o := .lst []) nD2
        refine lc_it (walk_list (xs := ss.map V.ref)) (Pv := fun k H' => Chg p H2 H' ∧ JarAt H' p (N + 1 + k) ∧ ∃ (ds : List Addr) (ts : List (Str × Nat)), H' D2 = some (.lst (ds.map V.ref)) ∧ Refs seO H' ds ts ∧ ts.Sublist ((seatsOf ys L.days).take k)) ⟨Chg.of e3, (j3.same e3).mono (by omega), [], [], upd_same, Refs.nil, List.nil_sublist _⟩ (fun k G _ hh => SqL.of (hh.1 _ _ hss nstp)) ?_ ?_
        · rintro k v K3 K4 hk ⟨f1, j, ds, ts, hD, rds, sub⟩ ⟨rfl, hv⟩
          obtain ⟨q2, s, rfl, hq2, hl, ho2⟩ := rss.at hv
          have hk' : k < (seatsOf ys L.days).length := (List.getElem?_eq_some_iff.mp hl).1
          have et : (seatsOf ys L.days).take (k + 1) = (seatsOf ys L.days).take k ++ [s] := by rw [List.take_add_one, hl]; rfl
          have ho3 := f1 _ _ ho2 (jar_not j3 ho2 (seO_nl s))
          have fin : ∀ K5, Chg p K4 K5 → JarAt K5 p (N + 1 + k + 1) → ∃ acc, K5 D2 = some (.lst acc) ∧ acc.length < sizeLine ∧ Chg p H2 (upd K5 D2 (.lst (acc ++ [.ref q2]))) ∧ JarAt (upd K5 D2 (.lst (acc ++ [.ref q2]))) p (N + 1 + ((k + 1 : Nat) : Int)) ∧
              ∃ (ds : List Addr) (ts : List (Str × Nat)), (upd K5 D2 (.lst (acc ++ [.ref q2]))) D2 = some (.lst (ds.map V.ref)) ∧ Refs seO (upd K5 D2 (.lst (acc ++ [.ref q2]))) ds ts ∧ ts.Sublist ((seatsOf ys L.days).take (k + 1)) := by
            intro K5 c5 j5
            have hD3 := c5 _ _ hD nDp2
            have rds3 : Refs seO K5 ds ts := ⟨rds.1, fun i r x b1 b2 => c5 _ _ (rds.2 i r x b1 b2) (jar_not j (rds.2 i r x b1 b2) (seO_nl x))⟩
            obtain ⟨z1, z2⟩ := refs_push hD3 rds3 (c5 _ _ ho3 (jar_not j ho3 (seO_nl s))) seO_nl
            have dl : ds.length ≤ 70 := by rw [rds.1]; exact Nat.le_trans sub.length_le (by rw [List.length_take]; omega)
            refine ⟨_, hD3, szl (by rw [List.length_map]; omega), fun b u z nb => ?_, ?_, ds ++ [q2], ts ++ [s], z1, z2, by rw [et]; exact sub.append (List.Sublist.refl _)⟩
            · rw [upd_ne (ne_of_none z nD2)]
              exact (f1.trans c5) _ _ z nb
            · obtain ⟨o, mm, cc, hpp, rr⟩ := j5
              exact JarAt.mono ⟨o, mm, cc, (upd_ne nDp2.symm).trans hpp, rr⟩ (by omega)
          refine ⟨rfl, ?_⟩
          refine ⟨_, rfl, _, rfl, dd, _, rfl, DGet.t (k := seK s) (f1 _ _ hdd2 nddp) ho3, _, rfl, ?_⟩
          cases hb : (valV kv (seK s)).isSome with
          | true => exact iteT (iteT ⟨_, rfl, fin K4 (fun _ _ e _ => e) (j.mono (by omega))⟩)
          | false =>
            refine iteF ?_
            refine ⟨_, rfl, p, 2, _, rfl, ⟨by decide, by decide⟩, j, by omega, fun z K5 hz c5 j5 => ⟨rfl, _, rfl, ite2 (fun _ => ?_) (fun _ => ?_)⟩⟩
            · exact ⟨_, rfl, fin K5 c5 j5⟩
            · refine ⟨f1.trans c5, j5.mono (by omega), ds, ts, c5 _ _ hD nDp2, ⟨rds.1, fun i r x b1 b2 => c5 _ _ (rds.2 i r x b1 b2) (jar_not j (rds.2 i r x b1 b2) (seO_nl x))⟩, by rw [et]; exact sub.trans (List.sublist_append_left _ _)⟩
        · rintro K3 ⟨f1, j, ds, ts, hD, rds, sub⟩
          rw [show (seatsOf ys L.days).take (ss.map V.ref).length = seatsOf ys L.days from by rw [List.length_map, lss]; exact List.take_length] at sub
          have hdd3 := f1 _ _ hdd2 nddp
          have c3 := c2.trans f1
          have tl : ts.length ≤ 70 := Nat.le_trans sub.length_le l70s
          have lds : ds.length = ts.length := rds.1
          have lss' : ((ss.map V.ref).length : Int) ≤ 70 := by rw [List.length_map, lss]; omega
          refine ⟨_, rfl, D2, rfl, ⟨_, SqL.of hD⟩, fun D3 nD3 => ?_⟩
          refine lc_it (walk_list (xs := ds.map V.ref)) (Pv := fun k H' => Same K3 H' ∧ ∃ fs : List Addr, H' D3 = some (.lst (fs.map V.ref)) ∧ Refs rwO H' fs ((ts.take k).map (mkR kv))) ⟨same_upd nD3, [], upd_same, Refs.nil⟩ (fun k G _ hh => SqL.of (hh.1 _ _ hD)) ?_ ?_
          · rintro k v K4 K5 hk ⟨g1, fs, hF, rfs⟩ ⟨rfl, hv⟩
            obtain ⟨q2, s, rfl, hq2, hl, ho2⟩ := rds.at hv
            have hk' : k < ts.length := (List.getElem?_eq_some_iff.mp hl).1
            have et : (ts.take (k + 1)).map (mkR kv) = (ts.take k).map (mkR kv) ++ [mkR kv s] := by rw [List.take_add_one, hl, List.map_append]; rfl
            have ho3 := g1 _ _ ho2
            refine ⟨rfl, ?_⟩
            unfold tYes
            refine iteT ?_
            refine ⟨_, rfl, _, rfl, dd, rfl, .inr ⟨_, .inl (g1 _ _ hdd3)⟩, _, rfl, _, DGet.t (k := seK s) (g1 _ _ hdd3) ho3, (show 1 ≤ sizeLine by decide), fun T nT => ?_⟩
            rw [(numOf_val iv s).1]
            have g2 := same_upd (o := .tup [V.int (numOf kv s)]) nT
            have hT := upd_same (a := T) (o := .tup [V.int (numOf kv s)]) (H := K5)
            generalize upd K5 T (.tup [V.int (numOf kv s)]) = K6 at *
            refine Ot.catA_read (g2 _ _ ho3) hT (by show 2 + 1 ≤ 100; decide) fun q3 K7 g3 hq3 => ?_
            have g23 := g2.trans g3
            obtain ⟨z1, z2⟩ := refs_push (x := mkR kv s) (g23 _ _ hF) (rfs.same g23) hq3 rwO_nl
            have dl : fs.length ≤ 70 := by rw [rfs.1, List.length_map, List.length_take]; omega
            refine ⟨_, g23 _ _ hF, szl (by rw [List.length_map]; omega), fun b u z => ?_, fs ++ [q3], z1, by rw [et]; exact z2⟩
            rw [upd_ne (ne_of_none z nD3)]
            exact g23 _ _ (g1 _ _ z)
          · rintro K4 ⟨g1, fs, hF, rfs⟩
            rw [show ts.take (ds.map V.ref).length = ts from by rw [List.length_map, lds]; exact List.take_length] at rfs
            refine ⟨D3, _, rfl, .inl ⟨SqL.of hF, fun tn ntn => ?_⟩⟩
            have g2 := same_upd (o := .tup (fs.map V.ref)) ntn
            refine q _ tn (ts.map (mkR kv)) (c3.trans (Chg.of (g1.trans g2))) ((j.same (g1.trans g2)).mono (by omega)) ⟨fs, upd_same, rfs.same g2⟩ ⟨fun r hr => ?_, ?_⟩ (by rw [List.length_map]; exact tl)
            · obtain ⟨s, hs, rfl⟩ := List.mem_map.mp hr
              have hm := mem_seats (sub.subset hs)
              exact ⟨(asc.mem _).mp hm.1, hm.2, (numOf_val iv s).2⟩
            · rw [List.map_map, show (seatK ∘ mkR kv) = seK from rfl, Ot.climb_pw, List.pairwise_map]
              exact (seats_pw asc.pw).sublist sub
    · refine ⟨_, rfl, rfl, _, rfl, ite2 (fun _ => ?_) (fun _ => ?_)⟩
      · exact ⟨_, rfl, _, rfl, p, a, L, rs, _, rfl, hA0, ok, l70, j1, by omega, fun H2 t ss c2 j2 h2 ok2 e2 => q _ t ss (c1.trans c2) (j2.mono (by omega)) h2 ok2 (by have := congrArg List.length e2; rw [List.length_map, List.length_map] at this; omega)⟩
      · exact ⟨_, rfl, _, rfl, p, d, L, _, rfl, hL, smL, d14, hr9, j1, by omega, fun H2 t ss c2 j2 h2 ok2 l2 => q _ t ss (c1.trans c2) (j2.mono (by omega)) h2 ok2 l2⟩

end
end Hs
namespace Hs
open PySem PySem.Spec PyProof.Rows L2 Am Rv
def GotG (P : Program) (w : World) (K : PySem.W.Frag) (mg : Str → Option Value) (base : Heap) (x : Str) (k : Nat) (ps : List Str) (sp : Sp) : Prop :=
  ∃ (f : Addr) (fd : FuncData), Gu.FnG P w K mg base CX0 k f fd ps sp ∧ L2.Binds K fd ps [] ∧ mg x = some (.ref f) ∧ PySem.W.keepIn K (.ref f) = true
theorem all_in (rs ss : List Rw) : ((rs.map fun r => decide (r ∈ ss)).all id) = allIn rs ss := by
  unfold allIn
  rw [List.all_map]
  rfl
theorem sd6 (a b c d e f : Bool) : Sdt.Sd 1 6 (.list [.bool a, .bool b, .bool c, .bool d, .bool e, .bool f]) := by
  have := Sdt.Sd.lst (k := 0) (w := 0) (ds := [.bool a, .bool b, .bool c, .bool d, .bool e, .bool f]) (fun x hx => by
    simp only [List.mem_cons, List.not_mem_nil, or_false] at hx
    rcases hx with rfl | rfl | rfl | rfl | rfl | rfl <;> exact Sdt.Sd.bl _)
  exact this
theorem dp6 {K : PySem.W.Frag} {H : Hp} {l : Addr} {a b c d e f : Bool} (h : H l = some (.lst [.bl a, .bl b, .bl c, .bl d, .bl e, .bl f])) : Dp K H (.ref l) (.list [.bool a, .bool b, .bool c, .bool d, .bool e, .bool f]) :=
  .lst (SqL.of h) (.cons (.bl _) (.cons (.bl _) (.cons (.bl _) (.cons (.bl _) (.cons (.bl _) (.cons (.bl _) .nil))))))
def spCompared (C CH : Addr) : Sp := fun vs H Q _ => ∃ (n m a b : Addr) (x : Str) (L L' : Lore) (rs ss : List Rw), vs = [.ref n, .ref m, .ref a, .ref b] ∧ NumAt C CH H n x L rs ∧ NumAt C CH H m x L' ss ∧ RowsAt H a rs ∧ RowsAt H b ss ∧ RwS rs ∧ RwS ss ∧ rs.length ≤ 150 ∧ ss.length ≤ 150 ∧
  ∀ H', Same H H' → Q (.bl true) H'
section
variable {P : Program} {w : World} {K : PySem.W.Frag} {mg : Str → Option Value} {base : Heap} {C CH D : Addr}
theorem sc_l_compared : FnScope ["_law_one", "_law_other", "_law_rows", "_law_more", "_law_is_in", "_law_is_over", "_law_row", "_law_told", "_law_due"] ["_law_one", "_law_other", "_law_rows", "_law_more"] (defScope sL_compared) := ⟨rfl, rfl, rfl, by decide +kernel, rfl, by decide +kernel, by decide +kernel⟩
theorem ok_compared {f : Addr} {fd : FuncData} (F : Fun K "_law_compared" "_law_compared" sL_compared f fd) (T : Nm mg) (tn : TyN K mg C CH) (GLe : GotO P w K mg base C "__le__" 4 (spNCmp C CH D rLe)) (GLt : GotO P w K mg base C "__lt__" 4 (spNCmp C CH D rLt)) (GGe : GotO P w K mg base C "__ge__" 4 (spNCmp C CH D rGe)) (GGt : GotO P w K mg base C "__gt__" 4 (spNCmp C CH D rGt)) (GEq : GotM P w K mg base C "__eq__" 2 ["self", "other"] (spNEq C CH)) : Gu.FnG P w K mg base CX0 5 f fd ["_law_one", "_law_other", "_law_rows", "_law_more"] (spCompared C CH) := by
  obtain ⟨fLe, dLe, GLe, bLe, iLe, jLe⟩ := GLe
  obtain ⟨fLt, dLt, GLt, bLt, iLt, jLt⟩ := GLt
  obtain ⟨fGe, dGe, GGe, bGe, iGe, jGe⟩ := GGe
  obtain ⟨fGt, dGt, GGt, bGt, iGt, jGt⟩ := GGt
  obtain ⟨fEq, dEq, GEq, bEq, iEq, jEq⟩ := GEq
  refine Gu.okG0 F sc_l_compared (fun vs H Q E h => ?_) (fun cdv A outer s H vs Q E free hr h => ?_)
  · obtain ⟨n, m, a, b, x, L, L', rs, ss, rfl, k, k', hR, hS, s1, s2, l1, l2, q⟩ := h
    rfl
  · obtain ⟨n, m, a, b, x, L, L', rs, ss, rfl, k, k', hR, hS, s1, s2, l1, l2, q⟩ := h
    have hr1 : Room 1 _ := hr.mono (by decide)
    have hr2 : Room 2 _ := hr.mono (by decide)
    have hr3 : Room 3 _ := hr.mono (by decide)
    have hr4 : Room 4 _ := hr.mono (by decide)
    have hu := hu_of hr
    refine ⟨_, (pss_cons (ps_par (by rfl) sc_l_compared.nd (i := 4) (j := 5) rfl rfl (by decide) rfl rfl (pa_cons (pe_callB (cr_all rfl) (by rfl) T.all b_all (pa_cons (pe_lc (own := [("_law_row", 6)]) (g := gName 6) (tt := tYes) rfl sc_l_compared.nd (pi_tup (pv 2))
          (blkOk_by (N := ["_law_one", "_law_other", "_law_rows", "_law_more", "_law_is_in", "_law_is_over", "_law_row", "_law_told", "_law_due"]) (sc := defScope sL_compared) (by decide +kernel)) (fun _ _ _ _ _ => (pg_name (i := 6) sc_l_compared.nd rfl (.inl rfl))) (fun _ _ _ _ _ => pts_nil) (fun _ _ _ _ _ => (pe_cmpR (r := Ot.rInK K false) (by exact Ot.op_inK (by exact hu)) (pv 6) (pv 3) (by rfl)))) pa_nil)) (pa_cons (pe_callB (cr_all rfl) (by rfl) T.all b_all (pa_cons (pe_lc (own := [("_law_row", 6)]) (g := gName 6) (tt := tYes) rfl sc_l_compared.nd (pi_tup (pv 3))
          (blkOk_by (N := ["_law_one", "_law_other", "_law_rows", "_law_more", "_law_is_in", "_law_is_over", "_law_row", "_law_told", "_law_due"]) (sc := defScope sL_compared) (by decide +kernel)) (fun _ _ _ _ _ => (pg_name (i := 6) sc_l_compared.nd rfl (.inl rfl))) (fun _ _ _ _ _ => pts_nil) (fun _ _ _ _ _ => (pe_cmpR (r := Ot.rInK K false) (by exact Ot.op_inK (by exact hu)) (pv 6) (pv 2) (by rfl)))) pa_nil)) pa_nil)) (by rfl))
      (pss_cons (ps_set (i := 7) sc_l_compared.nd rfl (.inl rfl) (pe_lst (pa_cons (pe_cmpR (op_cmpC (op := .LtE) (fun _ _ => rfl) tn.op ⟨iLe, jLe⟩ GLe hr4 bLe passF) (pv 0) (pv 1) (nomark _)) (pa_cons (pe_cmpR (op_cmpC (op := .Lt) (fun _ _ => rfl) tn.op ⟨iLt, jLt⟩ GLt hr4 bLt passF) (pv 0) (pv 1) (nomark _)) (pa_cons (pe_cmpR (op_cmpC (op := .GtE) (fun _ _ => rfl) tn.op ⟨iGe, jGe⟩ GGe hr4 bGe passF) (pv 0) (pv 1) (nomark _)) (pa_cons (pe_cmpR (op_cmpC (op := .Gt) (fun _ _ => rfl) tn.op ⟨iGt, jGt⟩ GGt hr4 bGt passF) (pv 0) (pv 1) (nomark _)) (pa_cons (pe_cmpR (op_cmpC (op := .Eq) (fun _ _ => rfl) tn.op ⟨iEq, jEq⟩ GEq hr2 bEq pass0) (pv 0) (pv 1) (nomark _)) (pa_cons (pe_cmpR (op_neC tn.op ⟨iEq, jEq⟩ GEq hr3 bEq pass0) (pv 0) (pv 1) (nomark _)) pa_nil))))))))
      (pss_cons (ps_set (i := 8) sc_l_compared.nd rfl (.inl rfl) (pe_lst (pa_cons (pv 4) (pa_cons (pe_and (pv 4) (pe_one (pe_cmpR (op_neD hr.units) (pv 2) (pv 3) (nomark _)))) (pa_cons (pv 5) (pa_cons (pe_and (pv 5) (pe_one (pe_cmpR (op_neD hr.units) (pv 2) (pv 3) (nomark _)))) (pa_cons (pe_cmpR (op_eqD hr.units) (pv 2) (pv 3) (nomark _)) (pa_cons (pe_cmpR (op_neD hr.units) (pv 2) (pv 3) (nomark _)) pa_nil))))))))
      (pss_one (ps_ret (pe_cmpR op_eq (pe_callB (Gu.call_reprD free hr.units) (by rfl) T.repr b_repr (pa_cons (pv 7) pa_nil)) (pe_callB (Gu.call_reprD free hr.units) (by rfl) T.repr b_repr (pa_cons (pv 8) pa_nil)) (nomark _))))))), ?_⟩
    obtain ⟨dx, h0, a0, d0, t0, h1, _⟩ := k.ins
    obtain ⟨dx', h0', a0', d0', t0', h1', _⟩ := k'.ins
    have hRa := hR
    have hRb := hS
    obtain ⟨as, ha, ra⟩ := hR
    obtain ⟨bs, hb, rb⟩ := hS
    have la : as.length = rs.length := ra.1
    have lb : bs.length = ss.length := rb.1
    refine ⟨_, rfl, a, rfl, ⟨_, SqT.of ha⟩, fun D1 nD1 => ?_⟩
    refine lc_it (walk_tup (xs := as.map V.ref)) (Pv := fun k H' => Same H H' ∧ H' D1 = some (.lst (((rs.take k).map fun r => decide (r ∈ ss)).map V.bl))) ⟨same_upd nD1, upd_same⟩ (fun k G _ hh => SqT.of (hh.1 _ _ ha)) ?_ ?_
    · rintro k v K1 K2 hk ⟨f1, hD⟩ ⟨rfl, hv⟩
      obtain ⟨q2, r, rfl, hq2, hl, ho2⟩ := ra.at hv
      have et : rs.take (k + 1) = rs.take k ++ [r] := by rw [List.take_add_one, hl]; rfl
      have hk' : k < rs.length := (List.getElem?_eq_some_iff.mp hl).1
      refine ⟨rfl, ?_⟩
      unfold tYes
      refine iteT ?_
      refine ⟨_, rfl, _, rfl, q2, b, rowK r, _, ss.map rowK, rfl, rfl, SqT.of (f1 _ _ ho2), .inl (SqT.of (f1 _ _ hb)), keyd_rows (rb.same f1), ?_⟩
      rw [if_neg (by decide), inK_rows]
      refine ⟨_, hD, szl (by rw [List.length_map, List.length_map, List.length_take]; omega), fun b' u z => ?_, ?_⟩
      · rw [upd_ne (ne_of_none z nD1)]
        exact f1 _ _ z
      · rw [et, List.map_append, List.map_append]
        exact upd_same
    rintro H1 ⟨e1, hD⟩
    rw [show rs.take (as.map V.ref).length = rs from by rw [List.length_map, la]; exact List.take_length] at hD
    refine ⟨D1, _, rfl, SqL.of hD, ?_⟩
    rw [all_in]
    clear hD nD1
    have hb := e1 _ _ hb; have ha := e1 _ _ ha; have rb := rb.same e1; have ra := ra.same e1
    refine ⟨_, rfl, b, rfl, ⟨_, SqT.of hb⟩, fun D2 nD2 => ?_⟩
    refine lc_it (walk_tup (xs := bs.map V.ref)) (Pv := fun k H' => Same H1 H' ∧ H' D2 = some (.lst (((ss.take k).map fun r => decide (r ∈ rs)).map V.bl))) ⟨same_upd nD2, upd_same⟩ (fun k G _ hh => SqT.of (hh.1 _ _ hb)) ?_ ?_
    · rintro k v K1 K2 hk ⟨f1, hD⟩ ⟨rfl, hv⟩
      obtain ⟨q2, r, rfl, hq2, hl, ho2⟩ := rb.at hv
      have et : ss.take (k + 1) = ss.take k ++ [r] := by rw [List.take_add_one, hl]; rfl
      have hk' : k < ss.length := (List.getElem?_eq_some_iff.mp hl).1
      refine ⟨rfl, ?_⟩
      unfold tYes
      refine iteT ?_
      refine ⟨_, rfl, _, rfl, q2, a, rowK r, _, rs.map rowK, rfl, rfl, SqT.of (f1 _ _ ho2), .inl (SqT.of (f1 _ _ ha)), keyd_rows (ra.same f1), ?_⟩
      rw [if_neg (by decide), inK_rows]
      refine ⟨_, hD, szl (by rw [List.length_map, List.length_map, List.length_take]; omega), fun b' u z => ?_, ?_⟩
      · rw [upd_ne (ne_of_none z nD2)]
        exact f1 _ _ z
      · rw [et, List.map_append, List.map_append]
        exact upd_same
    rintro H2 ⟨e2, hD⟩
    rw [show ss.take (bs.map V.ref).length = ss from by rw [List.length_map, lb]; exact List.take_length] at hD
    refine ⟨D2, _, rfl, SqL.of hD, ?_⟩
    rw [all_in]
    clear hD nD2
    have e0 := e1.trans e2
    have h1 := e0 _ _ h1; have h1' := e0 _ _ h1'; have k := k.same e0; have k' := k'.same e0; have hRa := hRa.same e0; have hRb := hRb.same e0
    clear e1 e2 ha hb ra rb la lb
    refine ⟨_, _, rfl, ?_⟩
    refine ⟨_, rfl, _, rfl, ⟨n, dx, _, rfl, h1⟩, .inl ⟨m, dx', _, rfl, h1'⟩, n, m, x, x, L, L', rs, ss, rfl, k, k', s1, s2, l1, l2, fun _ H3 e1 => ?_, fun c => absurd rfl c⟩
    have h1 := e1 _ _ h1; have h1' := e1 _ _ h1'; have k := k.same e1; have k' := k'.same e1; have hRa := hRa.same e1; have hRb := hRb.same e1
    have e0 := e0.trans e1
    clear e1
    refine ⟨_, rfl, _, rfl, ⟨n, dx, _, rfl, h1⟩, .inl ⟨m, dx', _, rfl, h1'⟩, n, m, x, x, L, L', rs, ss, rfl, k, k', s1, s2, l1, l2, fun _ H4 e1 => ?_, fun c => absurd rfl c⟩
    have h1 := e1 _ _ h1; have h1' := e1 _ _ h1'; have k := k.same e1; have k' := k'.same e1; have hRa := hRa.same e1; have hRb := hRb.same e1
    have e0 := e0.trans e1
    clear e1
    refine ⟨_, rfl, _, rfl, ⟨n, dx, _, rfl, h1⟩, .inl ⟨m, dx', _, rfl, h1'⟩, n, m, x, x, L, L', rs, ss, rfl, k, k', s1, s2, l1, l2, fun _ H5 e1 => ?_, fun c => absurd rfl c⟩
    have h1 := e1 _ _ h1; have h1' := e1 _ _ h1'; have k := k.same e1; have k' := k'.same e1; have hRa := hRa.same e1; have hRb := hRb.same e1
    have e0 := e0.trans e1
    clear e1
    refine ⟨_, rfl, _, rfl, ⟨n, dx, _, rfl, h1⟩, .inl ⟨m, dx', _, rfl, h1'⟩, n, m, x, x, L, L', rs, ss, rfl, k, k', s1, s2, l1, l2, fun _ H6 e1 => ?_, fun c => absurd rfl c⟩
    have h1 := e1 _ _ h1; have h1' := e1 _ _ h1'; have k := k.same e1; have k' := k'.same e1; have hRa := hRa.same e1; have hRb := hRb.same e1
    have e0 := e0.trans e1
    clear e1
    refine ⟨_, rfl, _, rfl, ⟨n, dx, _, rfl, h1⟩, .inl ⟨m, dx', _, rfl, h1'⟩, n, x, L, rs, .ref m, rfl, k, .inl ⟨m, x, L', ss, rfl, k', s1, s2, l1, l2, ?_⟩⟩
    refine ⟨_, rfl, _, rfl, ⟨n, dx, _, rfl, h1⟩, .inl ⟨m, dx', _, rfl, h1'⟩, n, x, L, rs, .ref m, rfl, k, .inl ⟨m, x, L', ss, rfl, k', s1, s2, l1, l2, _, rfl, ?_⟩⟩
    rw [show decide (x = x ∧ rs = ss) = decide (rs = ss) from by simp]
    refine ⟨(show 6 ≤ sizeLine by decide), fun l nl => ?_⟩
    have f1 := same_upd (o := .lst [V.bl (rLe rs ss), .bl (rLt rs ss), .bl (rGe rs ss), .bl (rGt rs ss), .bl (decide (rs = ss)), .bl (!decide (rs = ss))]) nl
    have hl := upd_same (H := H6) (a := l) (o := .lst [V.bl (rLe rs ss), .bl (rLt rs ss), .bl (rGe rs ss), .bl (rGt rs ss), .bl (decide (rs = ss)), .bl (!decide (rs = ss))])
    generalize upd H6 l (.lst [V.bl (rLe rs ss), .bl (rLt rs ss), .bl (rGe rs ss), .bl (rGt rs ss), .bl (decide (rs = ss)), .bl (!decide (rs = ss))]) = H7 at *
    have hRa := hRa.same f1; have hRb := hRb.same f1
    have e0 := e0.trans f1
    have w1 := (s1.sd l1).shaped (show 2 ≤ 64 by decide)
    have w2 := (s2.sd l2).shaped (show 2 ≤ 64 by decide)
    clear nl f1 k k' h1 h1'
    refine ⟨_, rfl, _, rfl, _, rfl, ?_⟩
    cases c1 : allIn rs ss with
    | true =>
      refine iteT ?_
      refine ⟨_, rfl, _, rfl, rowsD rs, rowsD ss, rows_dp hRa, rows_dp hRb, w1, w2, ?_⟩
      rw [eqv_rows]
      refine ⟨_, rfl, _, rfl, _, rfl, ?_⟩
      cases c2 : allIn ss rs with
      | true =>
        refine iteT ?_
        refine ⟨_, rfl, _, rfl, rowsD rs, rowsD ss, rows_dp hRa, rows_dp hRb, w1, w2, ?_⟩
        rw [eqv_rows]
        refine ⟨_, rfl, _, rfl, rowsD rs, rowsD ss, rows_dp hRa, rows_dp hRb, w1, w2, ?_⟩
        rw [eqv_rows]
        refine ⟨_, rfl, _, rfl, rowsD rs, rowsD ss, rows_dp hRa, rows_dp hRb, w1, w2, ?_⟩
        rw [eqv_rows]
        refine ⟨(show 6 ≤ sizeLine by decide), fun l2 nl2 => ?_⟩
        have f2 := same_upd (o := .lst [V.bl true, .bl (!decide (rs = ss)), .bl true, .bl (!decide (rs = ss)), .bl (decide (rs = ss)), .bl (!decide (rs = ss))]) nl2
        have hl2 := upd_same (H := H7) (a := l2) (o := .lst [V.bl true, .bl (!decide (rs = ss)), .bl true, .bl (!decide (rs = ss)), .bl (decide (rs = ss)), .bl (!decide (rs = ss))])
        obtain ⟨r1, r2, r3, r4⟩ := (sd6 (rLe rs ss) (rLt rs ss) (rGe rs ss) (rGt rs ss) (decide (rs = ss)) (!decide (rs = ss))).rep (by decide) (by decide)
        obtain ⟨t1, t2, t3, t4⟩ := (sd6 true (!decide (rs = ss)) true (!decide (rs = ss)) (decide (rs = ss)) (!decide (rs = ss))).rep (by decide) (by decide)
        refine ⟨_, rfl, l, _, rfl, dp6 (f2 _ _ hl), r1, r2, r3, r4, _, rfl, l2, _, rfl, dp6 hl2, t1, t2, t3, t4, rfl, ?_⟩
        rw [decide_eq_true (by rw [show rLt rs ss = (allIn rs ss && !decide (rs = ss)) from rfl, show rGt rs ss = (allIn ss rs && !decide (rs = ss)) from rfl, c1, c2]; simp only [Bool.true_and, Bool.false_and]; rw [show rLe rs ss = allIn rs ss from rfl, show rGe rs ss = allIn ss rs from rfl, c1, c2])]
        exact q _ (e0.trans f2)
      | false =>
        refine iteF ?_
        refine ⟨_, rfl, _, rfl, rowsD rs, rowsD ss, rows_dp hRa, rows_dp hRb, w1, w2, ?_⟩
        rw [eqv_rows]
        refine ⟨_, rfl, _, rfl, rowsD rs, rowsD ss, rows_dp hRa, rows_dp hRb, w1, w2, ?_⟩
        rw [eqv_rows]
        refine ⟨(show 6 ≤ sizeLine by decide), fun l2 nl2 => ?_⟩
        have f2 := same_upd (o := .lst [V.bl true, .bl (!decide (rs = ss)), .bl false, .bl (false), .bl (decide (rs = ss)), .bl (!decide (rs = ss))]) nl2
        have hl2 := upd_same (H := H7) (a := l2) (o := .lst [V.bl true, .bl (!decide (rs = ss)), .bl false, .bl (false), .bl (decide (rs = ss)), .bl (!decide (rs = ss))])
        obtain ⟨r1, r2, r3, r4⟩ := (sd6 (rLe rs ss) (rLt rs ss) (rGe rs ss) (rGt rs ss) (decide (rs = ss)) (!decide (rs = ss))).rep (by decide) (by decide)
        obtain ⟨t1, t2, t3, t4⟩ := (sd6 true (!decide (rs = ss)) false (false) (decide (rs = ss)) (!decide (rs = ss))).rep (by decide) (by decide)
        refine ⟨_, rfl, l, _, rfl, dp6 (f2 _ _ hl), r1, r2, r3, r4, _, rfl, l2, _, rfl, dp6 hl2, t1, t2, t3, t4, rfl, ?_⟩
        rw [decide_eq_true (by rw [show rLt rs ss = (allIn rs ss && !decide (rs = ss)) from rfl, show rGt rs ss = (allIn ss rs && !decide (rs = ss)) from rfl, c1, c2]; simp only [Bool.true_and, Bool.false_and]; rw [show rLe rs ss = allIn rs ss from rfl, show rGe rs ss = allIn ss rs from rfl, c1, c2])]
        exact q _ (e0.trans f2)
    | false =>
      refine iteF ?_
      refine ⟨_, rfl, _, rfl, _, rfl, ?_⟩
      cases c2 : allIn ss rs with
      | true =>
        refine iteT ?_
        refine ⟨_, rfl, _, rfl, rowsD rs, rowsD ss, rows_dp hRa, rows_dp hRb, w1, w2, ?_⟩
        rw [eqv_rows]
        refine ⟨_, rfl, _, rfl, rowsD rs, rowsD ss, rows_dp hRa, rows_dp hRb, w1, w2, ?_⟩
        rw [eqv_rows]
        refine ⟨_, rfl, _, rfl, rowsD rs, rowsD ss, rows_dp hRa, rows_dp hRb, w1, w2, ?_⟩
        rw [eqv_rows]
        refine ⟨(show 6 ≤ sizeLine by decide), fun l2 nl2 => ?_⟩
        have f2 := same_upd (o := .lst [V.bl false, .bl (false), .bl true, .bl (!decide (rs = ss)), .bl (decide (rs = ss)), .bl (!decide (rs = ss))]) nl2
        have hl2 := upd_same (H := H7) (a := l2) (o := .lst [V.bl false, .bl (false), .bl true, .bl (!decide (rs = ss)), .bl (decide (rs = ss)), .bl (!decide (rs = ss))])
        obtain ⟨r1, r2, r3, r4⟩ := (sd6 (rLe rs ss) (rLt rs ss) (rGe rs ss) (rGt rs ss) (decide (rs = ss)) (!decide (rs = ss))).rep (by decide) (by decide)
        obtain ⟨t1, t2, t3, t4⟩ := (sd6 false (false) true (!decide (rs = ss)) (decide (rs = ss)) (!decide (rs = ss))).rep (by decide) (by decide)
        refine ⟨_, rfl, l, _, rfl, dp6 (f2 _ _ hl), r1, r2, r3, r4, _, rfl, l2, _, rfl, dp6 hl2, t1, t2, t3, t4, rfl, ?_⟩
        rw [decide_eq_true (by rw [show rLt rs ss = (allIn rs ss && !decide (rs = ss)) from rfl, show rGt rs ss = (allIn ss rs && !decide (rs = ss)) from rfl, c1, c2]; simp only [Bool.true_and, Bool.false_and]; rw [show rLe rs ss = allIn rs ss from rfl, show rGe rs ss = allIn ss rs from rfl, c1, c2])]
        exact q _ (e0.trans f2)
      | false =>
        refine iteF ?_
        refine ⟨_, rfl, _, rfl, rowsD rs, rowsD ss, rows_dp hRa, rows_dp hRb, w1, w2, ?_⟩
        rw [eqv_rows]
        refine ⟨_, rfl, _, rfl, rowsD rs, rowsD ss, rows_dp hRa, rows_dp hRb, w1, w2, ?_⟩
        rw [eqv_rows]
        refine ⟨(show 6 ≤ sizeLine by decide), fun l2 nl2 => ?_⟩
        have f2 := same_upd (o := .lst [V.bl false, .bl (false), .bl false, .bl (false), .bl (decide (rs = ss)), .bl (!decide (rs = ss))]) nl2
        have hl2 := upd_same (H := H7) (a := l2) (o := .lst [V.bl false, .bl (false), .bl false, .bl (false), .bl (decide (rs = ss)), .bl (!decide (rs = ss))])
        obtain ⟨r1, r2, r3, r4⟩ := (sd6 (rLe rs ss) (rLt rs ss) (rGe rs ss) (rGt rs ss) (decide (rs = ss)) (!decide (rs = ss))).rep (by decide) (by decide)
        obtain ⟨t1, t2, t3, t4⟩ := (sd6 false (false) false (false) (decide (rs = ss)) (!decide (rs = ss))).rep (by decide) (by decide)
        refine ⟨_, rfl, l, _, rfl, dp6 (f2 _ _ hl), r1, r2, r3, r4, _, rfl, l2, _, rfl, dp6 hl2, t1, t2, t3, t4, rfl, ?_⟩
        rw [decide_eq_true (by rw [show rLt rs ss = (allIn rs ss && !decide (rs = ss)) from rfl, show rGt rs ss = (allIn ss rs && !decide (rs = ss)) from rfl, c1, c2]; simp only [Bool.true_and, Bool.false_and]; rw [show rLe rs ss = allIn rs ss from rfl, show rGe rs ss = allIn ss rs from rfl, c1, c2])]
        exact q _ (e0.trans f2)

end
end Hs
/-! try .. except X as n: .. except Y as n: ..: several clauses, the caught object stands on; what stands behind the clauses that are told is never reached -/
namespace Kt
open PySem PySem.Spec PyProof.Rows L2
def wKeepN (K : PySem.W.Frag) (D : Ends) : List (Value × Nat × TS) → WX
  | [] => fun _ _ _ _ => False
  | (c, i, ts) :: r => fun cls d σ H => ∃ b, PySem.W.exmOne K cls c = some b ∧ (b = true → ∀ a, H a = none → ts { nx := fun σ' H' => D.nx (σ'.set i none) H', rt := D.rt, bk := fun σ' H' => D.bk (σ'.set i none) H', ct := fun σ' H' => D.ct (σ'.set i none) H' } (σ.set i (some (.ref a))) (upd H a (EO a cls d))) ∧
    (b = false → wKeepN K D r cls d σ H)
inductive HdsK (X : Cx) : List ExceptHandler → List (Value × Nat × TS) → Prop
  | stop (hds : List ExceptHandler) : HdsK X hds []
  | cons {x n : Str} {c : Value} {i : Nat} {ts : TS} {b₀ : Stmt} {suite : List Stmt} {np pos' : Pos} {hds : List ExceptHandler} {l : List (Value × Nat × TS)} (hc : Names X x c) (hi : X.N[i]? = some n) (hln : X.env.kindOf n = some .local)
      (hsu : ∀ (a : Addr) (pn : List (Addr × Obj)), PSs (X.suite a pn) (b₀ :: suite) ts) (r : HdsK X hds l) : HdsK X (.ExceptHandler (some (.Name x np)) (some n) (b₀ :: suite) pos' :: hds) ((c, i, ts) :: l)
section
variable {X : Cx} {body : List Stmt} {pos : Pos} {tb : WX → TS} {Wout : WX} {pins : List (Addr × Obj)} {τ : L2.St} {G : Hp} {D : Ends} {hds : List ExceptHandler} {l : List (Value × Nat × TS)}
theorem keepN_fate (hx : X.ex = []) (hs : X.stack = X.env :: X.outer) (hf : X.env.frame = some X.env.locals) (hN : X.N.Nodup) (ok : X.Ok) (hk : HdsK X hds l) {u : Value} {z : Shared} {xe : Value → Shared → Prop} (air : XE (X.tr (X.pn ++ pins) xe) (wKeepN X.K D l) u z) :
    Fate X hds pins D u z := by
  obtain ⟨a, B, g, pins', τ, G, cls, d, rfl, J0, ground, up, sky, na, os, ag, wish⟩ := air
  have J : Inv X pins τ G g := L2.Inv.ofTry J0 ok
  have sky1 : Sky B (X.env :: X.outer) a (Zc cls d) X.env.locals z.heap := hs ▸ sky
  refine Sky.land Zc.steady (ok.frames.trans (congrArg some hs)) hf sky1 fun k fl upk => ?_
  obtain ⟨oe, vs, at_, zc, rec⟩ := fl.there
  have noframe : a ∉ frs (X.env :: X.outer) := fun m => by
    obtain ⟨_, o', e', nr⟩ := fl.2.2.1.mem m
    obtain rfl : oe = o' := Option.some.inj (at_.symm.trans e')
    exact nr _ rec
  have nL : a ≠ X.env.locals := fun y => noframe (List.mem_filterMap.mpr ⟨_, .head _, hf.trans (congrArg some y.symm)⟩)
  have nF : a ∉ X.fs := fun m => noframe (by
    obtain ⟨e, me, q⟩ := List.mem_filterMap.mp m
    exact List.mem_filterMap.mpr ⟨e, .tail _ me, q⟩)
  have nG : g.heap.get? a = none := Option.eq_none_iff_forall_ne_some.mpr fun o e => by
    have q := ground a o e (hs ▸ noframe)
    rw [fl.2.1] at q
    cases q
  have n0 : X.s_0.heap.get? a = none := Option.eq_none_iff_forall_ne_some.mpr fun o e => by
    obtain ⟨o', q⟩ := J.base.there a o e (hx ▸ List.not_mem_nil)
    exact Option.some_ne_none _ (q.symm.trans nG)
  have npin : ∀ p ∈ X.pn ++ pins, p.1 ≠ a := fun p hp y => Option.some_ne_none _ ((J.pin p hp).1.symm.trans ((congrArg g.heap.get? y).trans nG))
  have K1 : Inv X pins τ G { z with heap := k } := L2.Inv.landed J ground fl.1 (up.trans upk) os ag
  have S1 := L2.Inv.suite K1 at_ rec na nL nF
  have isCls : PySem.W.Looks (model X.prog X.w) k (typeOf (.ref a)) cls := fun _ _ _ _ keep q => wpAny_typeOf_ref (keep _ _ at_) (zc.1.symm ▸ q)
  have go : ∀ {hds' : List ExceptHandler} {l' : List (Value × Nat × TS)}, HdsK X hds' l' → wKeepN X.K D l' cls d τ G → wpAny (model X.prog X.w) X.A (handleBy (.ref a) X.env hds') (SP X pins D) X.xe { z with heap := k } := by
    intro hds' l' hk'
    induction hk' with
    | stop hds => intro no; exact no.elim
    | @cons x n c i ts b₀ suite np pos' hds2 l2 hc hi hln hsu r ih =>
      rintro ⟨b, meets, yes, no⟩
      refine wpAny_handleBy_cons (codeAny_handlers_test (names_eval hc S1 ((PySem.W.exm_one (M := model X.prog X.w) K1.kIn isCls meets).here ?_))) (fun q => nomatch q)
      cases b with
      | true =>
        refine codeAny_handlers_suite_as (HandSPX.lands_againZ fl fun k2 fl2 up2 => ?_)
        obtain ⟨oe2, vs2, at2, zc2, rec2⟩ := fl2.there
        have K2 : Inv X pins τ G { z with heap := k2 } := L2.Inv.landed J ground fl2.1 ((up.trans upk).trans up2) os ag
        have K3 : Inv X pins τ (upd G a (EO a cls d)) { z with heap := k2 } := track K2 na n0 nL npin (fun v ⟨o, e, dv⟩ => by
          obtain rfl : oe2 = o := Option.some.inj (at2.symm.trans e)
          exact Data.noConfusion (rec2.symm.trans dv)) (eo_ok at2 zc2 rec2)
        exact keep_suite hN hi hln hsu K3 (yes rfl a na)
      | false =>
        show wpAny _ X.A (handleBy (.ref a) X.env hds2) _ _ _
        exact ih (no rfl)
  exact go hk wish
theorem ps_try_keepN (hx : X.ex = []) (hs : X.stack = X.env :: X.outer) (hf : X.env.frame = some X.env.locals) (hN : X.N.Nodup) {h₀ : ExceptHandler}
    (hb : ∀ (W : WX) (pn : List (Addr × Obj)) (xe : Value → Shared → Prop), Takes (X.tr pn xe) W → PassesOwn (model X.prog X.w) X.A X.env xe → PSs (X.tr pn xe) body (tb W))
    (hk : HdsK X (h₀ :: hds) l) : PS X (.Try body (h₀ :: hds) [] [] pos) (fun D σ H => tb (wKeepN X.K D l) D σ H) := by
  constructor
  intro pins z τ G D I want
  have inner := hb (wKeepN X.K D l) (X.pn ++ pins) (Fate X (h₀ :: hds) pins D)
    (fun _ _ air => keepN_fate hx hs hf hN I.ok hk air) PassesOwn.looking
  refine wpAny_Try_except (wpAny_mono (inner.run [] z τ G D (L2.Inv.toTry I _) want) (fun fl z1 r => ?_) fun _ _ y => y)
  match fl, r with
  | .next, ⟨_, _, J, q⟩ => exact wpAny_execs_nil ⟨_, _, L2.Inv.ofTry J I.ok, q⟩
  | .brk, ⟨_, _, J, q⟩ => exact ⟨_, _, L2.Inv.ofTry J I.ok, q⟩
  | .cont, ⟨_, _, J, q⟩ => exact ⟨_, _, L2.Inv.ofTry J I.ok, q⟩
  | .ret _, ⟨_, _, _, J, rel, q⟩ => exact ⟨_, _, _, L2.Inv.ofTry J I.ok, rel, q⟩
end
end Kt
/-! a def that calls what it is handed and tells what it raised; what stands but for the tables of lambdas -/
namespace Gu
open PySem PySem.Spec PyProof.Rows L2
section
variable {P : Program} {w : World} {K : PySem.W.Frag} {mg : Str → Option Value} {base : Heap} {k : Nat} {f : Addr} {N ps : List Str} {sp : Sp}
/-- a def as the text writes it, its code object known -/
structure Def (K : PySem.W.Frag) (x qual : Str) (st : Stmt) (f : Addr) (fd : FuncData) (cd : Value) : Prop where
  ex : ∃ (oc : Value) (od : Option Addr) (kV doc pm : Value) (an : Option Addr) (ct : Value) (osl : Array (Option Value)), fd = PySem.W.fnOf x qual (defArgs st) (defBody st) (defScope st) .none kV doc pm an cd ct ∧ K.lookup f = some ⟨oc, od, .func fd, osl⟩ ∧ PySem.W.codeIn K cd qual = true
/-- a def by its body, where nothing is guarded and nothing let out; the body may speak of its code object -/
theorem okGl {x qual : Str} {st : Stmt} {fd : FuncData} {cd : Value} (F : Def K x qual st f fd cd) (S : FnScope N ps (defScope st)) (len : ∀ vs H Q E, sp vs H Q E → vs.length = ps.length)
    (body : ∀ (A : Around) (out : List Env) (s : Shared) (H : Hp) (vs : List V) (Q : VK) (E : XK), A.guards = some [] → Room k (A.deeper (envOfC qual (defScope st) s.heap.objs.size f cd)) → sp vs H Q E →
      ∃ t, PSs (cxOf CX0 P w K mg base N qual (defScope st) f cd A out s H E).nox (defBody st) t ∧ t { nx := fun _ H' => Q .non H', rt := Q } (start N vs) H) : FnG P w K mg base CX0 (k + 1) f fd ps sp := by
  obtain ⟨oc, od, kV, doc, pm, an, ct, osl, rfl, at_, code⟩ := F.ex
  refine ⟨len, fun A out s H args us vs Q E room free e0 bind rel want => ?_⟩
  obtain ⟨t, run, go⟩ := body A out s H vs Q E free (room.deeper _) want
  exact LamX.run_ofS at_ code S room e0 bind rel (len _ _ _ _ want) fun _ => ⟨t, run.nox, go⟩
end
end Gu
namespace Hs
open PySem PySem.Spec PyProof.Rows L2 Am Rv
theorem takes_len {X : Cx} {W : WX} (tk : Takes X W) : Takes X (fun cls d σ H => σ.length = X.N.length → W cls d σ H) := by
  rintro u z ⟨a, B, g, pins, τ, G, cls, d, rfl, I, ground, up, sky, na, os, ag, told⟩
  exact tk _ _ ⟨a, B, g, pins, τ, G, cls, d, rfl, I, ground, up, sky, na, os, ag, told I.len⟩
/-- what the def makes of a call that may raise an error of the class D: its name and its value, or 'fine' -/
def TTh (K : PySem.W.Frag) (D : Addr) : (XK → Hp → VK → Prop) → Hp → VK → Prop := fun tl H Q => ∀ R : VK, (∀ v H', (∀ t, H' t = none → Q (.ref t) (upd H' t (.tup [.str "fine", .non]))) → R v H') →
  tl (fun cls d H' => ∃ dd fs v, cls = .ref D ∧ d = some dd ∧ H' dd = some (.xd fs) ∧ fs.lookup ("value" : Str) = some v ∧ PySem.W.exmOne K (.ref D) (.ref D) = some true ∧
    ∀ e, H' e = none → ∀ t, (upd H' e (Kt.EO e (.ref D) (some dd))) t = none → Q (.ref t) (upd (upd H' e (Kt.EO e (.ref D) (some dd))) t (.tup [.str "OtherHouse", v]))) H R
theorem scHeard : FnScope ["_law_ask", "error"] ["_law_ask"] (defScope sL_heard) := ⟨rfl, rfl, rfl, by decide +kernel, rfl, by decide +kernel, by decide +kernel⟩
theorem heard_gives {X : Cx} {g D : Addr} {cdg : Value} {q : Str} (hme : X.mg "OtherHouse" = some (.ref D)) (xf : XfC X.K D) (nv : PySem.W.findIn X.K (.ref D) "value" = some none) :
    LamX.GivesTo X ["_law_ask", "error"] "_law_heard" (defScope sL_heard) g cdg (defBody sL_heard) "_law_ask" q (TTh X.K D) := by
  intro f c' s H Q tl act hc h
  refine ⟨_, pss_cons (Kt.ps_try_keepN (X := (cxOf C8.CX0 X.prog X.w X.K X.mg X.base ["_law_ask", "error"] "_law_heard" (defScope sL_heard) g cdg X.A X.stack s H C8.E0).nox)
      (l := [(.ref D, 1, _)])
      (tb := fun W D σ H => ∃ Ech : XK, (∀ cls d (σ' : L2.St) H', Ech cls d H' → σ'.length = 2 → W cls d σ' H') ∧ σ[0]? = some (some (.ref f)) ∧ H c' = some (LamX.CodeO c' q) ∧ tl Ech H fun _ H1 => D.nx σ H1)
      rfl rfl rfl scHeard.nd (fun W pn xe tk _ => ?_) (.cons ⟨by rfl, by decide, .inl hme⟩ rfl rfl (fun a pn => pss_one (ps_ret (pe_tup (pa_cons pe_str (pa_cons (Kt.pe_ef xf nv (pv 1)) pa_nil))))) (.stop _)))
    (pss_one (ps_ret (pe_tup (pa_cons pe_str (pa_cons pe_non pa_nil))))), ?_⟩
  · refine pss_one ⟨fun pins z σ G D I want => ?_⟩
    obtain ⟨Ech, each, h0, h1, told⟩ := want
    exact (ps_expr (act _ pn xe Ech _ _ (takes_len tk) each)).run pins z σ G D I ⟨h0, h1, told⟩
  · refine ⟨_, ?_, rfl, hc, h _ fun _ H' hq => ⟨(show 2 ≤ sizeLine by decide), fun t nt => hq t nt⟩⟩
    rintro cls d σ' H' ⟨dd, fs, v, rfl, rfl, hd, hv, e1, q⟩ len
    refine ⟨true, e1, fun _ e ne => ?_, fun y => nomatch y⟩
    match σ', len with
    | [x, y], _ => exact ⟨_, rfl, e, dd, fs, v, rfl, upd_same, (upd_ne (ne_of_none hd ne)).trans hd, hv, (show 2 ≤ sizeLine by decide), fun t nt => q e ne t nt⟩
/-- the def that tells what was raised -/
structure GotH (K : PySem.W.Frag) (mg : Str → Option Value) (D : Addr) (g : Addr) (oc : Value) (od : Option Addr) (kV doc pm : Value) (an : Option Addr) (cd ct : Value) (osl : Array (Option Value)) : Prop where
  mg_ : mg "_law_heard" = some (.ref g)
  kp : PySem.W.keepIn K (.ref g) = true
  lk : K.lookup g = some ⟨oc, od, .func (PySem.W.fnOf "_law_heard" "_law_heard" (defArgs sL_heard) (defBody sL_heard) (defScope sL_heard) .none kV doc pm an cd ct), osl⟩
  co : PySem.W.codeIn K cd "_law_heard" = true
  bd : Binds K (PySem.W.fnOf "_law_heard" "_law_heard" (defArgs sL_heard) (defBody sL_heard) (defScope sL_heard) .none kV doc pm an cd ct) ["_law_ask"] []
  me : mg "OtherHouse" = some (.ref D)
/-- all but the jar at p and the tables stands -/
def ChT (p : Addr) (H H' : Hp) : Prop := ∀ b u, H b = some u → b ≠ p → (∀ ps, u ≠ .tbl ps) → H' b = some u
theorem ChT.refl (p : Addr) (H : Hp) : ChT p H H := fun _ _ e _ _ => e
theorem ChT.trans {p : Addr} {H H1 H2 : Hp} (a : ChT p H H1) (b : ChT p H1 H2) : ChT p H H2 := fun c u e n t => b c u (a c u e n t) n t
theorem ChT.chg {p : Addr} {H H' : Hp} (e : Chg p H H') : ChT p H H' := fun b u h n _ => e b u h n
theorem ChT.ext {p : Addr} {H H' : Hp} (e : LamX.ExtN H H') : ChT p H H' := fun b u h _ t => e b u h t
theorem ChT.of {p : Addr} {H H' : Hp} (e : Same H H') : ChT p H H' := fun b u h _ _ => e b u h
theorem tabs_chg {T : List (Addr × Str)} {p : Addr} {N : Int} {H H' : Hp} (j : JarAt H p N) (c : Chg p H H') (t : LamX.Tabs T H) : LamX.Tabs T H' := by
  intro q hq
  obtain ⟨ps, h1, h2, h3⟩ := t q hq
  obtain ⟨_, _, _, hp, _⟩ := j
  refine ⟨ps, c _ _ h1 (ne_of h1 hp (by intro z; cases z)), h2, fun pos cv hc => ?_⟩
  obtain ⟨cc, e1, e2⟩ := h3 pos cv hc
  exact ⟨cc, e1, c _ _ e2 (ne_of e2 hp (by intro z; unfold LamX.CodeO at z; cases z))⟩
theorem jar_ext {p : Addr} {N : Int} {H H' : Hp} (e : LamX.ExtN H H') (j : JarAt H p N) : JarAt H' p N := by
  obtain ⟨o, m, c, h, r⟩ := j
  exact ⟨o, m, c, e _ _ h (fun _ z => by cases z), r⟩
/-- the heap without its tables -/
def noT (H : Hp) : Hp := fun b => match H b with
  | some (.tbl _) => none
  | o => o
theorem noT_some {H : Hp} {b : Addr} {o : HO} (h : H b = some o) (n : ∀ ps, o ≠ .tbl ps) : noT H b = some o := by
  unfold noT
  rw [h]
  cases o <;> first | rfl | exact absurd rfl (n _)
theorem noT_same {H H' : Hp} (e : LamX.ExtN H H') : Same (noT H) H' := by
  intro b o h
  unfold noT at h
  split at h
  · cases h
  · rename_i h2
    exact e b o h (fun ps z => h2 ps (by rw [← z]; exact h))
theorem HouseAt.noT {C : Addr} {H : Hp} {h : Addr} {x : Str} {L : Lore} (k : HouseAt C H h x L) : HouseAt C (noT H) h x L := by
  obtain ⟨dx, a, b, cc, r, t, pp, rs, ts, ys, h1, h2, h3, h4, h5, h6, h7, h8, h9, h10⟩ := k
  exact ⟨dx, a, b, cc, r, t, pp, rs, ts, ys, noT_some h1 (fun _ z => by cases z), noT_some h2 (fun _ z => by cases z), ⟨h3.1, fun i r y a b => noT_some (h3.2 i r y a b) (fun _ z => by unfold plO at z; cases z)⟩, noT_some h4 (fun _ z => by cases z), noT_some h5 (fun _ z => by cases z), h6, noT_some h7 (fun _ z => by cases z), noT_some h8 (fun _ z => by cases z),
    ⟨h9.1, fun i r y a b => noT_some (h9.2 i r y a b) (fun _ z => by cases z)⟩, noT_some h10 (fun _ z => by cases z)⟩
theorem TupAt.noT {α : Type} {f : α → HO} {H : Hp} {a : Addr} {xs : List α} (h : TupAt f H a xs) (hf : ∀ x ys, f x ≠ .tbl ys) : TupAt f (noT H) a xs := by
  obtain ⟨as, h1, h2⟩ := h
  exact ⟨as, noT_some h1 (fun _ z => by cases z), h2.1, fun i r x a b => noT_some (h2.2 i r x a b) (hf x)⟩
theorem RowsAt.noT {H : Hp} {a : Addr} {rs : List Rw} (h : RowsAt H a rs) : RowsAt (noT H) a rs := TupAt.noT h (fun x ys z => by unfold rwO at z; cases z)
theorem NumAt.noT {C CH n : Addr} {H : Hp} {x : Str} {L : Lore} {rs : List Rw} (k : NumAt C CH H n x L rs) : NumAt C CH (noT H) n x L rs := by
  obtain ⟨dx, h, a, d, t, h1, h2, h3, h4, h5⟩ := k
  exact ⟨dx, h, a, d, t, noT_some h1 (fun _ z => by cases z), h2.noT, RowsAt.noT h3, noT_some h4 (fun _ z => by cases z), TupAt.noT h5 (fun x ys z => by unfold laO at z; cases z)⟩
theorem NumAt.ext {C CH n : Addr} {H H' : Hp} {x : Str} {L : Lore} {rs : List Rw} (k : NumAt C CH H n x L rs) (e : LamX.ExtN H H') : NumAt C CH H' n x L rs := k.noT.same (noT_same e)
theorem RowsAt.ext {H H' : Hp} {a : Addr} {rs : List Rw} (h : RowsAt H a rs) (e : LamX.ExtN H H') : RowsAt H' a rs := (RowsAt.noT h).same (noT_same e)
end Hs
namespace Hs
open PySem PySem.Spec PyProof.Rows L2 Am Rv
/-- an instance of C, or of D, or a value of a built-in type -/
def OrB2 (C D : Addr) (H : Hp) (y : V) : Prop := OrB C H y ∨ ∃ b dy gs, y = .ref b ∧ H b = some (.ins D dy gs)
def rCmp2 (C D : Addr) (sp : Sp) (E : XK) : R2 := fun x y H Q => (∃ a dx fs, x = .ref a ∧ H a = some (.ins C dx fs)) ∧ OrB2 C D H y ∧ sp [x, y] H Q E
theorem op_cmpC2 {X : Cx} {C D g : Addr} {k : Nat} {fd : FuncData} {ps : List Str} {sp : Sp} {CX : CXT} {E : XK} {op : CmpOp} (hop : ∀ a b, compareOp op a b = richCompare op a b) (c : OpC X.K C) (nD : PySem.W.notFirst X.K C (.ref D) = true) (m : Om X C (cmpInfo op).2.1 g) (F : FnOk X.prog X.w X.K X.mg X.base CX k g fd ps sp) (hr : Room k X.A) (hb : Binds X.K fd ps [])
    (hx : Passes CX X E) : OpR X (compareOp op) (rCmp2 C D sp E) := by
  intro pins s σ H x y v u Q I rx ry h
  obtain ⟨⟨a, dx, fs, rfl, ha⟩, hy, q⟩ := h
  cases (show v = Value.ref a from rx)
  obtain ⟨od, J⟩ := inst_of I ha
  have ty : ∃ tb, PySem.W.Looks (model X.prog X.w) s.heap (typeOf u) tb ∧ PySem.W.notFirst X.K C tb = true := by
    rcases hy with hy | ⟨b, dy, gs, rfl, hb⟩
    · exact orB_type c I ry hy
    · cases (show u = Value.ref b from ry)
      obtain ⟨od, J⟩ := inst_of I hb
      exact ⟨.ref D, J.type, nD⟩
  obtain ⟨tb, ht, hn⟩ := ty
  obtain ⟨mm, hF⟩ := I.fr
  rw [hop]
  refine PySem.W.cmp_K (op := op) hr.units0 hF I.ok.mod.kin J ht hn m.hs m.hf ?_
  refine wpAny_mono (run_fn (us := [.ref a, u]) (vs := [.ref a, y]) (dvs := []) F hr hb .nil hx I (.cons rfl (.cons ry .nil)) q) (fun w s' z => ?_) fun _ _ x => x
  obtain ⟨z', H', I', rz, qz⟩ := z
  exact SlX.cmpback rz ⟨z', H', I', rz, qz⟩
def GotP (P : Program) (w : World) (K : PySem.W.Frag) (mg : Str → Option Value) (base : Heap) (C : Addr) (x : Str) (k : Nat) (sp : Sp) : Prop :=
  ∃ (p g : Addr) (fd : FuncData), PropOf K C x p g ∧ FnOk P w K mg base CX0 k g fd ["self"] sp ∧ L2.Binds K fd ["self"] []
abbrev qRight : Str := (("_law_right" : Str) ++ (".<locals>." : Str)) ++ ("<lambda>" : Str)
def spRight (Tb : List (Addr × Str)) : Sp := fun vs H Q _ => ∃ (p : Addr) (N : Int), vs = [.ref p] ∧ JarAt H p N ∧ N ≤ 7000 ∧ LamX.Tabs Tb H ∧ ∀ H', ChT p H H' → LamX.Tabs Tb H' → JarAt H' p (N + 600) → Q (.bl true) H'
theorem lkv_put (n : Nat) (lp ls lt l : Addr) : putK (lkv n lp ls lt) (.inr ("prices" : Str)) (V.ref l) = lkv n lp ls l := by
  unfold lkv putK
  have e1 : ((Sum.inr ("days" : Str) : Key) = Sum.inr ("prices" : Str)) = False := by simp; decide +kernel
  have e2 : ((Sum.inr ("places" : Str) : Key) = Sum.inr ("prices" : Str)) = False := by simp; decide +kernel
  have e3 : ((Sum.inr ("stays" : Str) : Key) = Sum.inr ("prices" : Str)) = False := by simp; decide +kernel
  simp [e1, e2, e3]
theorem int_lkv {α : Type} {xs : List α} {k : α → Key} {f : α → Int} {n : Nat} {lp ls lt : Addr} : (xs.map fun q => (k q, V.int (f q))) ≠ lkv n lp ls lt := by
  intro z
  have := congrArg (fun l => (l[1]?).map (·.2)) z
  simp [lkv, List.getElem?_map] at this
theorem ref_lkv {α : Type} {xs : List α} {k : α → Key} {f : α → Addr} {n : Nat} {lp ls lt : Addr} : (xs.map fun q => (k q, V.ref (f q))) ≠ lkv n lp ls lt := by
  intro z
  have := congrArg (fun l => (l[0]?).map (·.2)) z
  simp [lkv, List.getElem?_map] at this
/-- the lore's dict alone is another -/
def FrL (d : Addr) (kv : List (Key × V)) (H H' : Hp) : Prop := ∀ b u, H b = some u → u ≠ .dK kv → H' b = some u
theorem HouseAt.frL {C d : Addr} {H H' : Hp} {h : Addr} {x : Str} {L : Lore} {n : Nat} {lp ls lt : Addr} (k : HouseAt C H h x L) (e : FrL d (lkv n lp ls lt) H H') : HouseAt C H' h x L := by
  obtain ⟨dx, a, b, cc, r, t, pp, rs, ts, ys, h1, h2, h3, h4, h5, h6, h7, h8, h9, h10⟩ := k
  exact ⟨dx, a, b, cc, r, t, pp, rs, ts, ys, e _ _ h1 (fun z => by cases z), e _ _ h2 (fun z => by cases z), ⟨h3.1, fun i r y a b => e _ _ (h3.2 i r y a b) (fun z => by unfold plO at z; cases z)⟩, e _ _ h4 (fun z => by cases z), e _ _ h5 (fun z => by cases z), h6,
    e _ _ h7 (fun z => int_lkv (HO.dK.inj z)), e _ _ h8 (fun z => ref_lkv (HO.dK.inj z)), ⟨h9.1, fun i r y a b => e _ _ (h9.2 i r y a b) (fun z => by cases z)⟩, e _ _ h10 (fun z => by cases z)⟩
theorem TupAt.frL {α : Type} {f : α → HO} {H H' : Hp} {a d : Addr} {xs : List α} {kv : List (Key × V)} (h : TupAt f H a xs) (e : FrL d kv H H') (hf : ∀ x ys, f x ≠ .dK ys) : TupAt f H' a xs := by
  obtain ⟨as, h1, h2⟩ := h
  exact ⟨as, e _ _ h1 (fun z => by cases z), h2.1, fun i r x a b => e _ _ (h2.2 i r x a b) (hf x _)⟩
theorem RowsAt.frL {H H' : Hp} {a d : Addr} {rs : List Rw} {kv : List (Key × V)} (h : RowsAt H a rs) (e : FrL d kv H H') : RowsAt H' a rs := TupAt.frL h e (fun x ys z => by unfold rwO at z; cases z)
theorem NumAt.frL {C CH n d : Addr} {H H' : Hp} {x : Str} {L : Lore} {rs : List Rw} {m : Nat} {lp ls lt : Addr} (k : NumAt C CH H n x L rs) (e : FrL d (lkv m lp ls lt) H H') : NumAt C CH H' n x L rs := by
  obtain ⟨dx, h, a, d, t, h1, h2, h3, h4, h5⟩ := k
  exact ⟨dx, h, a, d, t, e _ _ h1 (fun z => by cases z), h2.frL e, RowsAt.frL h3 e, e _ _ h4 (fun z => by cases z), TupAt.frL h5 e (fun x ys z => by unfold laO at z; cases z)⟩
theorem LstAt.frL {α : Type} {f : α → HO} {H H' : Hp} {a d : Addr} {xs : List α} {kv : List (Key × V)} (h : LstAt f H a xs) (e : FrL d kv H H') (hf : ∀ x ys, f x ≠ .dK ys) : LstAt f H' a xs := by
  obtain ⟨as, h1, h2⟩ := h
  exact ⟨as, e _ _ h1 (fun z => by cases z), h2.1, fun i r x a b => e _ _ (h2.2 i r x a b) (hf x _)⟩
theorem jar_frL {p d : Addr} {N : Int} {H H' : Hp} {kv : List (Key × V)} (e : FrL d kv H H') (j : JarAt H p N) : JarAt H' p N := by
  obtain ⟨o, m, c, h, r⟩ := j
  exact ⟨o, m, c, e _ _ h (fun z => by cases z), r⟩
theorem tabs_frL {T : List (Addr × Str)} {d : Addr} {H H' : Hp} {kv : List (Key × V)} (e : FrL d kv H H') (t : LamX.Tabs T H) : LamX.Tabs T H' := by
  intro q hq
  obtain ⟨ps, h1, h2, h3⟩ := t q hq
  refine ⟨ps, e _ _ h1 (fun z => by cases z), h2, fun pos cv hc => ?_⟩
  obtain ⟨cc, e1, e2⟩ := h3 pos cv hc
  exact ⟨cc, e1, e _ _ e2 (fun z => by unfold LamX.CodeO at z; cases z)⟩
theorem frL_upd {d : Addr} {H : Hp} {kv : List (Key × V)} {o : HO} (h : H d = some (.dK kv)) : FrL d kv H (upd H d o) := fun b u e ne => (upd_ne (fun z => ne (by rw [z, h] at e; exact (Option.some.inj e).symm))).trans e
def farL (L : Lore) : Lore := { L with prices := [(0, 2)] }
theorem far_valid {L : Lore} (v : Valid L) : Valid (farL L) := ⟨v.d, v.l4, v.nd, v.ok, v.fl, ⟨by show 1 ≤ 3; decide, List.pairwise_singleton _ _, fun x hx => by rw [List.mem_singleton.mp hx]; exact ⟨v.d.1, by decide⟩⟩, v.st⟩
theorem far_page {L : Lore} (v : Valid L) (h : L.prices = []) : pageOf L ≠ pageOf (farL L) := by
  intro z
  have e := congrArg (fun x => (Txt.split x "\n").length) z
  simp only [v.split, (far_valid v).split] at e
  unfold linesOf farL at e
  rw [h] at e
  simp at e
theorem lore_far {H : Hp} {d l T : Addr} {L : Lore} {lp ls lt : Addr} (h1 : H d = some (.dK (lkv L.days lp ls lt))) (h2 : LstAt plO H lp L.places) (h3 : LstAt stO H ls L.stays) (hl : H l = some (.lst [V.ref T])) (hT : H T = some (.tup [V.int 0, .int 2])) :
    LoreAt (upd H d (.dK (lkv L.days lp ls l))) d (farL L) := by
  have f := frL_upd (o := .dK (lkv L.days lp ls l)) h1
  refine ⟨lp, ls, l, upd_same, h2.frL f (fun x ys z => by unfold plO at z; cases z), h3.frL f (fun x ys z => by unfold stO at z; cases z), [T], f _ _ hl (fun z => by cases z), ⟨rfl, fun i q y a b => ?_⟩⟩
  cases i with
  | zero =>
    cases a
    cases b
    exact f _ _ hT (fun z => by cases z)
  | succ i => cases a
/-- what is no Numbers -/
def Th (CH : Addr) (H : Hp) (v : V) : Prop := (∃ T, Bk H v T) ∨ ∃ g x' L', v = .ref g ∧ HouseAt CH H g x' L'
theorem Th.same {CH : Addr} {H H' : Hp} {v : V} (h : Th CH H v) (e : Same H H') : Th CH H' v := by
  rcases h with ⟨T, b⟩ | ⟨g, x', L', rfl, k⟩
  · exact .inl ⟨T, b.same e⟩
  · exact .inr ⟨g, x', L', rfl, k.same e⟩
theorem me_str {L : Lore} (v : Valid L) : ∀ w ∈ metersOf L, PyData.strOk w = true ∧ w.length ≤ 8 := by
  intro w hw
  rcases List.mem_cons.mp hw with rfl | h
  · decide +kernel
  · obtain ⟨p, hp, rfl⟩ := List.mem_map.mp h
    have hp2 := (v.ok p (List.mem_filter.mp hp).1).1
    have : ∀ x ∈ pool, PyData.strOk x = true ∧ x.length ≤ 8 := by decide +kernel
    exact this _ hp2
theorem rows_rws {L : Lore} {rs : List Rw} (va : Valid L) (ok : RowsOk L rs) : RwS rs := by
  intro r hr
  have h := ok.ok r hr
  obtain ⟨a, b⟩ := me_str va r.m h.m
  have := va.d
  exact rw_sd a b (by have := h.t; omega) (by have := h.n; omega)
theorem mk_same {H H' : Hp} {C h dx : Addr} (nh : H h = none) (nd : H dx = none) (ne : dx ≠ h) (f : Fr [h] (upd (upd H dx (.own h)) h (.ins C dx [])) H') : Same H H' := fun b u e =>
  f _ _ (((same_upd nd).trans (same_upd (by rw [upd_ne (Ne.symm ne)]; exact nh))) _ _ e) (by simpa using ne_of_none e nh)
theorem tabs_nl {T : List (Addr × Str)} {H H' : Hp} (e : ∀ b o, H b = some o → (∀ xs, o ≠ .lst xs) → H' b = some o) (t : LamX.Tabs T H) : LamX.Tabs T H' := by
  intro q hq
  obtain ⟨ps, h1, h2, h3⟩ := t q hq
  refine ⟨ps, e _ _ h1 (fun _ z => by cases z), h2, fun pos cv hc => ?_⟩
  obtain ⟨cc, e1, e2⟩ := h3 pos cv hc
  exact ⟨cc, e1, e _ _ e2 (fun _ z => by unfold LamX.CodeO at z; cases z)⟩
theorem sd2 {a b : PyData} (ha : Sdt.Sd 2 18600 a) (hb : Sdt.Sd 2 18600 b) : Sdt.Sd 3 37202 (.tuple [a, b]) := by
  have := Sdt.Sd.tup (k := 2) (w := 18600) (ds := [a, b]) (fun x hx => by
    simp only [List.mem_cons, List.not_mem_nil, or_false] at hx
    rcases hx with rfl | rfl
    · exact ha
    · exact hb)
  exact this

section
variable {P : Program} {w : World} {K : PySem.W.Frag} {mg : Str → Option Value} {base : Heap} {C CH D : Addr}
theorem sc_l_right : FnScope ["_law_jar_here", "_law_lore", "_law_rows", "_law_more", "_law_one", "_law_other", "_law_thing", "_law_far", "_law_told", "_law_word", "_law_value"] ["_law_jar_here"] (defScope sL_right) := ⟨rfl, rfl, rfl, by decide +kernel, rfl, by decide +kernel, by decide +kernel⟩
theorem ok_right {f c2 : Addr} {fd : FuncData} (F : Gu.Def K "_law_right" "_law_right" sL_right f fd (.ref c2)) (T : Nm mg) (n_list : mg "list" = none) {Tb : List (Addr × Str)} {P2 gH : Addr} {oc : Value} {od : Option Addr} {kV doc pm : Value} {an : Option Addr} {cd ct : Value} {osl : Array (Option Value)} (n_any : mg "any" = none) (th : TyH K mg CH) (tn : TyN K mg C CH) (GC : GotH K mg D gH oc od kV doc pm an cd ct osl) (TB : LamX.TabB base mg c2 P2) (hm : (P2, qRight) ∈ Tb) (hq : ∀ p ∈ Tb, p.1 = P2 → p.2 = qRight) (te : PySem.W.exmOne K (.ref D) (.ref D) = some true) (xf : XfC K D) (nv : PySem.W.findIn K (.ref D) "value" = some none) (GLe : GotO P w K mg base C "__le__" 4 (spNCmp C CH D rLe)) (GLt : GotO P w K mg base C "__lt__" 4 (spNCmp C CH D rLt)) (GGe : GotO P w K mg base C "__ge__" 4 (spNCmp C CH D rGe)) (GGt : GotO P w K mg base C "__gt__" 4 (spNCmp C CH D rGt)) (GEq : GotM P w K mg base C "__eq__" 2 ["self", "other"] (spNEq C CH)) (G_l_small : GotF P w K mg base "_law_small" 4 ["_law_jar_here", "_law_most", "_law_has_prices"] spSmall) (G_l_any_rows : GotF P w K mg base "_law_any_rows" 4 ["_law_jar_here", "_law_lore"] spAny) (G_l_other_rows : GotF P w K mg base "_law_other_rows" 5 ["_law_jar_here", "_law_lore", "_law_rows"] spOther) (G_l_page : GotF P w K mg base "_law_page" 1 ["_law_lore"] spPage) (m_House : mg "House" = some (.ref CH)) (G_House : ∃ (f : Addr) (fd : FuncData), FnOk P w K mg base CX0 5 f fd ["self", "text"] (spHInit CH) ∧ L2.Binds K fd ["self", "text"] [] ∧ Mk K CH f) (m_Numbers : mg "Numbers" = some (.ref C)) (G_Numbers : ∃ (f : Addr) (fd : FuncData), FnOk P w K mg base CX0 7 f fd ["self", "house", "rows"] (spNInit C CH) ∧ L2.Binds K fd ["self", "house", "rows"] [] ∧ Mk K C f) (G_l_compared : GotG P w K mg base "_law_compared" 5 ["_law_one", "_law_other", "_law_rows", "_law_more"] (spCompared C CH)) (G_num_house : GotP P w K mg base C "house" 1 (spNHouse C CH)) (G_num_rows : GotP P w K mg base C "rows" 1 (spNRows C CH)) : Gu.FnG P w K mg base CX0 10 f fd ["_law_jar_here"] (spRight Tb) := by
  obtain ⟨f_l_small, d_l_small, G_l_small, b_l_small, m_l_small, k_l_small⟩ := G_l_small
  obtain ⟨f_l_any_rows, d_l_any_rows, G_l_any_rows, b_l_any_rows, m_l_any_rows, k_l_any_rows⟩ := G_l_any_rows
  obtain ⟨f_l_other_rows, d_l_other_rows, G_l_other_rows, b_l_other_rows, m_l_other_rows, k_l_other_rows⟩ := G_l_other_rows
  obtain ⟨f_l_page, d_l_page, G_l_page, b_l_page, m_l_page, k_l_page⟩ := G_l_page
  obtain ⟨f_House, d_House, G_House, b_House, Mk_House⟩ := G_House
  obtain ⟨f_Numbers, d_Numbers, G_Numbers, b_Numbers, Mk_Numbers⟩ := G_Numbers
  obtain ⟨f_l_compared, d_l_compared, G_l_compared, b_l_compared, m_l_compared, k_l_compared⟩ := G_l_compared
  obtain ⟨pa_num_house, f_num_house, d_num_house, p_num_house, G_num_house, b_num_house⟩ := G_num_house
  obtain ⟨pa_num_rows, f_num_rows, d_num_rows, p_num_rows, G_num_rows, b_num_rows⟩ := G_num_rows
  obtain ⟨fLe, dLe, GLe, bLe, iLe, jLe⟩ := GLe
  obtain ⟨fLt, dLt, GLt, bLt, iLt, jLt⟩ := GLt
  obtain ⟨fGe, dGe, GGe, bGe, iGe, jGe⟩ := GGe
  obtain ⟨fGt, dGt, GGt, bGt, iGt, jGt⟩ := GGt
  obtain ⟨fEq, dEq, GEq, bEq, iEq, jEq⟩ := GEq
  refine Gu.okGl F sc_l_right (fun vs H Q E h => ?_) (fun A outer s H vs Q E free hr h => ?_)
  · obtain ⟨p, N, rfl, hj, hN, tabs, q⟩ := h
    rfl
  · obtain ⟨p, N, rfl, hj, hN, tabs, q⟩ := h
    have hr1 : Room 1 _ := hr.mono (by decide)
    have hr2 : Room 2 _ := hr.mono (by decide)
    have hr3 : Room 3 _ := hr.mono (by decide)
    have hr4 : Room 4 _ := hr.mono (by decide)
    have hr5 : Room 5 _ := hr.mono (by decide)
    have hr6 : Room 6 _ := hr.mono (by decide)
    have hr7 : Room 7 _ := hr.mono (by decide)
    have hr8 : Room 8 _ := hr.mono (by decide)
    have hu := hu_of hr
    have b_list_ : bootBuiltins "list" = some (.type "list") := by decide +kernel
    refine ⟨_, (pss_cons (ps_set (i := 1) sc_l_right.nd rfl (.inl rfl) (pe_call G_l_small hr4 (by rfl) m_l_small k_l_small b_l_small .nil pass0 (pa_cons (pv 0) (pa_cons (pe_op op_pow pe_int pe_int) (pa_cons pe_bl pa_nil)))))
      (pss_cons (ps_set (i := 2) sc_l_right.nd rfl (.inl rfl) (pe_call G_l_any_rows hr4 (by rfl) m_l_any_rows k_l_any_rows b_l_any_rows .nil pass0 (pa_cons (pv 0) (pa_cons (pv 1) pa_nil))))
      (pss_cons (ps_set (i := 3) sc_l_right.nd rfl (.inl rfl) (pe_call G_l_other_rows hr5 (by rfl) m_l_other_rows k_l_other_rows b_l_other_rows .nil pass0 (pa_cons (pv 0) (pa_cons (pv 1) (pa_cons (pv 2) pa_nil)))))
      (pss_cons (ps_asg (g := (gTup K 2 (gCons (gName 4) (gCons (gName 5) gNil)))) (pe_tup (pa_cons (pe_make Mk_Numbers G_Numbers hr8 (by rfl) m_Numbers b_Numbers .nil pass0 (pa_cons (pe_make Mk_House G_House hr6 (by rfl) m_House b_House .nil pass0 (pa_cons (pe_call G_l_page hr1 (by rfl) m_l_page k_l_page b_l_page .nil pass0 (pa_cons (pv 1) pa_nil)) pa_nil)) (pa_cons (pv 2) pa_nil))) (pa_cons (pe_make Mk_Numbers G_Numbers hr8 (by rfl) m_Numbers b_Numbers .nil pass0 (pa_cons (pe_make Mk_House G_House hr6 (by rfl) m_House b_House .nil pass0 (pa_cons (pe_call G_l_page hr1 (by rfl) m_l_page k_l_page b_l_page .nil pass0 (pa_cons (pv 1) pa_nil)) pa_nil)) (pa_cons (pv 3) pa_nil))) pa_nil))) (pg_tup rfl (pgs_cons (pg_name (i := 4) sc_l_right.nd rfl (.inr rfl)) (pgs_cons (pg_name (i := 5) sc_l_right.nd rfl (.inl rfl)) pgs_nil))))
      (pss_cons (ps_if (PW.pt (pw_or (pt_not (pt_val (Gu.pe_callG G_l_compared free hr5 (by rfl) m_l_compared k_l_compared b_l_compared pass0 (pa_cons (pv 4) (pa_cons (pv 5) (pa_cons (pv 2) (pa_cons (pv 3) pa_nil))))))) (pw_or1 (pt_not (pt_val (Gu.pe_callG G_l_compared free hr5 (by rfl) m_l_compared k_l_compared b_l_compared pass0 (pa_cons (pv 5) (pa_cons (pv 4) (pa_cons (pv 3) (pa_cons (pv 2) pa_nil)))))))))) (pss_one (ps_ret pe_bl)) pss_nil)
      (pss_cons (ps_if (pt_not (pt_val (Gu.pe_callG G_l_compared free hr5 (by rfl) m_l_compared k_l_compared b_l_compared pass0 (pa_cons (pv 4) (pa_cons (pv 4) (pa_cons (pv 2) (pa_cons (pv 2) pa_nil))))))) (pss_one (ps_ret pe_bl)) pss_nil)
      (pss_cons (ps_if (pt_val (pe_callB (cr_any rfl) (by rfl) n_any b_any (pa_cons (pe_lc (own := [("_law_thing", 6)]) (g := gName 6) (tt := tYes) rfl sc_l_right.nd (pi_list (pe_lst (pa_cons (pv 2) (pa_cons pe_non (pa_cons pe_int (pa_cons (pe_prop (pv 4) tn.nc.cl p_num_house G_num_house hr2 b_num_house .nil pass0 rfl) (pa_cons (pe_callTy (call_list_of) (by rfl) n_list b_list_ (pa_cons (pv 2) pa_nil)) pa_nil)))))))
          (blkOk_by (N := ["_law_jar_here", "_law_lore", "_law_rows", "_law_more", "_law_one", "_law_other", "_law_thing", "_law_far", "_law_told", "_law_word", "_law_value"]) (sc := defScope sL_right) (by decide +kernel)) (fun _ _ _ _ _ => (pg_name (i := 6) sc_l_right.nd rfl (.inl rfl))) (fun _ _ _ _ _ => pts_nil) (fun _ _ _ _ _ => (pe_cmpR (r := rCmp2 C CH (spNEq C CH) E0) (by exact op_cmpC2 (op := .Eq) (fun _ _ => rfl) tn.op tn.nf ⟨iEq, jEq⟩ GEq hr2 bEq pass0) (pv 4) (pv 6) (nomark _)))) pa_nil))) (pss_one (ps_ret pe_bl)) pss_nil)
      (pss_cons (ps_dput hu (pv 1) pe_str (pe_lst (pa_cons (pe_tup (pa_cons pe_int (pa_cons pe_int pa_nil))) pa_nil)) rfl)
      (pss_cons (ps_set (i := 7) sc_l_right.nd rfl (.inr rfl) (pe_make Mk_Numbers G_Numbers hr8 (by rfl) m_Numbers b_Numbers .nil pass0 (pa_cons (pe_make Mk_House G_House hr6 (by rfl) m_House b_House .nil pass0 (pa_cons (pe_call G_l_page hr1 (by rfl) m_l_page k_l_page b_l_page .nil pass0 (pa_cons (pv 1) pa_nil)) pa_nil)) (pa_cons (pv 2) pa_nil))))
      (pss_cons (ps_if (PW.pt (pw_or (pt_cmpR (op_cmpC (op := .Eq) (fun _ _ => rfl) tn.op ⟨iEq, jEq⟩ GEq hr2 bEq pass0) (pv 4) (pv 7) (nomark _)) (pw_or1 (pt_not (pt_cmpR (op_neC tn.op ⟨iEq, jEq⟩ GEq hr3 bEq pass0) (pv 4) (pv 7) (nomark _)))))) (pss_one (ps_ret pe_bl)) pss_nil)
      (pss_cons (ps_set (i := 8) sc_l_right.nd rfl (.inl rfl) (pe_lst (pa_cons (LamX.pe_lamcall (X := (cxOf CX0 P w K mg base ["_law_jar_here", "_law_lore", "_law_rows", "_law_more", "_law_one", "_law_other", "_law_thing", "_law_far", "_law_told", "_law_word", "_law_value"] "_law_right" (defScope sL_right) f (.ref c2) A outer s H E).nox) (T := Tb) (TT := TTh K D) (k := 4) (c := c2) (P := P2) (Ng := ["_law_ask", "error"])
          (t := fun E => tOp (rCmp C (spNCmp C CH D rLe) E) (tVar 4) (tVar 7))
          (by rfl) GC.mg_ GC.kp GC.lk GC.co GC.bd scHeard rfl (.inl rfl) (heard_gives GC.me xf nv) TB rfl (by exact hm) (by exact hq) hr6 (LamX.lamS_by (by rfl)) rfl (fun _ _ _ _ _ => rfl)
          (fun A outer s H E f c' hr2 => pe_cmpR (op_cmpC (op := .LtE) (fun _ _ => rfl) tn.op ⟨iLe, jLe⟩ GLe hr2 bLe (passes_call (takes_of rfl rfl rfl rfl) (fun _ _ _ _ h => h))) (pe_var (i := 4) rfl (.inr (.inr rfl))) (pe_var (i := 7) rfl (.inr (.inr rfl))) (nomark _))) pa_nil)))
      (pss_cons (ps_expr (pe_bm PySem.F.plainAttrs_list PySem.F.slot_list_append PySem.F.type_list_append mt_append (pv 8) (pa_cons (LamX.pe_lamcall (X := (cxOf CX0 P w K mg base ["_law_jar_here", "_law_lore", "_law_rows", "_law_more", "_law_one", "_law_other", "_law_thing", "_law_far", "_law_told", "_law_word", "_law_value"] "_law_right" (defScope sL_right) f (.ref c2) A outer s H E).nox) (T := Tb) (TT := TTh K D) (k := 4) (c := c2) (P := P2) (Ng := ["_law_ask", "error"])
          (t := fun E => tOp (rCmp C (spNCmp C CH D rLt) E) (tVar 4) (tVar 7))
          (by rfl) GC.mg_ GC.kp GC.lk GC.co GC.bd scHeard rfl (.inl rfl) (heard_gives GC.me xf nv) TB rfl (by exact hm) (by exact hq) hr6 (LamX.lamS_by (by rfl)) rfl (fun _ _ _ _ _ => rfl)
          (fun A outer s H E f c' hr2 => pe_cmpR (op_cmpC (op := .Lt) (fun _ _ => rfl) tn.op ⟨iLt, jLt⟩ GLt hr2 bLt (passes_call (takes_of rfl rfl rfl rfl) (fun _ _ _ _ h => h))) (pe_var (i := 4) rfl (.inr (.inr rfl))) (pe_var (i := 7) rfl (.inr (.inr rfl))) (nomark _))) pa_nil)))
      (pss_cons (ps_expr (pe_bm PySem.F.plainAttrs_list PySem.F.slot_list_append PySem.F.type_list_append mt_append (pv 8) (pa_cons (LamX.pe_lamcall (X := (cxOf CX0 P w K mg base ["_law_jar_here", "_law_lore", "_law_rows", "_law_more", "_law_one", "_law_other", "_law_thing", "_law_far", "_law_told", "_law_word", "_law_value"] "_law_right" (defScope sL_right) f (.ref c2) A outer s H E).nox) (T := Tb) (TT := TTh K D) (k := 4) (c := c2) (P := P2) (Ng := ["_law_ask", "error"])
          (t := fun E => tOp (rCmp C (spNCmp C CH D rGe) E) (tVar 4) (tVar 7))
          (by rfl) GC.mg_ GC.kp GC.lk GC.co GC.bd scHeard rfl (.inl rfl) (heard_gives GC.me xf nv) TB rfl (by exact hm) (by exact hq) hr6 (LamX.lamS_by (by rfl)) rfl (fun _ _ _ _ _ => rfl)
          (fun A outer s H E f c' hr2 => pe_cmpR (op_cmpC (op := .GtE) (fun _ _ => rfl) tn.op ⟨iGe, jGe⟩ GGe hr2 bGe (passes_call (takes_of rfl rfl rfl rfl) (fun _ _ _ _ h => h))) (pe_var (i := 4) rfl (.inr (.inr rfl))) (pe_var (i := 7) rfl (.inr (.inr rfl))) (nomark _))) pa_nil)))
      (pss_cons (ps_expr (pe_bm PySem.F.plainAttrs_list PySem.F.slot_list_append PySem.F.type_list_append mt_append (pv 8) (pa_cons (LamX.pe_lamcall (X := (cxOf CX0 P w K mg base ["_law_jar_here", "_law_lore", "_law_rows", "_law_more", "_law_one", "_law_other", "_law_thing", "_law_far", "_law_told", "_law_word", "_law_value"] "_law_right" (defScope sL_right) f (.ref c2) A outer s H E).nox) (T := Tb) (TT := TTh K D) (k := 4) (c := c2) (P := P2) (Ng := ["_law_ask", "error"])
          (t := fun E => tOp (rCmp C (spNCmp C CH D rGt) E) (tVar 4) (tVar 7))
          (by rfl) GC.mg_ GC.kp GC.lk GC.co GC.bd scHeard rfl (.inl rfl) (heard_gives GC.me xf nv) TB rfl (by exact hm) (by exact hq) hr6 (LamX.lamS_by (by rfl)) rfl (fun _ _ _ _ _ => rfl)
          (fun A outer s H E f c' hr2 => pe_cmpR (op_cmpC (op := .Gt) (fun _ _ => rfl) tn.op ⟨iGt, jGt⟩ GGt hr2 bGt (passes_call (takes_of rfl rfl rfl rfl) (fun _ _ _ _ h => h))) (pe_var (i := 4) rfl (.inr (.inr rfl))) (pe_var (i := 7) rfl (.inr (.inr rfl))) (nomark _))) pa_nil)))
      (pss_cons (ps_if (pt_not (pt_val (pe_callB (cr_all rfl) (by rfl) T.all b_all (pa_cons (pe_lc (own := [("_law_word", 9), ("_law_value", 10)]) (g := (gTup K 2 (gCons (gName 9) (gCons (gName 10) gNil)))) (tt := tYes) rfl sc_l_right.nd (pi_list (pv 8))
          (blkOk_by (N := ["_law_jar_here", "_law_lore", "_law_rows", "_law_more", "_law_one", "_law_other", "_law_thing", "_law_far", "_law_told", "_law_word", "_law_value"]) (sc := defScope sL_right) (by decide +kernel)) (fun _ _ _ _ _ => (pg_tup rfl (pgs_cons (pg_name (i := 9) sc_l_right.nd rfl (.inl rfl)) (pgs_cons (pg_name (i := 10) sc_l_right.nd rfl (.inl rfl)) pgs_nil)))) (fun _ _ _ _ _ => pts_nil) (fun _ _ _ _ _ => (pe_and (pe_cmpR op_eq (pv 9) pe_str (nomark _)) (pe_one (pe_cmpR (r := rCmp C (spNEq C CH) E0) (by exact op_cmpC (op := .Eq) (fun _ _ => rfl) tn.op ⟨iEq, jEq⟩ GEq hr2 bEq pass0) (pv 10) (pv 7) (nomark _)))))) pa_nil)))) (pss_one (ps_ret pe_bl)) pss_nil)
      (pss_one (ps_ret (pe_cmpR op_eq (pe_callB (Gu.call_reprD free hr.units) (by rfl) T.repr b_repr (pa_cons (pe_tup (pa_cons (pe_prop (pv 4) tn.nc.cl p_num_rows G_num_rows hr2 b_num_rows .nil pass0 rfl) (pa_cons (pe_prop (pv 5) tn.nc.cl p_num_rows G_num_rows hr2 b_num_rows .nil pass0 rfl) pa_nil))) pa_nil)) (pe_callB (Gu.call_reprD free hr.units) (by rfl) T.repr b_repr (pa_cons (pe_tup (pa_cons (pv 2) (pa_cons (pv 3) pa_nil))) pa_nil)) (nomark _))))))))))))))))))), ?_⟩
    refine ⟨_, rfl, _, _, rfl, rfl, ⟨by decide, by decide, by decide⟩, p, 1000000, false, N, (by show [V.ref p, V.int ((10 : Int) ^ (6 : Int).toNat), V.bl false] = [V.ref p, V.int ((1000000 : Nat) : Int), V.bl false]; rfl), ⟨by decide, by decide⟩, hj, by omega, fun H1 d L c1 nd1 j1 hL sm => ?_⟩
    have va := sm.valid
    have smL := va.small
    have mo : MeOk L := fun w hw => (me_str va w hw).1
    have ml := meters5 smL
    have hr9 : ∀ q ∈ L.places, q.room ≤ 9 := fun q hq => (va.ok q hq).2.2
    have d14 := va.d
    have tabs := tabs_chg hj c1 tabs
    have cT := ChT.chg c1
    refine ⟨_, rfl, _, rfl, p, d, L, _, rfl, hL, smL, d14, hr9, j1, by omega, fun H2 a rs c2 j2 hA ok l70 => ?_⟩
    have hL := hL.chg j1 c2
    have tabs := tabs_chg j1 c2 tabs
    have cT := cT.trans (.chg c2)
    refine ⟨_, rfl, _, rfl, _, rfl, p, d, a, L, rs, _, rfl, hL, smL, d14, hr9, hA, ok, l70, j2, by omega, fun H3 b ss c3 j hB okB l70B => ?_⟩
    have hL := hL.chg j2 c3
    have hA := hA.chg j2 c3
    have tabs := tabs_chg j2 c3 tabs
    have cT := cT.trans (.chg c3)
    have w1 := rows_rws va ok
    have w2 := rows_rws va okB
    have q1 : rs.length ≤ 150 := by omega
    have q2 : ss.length ≤ 150 := by omega
    clear c1 c2 c3 j1 j2 hj
    refine ⟨_, rfl, d, L, rfl, hL, va.fit, fun H1 e1 => ?_⟩
    have hL := hL.same e1; have hA := hA.same e1; have hB := hB.same e1
    have tabs := tabs.ext e1; have cT := cT.trans (.of e1); have j := j.same e1
    intro h1 dh nh ndh nhd
    refine ⟨h1, dh, pageOf (L), L, rfl, upd_same, va.told, fun H2 f2 hhn => ⟨rfl, ?_⟩⟩
    have e2 := mk_same nh ndh nhd f2
    have hL := hL.same e2; have hA := hA.same e2; have hB := hB.same e2
    have tabs := tabs.ext e2; have cT := cT.trans (.of e2); have j := j.same e2
    refine ⟨_, rfl, ?_⟩
    intro n dn nn ndn nnd
    have e3 : Same H2 (upd (upd H2 dn (.own n)) n (.ins C dn [])) := (same_upd ndn).trans (same_upd (by rw [upd_ne (Ne.symm nnd)]; exact nn))
    refine ⟨n, dn, h1, a, pageOf (L), L, rs, rfl, upd_same, hhn.same e3, mo, hA.same e3, ok, by omega, by omega, fun H3 f3 hn => ⟨rfl, ?_⟩⟩
    have e4 := mk_same nn ndn nnd f3
    clear e3 f3 f2 nh ndh nhd nn ndn nnd hhn
    have hL := hL.same e4; have hA := hA.same e4; have hB := hB.same e4
    have tabs := tabs.ext e4; have cT := cT.trans (.of e4); have j := j.same e4
    clear e1 e2 e4
    refine ⟨_, rfl, d, L, rfl, hL, va.fit, fun H1 e1 => ?_⟩
    have hL := hL.same e1; have hA := hA.same e1; have hB := hB.same e1; have hn := hn.same e1
    have tabs := tabs.ext e1; have cT := cT.trans (.of e1); have j := j.same e1
    intro h2 dh nh ndh nhd
    refine ⟨h2, dh, pageOf (L), L, rfl, upd_same, va.told, fun H2 f2 hhm => ⟨rfl, ?_⟩⟩
    have e2 := mk_same nh ndh nhd f2
    have hL := hL.same e2; have hA := hA.same e2; have hB := hB.same e2; have hn := hn.same e2
    have tabs := tabs.ext e2; have cT := cT.trans (.of e2); have j := j.same e2
    refine ⟨_, rfl, ?_⟩
    intro m dn nn ndn nnd
    have e3 : Same H2 (upd (upd H2 dn (.own m)) m (.ins C dn [])) := (same_upd ndn).trans (same_upd (by rw [upd_ne (Ne.symm nnd)]; exact nn))
    refine ⟨m, dn, h2, b, pageOf (L), L, ss, rfl, upd_same, hhm.same e3, mo, hB.same e3, okB, by omega, by omega, fun H3 f3 hm => ⟨rfl, ?_⟩⟩
    have e4 := mk_same nn ndn nnd f3
    clear e3 f3 f2 nh ndh nhd nn ndn nnd hhm
    have hL := hL.same e4; have hA := hA.same e4; have hB := hB.same e4; have hn := hn.same e4
    have tabs := tabs.ext e4; have cT := cT.trans (.of e4); have j := j.same e4
    clear e1 e2 e4
    refine ⟨(show 2 ≤ sizeLine by decide), fun T nT => ?_⟩
    have e1 := same_upd (o := .tup [V.ref n, .ref m]) nT
    have hT := upd_same (H := H3) (a := T) (o := .tup [V.ref n, .ref m])
    generalize upd H3 T (.tup [V.ref n, .ref m]) = H4 at *
    have hL := hL.same e1; have hA := hA.same e1; have hB := hB.same e1; have hn := hn.same e1; have hm := hm.same e1
    have tabs := tabs.ext e1; have cT := cT.trans (.of e1); have j := j.same e1
    clear e1 nT
    refine ⟨T, _, rfl, SqT.of hT, rfl, _, _, rfl, _, _, rfl, rfl, ?_⟩
    clear hT
    refine ⟨_, rfl, _, rfl, _, rfl, _, rfl, n, m, a, b, pageOf L, L, L, rs, ss, rfl, hn, hm, hA, hB, w1, w2, q1, q2, fun H1 e1 => ⟨_, rfl, iteF ?_⟩⟩
    have hL := hL.same e1; have hA := hA.same e1; have hB := hB.same e1; have hn := hn.same e1; have hm := hm.same e1
    have tabs := tabs.ext e1; have cT := cT.trans (.of e1); have j := j.same e1
    clear e1
    refine ⟨_, rfl, _, rfl, _, rfl, _, rfl, m, n, b, a, pageOf L, L, L, ss, rs, rfl, hm, hn, hB, hA, w2, w1, q2, q1, fun H1 e1 => ⟨_, rfl, iteF ?_⟩⟩
    have hL := hL.same e1; have hA := hA.same e1; have hB := hB.same e1; have hn := hn.same e1; have hm := hm.same e1
    have tabs := tabs.ext e1; have cT := cT.trans (.of e1); have j := j.same e1
    clear e1
    refine ⟨_, rfl, _, rfl, _, rfl, _, rfl, n, n, a, a, pageOf L, L, L, rs, rs, rfl, hn, hn, hA, hA, w1, w1, q1, q1, fun H1 e1 => ⟨_, rfl, iteF ?_⟩⟩
    have hL := hL.same e1; have hA := hA.same e1; have hB := hB.same e1; have hn := hn.same e1; have hm := hm.same e1
    have tabs := tabs.ext e1; have cT := cT.trans (.of e1); have j := j.same e1
    clear e1
    obtain ⟨as, ha, ras⟩ := id hA
    obtain ⟨dx, h0, a0, d0, t0, hn1, hh0, _⟩ := id hn
    refine ⟨_, rfl, _, rfl, n, dx, _, rfl, hn1, n, _, L, rs, rfl, hn, fun hh hhh => ?_⟩
    refine ⟨_, rfl, a, _, rfl, .inr (SqT.of ha), fun l1 nl1 => ?_⟩
    have e1 := same_upd (o := .lst (as.map V.ref)) nl1
    have hl1 := upd_same (a := l1) (o := .lst (as.map V.ref)) (H := H1)
    generalize upd H1 l1 (.lst (as.map V.ref)) = H2 at *
    have hL := hL.same e1; have hA := hA.same e1; have hB := hB.same e1; have hn := hn.same e1; have hm := hm.same e1
    have tabs := tabs.ext e1; have cT := cT.trans (.of e1); have j := j.same e1
    have hhh := hhh.same e1
    have ha := e1 _ _ ha
    refine ⟨(show 5 ≤ sizeLine by decide), fun l2 nl2 => ?_⟩
    have e2 := same_upd (o := .lst [V.ref a, .non, .int 0, .ref hh, .ref l1]) nl2
    have hl2 := upd_same (a := l2) (o := .lst [V.ref a, .non, .int 0, .ref hh, .ref l1]) (H := H2)
    generalize upd H2 l2 (.lst [V.ref a, .non, .int 0, .ref hh, .ref l1]) = H3 at *
    have hL := hL.same e2; have hA := hA.same e2; have hB := hB.same e2; have hn := hn.same e2; have hm := hm.same e2
    have tabs := tabs.ext e2; have cT := cT.trans (.of e2); have j := j.same e2
    have hhh := hhh.same e2
    have ha := e2 _ _ ha
    have hl1 := e2 _ _ hl1
    have things : ∀ v ∈ [V.ref a, .non, .int 0, .ref hh, .ref l1], Th CH H3 v := by
      intro v hv
      simp only [List.mem_cons, List.not_mem_nil, or_false] at hv
      rcases hv with rfl | rfl | rfl | rfl | rfl
      · exact .inl ⟨_, .tup ha⟩
      · exact .inl ⟨_, .non⟩
      · exact .inl ⟨_, .int 0⟩
      · exact .inr ⟨hh, _, L, rfl, hhh⟩
      · exact .inl ⟨_, .lst hl1⟩
    clear e1 e2 nl1 nl2 hl1 hhh ha ras hn1 hh0
    refine ⟨l2, rfl, ⟨_, SqL.of hl2⟩, fun D1 nD1 => ?_⟩
    refine lc_it (walk_list (xs := [V.ref a, .non, .int 0, .ref hh, .ref l1])) (Pv := fun k H' => Same H3 H' ∧ H' D1 = some (.lst ((List.replicate k false).map V.bl))) ⟨same_upd nD1, upd_same⟩ (fun k G _ hh => SqL.of (hh.1 _ _ hl2)) ?_ ?_
    · rintro k v K1 K2 hk ⟨f1, hD⟩ ⟨rfl, hv⟩
      have th1 := (things v (List.mem_of_getElem? hv)).same f1
      have hn1 := hn.same f1
      obtain ⟨dx, h0, a0, d0, t0, hn2, _⟩ := id hn1
      have hk' : k < 5 := hk
      refine ⟨rfl, ?_⟩
      unfold tYes
      refine iteT ?_
      have fin : ∃ acc, K2 D1 = some (HO.lst acc) ∧ acc.length < sizeLine ∧ Same H3 (upd K2 D1 (.lst (acc ++ [V.bl false]))) ∧ (upd K2 D1 (.lst (acc ++ [V.bl false]))) D1 = some (.lst ((List.replicate (k + 1) false).map V.bl)) := by
        refine ⟨_, hD, szl (by rw [List.length_map, List.length_replicate]; omega), fun b u z => ?_, ?_⟩
        · rw [upd_ne (ne_of_none z nD1)]
          exact f1 _ _ z
        · rw [List.replicate_succ', List.map_append]
          exact upd_same
      rcases th1 with ⟨T1, bk⟩ | ⟨g1, x1, L1, rfl, k1⟩
      · exact ⟨_, rfl, _, rfl, ⟨n, dx, _, rfl, hn2⟩, .inl (.inr ⟨T1, bk⟩), n, _, L, rs, _, rfl, hn1, .inr (.inl ⟨⟨T1, bk⟩, fin⟩)⟩
      · obtain ⟨ex, ea, eb, ec, er, et, ep, e1⟩ := k1.ins
        exact ⟨_, rfl, _, rfl, ⟨n, dx, _, rfl, hn2⟩, .inr ⟨g1, ex, _, rfl, e1⟩, n, _, L, rs, _, rfl, hn1, .inr (.inr ⟨g1, x1, L1, rfl, k1, fin⟩)⟩
    rintro H5 ⟨e1, hD⟩
    refine ⟨D1, _, rfl, SqL.of hD, _, rfl, ?_⟩
    rw [show (List.replicate ([V.ref a, .non, .int 0, .ref hh, .ref l1] : List V).length false).any id = false from rfl]
    refine iteF ?_
    have hL := hL.same e1; have hA := hA.same e1; have hB := hB.same e1; have hn := hn.same e1; have hm := hm.same e1
    have tabs := tabs.ext e1; have cT := cT.trans (.of e1); have j := j.same e1
    clear e1 hD nD1 hl2 things
    refine ⟨(show 2 ≤ sizeLine by decide), fun T nT => ?_⟩
    have e1 := same_upd (o := .tup [V.int 0, .int 2]) nT
    have hT := upd_same (H := H5) (a := T) (o := .tup [V.int 0, .int 2])
    generalize upd H5 T (.tup [V.int 0, .int 2]) = H6 at *
    refine ⟨(show 1 ≤ sizeLine by decide), fun l nl => ?_⟩
    have e2 := same_upd (o := .lst [V.ref T]) nl
    have hl := upd_same (H := H6) (a := l) (o := .lst [V.ref T])
    generalize upd H6 l (.lst [V.ref T]) = H7 at *
    have hL := hL.same e1; have hA := hA.same e1; have hB := hB.same e1; have hn := hn.same e1; have hm := hm.same e1
    have tabs := tabs.ext e1; have cT := cT.trans (.of e1); have j := j.same e1
    have hL := hL.same e2; have hA := hA.same e2; have hB := hB.same e2; have hn := hn.same e2; have hm := hm.same e2
    have tabs := tabs.ext e2; have cT := cT.trans (.of e2); have j := j.same e2
    have hT := e2 _ _ hT
    obtain ⟨lp, ls, lt, hd1, hd2, hd3, hd4⟩ := hL
    refine ⟨_, rfl, d, _, rfl, DPut.k (k := .inr ("prices" : Str)) hd1 (by show 4 < sizeLine; decide), ?_⟩
    rw [lkv_put]
    have f := frL_upd (o := .dK (lkv L.days lp ls l)) hd1
    have hL := lore_far hd1 hd2 hd3 hl hT
    have hn := hn.frL f; have hm := hm.frL f; have hA := hA.frL f; have hB := hB.frL f; have tabs := tabs_frL f tabs; have j := jar_frL f j
    have cT : ChT p H (upd H7 d (.dK (lkv L.days lp ls l))) := fun b u e nb nt => (upd_ne (ne_of_none e nd1)).trans (cT b u e nb nt)
    have va' := far_valid va
    have nx := far_page va (sm.np rfl)
    have ok' : RowsOk (farL L) rs := ⟨fun r hr => ⟨(ok.ok r hr).m, (ok.ok r hr).t, (ok.ok r hr).n⟩, ok.cl⟩
    generalize upd H7 d (.dK (lkv L.days lp ls l)) = H8 at *
    clear e1 e2 nT nl hT hl hd1 hd2 hd3 hd4 f nd1
    refine ⟨_, rfl, d, (farL L), rfl, hL, va'.fit, fun H1 e1 => ?_⟩
    have hL := hL.same e1; have hA := hA.same e1; have hB := hB.same e1; have hn := hn.same e1; have hm := hm.same e1
    have tabs := tabs.ext e1; have cT := cT.trans (.of e1); have j := j.same e1
    intro h3 dh nh ndh nhd
    refine ⟨h3, dh, pageOf ((farL L)), (farL L), rfl, upd_same, va'.told, fun H2 f2 hhy => ⟨rfl, ?_⟩⟩
    have e2 := mk_same nh ndh nhd f2
    have hL := hL.same e2; have hA := hA.same e2; have hB := hB.same e2; have hn := hn.same e2; have hm := hm.same e2
    have tabs := tabs.ext e2; have cT := cT.trans (.of e2); have j := j.same e2
    refine ⟨_, rfl, ?_⟩
    intro y dn nn ndn nnd
    have e3 : Same H2 (upd (upd H2 dn (.own y)) y (.ins C dn [])) := (same_upd ndn).trans (same_upd (by rw [upd_ne (Ne.symm nnd)]; exact nn))
    refine ⟨y, dn, h3, a, pageOf ((farL L)), (farL L), rs, rfl, upd_same, hhy.same e3, mo, hA.same e3, ok', by omega, (by have : (metersOf (farL L)).length = (metersOf L).length := rfl; omega), fun H3 f3 hy => ⟨rfl, ?_⟩⟩
    have e4 := mk_same nn ndn nnd f3
    clear e3 f3 f2 nh ndh nhd nn ndn nnd hhy
    have hL := hL.same e4; have hA := hA.same e4; have hB := hB.same e4; have hn := hn.same e4; have hm := hm.same e4
    have tabs := tabs.ext e4; have cT := cT.trans (.of e4); have j := j.same e4
    clear e1 e2 e4
    obtain ⟨dx, h0, a0, d0, t0, hn1, _⟩ := id hn
    obtain ⟨dy, g0, b0, c0, s0, hy1, _⟩ := id hy
    have nq : decide (pageOf L = pageOf (farL L) ∧ rs = rs) = false := decide_eq_false (fun z => nx z.1)
    refine ⟨_, rfl, _, rfl, ⟨n, dx, _, rfl, hn1⟩, .inl ⟨y, dy, _, rfl, hy1⟩, n, _, L, rs, .ref y, rfl, hn, .inl ⟨y, _, farL L, rs, rfl, hy, w1, w1, q1, q1, _, rfl, ?_⟩⟩
    rw [nq]
    refine iteF ?_
    refine ⟨_, rfl, _, rfl, ⟨n, dx, _, rfl, hn1⟩, .inl ⟨y, dy, _, rfl, hy1⟩, n, _, L, rs, .ref y, rfl, hn, .inl ⟨y, _, farL L, rs, rfl, hy, w1, w1, q1, q1, _, rfl, _, rfl, ?_⟩⟩
    rw [nq]
    refine iteF ?_
    clear nq
    refine ⟨tabs, fun H1 e1 tabs R kR => ?_⟩
    have hn := hn.ext e1; have hm := hm.ext e1; have hA := hA.ext e1; have hB := hB.ext e1; have hy := hy.ext e1; have j := jar_ext e1 j; have cT := cT.trans (.ext e1)
    clear e1
    obtain ⟨dx, h0, a0, d0, t0, hn1, _⟩ := id hn
    obtain ⟨dy, g0, b0, c0, s0, hy1, _⟩ := id hy
    refine ⟨_, rfl, _, rfl, ⟨n, dx, _, rfl, hn1⟩, .inl ⟨y, dy, _, rfl, hy1⟩, n, y, _, _, L, farL L, rs, rs, rfl, hn, hy, w1, w1, q1, q1, fun c => absurd c nx, fun _ dd H2 e2 hd => ?_⟩
    refine ⟨dd, _, .ref y, rfl, rfl, hd, rfl, te, fun e ne t1 nt => ?_⟩
    have e23 := e2.trans ((same_upd ne).trans (same_upd (o := .tup [V.str "OtherHouse", .ref y]) nt))
    have ht1 := upd_same (H := upd H2 e (Kt.EO e (.ref D) (some dd))) (a := t1) (o := .tup [V.str "OtherHouse", .ref y])
    generalize upd (upd H2 e (Kt.EO e (.ref D) (some dd))) t1 (.tup [V.str "OtherHouse", .ref y]) = H0 at *
    have hn := hn.same e23; have hm := hm.same e23; have hA := hA.same e23; have hB := hB.same e23; have hy := hy.same e23
    have tabs := tabs.ext e23; have cT := cT.trans (.of e23); have j := j.same e23
    clear e2 e23 ne nt hd
    refine ⟨(show 1 ≤ sizeLine by decide), fun lt nlt => ?_⟩
    have e4 := same_upd (o := .lst [V.ref t1]) nlt
    have hlt := upd_same (H := H0) (a := lt) (o := .lst [V.ref t1])
    generalize upd H0 lt (.lst [V.ref t1]) = H4 at *
    have x0 : LamX.ExtN H0 H4 := .of e4
    have ht1 := e4 _ _ ht1
    have tabs := tabs.ext e4
    clear e4
    refine ⟨_, rfl, .inl ⟨rfl, _, SqL.of hlt⟩, tabs, fun H1 e1 tabs R kR => ?_⟩
    have x0 := x0.trans e1
    have hlt := e1 _ _ hlt (fun _ z => by cases z)
    have ht1 := e1 _ _ ht1 (fun _ z => by cases z)
    have hn2 := hn.ext x0
    have hy2 := hy.ext x0
    clear e1
    obtain ⟨dx, h0, a0, d0, t0, hn1, _⟩ := id hn2
    obtain ⟨dy, g0, b0, c0, s0, hy1, _⟩ := id hy2
    refine ⟨_, rfl, _, rfl, ⟨n, dx, _, rfl, hn1⟩, .inl ⟨y, dy, _, rfl, hy1⟩, n, y, _, _, L, farL L, rs, rs, rfl, hn2, hy2, w1, w1, q1, q1, fun c => absurd c nx, fun _ dd H2 e2 hd => ?_⟩
    refine ⟨dd, _, .ref y, rfl, rfl, hd, rfl, te, fun e ne t2 nt => ?_⟩
    have e23 := e2.trans ((same_upd ne).trans (same_upd (o := .tup [V.str "OtherHouse", .ref y]) nt))
    have ht2 := upd_same (H := upd H2 e (Kt.EO e (.ref D) (some dd))) (a := t2) (o := .tup [V.str "OtherHouse", .ref y])
    generalize upd (upd H2 e (Kt.EO e (.ref D) (some dd))) t2 (.tup [V.str "OtherHouse", .ref y]) = H3 at *
    have x0 := x0.trans (.of e23)
    have tabs := tabs.ext e23
    have hlt := e23 _ _ hlt
    have ht1 := e23 _ _ ht1
    clear e2 e23 ne nt hd hn2 hy2
    refine ⟨lt, _, _, rfl, rfl, hlt, (by show 1 < sizeLine; decide), ?_⟩
    have u1 : ∀ b o, H3 b = some o → (∀ xs, o ≠ .lst xs) → (upd H3 lt (.lst ([V.ref t1] ++ [V.ref t2]))) b = some o := fun b o h no => (upd_ne (fun z => by rw [z, hlt] at h; exact no _ (Option.some.inj h).symm)).trans h
    have x0 : LamX.ExtN H0 (upd H3 lt (.lst ([V.ref t1] ++ [V.ref t2]))) := fun b o h nt => (upd_ne (ne_of_none h nlt)).trans (x0 b o h nt)
    have tabs := tabs_nl u1 tabs
    have hlt := upd_same (H := H3) (a := lt) (o := .lst ([V.ref t1] ++ [V.ref t2]))
    have ht1 := u1 _ _ ht1 (fun _ z => by cases z); have ht2 := u1 _ _ ht2 (fun _ z => by cases z)
    generalize upd H3 lt (.lst ([V.ref t1] ++ [V.ref t2])) = H4 at *
    have hlt : H4 lt = some (.lst [V.ref t1, V.ref t2]) := hlt
    clear u1
    refine ⟨_, rfl, .inl ⟨rfl, _, SqL.of hlt⟩, tabs, fun H1 e1 tabs R kR => ?_⟩
    have x0 := x0.trans e1
    have hlt := e1 _ _ hlt (fun _ z => by cases z)
    have ht1 := e1 _ _ ht1 (fun _ z => by cases z); have ht2 := e1 _ _ ht2 (fun _ z => by cases z)
    have hn2 := hn.ext x0
    have hy2 := hy.ext x0
    clear e1
    obtain ⟨dx, h0, a0, d0, t0, hn1, _⟩ := id hn2
    obtain ⟨dy, g0, b0, c0, s0, hy1, _⟩ := id hy2
    refine ⟨_, rfl, _, rfl, ⟨n, dx, _, rfl, hn1⟩, .inl ⟨y, dy, _, rfl, hy1⟩, n, y, _, _, L, farL L, rs, rs, rfl, hn2, hy2, w1, w1, q1, q1, fun c => absurd c nx, fun _ dd H2 e2 hd => ?_⟩
    refine ⟨dd, _, .ref y, rfl, rfl, hd, rfl, te, fun e ne t3 nt => ?_⟩
    have e23 := e2.trans ((same_upd ne).trans (same_upd (o := .tup [V.str "OtherHouse", .ref y]) nt))
    have ht3 := upd_same (H := upd H2 e (Kt.EO e (.ref D) (some dd))) (a := t3) (o := .tup [V.str "OtherHouse", .ref y])
    generalize upd (upd H2 e (Kt.EO e (.ref D) (some dd))) t3 (.tup [V.str "OtherHouse", .ref y]) = H3 at *
    have x0 := x0.trans (.of e23)
    have tabs := tabs.ext e23
    have hlt := e23 _ _ hlt
    have ht1 := e23 _ _ ht1; have ht2 := e23 _ _ ht2
    clear e2 e23 ne nt hd hn2 hy2
    refine ⟨lt, _, _, rfl, rfl, hlt, (by show 2 < sizeLine; decide), ?_⟩
    have u1 : ∀ b o, H3 b = some o → (∀ xs, o ≠ .lst xs) → (upd H3 lt (.lst ([V.ref t1, V.ref t2] ++ [V.ref t3]))) b = some o := fun b o h no => (upd_ne (fun z => by rw [z, hlt] at h; exact no _ (Option.some.inj h).symm)).trans h
    have x0 : LamX.ExtN H0 (upd H3 lt (.lst ([V.ref t1, V.ref t2] ++ [V.ref t3]))) := fun b o h nt => (upd_ne (ne_of_none h nlt)).trans (x0 b o h nt)
    have tabs := tabs_nl u1 tabs
    have hlt := upd_same (H := H3) (a := lt) (o := .lst ([V.ref t1, V.ref t2] ++ [V.ref t3]))
    have ht1 := u1 _ _ ht1 (fun _ z => by cases z); have ht2 := u1 _ _ ht2 (fun _ z => by cases z); have ht3 := u1 _ _ ht3 (fun _ z => by cases z)
    generalize upd H3 lt (.lst ([V.ref t1, V.ref t2] ++ [V.ref t3])) = H4 at *
    have hlt : H4 lt = some (.lst [V.ref t1, V.ref t2, V.ref t3]) := hlt
    clear u1
    refine ⟨_, rfl, .inl ⟨rfl, _, SqL.of hlt⟩, tabs, fun H1 e1 tabs R kR => ?_⟩
    have x0 := x0.trans e1
    have hlt := e1 _ _ hlt (fun _ z => by cases z)
    have ht1 := e1 _ _ ht1 (fun _ z => by cases z); have ht2 := e1 _ _ ht2 (fun _ z => by cases z); have ht3 := e1 _ _ ht3 (fun _ z => by cases z)
    have hn2 := hn.ext x0
    have hy2 := hy.ext x0
    clear e1
    obtain ⟨dx, h0, a0, d0, t0, hn1, _⟩ := id hn2
    obtain ⟨dy, g0, b0, c0, s0, hy1, _⟩ := id hy2
    refine ⟨_, rfl, _, rfl, ⟨n, dx, _, rfl, hn1⟩, .inl ⟨y, dy, _, rfl, hy1⟩, n, y, _, _, L, farL L, rs, rs, rfl, hn2, hy2, w1, w1, q1, q1, fun c => absurd c nx, fun _ dd H2 e2 hd => ?_⟩
    refine ⟨dd, _, .ref y, rfl, rfl, hd, rfl, te, fun e ne t4 nt => ?_⟩
    have e23 := e2.trans ((same_upd ne).trans (same_upd (o := .tup [V.str "OtherHouse", .ref y]) nt))
    have ht4 := upd_same (H := upd H2 e (Kt.EO e (.ref D) (some dd))) (a := t4) (o := .tup [V.str "OtherHouse", .ref y])
    generalize upd (upd H2 e (Kt.EO e (.ref D) (some dd))) t4 (.tup [V.str "OtherHouse", .ref y]) = H3 at *
    have x0 := x0.trans (.of e23)
    have tabs := tabs.ext e23
    have hlt := e23 _ _ hlt
    have ht1 := e23 _ _ ht1; have ht2 := e23 _ _ ht2; have ht3 := e23 _ _ ht3
    clear e2 e23 ne nt hd hn2 hy2
    refine ⟨lt, _, _, rfl, rfl, hlt, (by show 3 < sizeLine; decide), ?_⟩
    have u1 : ∀ b o, H3 b = some o → (∀ xs, o ≠ .lst xs) → (upd H3 lt (.lst ([V.ref t1, V.ref t2, V.ref t3] ++ [V.ref t4]))) b = some o := fun b o h no => (upd_ne (fun z => by rw [z, hlt] at h; exact no _ (Option.some.inj h).symm)).trans h
    have x0 : LamX.ExtN H0 (upd H3 lt (.lst ([V.ref t1, V.ref t2, V.ref t3] ++ [V.ref t4]))) := fun b o h nt => (upd_ne (ne_of_none h nlt)).trans (x0 b o h nt)
    have tabs := tabs_nl u1 tabs
    have hlt := upd_same (H := H3) (a := lt) (o := .lst ([V.ref t1, V.ref t2, V.ref t3] ++ [V.ref t4]))
    have ht1 := u1 _ _ ht1 (fun _ z => by cases z); have ht2 := u1 _ _ ht2 (fun _ z => by cases z); have ht3 := u1 _ _ ht3 (fun _ z => by cases z); have ht4 := u1 _ _ ht4 (fun _ z => by cases z)
    generalize upd H3 lt (.lst ([V.ref t1, V.ref t2, V.ref t3] ++ [V.ref t4])) = H4 at *
    have hlt : H4 lt = some (.lst [V.ref t1, V.ref t2, V.ref t3, V.ref t4]) := hlt
    clear u1
    have hn := hn.ext x0; have hm := hm.ext x0; have hA := hA.ext x0; have hB := hB.ext x0; have hy := hy.ext x0; have j := jar_ext x0 j; have cT := cT.trans (.ext x0)
    clear x0
    refine ⟨_, rfl, lt, rfl, ⟨_, SqL.of hlt⟩, fun D1 nD1 => ?_⟩
    refine lc_it (walk_list (xs := [V.ref t1, .ref t2, .ref t3, .ref t4])) (Pv := fun k H' => Same H4 H' ∧ H' D1 = some (.lst ((List.replicate k true).map V.bl))) ⟨same_upd nD1, upd_same⟩ (fun k G _ hh => SqL.of (hh.1 _ _ hlt)) ?_ ?_
    · rintro k v K1 K2 hk ⟨f1, hD⟩ ⟨rfl, hv⟩
      obtain ⟨q3, rfl, hq3⟩ : ∃ q3, v = V.ref q3 ∧ H4 q3 = some (.tup [V.str "OtherHouse", .ref y]) := by
        have hv := List.mem_of_getElem? hv
        simp only [List.mem_cons, List.not_mem_nil, or_false] at hv
        rcases hv with rfl | rfl | rfl | rfl
        · exact ⟨_, rfl, ht1⟩
        · exact ⟨_, rfl, ht2⟩
        · exact ⟨_, rfl, ht3⟩
        · exact ⟨_, rfl, ht4⟩
      have hy2 := hy.same f1
      obtain ⟨dy, g0, b0, c0, s0, hy1, _⟩ := id hy2
      have hk' : k < 4 := hk
      refine ⟨q3, _, rfl, SqT.of (f1 _ _ hq3), rfl, _, _, rfl, _, _, rfl, rfl, ?_⟩
      refine ⟨rfl, ?_⟩
      unfold tYes
      refine iteT ?_
      refine ⟨_, rfl, rfl, _, rfl, ?_⟩
      rw [decide_eq_true rfl]
      refine iteT ⟨_, rfl, _, rfl, ⟨y, dy, _, rfl, hy1⟩, .inl ⟨y, dy, _, rfl, hy1⟩, y, _, farL L, rs, .ref y, rfl, hy2, .inl ⟨y, _, farL L, rs, rfl, hy2, w1, w1, q1, q1, ?_⟩⟩
      rw [decide_eq_true ⟨rfl, rfl⟩]
      refine ⟨_, hD, szl (by rw [List.length_map, List.length_replicate]; omega), fun b u z => ?_, ?_⟩
      · rw [upd_ne (ne_of_none z nD1)]
        exact f1 _ _ z
      · rw [List.replicate_succ', List.map_append]
        exact upd_same
    rintro H5 ⟨e1, hD⟩
    refine ⟨D1, _, rfl, SqL.of hD, _, rfl, ?_⟩
    rw [show (List.replicate ([V.ref t1, .ref t2, .ref t3, .ref t4] : List V).length true).all id = true from rfl]
    refine iteF ?_
    have hn := hn.same e1; have hm := hm.same e1; have hA := hA.same e1; have hB := hB.same e1; have hy := hy.same e1
    have tabs := tabs.ext e1; have cT := cT.trans (.of e1); have j := j.same e1
    clear e1 hD nD1 hlt ht1 ht2 ht3 ht4
    obtain ⟨dx, h0, a0, d0, t0, hn1, _⟩ := id hn
    obtain ⟨dm, g0, b0, c0, s0, hm1, _⟩ := id hm
    have sd := sd2 (w1.sd q1) (w2.sd q2)
    obtain ⟨r1, r2, r3, r4⟩ := sd.rep (by decide) (by decide)
    refine ⟨_, rfl, n, dx, _, rfl, hn1, n, _, L, rs, rfl, hn, fun a1 hR1 => ⟨_, rfl, m, dm, _, rfl, hm1, m, _, L, ss, rfl, hm, fun a2 hR2 => ?_⟩⟩
    refine ⟨(show 2 ≤ sizeLine by decide), fun T1 nT1 => ?_⟩
    have e1 := same_upd (o := .tup [V.ref a1, .ref a2]) nT1
    have hT1 := upd_same (H := H5) (a := T1) (o := .tup [V.ref a1, .ref a2])
    generalize upd H5 T1 (.tup [V.ref a1, .ref a2]) = H6 at *
    refine ⟨T1, _, rfl, .tup (SqT.of hT1) (.cons (rows_dp (hR1.same e1)) (.cons (rows_dp (hR2.same e1)) .nil)), r1, r2, r3, r4, ?_⟩
    refine ⟨_, rfl, _, rfl, (show 2 ≤ sizeLine by decide), fun T2 nT2 => ?_⟩
    have e2 := same_upd (o := .tup [V.ref a, .ref b]) nT2
    have hT2 := upd_same (H := H6) (a := T2) (o := .tup [V.ref a, .ref b])
    generalize upd H6 T2 (.tup [V.ref a, .ref b]) = H7 at *
    have e12 := e1.trans e2
    refine ⟨T2, _, rfl, .tup (SqT.of hT2) (.cons (rows_dp (hA.same e12)) (.cons (rows_dp (hB.same e12)) .nil)), r1, r2, r3, r4, rfl, ?_⟩
    rw [decide_eq_true rfl]
    exact q _ (cT.trans (.of e12)) (tabs.ext e12) ((j.same e12).mono (by omega))

end
end Hs
namespace Hs
open PySem PySem.Spec PyProof.Rows L2 Am Rv
def spLaw (K : PySem.W.Frag) (Tb : List (Addr × Str)) : Sp := fun vs H Q _ => ∃ (a : Addr) (ns : List Int), vs = [.ref a] ∧ SqL K H a (ns.map V.int) ∧ ns.length ≤ 63 ∧ LamX.Tabs Tb H ∧ ∀ H', Q (.bl true) H'
theorem seq_ext {K : PySem.W.Frag} {H H' : Hp} {a : Addr} {xs : List V} (e : LamX.ExtN H H') (h : SqL K H a xs) : SqL K H' a xs := by
  rcases h with (h | ⟨o, h⟩) | h
  · exact .inl (.inl (e _ _ h (fun _ z => by cases z)))
  · exact .inl (.inr ⟨o, e _ _ h (fun _ z => by cases z)⟩)
  · exact .inr h

section
variable {P : Program} {w : World} {K : PySem.W.Frag} {mg : Str → Option Value} {base : Heap} {C CH D : Addr} {Tb : List (Addr × Str)}
theorem sc_law : FnScope ["_law_script", "_law_k", "_law_jar_here", "_law_lap"] ["_law_script"] (defScope sLaw) := ⟨rfl, rfl, rfl, by decide +kernel, rfl, by decide +kernel, by decide +kernel⟩
theorem ok_law {f : Addr} {fd : FuncData} (F : Fun K "law" "law" sLaw f fd) (T : Nm mg) (G_l_jar : GotF P w K mg base "_law_jar" 1 ["_law_script", "_law_k"] (spJar K)) (G_l_right : GotG P w K mg base "_law_right" 10 ["_law_jar_here"] (spRight Tb)) : Gu.FnG P w K mg base CX0 11 f fd ["_law_script"] ((spLaw K Tb)) := by
  obtain ⟨f_l_jar, d_l_jar, G_l_jar, b_l_jar, m_l_jar, k_l_jar⟩ := G_l_jar
  obtain ⟨f_l_right, d_l_right, G_l_right, b_l_right, m_l_right, k_l_right⟩ := G_l_right
  refine Gu.okG0 F sc_law (fun vs H Q E h => ?_) (fun cdv A outer s H vs Q E free hr h => ?_)
  · obtain ⟨a, ns, rfl, hS, hl, tabs, q⟩ := h
    rfl
  · obtain ⟨a, ns, rfl, hS, hl, tabs, q⟩ := h
    have hr1 : Room 1 _ := hr.mono (by decide)
    have hr10 : Room 10 _ := hr.mono (by decide)
    refine ⟨_, (pss_cons (ps_for (g := gName 1) PassesOwn.never rfl (pi_range1 (by rfl) T.range (pa_cons (pe_callB (call_max2 rfl) (by rfl) T.max b_max (pa_cons pe_int (pa_cons (pe_callB (call_min2 rfl) (by rfl) T.min b_min (pa_cons pe_int (pa_cons (pe_callB call_len_seq (by rfl) T.len PySem.boot_len (pa_cons (pv 0) pa_nil)) pa_nil))) pa_nil))) pa_nil)) (pg_name (i := 1) sc_law.nd rfl (.inl rfl)) (pss_cons (ps_set (i := 2) sc_law.nd rfl (.inr rfl) (pe_call G_l_jar hr1 (by rfl) m_l_jar k_l_jar b_l_jar .nil pass0 (pa_cons (pv 0) (pa_cons (pv 1) pa_nil))))
      (pss_one (ps_if (pt_not (pt_val (pe_callB (cr_all rfl) (by rfl) T.all b_all (pa_cons (pe_lc (own := [("_law_lap", 3)]) (g := gName 3) (tt := tYes) rfl sc_law.nd (pi_range1 (by rfl) T.range (pa_cons pe_int pa_nil))
          (blkOk_by (N := ["_law_script", "_law_k", "_law_jar_here", "_law_lap"]) (sc := defScope sLaw) (by decide +kernel)) (fun _ _ _ _ _ => (pg_name (i := 3) sc_law.nd rfl (.inl rfl))) (fun _ _ _ _ _ => pts_nil) (fun _ _ _ _ _ => (Gu.pe_callG G_l_right free hr10 (by rfl) m_l_right k_l_right b_l_right pass0 (pa_cons (pv 2) pa_nil)))) pa_nil)))) (pss_one (ps_ret pe_bl)) pss_nil))))
      (pss_one (ps_ret pe_bl))), ?_⟩
    have bnd : ∀ m : Nat, m ≤ 63 → (if (if ((m : Int) < 8) then (m : Int) else 8) > 1 then (if ((m : Int) < 8) then (m : Int) else 8) else 1 : Int) ≤ 8 ∧ 1 ≤ (if (if ((m : Int) < 8) then (m : Int) else 8) > 1 then (if ((m : Int) < 8) then (m : Int) else 8) else 1 : Int) := by
      intro m hm
      split <;> split <;> omega
    have bb := bnd (ns.map V.int).length (by rw [List.length_map]; exact hl)
    refine ⟨_, rfl, a, _, rfl, .inl hS, _, _, rfl, _, _, rfl, _, rfl, by omega, by omega, ?_⟩
    generalize (if (if (((ns.map V.int).length : Int) < 8) then ((ns.map V.int).length : Int) else 8) > 1 then (if (((ns.map V.int).length : Int) < 8) then ((ns.map V.int).length : Int) else 8) else 1 : Int) = m at bb ⊢
    refine for_range (n := m.toNat) (fun i σ H' => ∃ s1 s2 s3 : Option V, σ = [some (.ref a), s1, s2, s3] ∧ LamX.ExtN H H' ∧ LamX.Tabs Tb H') ⟨_, _, _, rfl, LamX.ExtN.of (Same.refl _), tabs⟩ ?_ ?_
    · rintro i σ H1 hi ⟨s1, s2, s3, rfl, e1, t1⟩
      refine ⟨_, rfl, _, rfl, a, ns, _, rfl, seq_ext e1 hS, by omega, by omega, fun p H2 e2 np jj => ?_⟩
      have t2 := t1.ext e2
      refine ⟨3, rfl, by decide, by decide, ?_⟩
      intro D nD
      have nDp : D ≠ p := ne_jar jj nD
      have e3 := same_upd (o := .lst []) nD
      refine lc_range (lo := 0) (n := 3) (fun k H' => ChT p H2 H' ∧ LamX.Tabs Tb H' ∧ JarAt H' p (600 * k) ∧ H' D = some (.lst ((List.replicate k true).map V.bl))) ⟨ChT.of e3, t2.ext e3, (jj.same e3).mono (by omega), upd_same⟩ ?_ ?_
      · rintro k H3 hk ⟨c, t, j, hD⟩
        have hk' : k < 3 := hk
        refine ⟨rfl, ?_⟩
        unfold tYes
        refine iteT ?_
        refine ⟨_, rfl, p, _, rfl, j, by omega, t, fun H4 c4 t4 j4 => ?_⟩
        have hD4 := c4 _ _ hD nDp (fun _ z => by cases z)
        have u1 : ∀ b o, H4 b = some o → (∀ xs, o ≠ .lst xs) → (upd H4 D (.lst (((List.replicate k true).map V.bl) ++ [V.bl true]))) b = some o := fun b o h no => (upd_ne (fun z => by rw [z, hD4] at h; exact no _ (Option.some.inj h).symm)).trans h
        refine ⟨_, hD4, szl (by rw [List.length_map, List.length_replicate]; omega), fun b u z nb nt => ?_, tabs_nl u1 t4, ?_, ?_⟩
        · rw [upd_ne (ne_of_none z nD)]
          exact (c.trans c4) _ _ z nb nt
        · obtain ⟨o, mm, cc, hpp, rr⟩ := j4
          exact JarAt.mono ⟨o, mm, cc, (upd_ne nDp.symm).trans hpp, rr⟩ (by omega)
        · rw [List.replicate_succ', List.map_append]
          exact upd_same
      · rintro H3 ⟨c, t, j, hD⟩
        refine ⟨D, _, rfl, SqL.of hD, _, rfl, ?_⟩
        rw [show (List.replicate 3 true).all id = true from rfl]
        refine iteF ?_
        refine ⟨_, _, _, rfl, fun b u z nt => ?_, t⟩
        have z1 := e2 _ _ (e1 _ _ z nt)
        exact c _ _ z1 (ne_of_none (e1 _ _ z nt) np) nt
    · rintro σ H1 ⟨s1, s2, s3, rfl, e1, t1⟩
      exact q H1

end
end Hs
/-! numbers made where nothing is raised -/
namespace Hs
open PySem PySem.Spec PyProof.Rows L2 Am Rv
def FNI (e : Addr) (K : PySem.W.Frag) (f : Addr) (fd : FuncData) : Prop := FunD K "__init__" "Numbers.__init__" (defArgs sNumbers_init) (defBody sNumbers_init) (defScope sNumbers_init) [.ref e] [] f fd
section
variable {P : Program} {w : World} {K : PySem.W.Frag} {mg : Str → Option Value} {base : Heap} {C CH D fI : Addr}
theorem body_n0 {f : Addr} {cdv : Value} {A : Around} {outer : List Env} {s : Shared} {H : Hp} {Q : VK} {E : XK} {vs : List V} (hr : Room 6 (A.deeper (envOfC "Numbers.__init__" (defScope sNumbers_init) s.heap.objs.size f cdv)))
    
    (GA : GotF P w K mg base "are_rows" 5 ["house", "value"] (spAreR CH)) (GS : GotF P w K mg base "stretches_of" 1 ["house", "rows"] (spStr CH)) (hc : Cls K C) (a1 : NoAttr K C "_house") (a2 : NoAttr K C "_rows") (a3 : NoAttr K C "_table") (a4 : NoAttr K C "_stretches") (want : spNInit C CH vs H Q E) :
    ∃ t, PSs (cxOf CX0 P w K mg base ["self", "house", "rows", "meter", "morning", "number"] "Numbers.__init__" (defScope sNumbers_init) f cdv A outer s H E) (defBody sNumbers_init) t ∧ t { nx := fun _ H' => Q .non H', rt := Q } (start ["self", "house", "rows", "meter", "morning", "number"] vs) H := by
  obtain ⟨n, dx, h, a, x, L, rs, rfl, hn, hh, mo, hr_, ok, ln, lm, q⟩ := want
  obtain ⟨fA, dA, GA, bA, mA, kA⟩ := GA
  obtain ⟨fS, dS, GS, bS, mS, kS⟩ := GS
  have hr1 : Room 1 _ := hr.mono (by decide)
  have hr2 : Room 2 _ := hr.mono (by decide)
  have hr5 : Room 5 _ := hr.mono (by decide)
  have hu1 : (A.deeper (envOfC "Numbers.__init__" (defScope sNumbers_init) s.heap.objs.size f cdv)).units + 1 < cLine := by have := hr.un; omega
  refine ⟨_, (pss_cons (ps_if (pt_not (pt_val (pe_call GA hr5 (by rfl) mA kA bA .nil pass0 (pa_cons (pv 1) (pa_cons (pv 2) pa_nil))))) (pss_one ps_never) pss_nil)
      (pss_cons (ps_fld (pv 0) (pv 1) rfl)
      (pss_cons (ps_fld (pv 0) (pv 2) rfl)
      (pss_cons (ps_fld (pv 0) (Dct.pe_dcT (own := [("meter", 3), ("morning", 4), ("number", 5)]) (g := (gTup K 3 (gCons (gName 3) (gCons (gName 4) (gCons (gName 5) gNil))))) (tt := tYes) hu1 rfl sc_ni.nd (pi_tup (pv 2))
          (blkOk_by (N := ["self", "house", "rows", "meter", "morning", "number"]) (sc := defScope sNumbers_init) (by decide +kernel)) (fun _ _ _ _ _ => (pg_tup rfl (pgs_cons (pg_name (i := 3) sc_ni.nd rfl (.inl rfl)) (pgs_cons (pg_name (i := 4) sc_ni.nd rfl (.inl rfl)) (pgs_cons (pg_name (i := 5) sc_ni.nd rfl (.inl rfl)) pgs_nil))))) (fun _ _ _ _ _ => pts_nil) (fun _ _ _ _ _ => (pe_tup (pa_cons (pv 3) (pa_cons (pv 4) pa_nil)))) (fun _ _ _ _ _ => (pv 5))) rfl)
      (pss_one (ps_fld (pv 0) (pe_call GS hr1 (by rfl) mS kS bS .nil pass0 (pa_cons (pv 1) (pa_cons (pv 2) pa_nil))) rfl)))))), ?_⟩
  have F0 : Fr [n] H H := fun b u e _ => e
  refine ⟨_, rfl, _, rfl, h, a, x, L, rs, rfl, hh, mo, hr_, ok, by omega, fun H1 e1 => ⟨_, rfl, iteF ?_⟩⟩
  have hn1 := e1 _ _ hn
  have f1 : Fr [n] H H1 := Fr.same e1
  refine ⟨_, rfl, _, rfl, n, C, dx, _, rfl, hn1, hc, a1, by decide, ?_⟩
  have hn2 := upd_same (H := H1) (a := n) (o := .ins C dx (putF "_house" (.ref h) []))
  have f2 := Fr.trans f1 (Fr.upd (ms := [n]) (H := H1) (d := n) (o := .ins C dx (putF "_house" (.ref h) [])) (by simp))
  generalize upd H1 n (.ins C dx (putF "_house" (.ref h) [])) = H2 at *
  refine ⟨_, rfl, _, rfl, n, C, dx, _, rfl, hn2, hc, a2, (by show 1 < 1000; decide), ?_⟩
  have hn3 := upd_same (H := H2) (a := n) (o := .ins C dx (putF "_rows" (.ref a) (putF "_house" (.ref h) [])))
  have f3 := Fr.trans f2 (Fr.upd (ms := [n]) (H := H2) (d := n) (o := .ins C dx (putF "_rows" (.ref a) (putF "_house" (.ref h) []))) (by simp))
  generalize upd H2 n (.ins C dx (putF "_rows" (.ref a) (putF "_house" (.ref h) []))) = H3 at *
  have hr3 := rows_off hr_ hn f3
  obtain ⟨as, ha, ras⟩ := hr3
  refine ⟨_, rfl, a, rfl, ⟨_, SqT.of ha⟩, fun D2 nD2 => ?_⟩
  refine Dct.dcT_it (walk_tup (xs := as.map V.ref)) (fun i H' => Same H3 H' ∧ H' D2 = some (.dT (tabOf (rs.take i)))) ⟨same_upd nD2, upd_same⟩ (fun k G _ hh => SqT.of (hh.1 _ _ ha)) ?_ ?_
  · rintro i v G1 G2 hi ⟨g1, hD⟩ ⟨rfl, hv⟩
    obtain ⟨r, y, rfl, hr', hy, ho⟩ := ras.at hv
    have h1 : i < rs.length := (List.getElem?_eq_some_iff.mp hy).1
    have ho1 := g1 _ _ ho
    refine ⟨r, _, rfl, SqT.of ho1, rfl, _, _, rfl, _, _, rfl, _, _, rfl, rfl, rfl, ?_⟩
    unfold tYes
    refine iteT ⟨_, rfl, _, rfl, (show 2 ≤ sizeLine by decide), fun T2 nT2 => ⟨_, rfl, _, ⟨tabOf (rs.take i), [.inr y.m, .inl y.t], T2, rfl, upd_same, (upd_ne (ne_of_none hD nT2)).trans hD, by have := tabOf_len (rs.take i); rw [List.length_take] at this; rw [sizeLine_eq]; omega, rfl⟩, ?_, ?_⟩⟩
    · intro b u z
      rw [upd_ne (ne_of_none z nD2), upd_ne (ne_of_none (g1 _ _ z) nT2)]
      exact g1 _ _ z
    · rw [upd_same, tabOf_take hy]
      rfl
  · rintro G1 ⟨g1, hD⟩
    rw [show rs.take (as.map V.ref).length = rs from by rw [List.length_map, ras.1]; exact List.take_length] at hD
    have hn4 := g1 _ _ hn3
    have f4 := Fr.trans f3 (Fr.same g1)
    have nDn : D2 ≠ n := fun z => by rw [z, hn3] at nD2; cases nD2
    refine ⟨_, rfl, n, C, dx, _, rfl, hn4, hc, a3, (by show 2 < 1000; decide), ?_⟩
    have hn5 := upd_same (H := G1) (a := n) (o := .ins C dx (putF "_table" (.ref D2) (putF "_rows" (.ref a) (putF "_house" (.ref h) []))))
    have f5 := Fr.trans f4 (Fr.upd (ms := [n]) (H := G1) (d := n) (o := .ins C dx (putF "_table" (.ref D2) (putF "_rows" (.ref a) (putF "_house" (.ref h) [])))) (by simp))
    have hD5 := (upd_ne (o := .ins C dx (putF "_table" (.ref D2) (putF "_rows" (.ref a) (putF "_house" (.ref h) [])))) nDn).trans hD
    generalize upd G1 n (.ins C dx (putF "_table" (.ref D2) (putF "_rows" (.ref a) (putF "_house" (.ref h) [])))) = G2 at *
    refine ⟨_, rfl, _, rfl, h, a, x, L, rs, rfl, house_off hh hn f5, rows_off hr_ hn f5, by omega, lm, fun H' t e6 nt la => ⟨_, rfl, n, C, dx, _, rfl, e6 _ _ hn5, hc, a4, (by show 3 < 1000; decide), ?_⟩⟩
    have f6 := Fr.trans f5 (Fr.same e6)
    have f7 := Fr.trans f6 (Fr.upd (ms := [n]) (H := H') (d := n) (o := .ins C dx (nfs h a D2 t)) (by simp))
    have ntn : t ≠ n := fun z => by rw [z, hn5] at nt; cases nt
    have hn7 := upd_same (H := H') (a := n) (o := .ins C dx (nfs h a D2 t))
    have hD7 : (upd H' n (.ins C dx (nfs h a D2 t))) D2 = some (.dT (tabOf rs)) := (upd_ne nDn).trans (e6 _ _ hD5)
    obtain ⟨ls, hl, rls⟩ := la
    have la7 : LanesAt (upd H' n (.ins C dx (nfs h a D2 t))) t (lanes (metersOf L) rs) := by
      refine ⟨ls, (upd_ne ntn).trans hl, rls.1, fun i r y x1 x2 => ?_⟩
      have z := rls.2 i r y x1 x2
      refine (upd_ne fun w => ?_).trans z
      rw [w, e6 _ _ hn5] at z
      unfold laO at z
      cases z
    exact q _ f7 ⟨dx, h, a, D2, t, hn7, house_off hh hn f7, rows_off hr_ hn f7, hD7, la7⟩

theorem ok_n0 {e f : Addr} {fd : FuncData} (F : FNI e K f fd) (GA : GotF P w K mg base "are_rows" 5 ["house", "value"] (spAreR CH)) (GS : GotF P w K mg base "stretches_of" 1 ["house", "rows"] (spStr CH)) (nc : NuC K C) : FnOk P w K mg base CX0 7 f fd ["self", "house", "rows"] (spNInit C CH) := by
  refine FunD.ok F sc_ni (fun vs H Q E h => ?_) (fun cdv A outer s H vs Q E hr h => ?_)
  · obtain ⟨n, dx, h, a, x, L, rs, rfl, _⟩ := h
    rfl
  · exact body_n0 hr GA GS nc.cl nc.n1 nc.n2 nc.n3 nc.n4 h

end
end Hs
/-! the row's end: from the facts of the head to the law's promise -/
namespace Ds
open PySem PySem.Spec PyProof.Rows L2 Am Hs

theorem law_ok {P : Program} {w : World} {K : PySem.W.Frag} {h : Heap} {mg : Str → Option Value} {fa CH CD CN OH ME pCD_init pCD_take pCD_take_days pCD_take_place pCD_take_price pCD_take_stay pCD_has_place pCD_has_flat pCD_is_let pCH_init fis_name fdecimal fascending fdrafted ftenants fprices pME_init fis_whole fis_meter fis_morning fare_rows fis_row fis_row_morning fis_number fstretches_of fclimbs fholds_all f_law_jar f_law_take f_law_of f_law_titles f_law_many_uses f_law_prices f_law_places f_law_stays f_law_meters f_law_ordered f_law_small f_law_page f_law_is_covered f_law_a_use f_law_units f_law_seats f_law_read f_law_misread f_law_any_rows f_law_heard f_law_other_rows f_law_compared f_law_right flaw eN pCN_init pCN_eq pCN_le pCN_lt pCN_ge pCN_gt pCN_check pCH_eq ppCN_rows gCN_rows ppCN_house gCN_house : Addr} (X : K.In h) (G : h.Ns mainGlobals mg) (hfa : mg "law" = some (.ref fa)) (own__law_right : ∀ a : Addr, mg "_law_right" = some (.ref a) → LamX.OwnTab K a h)
    (a_CH : PySem.W.nsIn K mainGlobals "House" = some (some (.ref CH)))
    (a_CD : PySem.W.nsIn K mainGlobals "Draft" = some (some (.ref CD)))
    (a_CN : PySem.W.nsIn K mainGlobals "Numbers" = some (some (.ref CN)))
    (a_OH : PySem.W.nsIn K mainGlobals "OtherHouse" = some (some (.ref OH)))
    (a_ME : PySem.W.nsIn K mainGlobals "MeterError" = some (some (.ref ME)))
    (n0_len : PySem.W.nsIn K mainGlobals "len" = some none)
    (n0_abs : PySem.W.nsIn K mainGlobals "abs" = some none)
    (n0_int : PySem.W.nsIn K mainGlobals "int" = some none)
    (n0_max : PySem.W.nsIn K mainGlobals "max" = some none)
    (n0_min : PySem.W.nsIn K mainGlobals "min" = some none)
    (n0_range : PySem.W.nsIn K mainGlobals "range" = some none)
    (n0_all : PySem.W.nsIn K mainGlobals "all" = some none)
    (n0_repr : PySem.W.nsIn K mainGlobals "repr" = some none)
    (n0_isinstance : PySem.W.nsIn K mainGlobals "isinstance" = some none)
    (n0_bool : PySem.W.nsIn K mainGlobals "bool" = some none)
    (n0_str : PySem.W.nsIn K mainGlobals "str" = some none)
    (n0_any : PySem.W.nsIn K mainGlobals "any" = some none)
    (n0_tuple : PySem.W.nsIn K mainGlobals "tuple" = some none)
    (n0_sorted : PySem.W.nsIn K mainGlobals "sorted" = some none)
    (n0_enumerate : PySem.W.nsIn K mainGlobals "enumerate" = some none)
    (n0_zip : PySem.W.nsIn K mainGlobals "zip" = some none)
    (n0_sum : PySem.W.nsIn K mainGlobals "sum" = some none)
    (n0_list : PySem.W.nsIn K mainGlobals "list" = some none)
    (n0_dict : PySem.W.nsIn K mainGlobals "dict" = some none)
    (pg_CH : PySem.W.plainGet K CH Str.empty = true)
    (hd_CH : PySem.W.hasDictIn K CH = true)
    (po_CH : PySem.W.plainOver K CH = true)
    (sa_CH : PySem.W.findIn K (.ref CH) "__setattr__" = some (some (.builtin "object.__setattr__")))
    (mk_CH : PySem.W.makesIn K CH = true)
    (kc_CH : PySem.W.keepIn K (.ref CH) = true)
    (z31 : PySem.W.findIn K (.ref CH) "_text" = some none)
    (z32 : PySem.W.findIn K (.ref CH) "days" = some none)
    (z33 : PySem.W.findIn K (.ref CH) "flats" = some none)
    (z34 : PySem.W.findIn K (.ref CH) "meters" = some none)
    (z35 : PySem.W.findIn K (.ref CH) "people" = some none)
    (z36 : PySem.W.findIn K (.ref CH) "_rooms" = some none)
    (z37 : PySem.W.findIn K (.ref CH) "_tenants" = some none)
    (z38 : PySem.W.findIn K (.ref CH) "_prices" = some none)
    (pg_CD : PySem.W.plainGet K CD Str.empty = true)
    (hd_CD : PySem.W.hasDictIn K CD = true)
    (po_CD : PySem.W.plainOver K CD = true)
    (sa_CD : PySem.W.findIn K (.ref CD) "__setattr__" = some (some (.builtin "object.__setattr__")))
    (mk_CD : PySem.W.makesIn K CD = true)
    (kc_CD : PySem.W.keepIn K (.ref CD) = true)
    (z45 : PySem.W.findIn K (.ref CD) "days" = some none)
    (z46 : PySem.W.findIn K (.ref CD) "places" = some none)
    (z47 : PySem.W.findIn K (.ref CD) "tariffs" = some none)
    (z48 : PySem.W.findIn K (.ref CD) "stays" = some none)
    (z49 : Hk.seqB K "TAKEN" ["main", "house", "rest"] = true)
    (z50 : Hk.strB K "LETTERS" Hs.abc = true)
    (z51 : Hk.intB K "FIRST_PRICE" 1 = true)
    (z52 : Hk.strB K "NOBODY" "house" = true)
    (a_pCD_init : PySem.W.findIn K (.ref CD) "__init__" = some (some (.ref pCD_init)))
    (i_pCD_init : PySem.W.isFn K (.ref pCD_init) = true)
    (a_pCD_take : PySem.W.findIn K (.ref CD) "take" = some (some (.ref pCD_take)))
    (i_pCD_take : PySem.W.isFn K (.ref pCD_take) = true)
    (a_pCD_take_days : PySem.W.findIn K (.ref CD) "take_days" = some (some (.ref pCD_take_days)))
    (i_pCD_take_days : PySem.W.isFn K (.ref pCD_take_days) = true)
    (a_pCD_take_place : PySem.W.findIn K (.ref CD) "take_place" = some (some (.ref pCD_take_place)))
    (i_pCD_take_place : PySem.W.isFn K (.ref pCD_take_place) = true)
    (a_pCD_take_price : PySem.W.findIn K (.ref CD) "take_price" = some (some (.ref pCD_take_price)))
    (i_pCD_take_price : PySem.W.isFn K (.ref pCD_take_price) = true)
    (a_pCD_take_stay : PySem.W.findIn K (.ref CD) "take_stay" = some (some (.ref pCD_take_stay)))
    (i_pCD_take_stay : PySem.W.isFn K (.ref pCD_take_stay) = true)
    (a_pCD_has_place : PySem.W.findIn K (.ref CD) "has_place" = some (some (.ref pCD_has_place)))
    (i_pCD_has_place : PySem.W.isFn K (.ref pCD_has_place) = true)
    (a_pCD_has_flat : PySem.W.findIn K (.ref CD) "has_flat" = some (some (.ref pCD_has_flat)))
    (i_pCD_has_flat : PySem.W.isFn K (.ref pCD_has_flat) = true)
    (a_pCD_is_let : PySem.W.findIn K (.ref CD) "is_let" = some (some (.ref pCD_is_let)))
    (i_pCD_is_let : PySem.W.isFn K (.ref pCD_is_let) = true)
    (a_pCH_init : PySem.W.findIn K (.ref CH) "__init__" = some (some (.ref pCH_init)))
    (i_pCH_init : PySem.W.isFn K (.ref pCH_init) = true)
    (a_fis_name : PySem.W.nsIn K mainGlobals "is_name" = some (some (.ref fis_name)))
    (a_fdecimal : PySem.W.nsIn K mainGlobals "decimal" = some (some (.ref fdecimal)))
    (a_fascending : PySem.W.nsIn K mainGlobals "ascending" = some (some (.ref fascending)))
    (a_fdrafted : PySem.W.nsIn K mainGlobals "drafted" = some (some (.ref fdrafted)))
    (a_ftenants : PySem.W.nsIn K mainGlobals "tenants" = some (some (.ref ftenants)))
    (a_fprices : PySem.W.nsIn K mainGlobals "prices" = some (some (.ref fprices)))
    (pg_CN : PySem.W.plainGet K CN Str.empty = true)
    (hd_CN : PySem.W.hasDictIn K CN = true)
    (po_CN : PySem.W.plainOver K CN = true)
    (sa_CN : PySem.W.findIn K (.ref CN) "__setattr__" = some (some (.builtin "object.__setattr__")))
    (mk_CN : PySem.W.makesIn K CN = true)
    (kc_CN : PySem.W.keepIn K (.ref CN) = true)
    (z85 : PySem.W.findIn K (.ref CN) "_house" = some none)
    (z86 : PySem.W.findIn K (.ref CN) "_rows" = some none)
    (z87 : PySem.W.findIn K (.ref CN) "_table" = some none)
    (z88 : PySem.W.findIn K (.ref CN) "_stretches" = some none)
    (z89 : Hk.intB K "GREATEST" 9999 = true)
    (z90 : PySem.W.specialIn K (.builtin "object.__class__") "__get__" = some (some (.builtin "getset_descriptor.__get__")))
    (z91 : PySem.W.takesIn K (.builtin "object.__class__") = some true)
    (z92 : PySem.W.selfFirst K CH = true)
    (z93 : PySem.W.findIn K (.ref CH) "__ne__" = some (some (.builtin "object.__ne__")))
    (z94 : PySem.W.mroIn K CH (.type "object") = some true)
    (z95 : PySem.W.subIn K (.ref CH) (.type "int") = some false)
    (z96 : PySem.W.subIn K (.ref CH) (.type "bool") = some false)
    (z97 : PySem.W.subIn K (.ref CH) (.type "NoneType") = some false)
    (z98 : PySem.W.subIn K (.ref CH) (.type "str") = some false)
    (z99 : PySem.W.subIn K (.ref CH) (.type "list") = some false)
    (z100 : PySem.W.subIn K (.ref CH) (.type "tuple") = some false)
    (z101 : PySem.W.subIn K (.ref CH) (.type "dict") = some false)
    (z102 : PySem.W.subIn K (.type "int") (.ref CH) = some false)
    (z103 : PySem.W.subIn K (.type "bool") (.ref CH) = some false)
    (z104 : PySem.W.subIn K (.type "NoneType") (.ref CH) = some false)
    (z105 : PySem.W.subIn K (.type "str") (.ref CH) = some false)
    (z106 : PySem.W.subIn K (.type "list") (.ref CH) = some false)
    (z107 : PySem.W.subIn K (.type "tuple") (.ref CH) = some false)
    (z108 : PySem.W.subIn K (.type "dict") (.ref CH) = some false)
    (z109 : PySem.W.findIn K (.ref CH) "__class__" = some (some (.builtin "object.__class__")))
    (z110 : PySem.W.selfFirst K CN = true)
    (z111 : PySem.W.findIn K (.ref CN) "__ne__" = some (some (.builtin "object.__ne__")))
    (z112 : PySem.W.mroIn K CN (.type "object") = some true)
    (z113 : PySem.W.subIn K (.ref CN) (.type "int") = some false)
    (z114 : PySem.W.subIn K (.ref CN) (.type "bool") = some false)
    (z115 : PySem.W.subIn K (.ref CN) (.type "NoneType") = some false)
    (z116 : PySem.W.subIn K (.ref CN) (.type "str") = some false)
    (z117 : PySem.W.subIn K (.ref CN) (.type "list") = some false)
    (z118 : PySem.W.subIn K (.ref CN) (.type "tuple") = some false)
    (z119 : PySem.W.subIn K (.ref CN) (.type "dict") = some false)
    (z120 : PySem.W.subIn K (.type "int") (.ref CN) = some false)
    (z121 : PySem.W.subIn K (.type "bool") (.ref CN) = some false)
    (z122 : PySem.W.subIn K (.type "NoneType") (.ref CN) = some false)
    (z123 : PySem.W.subIn K (.type "str") (.ref CN) = some false)
    (z124 : PySem.W.subIn K (.type "list") (.ref CN) = some false)
    (z125 : PySem.W.subIn K (.type "tuple") (.ref CN) = some false)
    (z126 : PySem.W.subIn K (.type "dict") (.ref CN) = some false)
    (z127 : PySem.W.findIn K (.ref CN) "__class__" = some (some (.builtin "object.__class__")))
    (z128 : PySem.W.kitOne K (.ref CH) (.ref CH) = some true)
    (z129 : PySem.W.notFirst K CN (.ref CH) = true)
    (z130 : PySem.W.kitOne K (.ref CN) (.ref CN) = some true)
    (z131 : PySem.W.kitOne K (.ref CH) (.ref CN) = some false)
    (z132 : PySem.W.kitOne K (.type "int") (.ref CN) = some false)
    (z133 : PySem.W.kitOne K (.type "bool") (.ref CN) = some false)
    (z134 : PySem.W.kitOne K (.type "NoneType") (.ref CN) = some false)
    (z135 : PySem.W.kitOne K (.type "str") (.ref CN) = some false)
    (z136 : PySem.W.kitOne K (.type "list") (.ref CN) = some false)
    (z137 : PySem.W.kitOne K (.type "tuple") (.ref CN) = some false)
    (z138 : PySem.W.kitOne K (.type "dict") (.ref CN) = some false)
    (a_pME_init : PySem.W.findIn K (.ref ME) "__init__" = some (some (.ref pME_init)))
    (i_pME_init : PySem.W.isFn K (.ref pME_init) = true)
    (z141 : Hk.excX K OH = true)
    (z142 : PySem.W.findIn K (.ref OH) "__setattr__" = some (some (.builtin "object.__setattr__")))
    (z143 : PySem.W.subIn K (.ref OH) (.type "BaseException") = some true)
    (z144 : PySem.W.typeIn K (.ref OH) = some (.type "type"))
    (z145 : PySem.W.keepIn K (.ref OH) = true)
    (z146 : PySem.W.findIn K (.ref OH) "__getattribute__" = some (some (.builtin "BaseException.__getattribute__")))
    (z147 : PySem.W.findIn K (.ref OH) "__getattr__" = some none)
    (z148 : PySem.W.hasDictIn K OH = true)
    (z149 : PySem.W.findIn K (.ref OH) "__init__" = some (some (.ref pME_init)))
    (z150 : PySem.W.typeIn K (.ref pME_init) = some (.type "function"))
    (z151 : PySem.W.findIn K (.ref OH) "value" = some none)
    (z152 : PySem.W.exmOne K (.ref OH) (.ref OH) = some true)
    (a_fis_whole : PySem.W.nsIn K mainGlobals "is_whole" = some (some (.ref fis_whole)))
    (a_fis_meter : PySem.W.nsIn K mainGlobals "is_meter" = some (some (.ref fis_meter)))
    (a_fis_morning : PySem.W.nsIn K mainGlobals "is_morning" = some (some (.ref fis_morning)))
    (a_fare_rows : PySem.W.nsIn K mainGlobals "are_rows" = some (some (.ref fare_rows)))
    (a_fis_row : PySem.W.nsIn K mainGlobals "is_row" = some (some (.ref fis_row)))
    (a_fis_row_morning : PySem.W.nsIn K mainGlobals "is_row_morning" = some (some (.ref fis_row_morning)))
    (a_fis_number : PySem.W.nsIn K mainGlobals "is_number" = some (some (.ref fis_number)))
    (a_fstretches_of : PySem.W.nsIn K mainGlobals "stretches_of" = some (some (.ref fstretches_of)))
    (a_fclimbs : PySem.W.nsIn K mainGlobals "climbs" = some (some (.ref fclimbs)))
    (a_fholds_all : PySem.W.nsIn K mainGlobals "holds_all" = some (some (.ref fholds_all)))
    (a_f_law_jar : PySem.W.nsIn K mainGlobals "_law_jar" = some (some (.ref f_law_jar)))
    (a_f_law_take : PySem.W.nsIn K mainGlobals "_law_take" = some (some (.ref f_law_take)))
    (a_f_law_of : PySem.W.nsIn K mainGlobals "_law_of" = some (some (.ref f_law_of)))
    (a_f_law_titles : PySem.W.nsIn K mainGlobals "_law_titles" = some (some (.ref f_law_titles)))
    (a_f_law_many_uses : PySem.W.nsIn K mainGlobals "_law_many_uses" = some (some (.ref f_law_many_uses)))
    (a_f_law_prices : PySem.W.nsIn K mainGlobals "_law_prices" = some (some (.ref f_law_prices)))
    (a_f_law_places : PySem.W.nsIn K mainGlobals "_law_places" = some (some (.ref f_law_places)))
    (a_f_law_stays : PySem.W.nsIn K mainGlobals "_law_stays" = some (some (.ref f_law_stays)))
    (a_f_law_meters : PySem.W.nsIn K mainGlobals "_law_meters" = some (some (.ref f_law_meters)))
    (a_f_law_ordered : PySem.W.nsIn K mainGlobals "_law_ordered" = some (some (.ref f_law_ordered)))
    (a_f_law_small : PySem.W.nsIn K mainGlobals "_law_small" = some (some (.ref f_law_small)))
    (a_f_law_page : PySem.W.nsIn K mainGlobals "_law_page" = some (some (.ref f_law_page)))
    (a_f_law_is_covered : PySem.W.nsIn K mainGlobals "_law_is_covered" = some (some (.ref f_law_is_covered)))
    (a_f_law_a_use : PySem.W.nsIn K mainGlobals "_law_a_use" = some (some (.ref f_law_a_use)))
    (a_f_law_units : PySem.W.nsIn K mainGlobals "_law_units" = some (some (.ref f_law_units)))
    (a_f_law_seats : PySem.W.nsIn K mainGlobals "_law_seats" = some (some (.ref f_law_seats)))
    (a_f_law_read : PySem.W.nsIn K mainGlobals "_law_read" = some (some (.ref f_law_read)))
    (a_f_law_misread : PySem.W.nsIn K mainGlobals "_law_misread" = some (some (.ref f_law_misread)))
    (a_f_law_any_rows : PySem.W.nsIn K mainGlobals "_law_any_rows" = some (some (.ref f_law_any_rows)))
    (a_f_law_heard : PySem.W.nsIn K mainGlobals "_law_heard" = some (some (.ref f_law_heard)))
    (a_f_law_other_rows : PySem.W.nsIn K mainGlobals "_law_other_rows" = some (some (.ref f_law_other_rows)))
    (a_f_law_compared : PySem.W.nsIn K mainGlobals "_law_compared" = some (some (.ref f_law_compared)))
    (a_f_law_right : PySem.W.nsIn K mainGlobals "_law_right" = some (some (.ref f_law_right)))
    (lb__law_right : Hk.lamB K f_law_right = true)
    (a_flaw : PySem.W.nsIn K mainGlobals "law" = some (some (.ref flaw)))
    (a_pCN_init : PySem.W.findIn K (.ref CN) "__init__" = some (some (.ref pCN_init)))
    (i_pCN_init : PySem.W.isFn K (.ref pCN_init) = true)
    (a_pCN_eq : PySem.W.findIn K (.ref CN) "__eq__" = some (some (.ref pCN_eq)))
    (i_pCN_eq : PySem.W.isFn K (.ref pCN_eq) = true)
    (a_pCN_le : PySem.W.findIn K (.ref CN) "__le__" = some (some (.ref pCN_le)))
    (i_pCN_le : PySem.W.isFn K (.ref pCN_le) = true)
    (a_pCN_lt : PySem.W.findIn K (.ref CN) "__lt__" = some (some (.ref pCN_lt)))
    (i_pCN_lt : PySem.W.isFn K (.ref pCN_lt) = true)
    (a_pCN_ge : PySem.W.findIn K (.ref CN) "__ge__" = some (some (.ref pCN_ge)))
    (i_pCN_ge : PySem.W.isFn K (.ref pCN_ge) = true)
    (a_pCN_gt : PySem.W.findIn K (.ref CN) "__gt__" = some (some (.ref pCN_gt)))
    (i_pCN_gt : PySem.W.isFn K (.ref pCN_gt) = true)
    (a_pCN_check : PySem.W.findIn K (.ref CN) "_check" = some (some (.ref pCN_check)))
    (i_pCN_check : PySem.W.isFn K (.ref pCN_check) = true)
    (a_pCH_eq : PySem.W.findIn K (.ref CH) "__eq__" = some (some (.ref pCH_eq)))
    (i_pCH_eq : PySem.W.isFn K (.ref pCH_eq) = true)
    (a_gCN_rows : PySem.W.findIn K (.ref CN) "rows" = some (some (.ref ppCN_rows)))
    (s_gCN_rows : PySem.W.specialIn K (.ref ppCN_rows) "__get__" = some (some (.builtin "property.__get__")))
    (t_gCN_rows : PySem.W.takesIn K (.ref ppCN_rows) = some true)
    (r0_gCN_rows : Hk.prB K CN "rows" = true)
    (a_gCN_house : PySem.W.findIn K (.ref CN) "house" = some (some (.ref ppCN_house)))
    (s_gCN_house : PySem.W.specialIn K (.ref ppCN_house) "__get__" = some (some (.builtin "property.__get__")))
    (t_gCN_house : PySem.W.takesIn K (.ref ppCN_house) = some true)
    (r0_gCN_house : Hk.prB K CN "house" = true)
    (r_gCN_rows : ∃ rest, PySem.W.recIn K ppCN_rows "property" = some (.ref gCN_rows :: rest))
    (r_gCN_house : ∃ rest, PySem.W.recIn K ppCN_house "property" = some (.ref gCN_house :: rest))
    {fd0 : FuncData} (FD_pCD_init : FunD K "__init__" "Draft.__init__" (defArgs sDrInit) (defBody sDrInit) (defScope sDrInit) [] [] pCD_init fd0)
    {fd1 : FuncData} (FD_pCD_take : FunD K "take" "Draft.take" (defArgs sDrTake) (defBody sDrTake) (defScope sDrTake) [] [] pCD_take fd1)
    {fd2 : FuncData} (FD_pCD_take_days : FunD K "take_days" "Draft.take_days" (defArgs sDrDays) (defBody sDrDays) (defScope sDrDays) [] [] pCD_take_days fd2)
    {fd3 : FuncData} (FD_pCD_take_place : FunD K "take_place" "Draft.take_place" (defArgs sDrPlace) (defBody sDrPlace) (defScope sDrPlace) [] [] pCD_take_place fd3)
    {fd4 : FuncData} (FD_pCD_take_price : FunD K "take_price" "Draft.take_price" (defArgs sDrPrice) (defBody sDrPrice) (defScope sDrPrice) [] [] pCD_take_price fd4)
    {fd5 : FuncData} (FD_pCD_take_stay : FunD K "take_stay" "Draft.take_stay" (defArgs sDrStay) (defBody sDrStay) (defScope sDrStay) [] [] pCD_take_stay fd5)
    {fd6 : FuncData} (FD_pCD_has_place : FunD K "has_place" "Draft.has_place" (defArgs sDrHasP) (defBody sDrHasP) (defScope sDrHasP) [] [] pCD_has_place fd6)
    {fd7 : FuncData} (FD_pCD_has_flat : FunD K "has_flat" "Draft.has_flat" (defArgs sDrHasF) (defBody sDrHasF) (defScope sDrHasF) [] [] pCD_has_flat fd7)
    {fd8 : FuncData} (FD_pCD_is_let : FunD K "is_let" "Draft.is_let" (defArgs sDrIsLet) (defBody sDrIsLet) (defScope sDrIsLet) [] [] pCD_is_let fd8)
    {fd9 : FuncData} (FD_pCH_init : FunD K "__init__" "House.__init__" (defArgs sHInit) (defBody sHInit) (defScope sHInit) [] [] pCH_init fd9)
    {fd10 : FuncData} (FD_fis_name : FunD K "is_name" "is_name" (defArgs sIsName) (defBody sIsName) (defScope sIsName) [] [] fis_name fd10)
    {fd11 : FuncData} (FD_fdecimal : FunD K "decimal" "decimal" (defArgs sDec) (defBody sDec) (defScope sDec) [] [] fdecimal fd11)
    {fd12 : FuncData} (FD_fascending : FunD K "ascending" "ascending" (defArgs sAsc) (defBody sAsc) (defScope sAsc) [] [] fascending fd12)
    {fd13 : FuncData} (FD_fdrafted : FunD K "drafted" "drafted" (defArgs sDrafted) (defBody sDrafted) (defScope sDrafted) [] [] fdrafted fd13)
    {fd14 : FuncData} (FD_ftenants : FunD K "tenants" "tenants" (defArgs sTenants) (defBody sTenants) (defScope sTenants) [] [] ftenants fd14)
    {fd15 : FuncData} (FD_fprices : FunD K "prices" "prices" (defArgs sPricesOf) (defBody sPricesOf) (defScope sPricesOf) [] [] fprices fd15)
    {fd16 : FuncData} (FD_pME_init : FunD K "__init__" "MeterError.__init__" (defArgs sInitE) (defBody sInitE) (defScope sInitE) [] [] pME_init fd16)
    {fd17 : FuncData} (FD_fis_whole : FunD K "is_whole" "is_whole" (defArgs sWhole) (defBody sWhole) (defScope sWhole) [] [] fis_whole fd17)
    {fd18 : FuncData} (FD_fis_meter : FunD K "is_meter" "is_meter" (defArgs sF_is_meter) (defBody sF_is_meter) (defScope sF_is_meter) [] [] fis_meter fd18)
    {fd19 : FuncData} (FD_fis_morning : FunD K "is_morning" "is_morning" (defArgs sF_is_morning) (defBody sF_is_morning) (defScope sF_is_morning) [] [] fis_morning fd19)
    {fd20 : FuncData} (FD_fare_rows : FunD K "are_rows" "are_rows" (defArgs sF_are_rows) (defBody sF_are_rows) (defScope sF_are_rows) [] [] fare_rows fd20)
    {fd21 : FuncData} (FD_fis_row : FunD K "is_row" "is_row" (defArgs sF_is_row) (defBody sF_is_row) (defScope sF_is_row) [] [] fis_row fd21)
    {fd22 : FuncData} (FD_fis_row_morning : FunD K "is_row_morning" "is_row_morning" (defArgs sF_is_row_morning) (defBody sF_is_row_morning) (defScope sF_is_row_morning) [] [] fis_row_morning fd22)
    {fd23 : FuncData} (FD_fis_number : FunD K "is_number" "is_number" (defArgs sF_is_number) (defBody sF_is_number) (defScope sF_is_number) [] [] fis_number fd23)
    {fd24 : FuncData} (FD_fstretches_of : FunD K "stretches_of" "stretches_of" (defArgs sF_stretches_of) (defBody sF_stretches_of) (defScope sF_stretches_of) [] [] fstretches_of fd24)
    {fd25 : FuncData} (FD_fclimbs : FunD K "climbs" "climbs" (defArgs sClimbs) (defBody sClimbs) (defScope sClimbs) [] [] fclimbs fd25)
    {fd26 : FuncData} (FD_fholds_all : FunD K "holds_all" "holds_all" (defArgs sF_holds_all) (defBody sF_holds_all) (defScope sF_holds_all) [] [] fholds_all fd26)
    {fd27 : FuncData} (FD_f_law_jar : FunD K "_law_jar" "_law_jar" (defArgs sJar) (defBody sJar) (defScope sJar) [] [] f_law_jar fd27)
    {fd28 : FuncData} (FD_f_law_take : FunD K "_law_take" "_law_take" (defArgs sTake) (defBody sTake) (defScope sTake) [] [] f_law_take fd28)
    {fd29 : FuncData} (FD_f_law_of : FunD K "_law_of" "_law_of" (defArgs sOf) (defBody sOf) (defScope sOf) [] [] f_law_of fd29)
    {fd30 : FuncData} (FD_f_law_titles : FunD K "_law_titles" "_law_titles" (defArgs sL_titles) (defBody sL_titles) (defScope sL_titles) [] [] f_law_titles fd30)
    {fd31 : FuncData} (FD_f_law_many_uses : FunD K "_law_many_uses" "_law_many_uses" (defArgs sL_many_uses) (defBody sL_many_uses) (defScope sL_many_uses) [] [] f_law_many_uses fd31)
    {fd32 : FuncData} (FD_f_law_prices : FunD K "_law_prices" "_law_prices" (defArgs sL_prices) (defBody sL_prices) (defScope sL_prices) [] [] f_law_prices fd32)
    {fd33 : FuncData} (FD_f_law_places : FunD K "_law_places" "_law_places" (defArgs sL_places) (defBody sL_places) (defScope sL_places) [] [] f_law_places fd33)
    {fd34 : FuncData} (FD_f_law_stays : FunD K "_law_stays" "_law_stays" (defArgs sL_stays) (defBody sL_stays) (defScope sL_stays) [] [] f_law_stays fd34)
    {fd35 : FuncData} (FD_f_law_meters : FunD K "_law_meters" "_law_meters" (defArgs sL_meters) (defBody sL_meters) (defScope sL_meters) [] [] f_law_meters fd35)
    {fd36 : FuncData} (FD_f_law_ordered : FunD K "_law_ordered" "_law_ordered" (defArgs sL_ordered) (defBody sL_ordered) (defScope sL_ordered) [] [] f_law_ordered fd36)
    {fd37 : FuncData} (FD_f_law_small : FunD K "_law_small" "_law_small" (defArgs sL_small) (defBody sL_small) (defScope sL_small) [] [] f_law_small fd37)
    {fd38 : FuncData} (FD_f_law_page : FunD K "_law_page" "_law_page" (defArgs sL_page) (defBody sL_page) (defScope sL_page) [] [] f_law_page fd38)
    {fd39 : FuncData} (FD_f_law_is_covered : FunD K "_law_is_covered" "_law_is_covered" (defArgs sL_is_covered) (defBody sL_is_covered) (defScope sL_is_covered) [] [] f_law_is_covered fd39)
    {fd40 : FuncData} (FD_f_law_a_use : FunD K "_law_a_use" "_law_a_use" (defArgs sL_a_use) (defBody sL_a_use) (defScope sL_a_use) [] [] f_law_a_use fd40)
    {fd41 : FuncData} (FD_f_law_units : FunD K "_law_units" "_law_units" (defArgs sL_units) (defBody sL_units) (defScope sL_units) [] [] f_law_units fd41)
    {fd42 : FuncData} (FD_f_law_seats : FunD K "_law_seats" "_law_seats" (defArgs sL_seats) (defBody sL_seats) (defScope sL_seats) [] [] f_law_seats fd42)
    {fd43 : FuncData} (FD_f_law_read : FunD K "_law_read" "_law_read" (defArgs sL_read) (defBody sL_read) (defScope sL_read) [] [] f_law_read fd43)
    {fd44 : FuncData} (FD_f_law_misread : FunD K "_law_misread" "_law_misread" (defArgs sL_misread) (defBody sL_misread) (defScope sL_misread) [] [] f_law_misread fd44)
    {fd45 : FuncData} (FD_f_law_any_rows : FunD K "_law_any_rows" "_law_any_rows" (defArgs sL_any_rows) (defBody sL_any_rows) (defScope sL_any_rows) [] [] f_law_any_rows fd45)
    {fd46 : FuncData} (FD_f_law_heard : FunD K "_law_heard" "_law_heard" (defArgs sL_heard) (defBody sL_heard) (defScope sL_heard) [] [] f_law_heard fd46)
    {fd47 : FuncData} (FD_f_law_other_rows : FunD K "_law_other_rows" "_law_other_rows" (defArgs sL_other_rows) (defBody sL_other_rows) (defScope sL_other_rows) [] [] f_law_other_rows fd47)
    {fd48 : FuncData} (FD_f_law_compared : FunD K "_law_compared" "_law_compared" (defArgs sL_compared) (defBody sL_compared) (defScope sL_compared) [] [] f_law_compared fd48)
    {fd49 : FuncData} (FD_f_law_right : FunD K "_law_right" "_law_right" (defArgs sL_right) (defBody sL_right) (defScope sL_right) [] [] f_law_right fd49)
    {fd50 : FuncData} (FD_flaw : FunD K "law" "law" (defArgs sLaw) (defBody sLaw) (defScope sLaw) [] [] flaw fd50)
    {fd51 : FuncData} (FD_pCN_init : FunD K "__init__" "Numbers.__init__" (defArgs sNumbers_init) (defBody sNumbers_init) (defScope sNumbers_init) [.ref eN] [] pCN_init fd51)
    {fd52 : FuncData} (FD_pCN_eq : FunD K "__eq__" "Numbers.__eq__" (defArgs sNumbers_eq) (defBody sNumbers_eq) (defScope sNumbers_eq) [] [] pCN_eq fd52)
    {fd53 : FuncData} (FD_pCN_le : FunD K "__le__" "Numbers.__le__" (defArgs sNumbers_le) (defBody sNumbers_le) (defScope sNumbers_le) [] [] pCN_le fd53)
    {fd54 : FuncData} (FD_pCN_lt : FunD K "__lt__" "Numbers.__lt__" (defArgs sNumbers_lt) (defBody sNumbers_lt) (defScope sNumbers_lt) [] [] pCN_lt fd54)
    {fd55 : FuncData} (FD_pCN_ge : FunD K "__ge__" "Numbers.__ge__" (defArgs sNumbers_ge) (defBody sNumbers_ge) (defScope sNumbers_ge) [] [] pCN_ge fd55)
    {fd56 : FuncData} (FD_pCN_gt : FunD K "__gt__" "Numbers.__gt__" (defArgs sNumbers_gt) (defBody sNumbers_gt) (defScope sNumbers_gt) [] [] pCN_gt fd56)
    {fd57 : FuncData} (FD_pCN_check : FunD K "_check" "Numbers._check" (defArgs sNumbers_check) (defBody sNumbers_check) (defScope sNumbers_check) [] [] pCN_check fd57)
    {fd58 : FuncData} (FD_pCH_eq : FunD K "__eq__" "House.__eq__" (defArgs sHEq) (defBody sHEq) (defScope sHEq) [] [] pCH_eq fd58)
    {fd59 : FuncData} (FD_gCN_rows : FunD K "rows" "Numbers.rows" (defArgs sNumbers_rows) (defBody sNumbers_rows) (defScope sNumbers_rows) [] [] gCN_rows fd59)
    {fd60 : FuncData} (FD_gCN_house : FunD K "house" "Numbers.house" (defArgs sNumbers_house) (defBody sNumbers_house) (defScope sNumbers_house) [] [] gCN_house fd60)
    : ∃ (fd : FuncData) (cs : List (Addr × Addr)) (sp : Sp), (∀ p ∈ cs, h.get? p.2 = some (PySem.W.tabObj #[])) ∧ (∀ p ∈ cs, K.lookup p.2 = none) ∧ (∀ p ∈ cs, PySem.W.CodeHd h p.1 p.2) ∧ (∀ (s : Shared) (u : Value), BindsTo s fd ⟨[u], []⟩ [("_law_script", u)]) ∧
      (∀ (H : Hp) (a : Addr) (ns : List Int), ns.length ≤ 63 → (∀ p ∈ cs, H p.2 = some (.tbl #[])) → SqL K H a (ns.map V.int) → sp [.ref a] H (fun v _ => v = .bl true) fun _ _ _ => False) ∧
      ∀ base : Heap, K.In base → base.Ns mainGlobals mg → (∀ p ∈ cs, LamX.TabB base mg p.1 p.2) → Gu.FnG P w K mg base CX0 11 fa fd ["_law_script"] sp := by
  have m_CH : mg "House" = some (.ref CH) := PySem.W.mg_of X G a_CH
  have m_CD : mg "Draft" = some (.ref CD) := PySem.W.mg_of X G a_CD
  have m_CN : mg "Numbers" = some (.ref CN) := PySem.W.mg_of X G a_CN
  have m_OH : mg "OtherHouse" = some (.ref OH) := PySem.W.mg_of X G a_OH
  have m_ME : mg "MeterError" = some (.ref ME) := PySem.W.mg_of X G a_ME
  have none_of : ∀ {x : Str}, PySem.W.nsIn K mainGlobals x = some none → mg x = none := fun e => PySem.W.mg_none_of X G e
  have n_len := none_of n0_len
  have n_abs := none_of n0_abs
  have n_int := none_of n0_int
  have n_max := none_of n0_max
  have n_min := none_of n0_min
  have n_range := none_of n0_range
  have n_all := none_of n0_all
  have n_repr := none_of n0_repr
  have n_isinstance := none_of n0_isinstance
  have n_bool := none_of n0_bool
  have n_str := none_of n0_str
  have n_any := none_of n0_any
  have n_tuple := none_of n0_tuple
  have n_sorted := none_of n0_sorted
  have n_enumerate := none_of n0_enumerate
  have n_zip := none_of n0_zip
  have n_sum := none_of n0_sum
  have n_list := none_of n0_list
  have n_dict := none_of n0_dict
  have T : Nm mg := ⟨n_len, n_abs, n_int, n_max, n_min, n_range, n_all, n_repr, n_isinstance⟩
  have cl_CH : Cls K CH := ⟨pg_CH, hd_CH, po_CH, sa_CH⟩
  have cl_CD : Cls K CD := ⟨pg_CD, hd_CD, po_CD, sa_CD⟩
  have mq_TAKEN : ∃ T, mg "TAKEN" = some (.ref T) ∧ ∀ H, SqT K H T ((["main", "house", "rest"] : List Str).map V.str) := by
    obtain ⟨T, o, its, n, a, l, c, d, z, v⟩ := Hk.seqB_ok z49
    exact ⟨T, PySem.W.mg_of X G a, fun H => .inr ⟨o, its, n, l, c, d, z, v⟩⟩
  have ms_LETTERS : ∃ t, mg "LETTERS" = some (.str Hs.abc t) := by
    obtain ⟨t, a⟩ := Hk.strB_ok z50
    exact ⟨t, PySem.W.mg_of X G a⟩
  have mi_FIRST_PRICE : ∃ t, mg "FIRST_PRICE" = some (.int 1 t) := by
    obtain ⟨i, t, a, e⟩ := Hk.intB_ok z51
    exact ⟨t, e ▸ PySem.W.mg_of X G a⟩
  have ms_NOBODY : ∃ t, mg "NOBODY" = some (.str "house" t) := by
    obtain ⟨t, a⟩ := Hk.strB_ok z52
    exact ⟨t, PySem.W.mg_of X G a⟩
  have ho : Hs.HoC K CH := ⟨cl_CH, z31, z32, z33, z34, z35, z36, z37, z38⟩
  have dc : Hs.DC K CD := ⟨cl_CD, z45, z46, z47, z48⟩
  have wd : Hs.Wd K mg := ⟨mq_TAKEN, ms_LETTERS⟩
  have F_pCD_init := Hk.fun_of FD_pCD_init
  have b_pCD_init := F_pCD_init.binds (ps := ["self"]) fun _ _ _ _ _ _ us hl => match us, hl with | [_], _ => rfl
  have k_pCD_init := F_pCD_init.kp
  have me_pCD_init : Meth K CD "__init__" pCD_init := ⟨a_pCD_init, i_pCD_init, k_pCD_init⟩
  have F_pCD_take := Hk.fun_of FD_pCD_take
  have b_pCD_take := F_pCD_take.binds (ps := ["self", "line"]) fun _ _ _ _ _ _ us hl => match us, hl with | [_, _], _ => rfl
  have k_pCD_take := F_pCD_take.kp
  have me_pCD_take : Meth K CD "take" pCD_take := ⟨a_pCD_take, i_pCD_take, k_pCD_take⟩
  have F_pCD_take_days := Hk.fun_of FD_pCD_take_days
  have b_pCD_take_days := F_pCD_take_days.binds (ps := ["self", "words"]) fun _ _ _ _ _ _ us hl => match us, hl with | [_, _], _ => rfl
  have k_pCD_take_days := F_pCD_take_days.kp
  have me_pCD_take_days : Meth K CD "take_days" pCD_take_days := ⟨a_pCD_take_days, i_pCD_take_days, k_pCD_take_days⟩
  have F_pCD_take_place := Hk.fun_of FD_pCD_take_place
  have b_pCD_take_place := F_pCD_take_place.binds (ps := ["self", "words", "inner"]) fun _ _ _ _ _ _ us hl => match us, hl with | [_, _, _], _ => rfl
  have k_pCD_take_place := F_pCD_take_place.kp
  have me_pCD_take_place : Meth K CD "take_place" pCD_take_place := ⟨a_pCD_take_place, i_pCD_take_place, k_pCD_take_place⟩
  have F_pCD_take_price := Hk.fun_of FD_pCD_take_price
  have b_pCD_take_price := F_pCD_take_price.binds (ps := ["self", "words"]) fun _ _ _ _ _ _ us hl => match us, hl with | [_, _], _ => rfl
  have k_pCD_take_price := F_pCD_take_price.kp
  have me_pCD_take_price : Meth K CD "take_price" pCD_take_price := ⟨a_pCD_take_price, i_pCD_take_price, k_pCD_take_price⟩
  have F_pCD_take_stay := Hk.fun_of FD_pCD_take_stay
  have b_pCD_take_stay := F_pCD_take_stay.binds (ps := ["self", "words"]) fun _ _ _ _ _ _ us hl => match us, hl with | [_, _], _ => rfl
  have k_pCD_take_stay := F_pCD_take_stay.kp
  have me_pCD_take_stay : Meth K CD "take_stay" pCD_take_stay := ⟨a_pCD_take_stay, i_pCD_take_stay, k_pCD_take_stay⟩
  have F_pCD_has_place := Hk.fun_of FD_pCD_has_place
  have b_pCD_has_place := F_pCD_has_place.binds (ps := ["self", "name"]) fun _ _ _ _ _ _ us hl => match us, hl with | [_, _], _ => rfl
  have k_pCD_has_place := F_pCD_has_place.kp
  have me_pCD_has_place : Meth K CD "has_place" pCD_has_place := ⟨a_pCD_has_place, i_pCD_has_place, k_pCD_has_place⟩
  have F_pCD_has_flat := Hk.fun_of FD_pCD_has_flat
  have b_pCD_has_flat := F_pCD_has_flat.binds (ps := ["self"]) fun _ _ _ _ _ _ us hl => match us, hl with | [_], _ => rfl
  have k_pCD_has_flat := F_pCD_has_flat.kp
  have me_pCD_has_flat : Meth K CD "has_flat" pCD_has_flat := ⟨a_pCD_has_flat, i_pCD_has_flat, k_pCD_has_flat⟩
  have F_pCD_is_let := Hk.fun_of FD_pCD_is_let
  have b_pCD_is_let := F_pCD_is_let.binds (ps := ["self", "name", "first", "behind"]) fun _ _ _ _ _ _ us hl => match us, hl with | [_, _, _, _], _ => rfl
  have k_pCD_is_let := F_pCD_is_let.kp
  have me_pCD_is_let : Meth K CD "is_let" pCD_is_let := ⟨a_pCD_is_let, i_pCD_is_let, k_pCD_is_let⟩
  have F_pCH_init := Hk.fun_of FD_pCH_init
  have b_pCH_init := F_pCH_init.binds (ps := ["self", "text"]) fun _ _ _ _ _ _ us hl => match us, hl with | [_, _], _ => rfl
  have k_pCH_init := F_pCH_init.kp
  have me_pCH_init : Meth K CH "__init__" pCH_init := ⟨a_pCH_init, i_pCH_init, k_pCH_init⟩
  have m_fis_name : mg "is_name" = some (.ref fis_name) := PySem.W.mg_of X G a_fis_name
  have F_fis_name := Hk.fun_of FD_fis_name
  have b_fis_name := F_fis_name.binds (ps := ["value"]) fun _ _ _ _ _ _ us hl => match us, hl with | [_], _ => rfl
  have k_fis_name := F_fis_name.kp
  have m_fdecimal : mg "decimal" = some (.ref fdecimal) := PySem.W.mg_of X G a_fdecimal
  have F_fdecimal := Hk.fun_of FD_fdecimal
  have b_fdecimal := F_fdecimal.binds (ps := ["word"]) fun _ _ _ _ _ _ us hl => match us, hl with | [_], _ => rfl
  have k_fdecimal := F_fdecimal.kp
  have m_fascending : mg "ascending" = some (.ref fascending) := PySem.W.mg_of X G a_fascending
  have F_fascending := Hk.fun_of FD_fascending
  have b_fascending := F_fascending.binds (ps := ["words"]) fun _ _ _ _ _ _ us hl => match us, hl with | [_], _ => rfl
  have k_fascending := F_fascending.kp
  have m_fdrafted : mg "drafted" = some (.ref fdrafted) := PySem.W.mg_of X G a_fdrafted
  have F_fdrafted := Hk.fun_of FD_fdrafted
  have b_fdrafted := F_fdrafted.binds (ps := ["text"]) fun _ _ _ _ _ _ us hl => match us, hl with | [_], _ => rfl
  have k_fdrafted := F_fdrafted.kp
  have m_ftenants : mg "tenants" = some (.ref ftenants) := PySem.W.mg_of X G a_ftenants
  have F_ftenants := Hk.fun_of FD_ftenants
  have b_ftenants := F_ftenants.binds (ps := ["name", "draft"]) fun _ _ _ _ _ _ us hl => match us, hl with | [_, _], _ => rfl
  have k_ftenants := F_ftenants.kp
  have m_fprices : mg "prices" = some (.ref fprices) := PySem.W.mg_of X G a_fprices
  have F_fprices := Hk.fun_of FD_fprices
  have b_fprices := F_fprices.binds (ps := ["draft"]) fun _ _ _ _ _ _ us hl => match us, hl with | [_], _ => rfl
  have k_fprices := F_fprices.kp
  have cl_CN : Cls K CN := ⟨pg_CN, hd_CN, po_CN, sa_CN⟩
  have nc : NuC K CN := ⟨cl_CN, z85, z86, z87, z88⟩
  have mi_GREATEST : ∃ t, mg "GREATEST" = some (.int 9999 t) := by
    obtain ⟨i, t, a, e⟩ := Hk.intB_ok z89
    exact ⟨t, e ▸ PySem.W.mg_of X G a⟩
  have op_CH : OpC K CH := ⟨z92, z93, z94, z95, z96, z97, z98, z99, z100, z101, z102, z103, z104, z105, z106, z107, z108⟩
  have is_CH : IsC K CH := ⟨cl_CH, z94, z109, z90, z91⟩
  have op_CN : OpC K CN := ⟨z110, z111, z112, z113, z114, z115, z116, z117, z118, z119, z120, z121, z122, z123, z124, z125, z126⟩
  have is_CN : IsC K CN := ⟨cl_CN, z112, z127, z90, z91⟩
  have th : TyH K mg CH := ⟨ho, is_CH, op_CH, z128, m_CH⟩
  have tn : TyN K mg CN CH := ⟨nc, is_CN, op_CN, z129, z130, z131, z132, z133, z134, z135, z136, z137, z138, m_CN⟩
  have F_pME_init := Hk.fun_of FD_pME_init
  have b_pME_init := F_pME_init.binds (ps := ["self", "value"]) fun _ _ _ _ _ _ us hl => match us, hl with | [_, _], _ => rfl
  have k_pME_init := F_pME_init.kp
  have me_pME_init : Meth K ME "__init__" pME_init := ⟨a_pME_init, i_pME_init, k_pME_init⟩
  have xf : XfC K OH := ⟨z146, z147, z143, z148⟩
  have TE : Err K mg "OtherHouse" OH pME_init := ⟨⟨Hk.excX_ok z141, z142, z143, z144, z145⟩, z149, z150, m_OH, z151, xf, z152⟩
  have m_fis_whole : mg "is_whole" = some (.ref fis_whole) := PySem.W.mg_of X G a_fis_whole
  have F_fis_whole := Hk.fun_of FD_fis_whole
  have b_fis_whole := F_fis_whole.binds (ps := ["value"]) fun _ _ _ _ _ _ us hl => match us, hl with | [_], _ => rfl
  have k_fis_whole := F_fis_whole.kp
  have m_fis_meter : mg "is_meter" = some (.ref fis_meter) := PySem.W.mg_of X G a_fis_meter
  have F_fis_meter := Hk.fun_of FD_fis_meter
  have b_fis_meter := F_fis_meter.binds (ps := ["house", "value"]) fun _ _ _ _ _ _ us hl => match us, hl with | [_, _], _ => rfl
  have k_fis_meter := F_fis_meter.kp
  have m_fis_morning : mg "is_morning" = some (.ref fis_morning) := PySem.W.mg_of X G a_fis_morning
  have F_fis_morning := Hk.fun_of FD_fis_morning
  have b_fis_morning := F_fis_morning.binds (ps := ["house", "value"]) fun _ _ _ _ _ _ us hl => match us, hl with | [_, _], _ => rfl
  have k_fis_morning := F_fis_morning.kp
  have m_fare_rows : mg "are_rows" = some (.ref fare_rows) := PySem.W.mg_of X G a_fare_rows
  have F_fare_rows := Hk.fun_of FD_fare_rows
  have b_fare_rows := F_fare_rows.binds (ps := ["house", "value"]) fun _ _ _ _ _ _ us hl => match us, hl with | [_, _], _ => rfl
  have k_fare_rows := F_fare_rows.kp
  have m_fis_row : mg "is_row" = some (.ref fis_row) := PySem.W.mg_of X G a_fis_row
  have F_fis_row := Hk.fun_of FD_fis_row
  have b_fis_row := F_fis_row.binds (ps := ["house", "value"]) fun _ _ _ _ _ _ us hl => match us, hl with | [_, _], _ => rfl
  have k_fis_row := F_fis_row.kp
  have m_fis_row_morning : mg "is_row_morning" = some (.ref fis_row_morning) := PySem.W.mg_of X G a_fis_row_morning
  have F_fis_row_morning := Hk.fun_of FD_fis_row_morning
  have b_fis_row_morning := F_fis_row_morning.binds (ps := ["house", "value"]) fun _ _ _ _ _ _ us hl => match us, hl with | [_, _], _ => rfl
  have k_fis_row_morning := F_fis_row_morning.kp
  have m_fis_number : mg "is_number" = some (.ref fis_number) := PySem.W.mg_of X G a_fis_number
  have F_fis_number := Hk.fun_of FD_fis_number
  have b_fis_number := F_fis_number.binds (ps := ["value"]) fun _ _ _ _ _ _ us hl => match us, hl with | [_], _ => rfl
  have k_fis_number := F_fis_number.kp
  have m_fstretches_of : mg "stretches_of" = some (.ref fstretches_of) := PySem.W.mg_of X G a_fstretches_of
  have F_fstretches_of := Hk.fun_of FD_fstretches_of
  have b_fstretches_of := F_fstretches_of.binds (ps := ["house", "rows"]) fun _ _ _ _ _ _ us hl => match us, hl with | [_, _], _ => rfl
  have k_fstretches_of := F_fstretches_of.kp
  have m_fclimbs : mg "climbs" = some (.ref fclimbs) := PySem.W.mg_of X G a_fclimbs
  have F_fclimbs := Hk.fun_of FD_fclimbs
  have b_fclimbs := F_fclimbs.binds (ps := ["rows"]) fun _ _ _ _ _ _ us hl => match us, hl with | [_], _ => rfl
  have k_fclimbs := F_fclimbs.kp
  have m_fholds_all : mg "holds_all" = some (.ref fholds_all) := PySem.W.mg_of X G a_fholds_all
  have F_fholds_all := Hk.fun_of FD_fholds_all
  have b_fholds_all := F_fholds_all.binds (ps := ["rows", "others"]) fun _ _ _ _ _ _ us hl => match us, hl with | [_, _], _ => rfl
  have k_fholds_all := F_fholds_all.kp
  have m_f_law_jar : mg "_law_jar" = some (.ref f_law_jar) := PySem.W.mg_of X G a_f_law_jar
  have F_f_law_jar := Hk.fun_of FD_f_law_jar
  have b_f_law_jar := F_f_law_jar.binds (ps := ["_law_script", "_law_k"]) fun _ _ _ _ _ _ us hl => match us, hl with | [_, _], _ => rfl
  have k_f_law_jar := F_f_law_jar.kp
  have m_f_law_take : mg "_law_take" = some (.ref f_law_take) := PySem.W.mg_of X G a_f_law_take
  have F_f_law_take := Hk.fun_of FD_f_law_take
  have b_f_law_take := F_f_law_take.binds (ps := ["_law_jar_here", "_law_upto"]) fun _ _ _ _ _ _ us hl => match us, hl with | [_, _], _ => rfl
  have k_f_law_take := F_f_law_take.kp
  have m_f_law_of : mg "_law_of" = some (.ref f_law_of) := PySem.W.mg_of X G a_f_law_of
  have F_f_law_of := Hk.fun_of FD_f_law_of
  have b_f_law_of := F_f_law_of.binds (ps := ["_law_jar_here", "_law_some"]) fun _ _ _ _ _ _ us hl => match us, hl with | [_, _], _ => rfl
  have k_f_law_of := F_f_law_of.kp
  have m_f_law_titles : mg "_law_titles" = some (.ref f_law_titles) := PySem.W.mg_of X G a_f_law_titles
  have F_f_law_titles := Hk.fun_of FD_f_law_titles
  have b_f_law_titles := F_f_law_titles.binds (ps := ["_law_jar_here", "_law_many"]) fun _ _ _ _ _ _ us hl => match us, hl with | [_, _], _ => rfl
  have k_f_law_titles := F_f_law_titles.kp
  have m_f_law_many_uses : mg "_law_many_uses" = some (.ref f_law_many_uses) := PySem.W.mg_of X G a_f_law_many_uses
  have F_f_law_many_uses := Hk.fun_of FD_f_law_many_uses
  have b_f_law_many_uses := F_f_law_many_uses.binds (ps := ["_law_room", "_law_days"]) fun _ _ _ _ _ _ us hl => match us, hl with | [_, _], _ => rfl
  have k_f_law_many_uses := F_f_law_many_uses.kp
  have m_f_law_prices : mg "_law_prices" = some (.ref f_law_prices) := PySem.W.mg_of X G a_f_law_prices
  have F_f_law_prices := Hk.fun_of FD_f_law_prices
  have b_f_law_prices := F_f_law_prices.binds (ps := ["_law_jar_here", "_law_days"]) fun _ _ _ _ _ _ us hl => match us, hl with | [_, _], _ => rfl
  have k_f_law_prices := F_f_law_prices.kp
  have m_f_law_places : mg "_law_places" = some (.ref f_law_places) := PySem.W.mg_of X G a_f_law_places
  have F_f_law_places := Hk.fun_of FD_f_law_places
  have b_f_law_places := F_f_law_places.binds (ps := ["_law_jar_here", "_law_days", "_law_most"]) fun _ _ _ _ _ _ us hl => match us, hl with | [_, _, _], _ => rfl
  have k_f_law_places := F_f_law_places.kp
  have m_f_law_stays : mg "_law_stays" = some (.ref f_law_stays) := PySem.W.mg_of X G a_f_law_stays
  have F_f_law_stays := Hk.fun_of FD_f_law_stays
  have b_f_law_stays := F_f_law_stays.binds (ps := ["_law_jar_here", "_law_days", "_law_places_here"]) fun _ _ _ _ _ _ us hl => match us, hl with | [_, _, _], _ => rfl
  have k_f_law_stays := F_f_law_stays.kp
  have m_f_law_meters : mg "_law_meters" = some (.ref f_law_meters) := PySem.W.mg_of X G a_f_law_meters
  have F_f_law_meters := Hk.fun_of FD_f_law_meters
  have b_f_law_meters := F_f_law_meters.binds (ps := ["_law_lore"]) fun _ _ _ _ _ _ us hl => match us, hl with | [_], _ => rfl
  have k_f_law_meters := F_f_law_meters.kp
  have m_f_law_ordered : mg "_law_ordered" = some (.ref f_law_ordered) := PySem.W.mg_of X G a_f_law_ordered
  have F_f_law_ordered := Hk.fun_of FD_f_law_ordered
  have b_f_law_ordered := F_f_law_ordered.binds (ps := ["_law_rows"]) fun _ _ _ _ _ _ us hl => match us, hl with | [_], _ => rfl
  have k_f_law_ordered := F_f_law_ordered.kp
  have m_f_law_small : mg "_law_small" = some (.ref f_law_small) := PySem.W.mg_of X G a_f_law_small
  have F_f_law_small := Hk.fun_of FD_f_law_small
  have b_f_law_small := F_f_law_small.binds (ps := ["_law_jar_here", "_law_most", "_law_has_prices"]) fun _ _ _ _ _ _ us hl => match us, hl with | [_, _, _], _ => rfl
  have k_f_law_small := F_f_law_small.kp
  have m_f_law_page : mg "_law_page" = some (.ref f_law_page) := PySem.W.mg_of X G a_f_law_page
  have F_f_law_page := Hk.fun_of FD_f_law_page
  have b_f_law_page := F_f_law_page.binds (ps := ["_law_lore"]) fun _ _ _ _ _ _ us hl => match us, hl with | [_], _ => rfl
  have k_f_law_page := F_f_law_page.kp
  have m_f_law_is_covered : mg "_law_is_covered" = some (.ref f_law_is_covered) := PySem.W.mg_of X G a_f_law_is_covered
  have F_f_law_is_covered := Hk.fun_of FD_f_law_is_covered
  have b_f_law_is_covered := F_f_law_is_covered.binds (ps := ["_law_meter", "_law_place"]) fun _ _ _ _ _ _ us hl => match us, hl with | [_, _], _ => rfl
  have k_f_law_is_covered := F_f_law_is_covered.kp
  have m_f_law_a_use : mg "_law_a_use" = some (.ref f_law_a_use) := PySem.W.mg_of X G a_f_law_a_use
  have F_f_law_a_use := Hk.fun_of FD_f_law_a_use
  have b_f_law_a_use := F_f_law_a_use.binds (ps := ["_law_jar_here", "_law_lore"]) fun _ _ _ _ _ _ us hl => match us, hl with | [_, _], _ => rfl
  have k_f_law_a_use := F_f_law_a_use.kp
  have m_f_law_units : mg "_law_units" = some (.ref f_law_units) := PySem.W.mg_of X G a_f_law_units
  have F_f_law_units := Hk.fun_of FD_f_law_units
  have b_f_law_units := F_f_law_units.binds (ps := ["_law_lore", "_law_use", "_law_meter", "_law_first", "_law_behind"]) fun _ _ _ _ _ _ us hl => match us, hl with | [_, _, _, _, _], _ => rfl
  have k_f_law_units := F_f_law_units.kp
  have m_f_law_seats : mg "_law_seats" = some (.ref f_law_seats) := PySem.W.mg_of X G a_f_law_seats
  have F_f_law_seats := Hk.fun_of FD_f_law_seats
  have b_f_law_seats := F_f_law_seats.binds (ps := ["_law_lore"]) fun _ _ _ _ _ _ us hl => match us, hl with | [_], _ => rfl
  have k_f_law_seats := F_f_law_seats.kp
  have m_f_law_read : mg "_law_read" = some (.ref f_law_read) := PySem.W.mg_of X G a_f_law_read
  have F_f_law_read := Hk.fun_of FD_f_law_read
  have b_f_law_read := F_f_law_read.binds (ps := ["_law_jar_here", "_law_lore", "_law_use", "_law_odds"]) fun _ _ _ _ _ _ us hl => match us, hl with | [_, _, _, _], _ => rfl
  have k_f_law_read := F_f_law_read.kp
  have m_f_law_misread : mg "_law_misread" = some (.ref f_law_misread) := PySem.W.mg_of X G a_f_law_misread
  have F_f_law_misread := Hk.fun_of FD_f_law_misread
  have b_f_law_misread := F_f_law_misread.binds (ps := ["_law_jar_here", "_law_rows"]) fun _ _ _ _ _ _ us hl => match us, hl with | [_, _], _ => rfl
  have k_f_law_misread := F_f_law_misread.kp
  have m_f_law_any_rows : mg "_law_any_rows" = some (.ref f_law_any_rows) := PySem.W.mg_of X G a_f_law_any_rows
  have F_f_law_any_rows := Hk.fun_of FD_f_law_any_rows
  have b_f_law_any_rows := F_f_law_any_rows.binds (ps := ["_law_jar_here", "_law_lore"]) fun _ _ _ _ _ _ us hl => match us, hl with | [_, _], _ => rfl
  have k_f_law_any_rows := F_f_law_any_rows.kp
  have m_f_law_heard : mg "_law_heard" = some (.ref f_law_heard) := PySem.W.mg_of X G a_f_law_heard
  have F_f_law_heard := Hk.fun_of FD_f_law_heard
  have b_f_law_heard := F_f_law_heard.binds (ps := ["_law_ask"]) fun _ _ _ _ _ _ us hl => match us, hl with | [_], _ => rfl
  have k_f_law_heard := F_f_law_heard.kp
  have m_f_law_other_rows : mg "_law_other_rows" = some (.ref f_law_other_rows) := PySem.W.mg_of X G a_f_law_other_rows
  have F_f_law_other_rows := Hk.fun_of FD_f_law_other_rows
  have b_f_law_other_rows := F_f_law_other_rows.binds (ps := ["_law_jar_here", "_law_lore", "_law_rows"]) fun _ _ _ _ _ _ us hl => match us, hl with | [_, _, _], _ => rfl
  have k_f_law_other_rows := F_f_law_other_rows.kp
  have m_f_law_compared : mg "_law_compared" = some (.ref f_law_compared) := PySem.W.mg_of X G a_f_law_compared
  have F_f_law_compared := Hk.fun_of FD_f_law_compared
  have b_f_law_compared := F_f_law_compared.binds (ps := ["_law_one", "_law_other", "_law_rows", "_law_more"]) fun _ _ _ _ _ _ us hl => match us, hl with | [_, _, _, _], _ => rfl
  have k_f_law_compared := F_f_law_compared.kp
  have m_f_law_right : mg "_law_right" = some (.ref f_law_right) := PySem.W.mg_of X G a_f_law_right
  have F_f_law_right := Hk.fun_of FD_f_law_right
  have b_f_law_right := F_f_law_right.binds (ps := ["_law_jar_here"]) fun _ _ _ _ _ _ us hl => match us, hl with | [_], _ => rfl
  have k_f_law_right := F_f_law_right.kp
  obtain ⟨c0, P0, oc0, od0, kV0, doc0, pm0, an0, ct0, osl0, fe0, lk0, cc0, ⟨e0, dd0, vs0, sl0, o10, o20⟩, hd0, nP0⟩ := Hk.lam_ok F_f_law_right lb__law_right
  have DL0 := (⟨⟨oc0, od0, kV0, doc0, pm0, an0, ct0, osl0, fe0, lk0, cc0⟩⟩ : Gu.Def K "_law_right" "_law_right" sL_right f_law_right _ (.ref c0))
  have tP0 : h.get? P0 = some (PySem.W.tabObj #[]) := own__law_right f_law_right m_f_law_right c0 P0 _ _ e0 dd0 vs0 sl0 lk0 rfl (by rw [fe0]) o10 o20
  have m_flaw : mg "law" = some (.ref flaw) := PySem.W.mg_of X G a_flaw
  have F_flaw := Hk.fun_of FD_flaw
  have b_flaw := F_flaw.binds (ps := ["_law_script"]) fun _ _ _ _ _ _ us hl => match us, hl with | [_], _ => rfl
  have k_flaw := F_flaw.kp
  have F_pCN_eq := Hk.fun_of FD_pCN_eq
  have b_pCN_eq := F_pCN_eq.binds (ps := ["self", "other"]) fun _ _ _ _ _ _ us hl => match us, hl with | [_, _], _ => rfl
  have k_pCN_eq := F_pCN_eq.kp
  have me_pCN_eq : Meth K CN "__eq__" pCN_eq := ⟨a_pCN_eq, i_pCN_eq, k_pCN_eq⟩
  have F_pCN_le := Hk.fun_of FD_pCN_le
  have b_pCN_le := F_pCN_le.binds (ps := ["self", "other"]) fun _ _ _ _ _ _ us hl => match us, hl with | [_, _], _ => rfl
  have k_pCN_le := F_pCN_le.kp
  have me_pCN_le : Meth K CN "__le__" pCN_le := ⟨a_pCN_le, i_pCN_le, k_pCN_le⟩
  have F_pCN_lt := Hk.fun_of FD_pCN_lt
  have b_pCN_lt := F_pCN_lt.binds (ps := ["self", "other"]) fun _ _ _ _ _ _ us hl => match us, hl with | [_, _], _ => rfl
  have k_pCN_lt := F_pCN_lt.kp
  have me_pCN_lt : Meth K CN "__lt__" pCN_lt := ⟨a_pCN_lt, i_pCN_lt, k_pCN_lt⟩
  have F_pCN_ge := Hk.fun_of FD_pCN_ge
  have b_pCN_ge := F_pCN_ge.binds (ps := ["self", "other"]) fun _ _ _ _ _ _ us hl => match us, hl with | [_, _], _ => rfl
  have k_pCN_ge := F_pCN_ge.kp
  have me_pCN_ge : Meth K CN "__ge__" pCN_ge := ⟨a_pCN_ge, i_pCN_ge, k_pCN_ge⟩
  have F_pCN_gt := Hk.fun_of FD_pCN_gt
  have b_pCN_gt := F_pCN_gt.binds (ps := ["self", "other"]) fun _ _ _ _ _ _ us hl => match us, hl with | [_, _], _ => rfl
  have k_pCN_gt := F_pCN_gt.kp
  have me_pCN_gt : Meth K CN "__gt__" pCN_gt := ⟨a_pCN_gt, i_pCN_gt, k_pCN_gt⟩
  have F_pCN_check := Hk.fun_of FD_pCN_check
  have b_pCN_check := F_pCN_check.binds (ps := ["self", "other"]) fun _ _ _ _ _ _ us hl => match us, hl with | [_, _], _ => rfl
  have k_pCN_check := F_pCN_check.kp
  have me_pCN_check : Meth K CN "_check" pCN_check := ⟨a_pCN_check, i_pCN_check, k_pCN_check⟩
  have F_pCH_eq := Hk.fun_of FD_pCH_eq
  have b_pCH_eq := F_pCH_eq.binds (ps := ["self", "other"]) fun _ _ _ _ _ _ us hl => match us, hl with | [_, _], _ => rfl
  have k_pCH_eq := F_pCH_eq.kp
  have me_pCH_eq : Meth K CH "__eq__" pCH_eq := ⟨a_pCH_eq, i_pCH_eq, k_pCH_eq⟩
  have F_gCN_rows := Hk.fun_of FD_gCN_rows
  have b_gCN_rows := F_gCN_rows.binds (ps := ["self"]) fun _ _ _ _ _ _ us hl => match us, hl with | [_], _ => rfl
  have k_gCN_rows := F_gCN_rows.kp
  have po_gCN_rows : PropOf K CN "rows" ppCN_rows gCN_rows := ⟨a_gCN_rows, s_gCN_rows, t_gCN_rows, r_gCN_rows⟩
  have F_gCN_house := Hk.fun_of FD_gCN_house
  have b_gCN_house := F_gCN_house.binds (ps := ["self"]) fun _ _ _ _ _ _ us hl => match us, hl with | [_], _ => rfl
  have k_gCN_house := F_gCN_house.kp
  have po_gCN_house : PropOf K CN "house" ppCN_house gCN_house := ⟨a_gCN_house, s_gCN_house, t_gCN_house, r_gCN_house⟩
  have e := hfa.symm.trans m_flaw
  cases e
  refine ⟨fd50, [(c0, P0)], (spLaw K [(P0, qRight)]), ?t1, ?t2, ?t3, fun s u => ?t4, ?t5, fun base _ hbase TB => ?t6⟩
  case t1 =>
    intro p hp
    simp only [List.mem_cons, List.not_mem_nil, or_false] at hp
    subst hp
    exact tP0
  case t2 =>
    intro p hp
    simp only [List.mem_cons, List.not_mem_nil, or_false] at hp
    subst hp
    exact nP0
  case t3 =>
    intro p hp
    simp only [List.mem_cons, List.not_mem_nil, or_false] at hp
    subst hp
    exact PySem.W.codeHd_of_K X hd0
  case t4 =>
    obtain ⟨oc, od, kV, doc, pm, an, cdv, ct, osl, rfl, lk, hcd⟩ := F_flaw.ex
    exact .of_eq rfl
  case t5 =>
    intro H a ns hl tabs hS
    refine ⟨a, ns, rfl, hS, hl, ?_, fun _ => rfl⟩
    intro p hp
    simp only [List.mem_cons, List.not_mem_nil, or_false] at hp
    subst hp
    exact LamX.TabS.nil (tabs (c0, P0) (by simp))
  have TB0 : LamX.TabB base mg c0 P0 := TB (c0, P0) (by simp)
  have hm0 : (P0, qRight) ∈ [(P0, qRight)] := by simp
  have hu0 : ∀ p ∈ [(P0, qRight)], p.1 = P0 → p.2 = qRight := by
    intro p hp _
    simp only [List.mem_cons, List.not_mem_nil, or_false] at hp
    subst hp
    rfl
  have GDe : GotF P w K mg base "decimal" 1 ["word"] spDec := ⟨fdecimal, _, ok_dec F_fdecimal n_int, b_fdecimal, m_fdecimal, k_fdecimal⟩
  have GNa : GotF P w K mg base "is_name" 1 ["value"] Hs.spIsName := ⟨fis_name, _, Hs.ok_isName F_fis_name wd T n_str, b_fis_name, m_fis_name, k_fis_name⟩
  have GhP : Hs.GotD P w K mg base CD "has_place" 1 ["self", "name"] (Hs.spHasP CD) := ⟨pCD_has_place, _, Hs.ok_hasP F_pCD_has_place dc n_any, b_pCD_has_place, me_pCD_has_place⟩
  have GhF : Hs.GotD P w K mg base CD "has_flat" 1 ["self"] (Hs.spHasF CD) := ⟨pCD_has_flat, _, Hs.ok_hasF F_pCD_has_flat dc n_any, b_pCD_has_flat, me_pCD_has_flat⟩
  have GiL : Hs.GotD P w K mg base CD "is_let" 1 ["self", "name", "first", "behind"] (Hs.spIsLet CD) := ⟨pCD_is_let, _, Hs.ok_isLet F_pCD_is_let dc n_any, b_pCD_is_let, me_pCD_is_let⟩
  have Gtd : Hs.GotD P w K mg base CD "take_days" 2 ["self", "words"] (Hs.spDays CD) := ⟨pCD_take_days, _, Hs.ok_days F_pCD_take_days dc T GDe, b_pCD_take_days, me_pCD_take_days⟩
  have Gtp : Hs.GotD P w K mg base CD "take_place" 2 ["self", "words", "inner"] (Hs.spPlace CD) := ⟨pCD_take_place, _, Hs.ok_place F_pCD_take_place dc T GDe GNa GhP GhF, b_pCD_take_place, me_pCD_take_place⟩
  have Gtr : Hs.GotD P w K mg base CD "take_price" 2 ["self", "words"] (Hs.spPrice CD) := ⟨pCD_take_price, _, Hs.ok_price F_pCD_take_price dc T GDe GhF, b_pCD_take_price, me_pCD_take_price⟩
  have Gts : Hs.GotD P w K mg base CD "take_stay" 2 ["self", "words"] (Hs.spStay CD) := ⟨pCD_take_stay, _, Hs.ok_stay F_pCD_take_stay dc T GDe GNa GhP GhF GiL, b_pCD_take_stay, me_pCD_take_stay⟩
  have Gtk : Hs.GotD P w K mg base CD "take" 3 ["self", "line"] (Hs.spTake CD) := ⟨pCD_take, _, Hs.ok_take F_pCD_take dc Gtd Gtp Gtr Gts, b_pCD_take, me_pCD_take⟩
  have MD : Mk K CD pCD_init := ⟨mk_CD, a_pCD_init, i_pCD_init, kc_CD⟩
  have GDf : GotF P w K mg base "drafted" 4 ["text"] (Hs.spDrafted CD) := ⟨fdrafted, _, Hs.ok_drafted F_fdrafted dc T n_str n_enumerate MD (Hs.ok_drInit F_pCD_init dc) b_pCD_init m_CD Gtk GhF, b_fdrafted, m_fdrafted, k_fdrafted⟩
  have GAs : GotF P w K mg base "ascending" 1 ["words"] Hs.spAsc := ⟨fascending, _, Hs.ok_asc F_fascending n_tuple n_sorted n_str, b_fascending, m_fascending, k_fascending⟩
  have GTe : GotF P w K mg base "tenants" 1 ["name", "draft"] (Hs.spTen CD) := ⟨ftenants, _, Hs.ok_tenants F_ftenants dc T n_tuple ms_NOBODY, b_ftenants, m_ftenants, k_ftenants⟩
  have GPr : GotF P w K mg base "prices" 1 ["draft"] (Hs.spPri CD) := ⟨fprices, _, Hs.ok_prices F_fprices dc T n_tuple (mi_FIRST_PRICE.elim fun t h => ⟨1, t, h, rfl⟩), b_fprices, m_fprices, k_fprices⟩
  have GHi : ∃ (f : Addr) (fd : FuncData), FnOk P w K mg base CX0 5 f fd ["self", "text"] (Hs.spHInit CH) ∧ L2.Binds K fd ["self", "text"] [] ∧ Mk K CH f := ⟨pCH_init, _, Hs.ok_hInit F_pCH_init ho dc T n_tuple ms_NOBODY GDf GAs GTe GPr, b_pCH_init, ⟨mk_CH, a_pCH_init, i_pCH_init, kc_CH⟩⟩
  have GW : ∀ p, GotF P w K mg base "is_whole" 1 ["value"] (spWholeD p) := fun p => ⟨fis_whole, _, ok_wholeD F_fis_whole T n_int n_bool, b_fis_whole, m_fis_whole, k_fis_whole⟩
  have GMe : ∀ p, GotF P w K mg base "is_meter" 1 ["house", "value"] (spMe CH p) := fun p => ⟨fis_meter, _, ok_me F_fis_meter ho, b_fis_meter, m_fis_meter, k_fis_meter⟩
  have GMo : ∀ p, GotF P w K mg base "is_morning" 2 ["house", "value"] (spMo CH p) := fun p => ⟨fis_morning, _, ok_mo F_fis_morning ho (GW p), b_fis_morning, m_fis_morning, k_fis_morning⟩
  have GRm : ∀ p, GotF P w K mg base "is_row_morning" 3 ["house", "value"] (spRm CH p) := fun p => ⟨fis_row_morning, _, ok_rm F_fis_row_morning (GMo p), b_fis_row_morning, m_fis_row_morning, k_fis_row_morning⟩
  have GNo : ∀ p, GotF P w K mg base "is_number" 2 ["value"] (spNo p) := fun p => ⟨fis_number, _, ok_no F_fis_number mi_GREATEST (GW p), b_fis_number, m_fis_number, k_fis_number⟩
  have GRo : ∀ p, GotF P w K mg base "is_row" 4 ["house", "value"] (spRow CH p) := fun p => ⟨fis_row, _, ok_row F_fis_row T n_tuple (GMe p) (GRm p) (GNo p), b_fis_row, m_fis_row, k_fis_row⟩
  have GCl : GotF P w K mg base "climbs" 1 ["rows"] (spClimb K false) := ⟨fclimbs, _, ok_climbL F_fclimbs T n_zip, b_fclimbs, m_fclimbs, k_fclimbs⟩
  have GAR : GotF P w K mg base "are_rows" 5 ["house", "value"] (spAreR CH) := ⟨fare_rows, _, ok_are_rows F_fare_rows T n_tuple GRo GCl, b_fare_rows, m_fare_rows, k_fare_rows⟩
  have GSo : GotF P w K mg base "stretches_of" 1 ["house", "rows"] (spStr CH) := ⟨fstretches_of, _, ok_stretches_of F_fstretches_of ho n_tuple, b_fstretches_of, m_fstretches_of, k_fstretches_of⟩
  have GHo : GotF P w K mg base "holds_all" 1 ["rows", "others"] spHold := ⟨fholds_all, _, ok_hold F_fholds_all T, b_fholds_all, m_fholds_all, k_fholds_all⟩
  obtain ⟨ds3, vs3, bN⟩ := FunD.binds1 (ps := ["self", "house", "rows"]) FD_pCN_init 3 1 (by simp) rfl (fun T kV doc pm an cdv ct us its h1 h2 => by
    match us, its, h1, h2 with
    | [_, _, _], [_], _, _ => exact ⟨_, rfl, rfl⟩)
  cases vs3
  have GNi : ∃ (f : Addr) (fd : FuncData), FnOk P w K mg base CX0 7 f fd ["self", "house", "rows"] (spNInit CN CH) ∧ L2.Binds K fd ["self", "house", "rows"] [] ∧ Mk K CN f := ⟨pCN_init, _, ok_n0 (e := eN) FD_pCN_init GAR GSo nc, bN, ⟨mk_CN, a_pCN_init, i_pCN_init, kc_CN⟩⟩
  have GHe : GotM P w K mg base CH "__eq__" 1 ["self", "other"] (spHEqS CH) := ⟨pCH_eq, _, ok_hEq F_pCH_eq th T, b_pCH_eq, a_pCH_eq, i_pCH_eq⟩
  have GNe : GotM P w K mg base CN "__eq__" 2 ["self", "other"] (spNEq CN CH) := ⟨pCN_eq, _, ok_nEq F_pCN_eq th tn T GHe, b_pCN_eq, a_pCN_eq, i_pCN_eq⟩
  have GCk : ∃ (f : Addr) (fd : FuncData), FnOk P w K mg base (L2.CX P w) 3 f fd ["self", "other"] (spChk CN CH OH) ∧ Binds K fd ["self", "other"] [] ∧ Meth K CN "_check" f := ⟨pCN_check, _, ok_chk F_pCN_check th tn GHe TE (ok_initE F_pME_init) b_pME_init, b_pCN_check, me_pCN_check⟩
  have GLe_ : GotO P w K mg base CN "__le__" 4 (spNCmp CN CH OH rLe) := ⟨pCN_le, _, ok_nLe F_pCN_le th tn T GHo GCk, b_pCN_le, a_pCN_le, i_pCN_le⟩
  have GLt_ : GotO P w K mg base CN "__lt__" 4 (spNCmp CN CH OH rLt) := ⟨pCN_lt, _, ok_nLt F_pCN_lt th tn T GHo GCk, b_pCN_lt, a_pCN_lt, i_pCN_lt⟩
  have GGe_ : GotO P w K mg base CN "__ge__" 4 (spNCmp CN CH OH rGe) := ⟨pCN_ge, _, ok_nGe F_pCN_ge th tn T GHo GCk, b_pCN_ge, a_pCN_ge, i_pCN_ge⟩
  have GGt_ : GotO P w K mg base CN "__gt__" 4 (spNCmp CN CH OH rGt) := ⟨pCN_gt, _, ok_nGt F_pCN_gt th tn T GHo GCk, b_pCN_gt, a_pCN_gt, i_pCN_gt⟩
  have GPr_ : GotP P w K mg base CN "rows" 1 (spNRows CN CH) := ⟨ppCN_rows, gCN_rows, _, po_gCN_rows, ok_nRows F_gCN_rows nc, b_gCN_rows⟩
  have GPh_ : GotP P w K mg base CN "house" 1 (spNHouse CN CH) := ⟨ppCN_house, gCN_house, _, po_gCN_house, ok_nHouse F_gCN_house nc, b_gCN_house⟩
  have GJ : GotF P w K mg base "_law_jar" 1 ["_law_script", "_law_k"] (spJar K) := ⟨f_law_jar, _, ok_jar F_f_law_jar T, b_f_law_jar, m_f_law_jar, k_f_law_jar⟩
  have GT : GotF P w K mg base "_law_take" 1 ["_law_jar_here", "_law_upto"] Am.spTake := ⟨f_law_take, _, Am.ok_take F_f_law_take T, b_f_law_take, m_f_law_take, k_f_law_take⟩
  have GO : GotF P w K mg base "_law_of" 2 ["_law_jar_here", "_law_some"] spOf := ⟨f_law_of, _, ok_of F_f_law_of T GT, b_f_law_of, m_f_law_of, k_f_law_of⟩
  have GTi : GotF P w K mg base "_law_titles" 2 ["_law_jar_here", "_law_many"] spTitles := ⟨f_law_titles, _, ok_titles F_f_law_titles T GT, b_f_law_titles, m_f_law_titles, k_f_law_titles⟩
  have GMu : GotF P w K mg base "_law_many_uses" 1 ["_law_room", "_law_days"] spMany := ⟨f_law_many_uses, _, ok_many F_f_law_many_uses T, b_f_law_many_uses, m_f_law_many_uses, k_f_law_many_uses⟩
  have GLp : GotF P w K mg base "_law_prices" 3 ["_law_jar_here", "_law_days"] spLPrices := ⟨f_law_prices, _, ok_lPrices F_f_law_prices T GT GO, b_f_law_prices, m_f_law_prices, k_f_law_prices⟩
  have GPl : GotF P w K mg base "_law_places" 3 ["_law_jar_here", "_law_days", "_law_most"] spPlaces := ⟨f_law_places, _, ok_places F_f_law_places T GT GTi GO GMu, b_f_law_places, m_f_law_places, k_f_law_places⟩
  have GSt : GotF P w K mg base "_law_stays" 3 ["_law_jar_here", "_law_days", "_law_places_here"] spStays := ⟨f_law_stays, _, ok_stays F_f_law_stays T GT GO GTi, b_f_law_stays, m_f_law_stays, k_f_law_stays⟩
  have GMt : GotF P w K mg base "_law_meters" 1 ["_law_lore"] spMeters := ⟨f_law_meters, _, ok_meters F_f_law_meters, b_f_law_meters, m_f_law_meters, k_f_law_meters⟩
  have GOr : GotF P w K mg base "_law_ordered" 1 ["_law_rows"] spOrd := ⟨f_law_ordered, _, ok_ord F_f_law_ordered T, b_f_law_ordered, m_f_law_ordered, k_f_law_ordered⟩
  have GSm : GotF P w K mg base "_law_small" 4 ["_law_jar_here", "_law_most", "_law_has_prices"] spSmall := ⟨f_law_small, _, ok_small F_f_law_small T GT GPl GSt GLp, b_f_law_small, m_f_law_small, k_f_law_small⟩
  have GPg : GotF P w K mg base "_law_page" 1 ["_law_lore"] spPage := ⟨f_law_page, _, ok_page F_f_law_page n_str, b_f_law_page, m_f_law_page, k_f_law_page⟩
  have GCv : GotF P w K mg base "_law_is_covered" 1 ["_law_meter", "_law_place"] spCov := ⟨f_law_is_covered, _, ok_cov F_f_law_is_covered, b_f_law_is_covered, m_f_law_is_covered, k_f_law_is_covered⟩
  have GAu : GotF P w K mg base "_law_a_use" 2 ["_law_jar_here", "_law_lore"] spAUse := ⟨f_law_a_use, _, ok_ause F_f_law_a_use T n_tuple GT, b_f_law_a_use, m_f_law_a_use, k_f_law_a_use⟩
  have GUn : GotF P w K mg base "_law_units" 2 ["_law_lore", "_law_use", "_law_meter", "_law_first", "_law_behind"] spUnits := ⟨f_law_units, _, ok_units F_f_law_units T n_zip n_sum GCv, b_f_law_units, m_f_law_units, k_f_law_units⟩
  have GSe : GotF P w K mg base "_law_seats" 2 ["_law_lore"] spSeats := ⟨f_law_seats, _, ok_seats F_f_law_seats T GMt GOr, b_f_law_seats, m_f_law_seats, k_f_law_seats⟩
  have GRd : GotF P w K mg base "_law_read" 3 ["_law_jar_here", "_law_lore", "_law_use", "_law_odds"] spRead := ⟨f_law_read, _, ok_read F_f_law_read T n_tuple GSe GT GUn, b_f_law_read, m_f_law_read, k_f_law_read⟩
  have GMs : GotF P w K mg base "_law_misread" 3 ["_law_jar_here", "_law_rows"] spMis := ⟨f_law_misread, _, ok_misread F_f_law_misread T GT GO, b_f_law_misread, m_f_law_misread, k_f_law_misread⟩
  have GAn : GotF P w K mg base "_law_any_rows" 4 ["_law_jar_here", "_law_lore"] spAny := ⟨f_law_any_rows, _, ok_any F_f_law_any_rows T n_tuple GAu GO GRd GT GMs, b_f_law_any_rows, m_f_law_any_rows, k_f_law_any_rows⟩
  have GOt : GotF P w K mg base "_law_other_rows" 5 ["_law_jar_here", "_law_lore", "_law_rows"] spOther := ⟨f_law_other_rows, _, ok_other F_f_law_other_rows T n_dict n_tuple GT GSe GMs GAn, b_f_law_other_rows, m_f_law_other_rows, k_f_law_other_rows⟩
  have GCo : GotG P w K mg base "_law_compared" 5 ["_law_one", "_law_other", "_law_rows", "_law_more"] (spCompared CN CH) := ⟨f_law_compared, _, ok_compared F_f_law_compared T tn GLe_ GLt_ GGe_ GGt_ GNe, b_f_law_compared, m_f_law_compared, k_f_law_compared⟩
  obtain ⟨hoc, hod, hkV, hdoc, hpm, han, hcd, hct, hosl, rfl, hlk, hcc⟩ := F_f_law_heard.ex
  have GHd : GotH K mg OH f_law_heard hoc hod hkV hdoc hpm han hcd hct hosl := ⟨m_f_law_heard, k_f_law_heard, hlk, hcc, b_f_law_heard, m_OH⟩
  have GRi : GotG P w K mg base "_law_right" 10 ["_law_jar_here"] (spRight [(P0, qRight)]) := ⟨f_law_right, _, ok_right DL0 T n_list n_any th tn GHd TB0 hm0 hu0 z152 xf z151 GLe_ GLt_ GGe_ GGt_ GNe GSm GAn GOt GPg m_CH GHi m_CN GNi GCo GPh_ GPr_, b_f_law_right, m_f_law_right, k_f_law_right⟩
  exact ok_law F_flaw T GJ GRi
theorem law_head {P : Program} {w : World} {K : PySem.W.Frag} {h : Heap} {mg : Str → Option Value} {fa : Addr} (X : K.In h) (G : h.Ns mainGlobals mg) (hfa : mg "law" = some (.ref fa)) (own__law_right : ∀ a : Addr, mg "_law_right" = some (.ref a) → LamX.OwnTab K a h) (c : Hk.SaysY xb fnD K) :
    ∃ (fd : FuncData) (cs : List (Addr × Addr)) (sp : Sp), (∀ p ∈ cs, h.get? p.2 = some (PySem.W.tabObj #[])) ∧ (∀ p ∈ cs, K.lookup p.2 = none) ∧ (∀ p ∈ cs, PySem.W.CodeHd h p.1 p.2) ∧ (∀ (s : Shared) (u : Value), BindsTo s fd ⟨[u], []⟩ [("_law_script", u)]) ∧
      (∀ (H : Hp) (a : Addr) (ns : List Int), ns.length ≤ 63 → (∀ p ∈ cs, H p.2 = some (.tbl #[])) → SqL K H a (ns.map V.int) → sp [.ref a] H (fun v _ => v = .bl true) fun _ _ _ => False) ∧
      ∀ base : Heap, K.In base → base.Ns mainGlobals mg → (∀ p ∈ cs, LamX.TabB base mg p.1 p.2) → Gu.FnG P w K mg base CX0 11 fa fd ["_law_script"] sp := by
  have hx := c.x
  simp only [xb, Bool.and_eq_true] at hx
  obtain ⟨h0, h1, h2, h3, h4, h5, h6, h7, h8⟩ := hx
  simp only [bs0, Bool.and_eq_true, decide_eq_true_eq] at h0
  obtain ⟨q0, q1, q2, q3, q4, q5, q6, q7, q8, q9, q10, q11, q12, q13, q14, q15, q16, q17, q18, q19, q20, q21, q22, q23⟩ := h0
  simp only [bs1, Bool.and_eq_true, decide_eq_true_eq] at h1
  obtain ⟨q24, q25, q26, q27, q28, q29, q30, q31, q32, q33, q34, q35, q36, q37, q38, q39, q40, q41, q42, q43, q44, q45, q46, q47⟩ := h1
  simp only [bs2, Bool.and_eq_true, decide_eq_true_eq] at h2
  obtain ⟨q48, q49, q50, q51, q52, q53, q54, q55, q56, q57, q58, q59, q60, q61, q62, q63, q64, q65, q66, q67, q68, q69, q70, q71⟩ := h2
  simp only [bs3, Bool.and_eq_true, decide_eq_true_eq] at h3
  obtain ⟨q72, q73, q74, q75, q76, q77, q78, q79, q80, q81, q82, q83, q84, q85, q86, q87, q88, q89, q90, q91, q92, q93, q94, q95⟩ := h3
  simp only [bs4, Bool.and_eq_true, decide_eq_true_eq] at h4
  obtain ⟨q96, q97, q98, q99, q100, q101, q102, q103, q104, q105, q106, q107, q108, q109, q110, q111, q112, q113, q114, q115, q116, q117, q118, q119⟩ := h4
  simp only [bs5, Bool.and_eq_true, decide_eq_true_eq] at h5
  obtain ⟨q120, q121, q122, q123, q124, q125, q126, q127, q128, q129, q130, q131, q132, q133, q134, q135, q136, q137, q138, q139, q140, q141, q142, q143⟩ := h5
  simp only [bs6, Bool.and_eq_true, decide_eq_true_eq] at h6
  obtain ⟨q144, q145, q146, q147, q148, q149, q150, q151, q152, q153, q154, q155, q156, q157, q158, q159, q160, q161, q162, q163, q164, q165, q166, q167⟩ := h6
  simp only [bs7, Bool.and_eq_true, decide_eq_true_eq] at h7
  obtain ⟨q168, q169, q170, q171, q172, q173, q174, q175, q176, q177, q178, q179, q180, q181, q182, q183, q184, q185, q186, q187, q188, q189, q190, q191⟩ := h7
  simp only [bs8, Bool.and_eq_true, decide_eq_true_eq] at h8
  obtain ⟨q192, q193, q194, q195, q196, q197, q198, q199, q200, q201, q202, q203, q204, q205, q206, q207, q208, q209, q210⟩ := h8
  obtain ⟨fd0, F0⟩ := c.def_ 0 (d := dd0) rfl
  obtain ⟨fd1, F1⟩ := c.def_ 1 (d := dd1) rfl
  obtain ⟨fd2, F2⟩ := c.def_ 2 (d := dd2) rfl
  obtain ⟨fd3, F3⟩ := c.def_ 3 (d := dd3) rfl
  obtain ⟨fd4, F4⟩ := c.def_ 4 (d := dd4) rfl
  obtain ⟨fd5, F5⟩ := c.def_ 5 (d := dd5) rfl
  obtain ⟨fd6, F6⟩ := c.def_ 6 (d := dd6) rfl
  obtain ⟨fd7, F7⟩ := c.def_ 7 (d := dd7) rfl
  obtain ⟨fd8, F8⟩ := c.def_ 8 (d := dd8) rfl
  obtain ⟨fd9, F9⟩ := c.def_ 9 (d := dd9) rfl
  obtain ⟨fd10, F10⟩ := c.def_ 10 (d := dd10) rfl
  obtain ⟨fd11, F11⟩ := c.def_ 11 (d := dd11) rfl
  obtain ⟨fd12, F12⟩ := c.def_ 12 (d := dd12) rfl
  obtain ⟨fd13, F13⟩ := c.def_ 13 (d := dd13) rfl
  obtain ⟨fd14, F14⟩ := c.def_ 14 (d := dd14) rfl
  obtain ⟨fd15, F15⟩ := c.def_ 15 (d := dd15) rfl
  obtain ⟨fd16, F16⟩ := c.def_ 16 (d := dd16) rfl
  obtain ⟨fd17, F17⟩ := c.def_ 17 (d := dd17) rfl
  obtain ⟨fd18, F18⟩ := c.def_ 18 (d := dd18) rfl
  obtain ⟨fd19, F19⟩ := c.def_ 19 (d := dd19) rfl
  obtain ⟨fd20, F20⟩ := c.def_ 20 (d := dd20) rfl
  obtain ⟨fd21, F21⟩ := c.def_ 21 (d := dd21) rfl
  obtain ⟨fd22, F22⟩ := c.def_ 22 (d := dd22) rfl
  obtain ⟨fd23, F23⟩ := c.def_ 23 (d := dd23) rfl
  obtain ⟨fd24, F24⟩ := c.def_ 24 (d := dd24) rfl
  obtain ⟨fd25, F25⟩ := c.def_ 25 (d := dd25) rfl
  obtain ⟨fd26, F26⟩ := c.def_ 26 (d := dd26) rfl
  obtain ⟨fd27, F27⟩ := c.def_ 27 (d := dd27) rfl
  obtain ⟨fd28, F28⟩ := c.def_ 28 (d := dd28) rfl
  obtain ⟨fd29, F29⟩ := c.def_ 29 (d := dd29) rfl
  obtain ⟨fd30, F30⟩ := c.def_ 30 (d := dd30) rfl
  obtain ⟨fd31, F31⟩ := c.def_ 31 (d := dd31) rfl
  obtain ⟨fd32, F32⟩ := c.def_ 32 (d := dd32) rfl
  obtain ⟨fd33, F33⟩ := c.def_ 33 (d := dd33) rfl
  obtain ⟨fd34, F34⟩ := c.def_ 34 (d := dd34) rfl
  obtain ⟨fd35, F35⟩ := c.def_ 35 (d := dd35) rfl
  obtain ⟨fd36, F36⟩ := c.def_ 36 (d := dd36) rfl
  obtain ⟨fd37, F37⟩ := c.def_ 37 (d := dd37) rfl
  obtain ⟨fd38, F38⟩ := c.def_ 38 (d := dd38) rfl
  obtain ⟨fd39, F39⟩ := c.def_ 39 (d := dd39) rfl
  obtain ⟨fd40, F40⟩ := c.def_ 40 (d := dd40) rfl
  obtain ⟨fd41, F41⟩ := c.def_ 41 (d := dd41) rfl
  obtain ⟨fd42, F42⟩ := c.def_ 42 (d := dd42) rfl
  obtain ⟨fd43, F43⟩ := c.def_ 43 (d := dd43) rfl
  obtain ⟨fd44, F44⟩ := c.def_ 44 (d := dd44) rfl
  obtain ⟨fd45, F45⟩ := c.def_ 45 (d := dd45) rfl
  obtain ⟨fd46, F46⟩ := c.def_ 46 (d := dd46) rfl
  obtain ⟨fd47, F47⟩ := c.def_ 47 (d := dd47) rfl
  obtain ⟨fd48, F48⟩ := c.def_ 48 (d := dd48) rfl
  obtain ⟨fd49, F49⟩ := c.def_ 49 (d := dd49) rfl
  obtain ⟨fd50, F50⟩ := c.def_ 50 (d := dd50) rfl
  obtain ⟨fd51, F51⟩ := c.def_ 51 (d := dd51) rfl
  obtain ⟨fd52, F52⟩ := c.def_ 52 (d := dd52) rfl
  obtain ⟨fd53, F53⟩ := c.def_ 53 (d := dd53) rfl
  obtain ⟨fd54, F54⟩ := c.def_ 54 (d := dd54) rfl
  obtain ⟨fd55, F55⟩ := c.def_ 55 (d := dd55) rfl
  obtain ⟨fd56, F56⟩ := c.def_ 56 (d := dd56) rfl
  obtain ⟨fd57, F57⟩ := c.def_ 57 (d := dd57) rfl
  obtain ⟨fd58, F58⟩ := c.def_ 58 (d := dd58) rfl
  obtain ⟨fd59, F59⟩ := c.def_ 59 (d := dd59) rfl
  obtain ⟨fd60, F60⟩ := c.def_ 60 (d := dd60) rfl
  exact law_ok (P := P) (w := w) (CH := (He.ga K "House")) (CD := (He.ga K "Draft")) (CN := (He.ga K "Numbers")) (OH := (He.ga K "OtherHouse")) (ME := (He.ga K "MeterError")) (pCD_init := (He.ma K (He.ga K "Draft") "__init__")) (pCD_take := (He.ma K (He.ga K "Draft") "take")) (pCD_take_days := (He.ma K (He.ga K "Draft") "take_days")) (pCD_take_place := (He.ma K (He.ga K "Draft") "take_place")) (pCD_take_price := (He.ma K (He.ga K "Draft") "take_price")) (pCD_take_stay := (He.ma K (He.ga K "Draft") "take_stay")) (pCD_has_place := (He.ma K (He.ga K "Draft") "has_place")) (pCD_has_flat := (He.ma K (He.ga K "Draft") "has_flat")) (pCD_is_let := (He.ma K (He.ga K "Draft") "is_let")) (pCH_init := (He.ma K (He.ga K "House") "__init__")) (fis_name := (He.ga K "is_name")) (fdecimal := (He.ga K "decimal")) (fascending := (He.ga K "ascending")) (fdrafted := (He.ga K "drafted")) (ftenants := (He.ga K "tenants")) (fprices := (He.ga K "prices")) (pME_init := (He.ma K (He.ga K "MeterError") "__init__")) (fis_whole := (He.ga K "is_whole")) (fis_meter := (He.ga K "is_meter")) (fis_morning := (He.ga K "is_morning")) (fare_rows := (He.ga K "are_rows")) (fis_row := (He.ga K "is_row")) (fis_row_morning := (He.ga K "is_row_morning")) (fis_number := (He.ga K "is_number")) (fstretches_of := (He.ga K "stretches_of")) (fclimbs := (He.ga K "climbs")) (fholds_all := (He.ga K "holds_all")) (f_law_jar := (He.ga K "_law_jar")) (f_law_take := (He.ga K "_law_take")) (f_law_of := (He.ga K "_law_of")) (f_law_titles := (He.ga K "_law_titles")) (f_law_many_uses := (He.ga K "_law_many_uses")) (f_law_prices := (He.ga K "_law_prices")) (f_law_places := (He.ga K "_law_places")) (f_law_stays := (He.ga K "_law_stays")) (f_law_meters := (He.ga K "_law_meters")) (f_law_ordered := (He.ga K "_law_ordered")) (f_law_small := (He.ga K "_law_small")) (f_law_page := (He.ga K "_law_page")) (f_law_is_covered := (He.ga K "_law_is_covered")) (f_law_a_use := (He.ga K "_law_a_use")) (f_law_units := (He.ga K "_law_units")) (f_law_seats := (He.ga K "_law_seats")) (f_law_read := (He.ga K "_law_read")) (f_law_misread := (He.ga K "_law_misread")) (f_law_any_rows := (He.ga K "_law_any_rows")) (f_law_heard := (He.ga K "_law_heard")) (f_law_other_rows := (He.ga K "_law_other_rows")) (f_law_compared := (He.ga K "_law_compared")) (f_law_right := (He.ga K "_law_right")) (flaw := (He.ga K "law")) (eN := (Hk.dfA K (He.ma K (He.ga K "Numbers") "__init__") 0)) (pCN_init := (He.ma K (He.ga K "Numbers") "__init__")) (pCN_eq := (He.ma K (He.ga K "Numbers") "__eq__")) (pCN_le := (He.ma K (He.ga K "Numbers") "__le__")) (pCN_lt := (He.ma K (He.ga K "Numbers") "__lt__")) (pCN_ge := (He.ma K (He.ga K "Numbers") "__ge__")) (pCN_gt := (He.ma K (He.ga K "Numbers") "__gt__")) (pCN_check := (He.ma K (He.ga K "Numbers") "_check")) (pCH_eq := (He.ma K (He.ga K "House") "__eq__")) (ppCN_rows := (He.ma K (He.ga K "Numbers") "rows")) (gCN_rows := (Hk.prA K (He.ga K "Numbers") "rows")) (ppCN_house := (He.ma K (He.ga K "Numbers") "house")) (gCN_house := (Hk.prA K (He.ga K "Numbers") "house")) X G hfa own__law_right q0 q1 q2 q3 q4 q5 q6 q7 q8 q9 q10 q11 q12 q13 q14 q15 q16 q17 q18 q19 q20 q21 q22 q23 q24 q25 q26 q27 q28 q29 q30 q31 q32 q33 q34 q35 q36 q37 q38 q39 q40 q41 q42 q43 q44 q45 q46 q47 q48 q49 q50 q51 q52 q53 q54 q55 q56 q57 q58 q59 q60 q61 q62 q63 q64 q65 q66 q67 q68 q69 q70 q71 q72 q73 q74 q75 q76 q77 q78 q79 q80 q81 q82 q83 q84 q85 q86 q87 q88 q89 q90 q91 q92 q93 q94 q95 q96 q97 q98 q99 q100 q101 q102 q103 q104 q105 q106 q107 q108 q109 q110 q111 q112 q113 q114 q115 q116 q117 q118 q119 q120 q121 q122 q123 q124 q125 q126 q127 q128 q129 q130 q131 q132 q133 q134 q135 q136 q137 q138 q139 q140 q141 q142 q143 q144 q145 q146 q147 q148 q149 q150 q151 q152 q153 q154 q155 q156 q157 q158 q159 q160 q161 q162 q163 q164 q165 q166 q167 q168 q169 q170 q171 q172 q173 q174 q175 q176 q177 q178 q179 q180 q181 q182 q183 q184 q185 q186 q187 q188 q189 q190 q191 q192 q193 q194 q195 q196 q197 q198 q199 q200 q201 q202 q203 q204 q205 q206 q207 q208 q209 q210 (Hk.prB_ok q206) (Hk.prB_ok q210) F0 F1 F2 F3 F4 F5 F6 F7 F8 F9 F10 F11 F12 F13 F14 F15 F16 F17 F18 F19 F20 F21 F22 F23 F24 F25 F26 F27 F28 F29 F30 F31 F32 F33 F34 F35 F36 F37 F38 F39 F40 F41 F42 F43 F44 F45 F46 F47 F48 F49 F50 F51 F52 F53 F54 F55 F56 F57 F58 F59 F60
end Ds
open PySem PySem.W PySem.Calls PyProof.Rows in
theorem PySem.Challenge.cw_whoseuse_k14_numbers_compared_holds : PySem.Challenge.rw_whoseuse_k14_numbers_compared.Holds := by
  w_on; o_law
  refine HandSHeadRun.head_any (r := OpenLaw.row PySem.Challenge.rw_whoseuse_k14_numbers_compared) (q := Ds.qv) (H := Hk.hookT Ds.ksA Ds.xb Ds.fnD) (ob := Hk.obT Ds.ksA Ds.xb Ds.fnD) (M := 12000) (loose := Ds.names) (d := HandSHeadRun.topDef (OpenLaw.row PySem.Challenge.rw_whoseuse_k14_numbers_compared).prog 64) (kwd := []) Hk.obT_eq
    (by kernel_rfl) (fun s => by kernel_rfl) Ds.run (by kernel_rfl) (by kernel_rfl) (by kernel_rfl) (by rfl) (by first | assumption | decide +kernel) (by decide +kernel) ⟨rfl, rfl, rfl, rfl, rfl, by decide +kernel⟩ ?hw ?hc
  case hw => w_witness2
  case hc =>
    refine Hk.walkGTE (l := PySem.Challenge.rw_whoseuse_k14_numbers_compared) (n := 63) (k := 11) (x := "_law_script") rfl (by decide) (by kernel_rfl) ⟨rfl, by decide, by decide⟩ ?F
    intro w mg fa h Y own G hmg0
    obtain ⟨K, KX, c⟩ := Y
    have hmg : mg ("law" : PySem.Str) = some (.ref fa) := by
      have e : (HandSHeadRun.topDef (OpenLaw.row PySem.Challenge.rw_whoseuse_k14_numbers_compared).prog 64).name = ("law" : PySem.Str) := by kernel_rfl
      rw [← e]
      exact hmg0
    have own__law_right : ∀ a : PySem.Addr, mg ("_law_right" : PySem.Str) = some (.ref a) → LamX.OwnTab K a h := fun a e => own K KX "_law_right" a (by kernel_rfl) e
    obtain ⟨fd, cs, sp, r⟩ := Ds.law_head (P := (PySem.Challenge.rw_whoseuse_k14_numbers_compared).prog) (w := w) KX G hmg own__law_right c
    exact ⟨K, fd, cs, sp, KX, r⟩
