import PyProof.Rows.All
import Wide.All
import OpenK.AllK
import Wide.FinOn
import HandS.Defaults
import HandS.ExcInit
import HandS.Head0
import HandS.Head1
import HandS.Head2
import HandS.HeadHook1
import HandS.HeadHook2
import PySem.Challenge.RW_whoseuse_k00_errors
import HandS.Codes
import HandS.Words
import HandS.HeadEnd
import HandS.Head3
import PyProof.EqAt
import PyProof.EqKinds
import PyProof.NeKinds
import KE.KOpsOwn
import HandS.ForMost
import HandS.Wide
import HandS.Gcd
import HandS.IsInst
import HandS.OwnEq
import HandS.SlotsOwn
import PyProof.StrLawsIn
import PyProof.StrBlockL
import PyProof.Rows.StrNews2
import KE.IntTextLaws
import HandS.Walk
import HandS.ForDict
import KE.KIntText
import PyProof.StrLawsRepr
import PyProof.Rows.StrDigitsNeg
import PyProof.Rows.ReprOcc
import HandS.StrMore
import HandS.Text
import KE.KUnpackStar
import HandS.SortKw
import KE.GoesEnumKw
import KE.GoesNew
import HandS.Conv
import HandS.DictComp
import HandS.RaiseMore
import HandS.ExcOwn
import HandS.Exc
import HandS.ExcValue
import HandS.ExcField
import HandS.WordsExc
import HandS.FStr
import PyProof.ReprNest
import PyProof.StrHeap
import PyProof.FitsInt
import HandS.Dict
import KE.KExcIs
import PyProof.ReprDict
import KE.DataEq
import HandS.Property
set_option Elab.async false
set_option linter.all false
set_option maxRecDepth 100000
set_option maxHeartbeats 8000000
/-! a head by one kernel run: the part at given addresses, facts of it as one Bool, defs by names -/
namespace Hk
open PySem PySem.Spec PyProof.Rows L2
abbrev AlX : Type := Bool × Bool × List He.FnW
def obsX (xb : PySem.W.Frag → Bool) (fn : List He.DefD) (K : PySem.W.Frag) : AlX := (xb K, fn.all (fun d => d.ok K), fn.map fun d => He.fnW K d.at_)
def valX (fn : List He.DefD) : AlX := (true, true, fn.map He.DefD.val)
structure SaysX (xb : PySem.W.Frag → Bool) (fn : List He.DefD) (K : PySem.W.Frag) : Prop where
  eq : obsX xb fn K = valX fn
def hookX (as : List Addr) (xb : PySem.W.Frag → Bool) (fn : List He.DefD) : PySem.W.Hook where
  α := AlX
  obs := fun s => obsX xb fn (He.frG s.heap.get? as)
  val := fun _ => valX fn
  says := fun _ h => ∃ K : PySem.W.Frag, K.In h ∧ SaysX xb fn K
  of := fun _ _ e => ⟨_, He.frG_in, ⟨e⟩⟩
  keeps := fun _ _ _ ⟨K, hK, c⟩ k => ⟨K, PySem.W.Frag.In.keeps hK k, c⟩
def obX (as : List Addr) (xb : PySem.W.Frag → Bool) (fn : List He.DefD) (s : PySem.W.SharedT) : AlX := obsX xb fn (He.frG (HandSHeadRun.getT s) as)
theorem obX_eq {as : List Addr} {xb : PySem.W.Frag → Bool} {fn : List He.DefD} (s : PySem.W.SharedT) : obX as xb fn s = (hookX as xb fn).obs s.abs := by
  have e : HandSHeadRun.getT s = s.abs.heap.get? := funext (HandSHeadRun.getT_eq s)
  unfold obX
  rw [e] <;> rfl
section
variable {xb : PySem.W.Frag → Bool} {fn : List He.DefD} {K : PySem.W.Frag}
theorem SaysX.x (c : SaysX xb fn K) : xb K = true := congrArg (fun z : AlX => z.1) c.eq
theorem SaysX.def_ (c : SaysX xb fn K) (i : Nat) {d : He.DefD} (h : fn[i]? = some d := by rfl) : ∃ fd, FunD K d.name d.qual d.params d.body d.scope (d.dvs K) (d.kws K) (He.fAd K d.at_) fd := by
  have c2 : (fn.all fun d => d.ok K) = true := congrArg (fun z : AlX => z.2.1) c.eq
  have e : fn.map (fun d => He.fnW K d.at_) = fn.map He.DefD.val := congrArg (fun z : AlX => z.2.2) c.eq
  have e2 : (fn.map fun d => He.fnW K d.at_)[i]? = (fn.map He.DefD.val)[i]? := by rw [e]
  rw [List.getElem?_map, List.getElem?_map, h] at e2
  exact He.DefD.funD (Option.some.inj e2) (List.all_eq_true.mp c2 d (List.mem_of_getElem? h))
theorem allAt {bs : List Bool} (h : bs.all id = true) (i : Nat) {b : Bool} (e : bs[i]? = some b) : b = true := List.all_eq_true.mp h b (List.mem_of_getElem? e)
end
/-- a class that raises ValueError's tail, as an object -/
def excX (K : PySem.W.Frag) (D : Addr) : Bool := match K.lookup D with
  | some ⟨.type "type", _, .cls cd, sl⟩ => (match cd.mro, sl.toList with
    | .ref C' :: bm, [_, _, _, _, some (.builtin n), _] => decide (C' = D) && (decide (n = "ValueError.__new__") && (!cd.hasDel && (cd.hasDict && PySem.HandSPX.refsVE bm)))
    | _, _ => false)
  | _ => false
theorem excX_ok {K : PySem.W.Frag} {D : Addr} (q : excX K D = true) : ∃ nm q N bs bm sn sub ab col dd k0 k1 k2 k3 k5, K.lookup D = some (excClassObj nm q D N bs bm true sn sub ab col dd k0 k1 k2 k3 k5 "ValueError.__new__") ∧ PySem.HandSPX.refsVE bm = true := by
  unfold excX at q
  split at q
  · rename_i dd cd sl ho
    split at q
    · rename_i C' bm k0 k1 k2 k3 n k5 hm hs
      simp only [Bool.and_eq_true, decide_eq_true_eq, Bool.not_eq_true'] at q
      obtain ⟨rfl, rfl, hdel, hd, hr⟩ := q
      obtain ⟨nm, bs, mro, ns, qn, hdct, sn, sub, ab, col, del⟩ := cd
      dsimp only at hm hdel hd
      subst hm hdel hd
      have hsl : sl = #[k0, k1, k2, k3, some (.builtin "ValueError.__new__"), k5] := by
        obtain ⟨l⟩ := sl
        simp only at hs
        rw [hs]
      subst hsl
      exact ⟨nm, qn, ns, bs, bm, sn, sub, ab, col, dd, k0, k1, k2, k3, k5, ho, hr⟩
    · cases q
  · cases q
def seqB (K : PySem.W.Frag) (x : Str) (ws : List Str) : Bool := match PySem.W.nsIn K mainGlobals x with
  | some (some (.ref T)) => (match K.lookup T with
    | some ⟨.type c, _, .seq its _, _⟩ => decide (c = "tuple") && (decide (its.size ≤ sizeLine) && He.relAll (ws.map V.str) its.toList)
    | _ => false)
  | _ => false
theorem seqB_ok {K : PySem.W.Frag} {x : Str} {ws : List Str} (h : seqB K x ws = true) : ∃ (T : Addr) (o : Obj) (its : Array Value) (n : Nat), PySem.W.nsIn K mainGlobals x = some (some (.ref T)) ∧ K.lookup T = some o ∧ o.cls = .type "tuple" ∧ o.data = .seq its n ∧ its.size ≤ sizeLine ∧ Vals (ws.map V.str) its.toList := by
  unfold seqB at h
  split at h
  · rename_i T hT
    split at h
    · rename_i c od its n sl ho
      simp only [Bool.and_eq_true, decide_eq_true_eq] at h
      obtain ⟨rfl, h2, h3⟩ := h
      exact ⟨T, _, its, n, hT, ho, rfl, rfl, h2, He.relAll_ok h3⟩
    · cases h
  · cases h
def strB (K : PySem.W.Frag) (x v : Str) : Bool := match PySem.W.nsIn K mainGlobals x with
  | some (some (.str y _)) => decide (y = v)
  | _ => false
theorem strB_ok {K : PySem.W.Frag} {x v : Str} (h : strB K x v = true) : ∃ t : Nat, PySem.W.nsIn K mainGlobals x = some (some (.str v t)) := by
  unfold strB at h
  split at h
  · rename_i y t e
    have := of_decide_eq_true h
    subst this
    exact ⟨t, e⟩
  · cases h
def intB (K : PySem.W.Frag) (x : Str) (v : Int) : Bool := match PySem.W.nsIn K mainGlobals x with
  | some (some (.int y _)) => decide (y = v)
  | _ => false
theorem intB_ok {K : PySem.W.Frag} {x : Str} {v : Int} (h : intB K x v = true) : ∃ (i : Int) (t : Nat), PySem.W.nsIn K mainGlobals x = some (some (.int i t)) ∧ i = v := by
  unfold intB at h
  split at h
  · rename_i y t e
    exact ⟨y, t, e, of_decide_eq_true h⟩
  · cases h
end Hk
namespace Am
open PySem PySem.Spec PyProof.Rows L2
def top (i : Nat) : Stmt := PySem.Challenge.pw_whoseuse_k00_errors.main.body.getD i (.Pass ⟨0, 0, 0, 0⟩)
abbrev sF__wall : Stmt := top 1
abbrev sInitE : Stmt := inClass (top 3) 0
abbrev sWhole : Stmt := top 39
abbrev sIsName : Stmt := top 40
abbrev sDec : Stmt := top 41
abbrev sAsc : Stmt := top 42
abbrev sInit : Stmt := inClass (top 46) 0
abbrev sText : Stmt := inClass (top 46) 1
abbrev sOfA : Stmt := inClass (top 46) 2
abbrev sRep : Stmt := inClass (top 46) 3
abbrev sEq : Stmt := inClass (top 46) 4
abbrev sLt : Stmt := inClass (top 46) 5
abbrev sLe : Stmt := inClass (top 46) 6
abbrev sGt : Stmt := inClass (top 46) 7
abbrev sGe : Stmt := inClass (top 46) 8
abbrev sNeg : Stmt := inClass (top 46) 9
abbrev sAbs : Stmt := inClass (top 46) 10
abbrev sAdd : Stmt := inClass (top 46) 11
abbrev sRadd : Stmt := inClass (top 46) 12
abbrev sSub : Stmt := inClass (top 46) 13
abbrev sRsub : Stmt := inClass (top 46) 14
abbrev sMul : Stmt := inClass (top 46) 15
abbrev sRmul : Stmt := inClass (top 46) 16
abbrev sFdiv : Stmt := inClass (top 46) 17
abbrev sRfdiv : Stmt := inClass (top 46) 18
abbrev sIsAm : Stmt := top 47
abbrev sParts : Stmt := top 48
abbrev sQuot : Stmt := top 49
abbrev sFig : Stmt := top 50
abbrev sHInit : Stmt := inClass (top 54) 0
abbrev sHText : Stmt := inClass (top 54) 1
abbrev sHLives : Stmt := inClass (top 54) 2
abbrev sHRoom : Stmt := inClass (top 54) 3
abbrev sHPrice : Stmt := inClass (top 54) 4
abbrev sHIsUse : Stmt := inClass (top 54) 5
abbrev sHEq : Stmt := inClass (top 54) 6
abbrev sHIsPlace : Stmt := inClass (top 54) 7
abbrev sHIsDay : Stmt := inClass (top 54) 8
abbrev sHIsPU : Stmt := inClass (top 54) 9
abbrev sDrInit : Stmt := inClass (top 55) 0
abbrev sDrTake : Stmt := inClass (top 55) 1
abbrev sDrDays : Stmt := inClass (top 55) 2
abbrev sDrPlace : Stmt := inClass (top 55) 3
abbrev sDrPrice : Stmt := inClass (top 55) 4
abbrev sDrStay : Stmt := inClass (top 55) 5
abbrev sDrHasP : Stmt := inClass (top 55) 6
abbrev sDrHasF : Stmt := inClass (top 55) 7
abbrev sDrIsLet : Stmt := inClass (top 55) 8
abbrev sDrafted : Stmt := top 56
abbrev sTenants : Stmt := top 57
abbrev sPricesOf : Stmt := top 58
abbrev sJar : Stmt := top 60
abbrev sTake : Stmt := top 61
abbrev sOf : Stmt := top 62
abbrev sL_odd : Stmt := top 63
abbrev sL_kinds_of : Stmt := top 64
abbrev sL_created : Stmt := top 65
abbrev sL_is_raised : Stmt := top 66
abbrev sL_fine : Stmt := top 67
abbrev sLaw : Stmt := top 68
end Am
/-! the row's head: the facts as Bools, the one run -/
namespace Er
open PySem PySem.Spec PyProof.Rows L2 Am
def clsB (K : PySem.W.Frag) (fI D : Addr) : Bool := decide (PySem.W.findIn K (.ref D) "__setattr__" = some (some (.builtin "object.__setattr__"))) && (decide (PySem.W.subIn K (.ref D) (.type "BaseException") = some true) && (decide (PySem.W.typeIn K (.ref D) = some (.type "type")) && (PySem.W.keepIn K (.ref D) &&
  (decide (PySem.W.findIn K (.ref D) "value" = some none) && (decide (PySem.W.findIn K (.ref D) "__getattribute__" = some (some (.builtin "BaseException.__getattribute__"))) && (decide (PySem.W.findIn K (.ref D) "__getattr__" = some none) && (PySem.W.hasDictIn K D && (PySem.W.isClsIn K D && (decide (PySem.W.subIn K (.ref D) (.ref D) = some true) &&
  (decide (PySem.W.findIn K (.ref D) "__init__" = some (some (.ref fI))) && (decide (PySem.W.findIn K (.ref D) "__class__" = some (some (.builtin "object.__class__"))) && decide (PySem.W.mroIn K D (.type "object") = some true))))))))))))
def oneB (K : PySem.W.Frag) (M fI D : Addr) : Bool := clsB K fI D && (decide (PySem.W.subIn K (.ref D) (.ref M) = some true) && (decide (PySem.W.kitOne K (.ref D) (.ref M) = some true) && (decide (PySem.W.kitOne K (.ref D) (.type "ValueError") = some true) && decide (PySem.W.kitOne K (.ref M) (.ref D) = some false))))
def clL (l : List Addr) (i : Nat) : Addr := l.getD i 0
def rowB (K : PySem.W.Frag) (l : List Addr) (i : Nat) : Bool := (List.range 32).all fun j => decide (PySem.W.kitOne K (.ref (clL l i)) (.ref (clL l j)) = some (decide (j = i)))
def bs0 (K : PySem.W.Frag) : Bool := (decide (PySem.W.nsIn K mainGlobals "Amount" = some (some (.ref (He.ga K "Amount")))) && (decide (PySem.W.nsIn K mainGlobals "House" = some (some (.ref (He.ga K "House")))) && (decide (PySem.W.nsIn K mainGlobals "Draft" = some (some (.ref (He.ga K "Draft")))) && (decide (PySem.W.nsIn K mainGlobals "MeterError" = some (some (.ref (He.ga K "MeterError")))) && (decide (PySem.W.nsIn K mainGlobals "gcd" = some (some (.builtin "math.gcd"))) && (decide (PySem.W.nsIn K mainGlobals "isinstance" = some none) && (decide (PySem.W.nsIn K mainGlobals "int" = some none) && (decide (PySem.W.nsIn K mainGlobals "bool" = some none) && (decide (PySem.W.nsIn K mainGlobals "len" = some none) && (decide (PySem.W.nsIn K mainGlobals "abs" = some none) && (decide (PySem.W.nsIn K mainGlobals "max" = some none) && (decide (PySem.W.nsIn K mainGlobals "min" = some none) && (decide (PySem.W.nsIn K mainGlobals "range" = some none) && (decide (PySem.W.nsIn K mainGlobals "all" = some none) && (decide (PySem.W.nsIn K mainGlobals "repr" = some none) && (decide (PySem.W.nsIn K mainGlobals "str" = some none) && (decide (PySem.W.nsIn K mainGlobals "any" = some none) && (decide (PySem.W.nsIn K mainGlobals "tuple" = some none) && (decide (PySem.W.nsIn K mainGlobals "sorted" = some none) && (decide (PySem.W.nsIn K mainGlobals "enumerate" = some none) && (decide (PySem.W.nsIn K mainGlobals "ValueError" = some none) && (decide (PySem.W.plainGet K (He.ga K "Amount") Str.empty = true) && (decide (PySem.W.hasDictIn K (He.ga K "Amount") = true) && decide (PySem.W.plainOver K (He.ga K "Amount") = true))))))))))))))))))))))))
def bs1 (K : PySem.W.Frag) : Bool := (decide (PySem.W.findIn K (.ref (He.ga K "Amount")) "__setattr__" = some (some (.builtin "object.__setattr__"))) && (decide (PySem.W.makesIn K (He.ga K "Amount") = true) && (decide (PySem.W.keepIn K (.ref (He.ga K "Amount")) = true) && (decide (PySem.W.selfFirst K (He.ga K "Amount") = true) && (decide (PySem.W.findIn K (.ref (He.ga K "Amount")) "__ne__" = some (some (.builtin "object.__ne__"))) && (decide (PySem.W.mroIn K (He.ga K "Amount") (.type "object") = some true) && (decide (PySem.W.findIn K (.ref (He.ga K "Amount")) "__class__" = some (some (.builtin "object.__class__"))) && (decide (PySem.W.specialIn K (.builtin "object.__class__") "__get__" = some (some (.builtin "getset_descriptor.__get__"))) && (decide (PySem.W.takesIn K (.builtin "object.__class__") = some true) && (decide (PySem.W.subIn K (.ref (He.ga K "Amount")) (.type "int") = some false) && (decide (PySem.W.subIn K (.type "int") (.ref (He.ga K "Amount")) = some false) && (decide (PySem.W.kitOne K (.type "int") (.ref (He.ga K "Amount")) = some false) && (decide (PySem.W.subIn K (.ref (He.ga K "Amount")) (.type "bool") = some false) && (decide (PySem.W.subIn K (.type "bool") (.ref (He.ga K "Amount")) = some false) && (decide (PySem.W.kitOne K (.type "bool") (.ref (He.ga K "Amount")) = some false) && (decide (PySem.W.subIn K (.ref (He.ga K "Amount")) (.type "NoneType") = some false) && (decide (PySem.W.subIn K (.type "NoneType") (.ref (He.ga K "Amount")) = some false) && (decide (PySem.W.kitOne K (.type "NoneType") (.ref (He.ga K "Amount")) = some false) && (decide (PySem.W.subIn K (.ref (He.ga K "Amount")) (.type "str") = some false) && (decide (PySem.W.subIn K (.type "str") (.ref (He.ga K "Amount")) = some false) && (decide (PySem.W.kitOne K (.type "str") (.ref (He.ga K "Amount")) = some false) && (decide (PySem.W.subIn K (.ref (He.ga K "Amount")) (.type "list") = some false) && (decide (PySem.W.subIn K (.type "list") (.ref (He.ga K "Amount")) = some false) && decide (PySem.W.kitOne K (.type "list") (.ref (He.ga K "Amount")) = some false))))))))))))))))))))))))
def bs2 (K : PySem.W.Frag) : Bool := (decide (PySem.W.subIn K (.ref (He.ga K "Amount")) (.type "tuple") = some false) && (decide (PySem.W.subIn K (.type "tuple") (.ref (He.ga K "Amount")) = some false) && (decide (PySem.W.kitOne K (.type "tuple") (.ref (He.ga K "Amount")) = some false) && (decide (PySem.W.subIn K (.ref (He.ga K "Amount")) (.type "dict") = some false) && (decide (PySem.W.subIn K (.type "dict") (.ref (He.ga K "Amount")) = some false) && (decide (PySem.W.kitOne K (.type "dict") (.ref (He.ga K "Amount")) = some false) && (decide (PySem.W.kitOne K (.ref (He.ga K "Amount")) (.ref (He.ga K "Amount")) = some true) && (decide (PySem.W.kitOne K (.ref (He.ga K "Amount")) (.type "int") = some false) && (decide (PySem.W.findIn K (.ref (He.ga K "Amount")) "number" = some none) && (decide (PySem.W.findIn K (.ref (He.ga K "Amount")) "under" = some none) && (decide (PySem.W.findIn K (.ref (He.ga K "Amount")) "__init__" = some (some (.ref (He.ma K (He.ga K "Amount") "__init__")))) && (decide (PySem.W.isFn K (.ref (He.ma K (He.ga K "Amount") "__init__")) = true) && (decide (Hk.intB K "BLOCK" (10 ^ 60) = true) && (decide (PySem.W.plainGet K (He.ga K "House") Str.empty = true) && (decide (PySem.W.hasDictIn K (He.ga K "House") = true) && (decide (PySem.W.plainOver K (He.ga K "House") = true) && (decide (PySem.W.findIn K (.ref (He.ga K "House")) "__setattr__" = some (some (.builtin "object.__setattr__"))) && (decide (PySem.W.makesIn K (He.ga K "House") = true) && (decide (PySem.W.keepIn K (.ref (He.ga K "House")) = true) && (decide (PySem.W.findIn K (.ref (He.ga K "House")) "_text" = some none) && (decide (PySem.W.findIn K (.ref (He.ga K "House")) "days" = some none) && (decide (PySem.W.findIn K (.ref (He.ga K "House")) "flats" = some none) && (decide (PySem.W.findIn K (.ref (He.ga K "House")) "meters" = some none) && decide (PySem.W.findIn K (.ref (He.ga K "House")) "people" = some none))))))))))))))))))))))))
def bs3 (K : PySem.W.Frag) : Bool := (decide (PySem.W.findIn K (.ref (He.ga K "House")) "_rooms" = some none) && (decide (PySem.W.findIn K (.ref (He.ga K "House")) "_tenants" = some none) && (decide (PySem.W.findIn K (.ref (He.ga K "House")) "_prices" = some none) && (decide (PySem.W.plainGet K (He.ga K "Draft") Str.empty = true) && (decide (PySem.W.hasDictIn K (He.ga K "Draft") = true) && (decide (PySem.W.plainOver K (He.ga K "Draft") = true) && (decide (PySem.W.findIn K (.ref (He.ga K "Draft")) "__setattr__" = some (some (.builtin "object.__setattr__"))) && (decide (PySem.W.makesIn K (He.ga K "Draft") = true) && (decide (PySem.W.keepIn K (.ref (He.ga K "Draft")) = true) && (decide (PySem.W.findIn K (.ref (He.ga K "Draft")) "days" = some none) && (decide (PySem.W.findIn K (.ref (He.ga K "Draft")) "places" = some none) && (decide (PySem.W.findIn K (.ref (He.ga K "Draft")) "tariffs" = some none) && (decide (PySem.W.findIn K (.ref (He.ga K "Draft")) "stays" = some none) && (decide (Hk.seqB K "TAKEN" ["main", "house", "rest"] = true) && (decide (Hk.strB K "LETTERS" "abcdefghijklmnopqrstuvwxyz" = true) && (decide (Hk.intB K "FIRST_PRICE" 1 = true) && (decide (Hk.strB K "NOBODY" "house" = true) && (decide (PySem.W.findIn K (.ref (He.ga K "Draft")) "__init__" = some (some (.ref (He.ma K (He.ga K "Draft") "__init__")))) && (decide (PySem.W.isFn K (.ref (He.ma K (He.ga K "Draft") "__init__")) = true) && (decide (PySem.W.findIn K (.ref (He.ga K "Draft")) "take" = some (some (.ref (He.ma K (He.ga K "Draft") "take")))) && (decide (PySem.W.isFn K (.ref (He.ma K (He.ga K "Draft") "take")) = true) && (decide (PySem.W.findIn K (.ref (He.ga K "Draft")) "take_days" = some (some (.ref (He.ma K (He.ga K "Draft") "take_days")))) && (decide (PySem.W.isFn K (.ref (He.ma K (He.ga K "Draft") "take_days")) = true) && decide (PySem.W.findIn K (.ref (He.ga K "Draft")) "take_place" = some (some (.ref (He.ma K (He.ga K "Draft") "take_place")))))))))))))))))))))))))))
def bs4 (K : PySem.W.Frag) : Bool := (decide (PySem.W.isFn K (.ref (He.ma K (He.ga K "Draft") "take_place")) = true) && (decide (PySem.W.findIn K (.ref (He.ga K "Draft")) "take_price" = some (some (.ref (He.ma K (He.ga K "Draft") "take_price")))) && (decide (PySem.W.isFn K (.ref (He.ma K (He.ga K "Draft") "take_price")) = true) && (decide (PySem.W.findIn K (.ref (He.ga K "Draft")) "take_stay" = some (some (.ref (He.ma K (He.ga K "Draft") "take_stay")))) && (decide (PySem.W.isFn K (.ref (He.ma K (He.ga K "Draft") "take_stay")) = true) && (decide (PySem.W.findIn K (.ref (He.ga K "Draft")) "has_place" = some (some (.ref (He.ma K (He.ga K "Draft") "has_place")))) && (decide (PySem.W.isFn K (.ref (He.ma K (He.ga K "Draft") "has_place")) = true) && (decide (PySem.W.findIn K (.ref (He.ga K "Draft")) "has_flat" = some (some (.ref (He.ma K (He.ga K "Draft") "has_flat")))) && (decide (PySem.W.isFn K (.ref (He.ma K (He.ga K "Draft") "has_flat")) = true) && (decide (PySem.W.findIn K (.ref (He.ga K "Draft")) "is_let" = some (some (.ref (He.ma K (He.ga K "Draft") "is_let")))) && (decide (PySem.W.isFn K (.ref (He.ma K (He.ga K "Draft") "is_let")) = true) && (decide (PySem.W.findIn K (.ref (He.ga K "House")) "__init__" = some (some (.ref (He.ma K (He.ga K "House") "__init__")))) && (decide (PySem.W.isFn K (.ref (He.ma K (He.ga K "House") "__init__")) = true) && (decide (PySem.W.selfFirst K (He.ga K "House") = true) && (decide (PySem.W.findIn K (.ref (He.ga K "House")) "__ne__" = some (some (.builtin "object.__ne__"))) && (decide (PySem.W.mroIn K (He.ga K "House") (.type "object") = some true) && (decide (PySem.W.findIn K (.ref (He.ga K "House")) "__class__" = some (some (.builtin "object.__class__"))) && (decide (PySem.W.specialIn K (.builtin "object.__class__") "__get__" = some (some (.builtin "getset_descriptor.__get__"))) && (decide (PySem.W.takesIn K (.builtin "object.__class__") = some true) && (decide (PySem.W.subIn K (.ref (He.ga K "House")) (.type "int") = some false) && (decide (PySem.W.subIn K (.type "int") (.ref (He.ga K "House")) = some false) && (decide (PySem.W.kitOne K (.type "int") (.ref (He.ga K "House")) = some false) && (decide (PySem.W.subIn K (.ref (He.ga K "House")) (.type "bool") = some false) && decide (PySem.W.subIn K (.type "bool") (.ref (He.ga K "House")) = some false))))))))))))))))))))))))
def bs5 (K : PySem.W.Frag) : Bool := (decide (PySem.W.kitOne K (.type "bool") (.ref (He.ga K "House")) = some false) && (decide (PySem.W.subIn K (.ref (He.ga K "House")) (.type "NoneType") = some false) && (decide (PySem.W.subIn K (.type "NoneType") (.ref (He.ga K "House")) = some false) && (decide (PySem.W.kitOne K (.type "NoneType") (.ref (He.ga K "House")) = some false) && (decide (PySem.W.subIn K (.ref (He.ga K "House")) (.type "str") = some false) && (decide (PySem.W.subIn K (.type "str") (.ref (He.ga K "House")) = some false) && (decide (PySem.W.kitOne K (.type "str") (.ref (He.ga K "House")) = some false) && (decide (PySem.W.subIn K (.ref (He.ga K "House")) (.type "list") = some false) && (decide (PySem.W.subIn K (.type "list") (.ref (He.ga K "House")) = some false) && (decide (PySem.W.kitOne K (.type "list") (.ref (He.ga K "House")) = some false) && (decide (PySem.W.subIn K (.ref (He.ga K "House")) (.type "tuple") = some false) && (decide (PySem.W.subIn K (.type "tuple") (.ref (He.ga K "House")) = some false) && (decide (PySem.W.kitOne K (.type "tuple") (.ref (He.ga K "House")) = some false) && (decide (PySem.W.subIn K (.ref (He.ga K "House")) (.type "dict") = some false) && (decide (PySem.W.subIn K (.type "dict") (.ref (He.ga K "House")) = some false) && (decide (PySem.W.kitOne K (.type "dict") (.ref (He.ga K "House")) = some false) && (decide (PySem.W.kitOne K (.ref (He.ga K "House")) (.ref (He.ga K "House")) = some true) && (decide (PySem.W.kitOne K (.ref (He.ga K "House")) (.type "int") = some false) && (decide (PySem.W.kitOne K (.ref (He.ga K "Amount")) (.ref (He.ga K "House")) = some false) && (decide (PySem.W.nsIn K mainGlobals "MeterError" = some (some (.ref (He.ga K "MeterError")))) && (decide (Hk.excX K (He.ga K "MeterError") = true) && (decide (PySem.W.findIn K (.ref (He.ga K "MeterError")) "__init__" = some (some (.ref (He.ma K (He.ga K "MeterError") "__init__")))) && (decide (PySem.W.typeIn K (.ref (He.ma K (He.ga K "MeterError") "__init__")) = some (.type "function")) && decide (PySem.W.nsIn K mainGlobals "BadAmount" = some (some (.ref (He.ga K "BadAmount")))))))))))))))))))))))))))
def bs6 (K : PySem.W.Frag) : Bool := (decide (Hk.excX K (He.ga K "BadAmount") = true) && (decide (PySem.W.nsIn K mainGlobals "NoQuotient" = some (some (.ref (He.ga K "NoQuotient")))) && (decide (Hk.excX K (He.ga K "NoQuotient") = true) && (decide (PySem.W.nsIn K mainGlobals "BadText" = some (some (.ref (He.ga K "BadText")))) && (decide (Hk.excX K (He.ga K "BadText") = true) && (decide (PySem.W.nsIn K mainGlobals "BadHouse" = some (some (.ref (He.ga K "BadHouse")))) && (decide (Hk.excX K (He.ga K "BadHouse") = true) && (decide (PySem.W.nsIn K mainGlobals "NoFlat" = some (some (.ref (He.ga K "NoFlat")))) && (decide (Hk.excX K (He.ga K "NoFlat") = true) && (decide (PySem.W.nsIn K mainGlobals "BadDay" = some (some (.ref (He.ga K "BadDay")))) && (decide (Hk.excX K (He.ga K "BadDay") = true) && (decide (PySem.W.nsIn K mainGlobals "BadWeighing" = some (some (.ref (He.ga K "BadWeighing")))) && (decide (Hk.excX K (He.ga K "BadWeighing") = true) && (decide (PySem.W.nsIn K mainGlobals "OtherHouse" = some (some (.ref (He.ga K "OtherHouse")))) && (decide (Hk.excX K (He.ga K "OtherHouse") = true) && (decide (PySem.W.nsIn K mainGlobals "NoCell" = some (some (.ref (He.ga K "NoCell")))) && (decide (Hk.excX K (He.ga K "NoCell") = true) && (decide (PySem.W.nsIn K mainGlobals "BadUse" = some (some (.ref (He.ga K "BadUse")))) && (decide (Hk.excX K (He.ga K "BadUse") = true) && (decide (PySem.W.nsIn K mainGlobals "NoPerson" = some (some (.ref (He.ga K "NoPerson")))) && (decide (Hk.excX K (He.ga K "NoPerson") = true) && (decide (PySem.W.nsIn K mainGlobals "NoMeter" = some (some (.ref (He.ga K "NoMeter")))) && (decide (Hk.excX K (He.ga K "NoMeter") = true) && decide (PySem.W.nsIn K mainGlobals "BadMorning" = some (some (.ref (He.ga K "BadMorning")))))))))))))))))))))))))))
def bs7 (K : PySem.W.Frag) : Bool := (decide (Hk.excX K (He.ga K "BadMorning") = true) && (decide (PySem.W.nsIn K mainGlobals "BadNumbers" = some (some (.ref (He.ga K "BadNumbers")))) && (decide (Hk.excX K (He.ga K "BadNumbers") = true) && (decide (PySem.W.nsIn K mainGlobals "NoNumber" = some (some (.ref (He.ga K "NoNumber")))) && (decide (Hk.excX K (He.ga K "NoNumber") = true) && (decide (PySem.W.nsIn K mainGlobals "BadNumber" = some (some (.ref (He.ga K "BadNumber")))) && (decide (Hk.excX K (He.ga K "BadNumber") = true) && (decide (PySem.W.nsIn K mainGlobals "BadPlaces" = some (some (.ref (He.ga K "BadPlaces")))) && (decide (Hk.excX K (He.ga K "BadPlaces") = true) && (decide (PySem.W.nsIn K mainGlobals "BadPaper" = some (some (.ref (He.ga K "BadPaper")))) && (decide (Hk.excX K (He.ga K "BadPaper") = true) && (decide (PySem.W.nsIn K mainGlobals "Contrary" = some (some (.ref (He.ga K "Contrary")))) && (decide (Hk.excX K (He.ga K "Contrary") = true) && (decide (PySem.W.nsIn K mainGlobals "TooMany" = some (some (.ref (He.ga K "TooMany")))) && (decide (Hk.excX K (He.ga K "TooMany") = true) && (decide (PySem.W.nsIn K mainGlobals "Back" = some (some (.ref (He.ga K "Back")))) && (decide (Hk.excX K (He.ga K "Back") = true) && (decide (PySem.W.nsIn K mainGlobals "NotYet" = some (some (.ref (He.ga K "NotYet")))) && (decide (Hk.excX K (He.ga K "NotYet") = true) && (decide (PySem.W.nsIn K mainGlobals "Past" = some (some (.ref (He.ga K "Past")))) && (decide (Hk.excX K (He.ga K "Past") = true) && (decide (PySem.W.nsIn K mainGlobals "Expected" = some (some (.ref (He.ga K "Expected")))) && (decide (Hk.excX K (He.ga K "Expected") = true) && decide (PySem.W.nsIn K mainGlobals "NothingToUndo" = some (some (.ref (He.ga K "NothingToUndo")))))))))))))))))))))))))))
def bs8 (K : PySem.W.Frag) : Bool := (decide (Hk.excX K (He.ga K "NothingToUndo") = true) && (decide (PySem.W.nsIn K mainGlobals "NothingToRedo" = some (some (.ref (He.ga K "NothingToRedo")))) && (decide (Hk.excX K (He.ga K "NothingToRedo") = true) && (decide (PySem.W.nsIn K mainGlobals "BadJournal" = some (some (.ref (He.ga K "BadJournal")))) && (decide (Hk.excX K (He.ga K "BadJournal") = true) && (decide (PySem.W.nsIn K mainGlobals "BadRule" = some (some (.ref (He.ga K "BadRule")))) && (decide (Hk.excX K (He.ga K "BadRule") = true) && (decide (PySem.W.nsIn K mainGlobals "BadRun" = some (some (.ref (He.ga K "BadRun")))) && (decide (Hk.excX K (He.ga K "BadRun") = true) && (decide (PySem.W.nsIn K mainGlobals "BadReadings" = some (some (.ref (He.ga K "BadReadings")))) && (decide (Hk.excX K (He.ga K "BadReadings") = true) && (decide (PySem.W.nsIn K mainGlobals "BadOffers" = some (some (.ref (He.ga K "BadOffers")))) && (decide (Hk.excX K (He.ga K "BadOffers") = true) && (decide (PySem.W.nsIn K mainGlobals "BadLine" = some (some (.ref (He.ga K "BadLine")))) && (decide (Hk.excX K (He.ga K "BadLine") = true) && (decide (clsB K (He.ma K (He.ga K "MeterError") "__init__") (He.ga K "MeterError") = true) && (decide (oneB K (He.ga K "MeterError") (He.ma K (He.ga K "MeterError") "__init__") (He.ga K "BadAmount") = true) && (decide (oneB K (He.ga K "MeterError") (He.ma K (He.ga K "MeterError") "__init__") (He.ga K "NoQuotient") = true) && (decide (oneB K (He.ga K "MeterError") (He.ma K (He.ga K "MeterError") "__init__") (He.ga K "BadText") = true) && (decide (oneB K (He.ga K "MeterError") (He.ma K (He.ga K "MeterError") "__init__") (He.ga K "BadHouse") = true) && (decide (oneB K (He.ga K "MeterError") (He.ma K (He.ga K "MeterError") "__init__") (He.ga K "NoFlat") = true) && (decide (oneB K (He.ga K "MeterError") (He.ma K (He.ga K "MeterError") "__init__") (He.ga K "BadDay") = true) && (decide (oneB K (He.ga K "MeterError") (He.ma K (He.ga K "MeterError") "__init__") (He.ga K "BadWeighing") = true) && decide (oneB K (He.ga K "MeterError") (He.ma K (He.ga K "MeterError") "__init__") (He.ga K "OtherHouse") = true))))))))))))))))))))))))
def bs9 (K : PySem.W.Frag) : Bool := (decide (oneB K (He.ga K "MeterError") (He.ma K (He.ga K "MeterError") "__init__") (He.ga K "NoCell") = true) && (decide (oneB K (He.ga K "MeterError") (He.ma K (He.ga K "MeterError") "__init__") (He.ga K "BadUse") = true) && (decide (oneB K (He.ga K "MeterError") (He.ma K (He.ga K "MeterError") "__init__") (He.ga K "NoPerson") = true) && (decide (oneB K (He.ga K "MeterError") (He.ma K (He.ga K "MeterError") "__init__") (He.ga K "NoMeter") = true) && (decide (oneB K (He.ga K "MeterError") (He.ma K (He.ga K "MeterError") "__init__") (He.ga K "BadMorning") = true) && (decide (oneB K (He.ga K "MeterError") (He.ma K (He.ga K "MeterError") "__init__") (He.ga K "BadNumbers") = true) && (decide (oneB K (He.ga K "MeterError") (He.ma K (He.ga K "MeterError") "__init__") (He.ga K "NoNumber") = true) && (decide (oneB K (He.ga K "MeterError") (He.ma K (He.ga K "MeterError") "__init__") (He.ga K "BadNumber") = true) && (decide (oneB K (He.ga K "MeterError") (He.ma K (He.ga K "MeterError") "__init__") (He.ga K "BadPlaces") = true) && (decide (oneB K (He.ga K "MeterError") (He.ma K (He.ga K "MeterError") "__init__") (He.ga K "BadPaper") = true) && (decide (oneB K (He.ga K "MeterError") (He.ma K (He.ga K "MeterError") "__init__") (He.ga K "Contrary") = true) && (decide (oneB K (He.ga K "MeterError") (He.ma K (He.ga K "MeterError") "__init__") (He.ga K "TooMany") = true) && (decide (oneB K (He.ga K "MeterError") (He.ma K (He.ga K "MeterError") "__init__") (He.ga K "Back") = true) && (decide (oneB K (He.ga K "MeterError") (He.ma K (He.ga K "MeterError") "__init__") (He.ga K "NotYet") = true) && (decide (oneB K (He.ga K "MeterError") (He.ma K (He.ga K "MeterError") "__init__") (He.ga K "Past") = true) && (decide (oneB K (He.ga K "MeterError") (He.ma K (He.ga K "MeterError") "__init__") (He.ga K "Expected") = true) && (decide (oneB K (He.ga K "MeterError") (He.ma K (He.ga K "MeterError") "__init__") (He.ga K "NothingToUndo") = true) && (decide (oneB K (He.ga K "MeterError") (He.ma K (He.ga K "MeterError") "__init__") (He.ga K "NothingToRedo") = true) && (decide (oneB K (He.ga K "MeterError") (He.ma K (He.ga K "MeterError") "__init__") (He.ga K "BadJournal") = true) && (decide (oneB K (He.ga K "MeterError") (He.ma K (He.ga K "MeterError") "__init__") (He.ga K "BadRule") = true) && (decide (oneB K (He.ga K "MeterError") (He.ma K (He.ga K "MeterError") "__init__") (He.ga K "BadRun") = true) && (decide (oneB K (He.ga K "MeterError") (He.ma K (He.ga K "MeterError") "__init__") (He.ga K "BadReadings") = true) && (decide (oneB K (He.ga K "MeterError") (He.ma K (He.ga K "MeterError") "__init__") (He.ga K "BadOffers") = true) && decide (oneB K (He.ga K "MeterError") (He.ma K (He.ga K "MeterError") "__init__") (He.ga K "BadLine") = true))))))))))))))))))))))))
def bs10 (K : PySem.W.Frag) : Bool := (decide (rowB K [(He.ga K "BadAmount"), (He.ga K "NoQuotient"), (He.ga K "BadText"), (He.ga K "BadHouse"), (He.ga K "NoFlat"), (He.ga K "BadDay"), (He.ga K "BadWeighing"), (He.ga K "OtherHouse"), (He.ga K "NoCell"), (He.ga K "BadUse"), (He.ga K "NoPerson"), (He.ga K "NoMeter"), (He.ga K "BadMorning"), (He.ga K "BadNumbers"), (He.ga K "NoNumber"), (He.ga K "BadNumber"), (He.ga K "BadPlaces"), (He.ga K "BadPaper"), (He.ga K "Contrary"), (He.ga K "TooMany"), (He.ga K "Back"), (He.ga K "NotYet"), (He.ga K "Past"), (He.ga K "Expected"), (He.ga K "NothingToUndo"), (He.ga K "NothingToRedo"), (He.ga K "BadJournal"), (He.ga K "BadRule"), (He.ga K "BadRun"), (He.ga K "BadReadings"), (He.ga K "BadOffers"), (He.ga K "BadLine")] 0 = true) && (decide (rowB K [(He.ga K "BadAmount"), (He.ga K "NoQuotient"), (He.ga K "BadText"), (He.ga K "BadHouse"), (He.ga K "NoFlat"), (He.ga K "BadDay"), (He.ga K "BadWeighing"), (He.ga K "OtherHouse"), (He.ga K "NoCell"), (He.ga K "BadUse"), (He.ga K "NoPerson"), (He.ga K "NoMeter"), (He.ga K "BadMorning"), (He.ga K "BadNumbers"), (He.ga K "NoNumber"), (He.ga K "BadNumber"), (He.ga K "BadPlaces"), (He.ga K "BadPaper"), (He.ga K "Contrary"), (He.ga K "TooMany"), (He.ga K "Back"), (He.ga K "NotYet"), (He.ga K "Past"), (He.ga K "Expected"), (He.ga K "NothingToUndo"), (He.ga K "NothingToRedo"), (He.ga K "BadJournal"), (He.ga K "BadRule"), (He.ga K "BadRun"), (He.ga K "BadReadings"), (He.ga K "BadOffers"), (He.ga K "BadLine")] 1 = true) && (decide (rowB K [(He.ga K "BadAmount"), (He.ga K "NoQuotient"), (He.ga K "BadText"), (He.ga K "BadHouse"), (He.ga K "NoFlat"), (He.ga K "BadDay"), (He.ga K "BadWeighing"), (He.ga K "OtherHouse"), (He.ga K "NoCell"), (He.ga K "BadUse"), (He.ga K "NoPerson"), (He.ga K "NoMeter"), (He.ga K "BadMorning"), (He.ga K "BadNumbers"), (He.ga K "NoNumber"), (He.ga K "BadNumber"), (He.ga K "BadPlaces"), (He.ga K "BadPaper"), (He.ga K "Contrary"), (He.ga K "TooMany"), (He.ga K "Back"), (He.ga K "NotYet"), (He.ga K "Past"), (He.ga K "Expected"), (He.ga K "NothingToUndo"), (He.ga K "NothingToRedo"), (He.ga K "BadJournal"), (He.ga K "BadRule"), (He.ga K "BadRun"), (He.ga K "BadReadings"), (He.ga K "BadOffers"), (He.ga K "BadLine")] 2 = true) && (decide (rowB K [(He.ga K "BadAmount"), (He.ga K "NoQuotient"), (He.ga K "BadText"), (He.ga K "BadHouse"), (He.ga K "NoFlat"), (He.ga K "BadDay"), (He.ga K "BadWeighing"), (He.ga K "OtherHouse"), (He.ga K "NoCell"), (He.ga K "BadUse"), (He.ga K "NoPerson"), (He.ga K "NoMeter"), (He.ga K "BadMorning"), (He.ga K "BadNumbers"), (He.ga K "NoNumber"), (He.ga K "BadNumber"), (He.ga K "BadPlaces"), (He.ga K "BadPaper"), (He.ga K "Contrary"), (He.ga K "TooMany"), (He.ga K "Back"), (He.ga K "NotYet"), (He.ga K "Past"), (He.ga K "Expected"), (He.ga K "NothingToUndo"), (He.ga K "NothingToRedo"), (He.ga K "BadJournal"), (He.ga K "BadRule"), (He.ga K "BadRun"), (He.ga K "BadReadings"), (He.ga K "BadOffers"), (He.ga K "BadLine")] 3 = true) && (decide (rowB K [(He.ga K "BadAmount"), (He.ga K "NoQuotient"), (He.ga K "BadText"), (He.ga K "BadHouse"), (He.ga K "NoFlat"), (He.ga K "BadDay"), (He.ga K "BadWeighing"), (He.ga K "OtherHouse"), (He.ga K "NoCell"), (He.ga K "BadUse"), (He.ga K "NoPerson"), (He.ga K "NoMeter"), (He.ga K "BadMorning"), (He.ga K "BadNumbers"), (He.ga K "NoNumber"), (He.ga K "BadNumber"), (He.ga K "BadPlaces"), (He.ga K "BadPaper"), (He.ga K "Contrary"), (He.ga K "TooMany"), (He.ga K "Back"), (He.ga K "NotYet"), (He.ga K "Past"), (He.ga K "Expected"), (He.ga K "NothingToUndo"), (He.ga K "NothingToRedo"), (He.ga K "BadJournal"), (He.ga K "BadRule"), (He.ga K "BadRun"), (He.ga K "BadReadings"), (He.ga K "BadOffers"), (He.ga K "BadLine")] 4 = true) && (decide (rowB K [(He.ga K "BadAmount"), (He.ga K "NoQuotient"), (He.ga K "BadText"), (He.ga K "BadHouse"), (He.ga K "NoFlat"), (He.ga K "BadDay"), (He.ga K "BadWeighing"), (He.ga K "OtherHouse"), (He.ga K "NoCell"), (He.ga K "BadUse"), (He.ga K "NoPerson"), (He.ga K "NoMeter"), (He.ga K "BadMorning"), (He.ga K "BadNumbers"), (He.ga K "NoNumber"), (He.ga K "BadNumber"), (He.ga K "BadPlaces"), (He.ga K "BadPaper"), (He.ga K "Contrary"), (He.ga K "TooMany"), (He.ga K "Back"), (He.ga K "NotYet"), (He.ga K "Past"), (He.ga K "Expected"), (He.ga K "NothingToUndo"), (He.ga K "NothingToRedo"), (He.ga K "BadJournal"), (He.ga K "BadRule"), (He.ga K "BadRun"), (He.ga K "BadReadings"), (He.ga K "BadOffers"), (He.ga K "BadLine")] 5 = true) && (decide (rowB K [(He.ga K "BadAmount"), (He.ga K "NoQuotient"), (He.ga K "BadText"), (He.ga K "BadHouse"), (He.ga K "NoFlat"), (He.ga K "BadDay"), (He.ga K "BadWeighing"), (He.ga K "OtherHouse"), (He.ga K "NoCell"), (He.ga K "BadUse"), (He.ga K "NoPerson"), (He.ga K "NoMeter"), (He.ga K "BadMorning"), (He.ga K "BadNumbers"), (He.ga K "NoNumber"), (He.ga K "BadNumber"), (He.ga K "BadPlaces"), (He.ga K "BadPaper"), (He.ga K "Contrary"), (He.ga K "TooMany"), (He.ga K "Back"), (He.ga K "NotYet"), (He.ga K "Past"), (He.ga K "Expected"), (He.ga K "NothingToUndo"), (He.ga K "NothingToRedo"), (He.ga K "BadJournal"), (He.ga K "BadRule"), (He.ga K "BadRun"), (He.ga K "BadReadings"), (He.ga K "BadOffers"), (He.ga K "BadLine")] 6 = true) && (decide (rowB K [(He.ga K "BadAmount"), (He.ga K "NoQuotient"), (He.ga K "BadText"), (He.ga K "BadHouse"), (He.ga K "NoFlat"), (He.ga K "BadDay"), (He.ga K "BadWeighing"), (He.ga K "OtherHouse"), (He.ga K "NoCell"), (He.ga K "BadUse"), (He.ga K "NoPerson"), (He.ga K "NoMeter"), (He.ga K "BadMorning"), (He.ga K "BadNumbers"), (He.ga K "NoNumber"), (He.ga K "BadNumber"), (He.ga K "BadPlaces"), (He.ga K "BadPaper"), (He.ga K "Contrary"), (He.ga K "TooMany"), (He.ga K "Back"), (He.ga K "NotYet"), (He.ga K "Past"), (He.ga K "Expected"), (He.ga K "NothingToUndo"), (He.ga K "NothingToRedo"), (He.ga K "BadJournal"), (He.ga K "BadRule"), (He.ga K "BadRun"), (He.ga K "BadReadings"), (He.ga K "BadOffers"), (He.ga K "BadLine")] 7 = true) && (decide (rowB K [(He.ga K "BadAmount"), (He.ga K "NoQuotient"), (He.ga K "BadText"), (He.ga K "BadHouse"), (He.ga K "NoFlat"), (He.ga K "BadDay"), (He.ga K "BadWeighing"), (He.ga K "OtherHouse"), (He.ga K "NoCell"), (He.ga K "BadUse"), (He.ga K "NoPerson"), (He.ga K "NoMeter"), (He.ga K "BadMorning"), (He.ga K "BadNumbers"), (He.ga K "NoNumber"), (He.ga K "BadNumber"), (He.ga K "BadPlaces"), (He.ga K "BadPaper"), (He.ga K "Contrary"), (He.ga K "TooMany"), (He.ga K "Back"), (He.ga K "NotYet"), (He.ga K "Past"), (He.ga K "Expected"), (He.ga K "NothingToUndo"), (He.ga K "NothingToRedo"), (He.ga K "BadJournal"), (He.ga K "BadRule"), (He.ga K "BadRun"), (He.ga K "BadReadings"), (He.ga K "BadOffers"), (He.ga K "BadLine")] 8 = true) && (decide (rowB K [(He.ga K "BadAmount"), (He.ga K "NoQuotient"), (He.ga K "BadText"), (He.ga K "BadHouse"), (He.ga K "NoFlat"), (He.ga K "BadDay"), (He.ga K "BadWeighing"), (He.ga K "OtherHouse"), (He.ga K "NoCell"), (He.ga K "BadUse"), (He.ga K "NoPerson"), (He.ga K "NoMeter"), (He.ga K "BadMorning"), (He.ga K "BadNumbers"), (He.ga K "NoNumber"), (He.ga K "BadNumber"), (He.ga K "BadPlaces"), (He.ga K "BadPaper"), (He.ga K "Contrary"), (He.ga K "TooMany"), (He.ga K "Back"), (He.ga K "NotYet"), (He.ga K "Past"), (He.ga K "Expected"), (He.ga K "NothingToUndo"), (He.ga K "NothingToRedo"), (He.ga K "BadJournal"), (He.ga K "BadRule"), (He.ga K "BadRun"), (He.ga K "BadReadings"), (He.ga K "BadOffers"), (He.ga K "BadLine")] 9 = true) && (decide (rowB K [(He.ga K "BadAmount"), (He.ga K "NoQuotient"), (He.ga K "BadText"), (He.ga K "BadHouse"), (He.ga K "NoFlat"), (He.ga K "BadDay"), (He.ga K "BadWeighing"), (He.ga K "OtherHouse"), (He.ga K "NoCell"), (He.ga K "BadUse"), (He.ga K "NoPerson"), (He.ga K "NoMeter"), (He.ga K "BadMorning"), (He.ga K "BadNumbers"), (He.ga K "NoNumber"), (He.ga K "BadNumber"), (He.ga K "BadPlaces"), (He.ga K "BadPaper"), (He.ga K "Contrary"), (He.ga K "TooMany"), (He.ga K "Back"), (He.ga K "NotYet"), (He.ga K "Past"), (He.ga K "Expected"), (He.ga K "NothingToUndo"), (He.ga K "NothingToRedo"), (He.ga K "BadJournal"), (He.ga K "BadRule"), (He.ga K "BadRun"), (He.ga K "BadReadings"), (He.ga K "BadOffers"), (He.ga K "BadLine")] 10 = true) && (decide (rowB K [(He.ga K "BadAmount"), (He.ga K "NoQuotient"), (He.ga K "BadText"), (He.ga K "BadHouse"), (He.ga K "NoFlat"), (He.ga K "BadDay"), (He.ga K "BadWeighing"), (He.ga K "OtherHouse"), (He.ga K "NoCell"), (He.ga K "BadUse"), (He.ga K "NoPerson"), (He.ga K "NoMeter"), (He.ga K "BadMorning"), (He.ga K "BadNumbers"), (He.ga K "NoNumber"), (He.ga K "BadNumber"), (He.ga K "BadPlaces"), (He.ga K "BadPaper"), (He.ga K "Contrary"), (He.ga K "TooMany"), (He.ga K "Back"), (He.ga K "NotYet"), (He.ga K "Past"), (He.ga K "Expected"), (He.ga K "NothingToUndo"), (He.ga K "NothingToRedo"), (He.ga K "BadJournal"), (He.ga K "BadRule"), (He.ga K "BadRun"), (He.ga K "BadReadings"), (He.ga K "BadOffers"), (He.ga K "BadLine")] 11 = true) && (decide (rowB K [(He.ga K "BadAmount"), (He.ga K "NoQuotient"), (He.ga K "BadText"), (He.ga K "BadHouse"), (He.ga K "NoFlat"), (He.ga K "BadDay"), (He.ga K "BadWeighing"), (He.ga K "OtherHouse"), (He.ga K "NoCell"), (He.ga K "BadUse"), (He.ga K "NoPerson"), (He.ga K "NoMeter"), (He.ga K "BadMorning"), (He.ga K "BadNumbers"), (He.ga K "NoNumber"), (He.ga K "BadNumber"), (He.ga K "BadPlaces"), (He.ga K "BadPaper"), (He.ga K "Contrary"), (He.ga K "TooMany"), (He.ga K "Back"), (He.ga K "NotYet"), (He.ga K "Past"), (He.ga K "Expected"), (He.ga K "NothingToUndo"), (He.ga K "NothingToRedo"), (He.ga K "BadJournal"), (He.ga K "BadRule"), (He.ga K "BadRun"), (He.ga K "BadReadings"), (He.ga K "BadOffers"), (He.ga K "BadLine")] 12 = true) && (decide (rowB K [(He.ga K "BadAmount"), (He.ga K "NoQuotient"), (He.ga K "BadText"), (He.ga K "BadHouse"), (He.ga K "NoFlat"), (He.ga K "BadDay"), (He.ga K "BadWeighing"), (He.ga K "OtherHouse"), (He.ga K "NoCell"), (He.ga K "BadUse"), (He.ga K "NoPerson"), (He.ga K "NoMeter"), (He.ga K "BadMorning"), (He.ga K "BadNumbers"), (He.ga K "NoNumber"), (He.ga K "BadNumber"), (He.ga K "BadPlaces"), (He.ga K "BadPaper"), (He.ga K "Contrary"), (He.ga K "TooMany"), (He.ga K "Back"), (He.ga K "NotYet"), (He.ga K "Past"), (He.ga K "Expected"), (He.ga K "NothingToUndo"), (He.ga K "NothingToRedo"), (He.ga K "BadJournal"), (He.ga K "BadRule"), (He.ga K "BadRun"), (He.ga K "BadReadings"), (He.ga K "BadOffers"), (He.ga K "BadLine")] 13 = true) && (decide (rowB K [(He.ga K "BadAmount"), (He.ga K "NoQuotient"), (He.ga K "BadText"), (He.ga K "BadHouse"), (He.ga K "NoFlat"), (He.ga K "BadDay"), (He.ga K "BadWeighing"), (He.ga K "OtherHouse"), (He.ga K "NoCell"), (He.ga K "BadUse"), (He.ga K "NoPerson"), (He.ga K "NoMeter"), (He.ga K "BadMorning"), (He.ga K "BadNumbers"), (He.ga K "NoNumber"), (He.ga K "BadNumber"), (He.ga K "BadPlaces"), (He.ga K "BadPaper"), (He.ga K "Contrary"), (He.ga K "TooMany"), (He.ga K "Back"), (He.ga K "NotYet"), (He.ga K "Past"), (He.ga K "Expected"), (He.ga K "NothingToUndo"), (He.ga K "NothingToRedo"), (He.ga K "BadJournal"), (He.ga K "BadRule"), (He.ga K "BadRun"), (He.ga K "BadReadings"), (He.ga K "BadOffers"), (He.ga K "BadLine")] 14 = true) && (decide (rowB K [(He.ga K "BadAmount"), (He.ga K "NoQuotient"), (He.ga K "BadText"), (He.ga K "BadHouse"), (He.ga K "NoFlat"), (He.ga K "BadDay"), (He.ga K "BadWeighing"), (He.ga K "OtherHouse"), (He.ga K "NoCell"), (He.ga K "BadUse"), (He.ga K "NoPerson"), (He.ga K "NoMeter"), (He.ga K "BadMorning"), (He.ga K "BadNumbers"), (He.ga K "NoNumber"), (He.ga K "BadNumber"), (He.ga K "BadPlaces"), (He.ga K "BadPaper"), (He.ga K "Contrary"), (He.ga K "TooMany"), (He.ga K "Back"), (He.ga K "NotYet"), (He.ga K "Past"), (He.ga K "Expected"), (He.ga K "NothingToUndo"), (He.ga K "NothingToRedo"), (He.ga K "BadJournal"), (He.ga K "BadRule"), (He.ga K "BadRun"), (He.ga K "BadReadings"), (He.ga K "BadOffers"), (He.ga K "BadLine")] 15 = true) && (decide (rowB K [(He.ga K "BadAmount"), (He.ga K "NoQuotient"), (He.ga K "BadText"), (He.ga K "BadHouse"), (He.ga K "NoFlat"), (He.ga K "BadDay"), (He.ga K "BadWeighing"), (He.ga K "OtherHouse"), (He.ga K "NoCell"), (He.ga K "BadUse"), (He.ga K "NoPerson"), (He.ga K "NoMeter"), (He.ga K "BadMorning"), (He.ga K "BadNumbers"), (He.ga K "NoNumber"), (He.ga K "BadNumber"), (He.ga K "BadPlaces"), (He.ga K "BadPaper"), (He.ga K "Contrary"), (He.ga K "TooMany"), (He.ga K "Back"), (He.ga K "NotYet"), (He.ga K "Past"), (He.ga K "Expected"), (He.ga K "NothingToUndo"), (He.ga K "NothingToRedo"), (He.ga K "BadJournal"), (He.ga K "BadRule"), (He.ga K "BadRun"), (He.ga K "BadReadings"), (He.ga K "BadOffers"), (He.ga K "BadLine")] 16 = true) && (decide (rowB K [(He.ga K "BadAmount"), (He.ga K "NoQuotient"), (He.ga K "BadText"), (He.ga K "BadHouse"), (He.ga K "NoFlat"), (He.ga K "BadDay"), (He.ga K "BadWeighing"), (He.ga K "OtherHouse"), (He.ga K "NoCell"), (He.ga K "BadUse"), (He.ga K "NoPerson"), (He.ga K "NoMeter"), (He.ga K "BadMorning"), (He.ga K "BadNumbers"), (He.ga K "NoNumber"), (He.ga K "BadNumber"), (He.ga K "BadPlaces"), (He.ga K "BadPaper"), (He.ga K "Contrary"), (He.ga K "TooMany"), (He.ga K "Back"), (He.ga K "NotYet"), (He.ga K "Past"), (He.ga K "Expected"), (He.ga K "NothingToUndo"), (He.ga K "NothingToRedo"), (He.ga K "BadJournal"), (He.ga K "BadRule"), (He.ga K "BadRun"), (He.ga K "BadReadings"), (He.ga K "BadOffers"), (He.ga K "BadLine")] 17 = true) && (decide (rowB K [(He.ga K "BadAmount"), (He.ga K "NoQuotient"), (He.ga K "BadText"), (He.ga K "BadHouse"), (He.ga K "NoFlat"), (He.ga K "BadDay"), (He.ga K "BadWeighing"), (He.ga K "OtherHouse"), (He.ga K "NoCell"), (He.ga K "BadUse"), (He.ga K "NoPerson"), (He.ga K "NoMeter"), (He.ga K "BadMorning"), (He.ga K "BadNumbers"), (He.ga K "NoNumber"), (He.ga K "BadNumber"), (He.ga K "BadPlaces"), (He.ga K "BadPaper"), (He.ga K "Contrary"), (He.ga K "TooMany"), (He.ga K "Back"), (He.ga K "NotYet"), (He.ga K "Past"), (He.ga K "Expected"), (He.ga K "NothingToUndo"), (He.ga K "NothingToRedo"), (He.ga K "BadJournal"), (He.ga K "BadRule"), (He.ga K "BadRun"), (He.ga K "BadReadings"), (He.ga K "BadOffers"), (He.ga K "BadLine")] 18 = true) && (decide (rowB K [(He.ga K "BadAmount"), (He.ga K "NoQuotient"), (He.ga K "BadText"), (He.ga K "BadHouse"), (He.ga K "NoFlat"), (He.ga K "BadDay"), (He.ga K "BadWeighing"), (He.ga K "OtherHouse"), (He.ga K "NoCell"), (He.ga K "BadUse"), (He.ga K "NoPerson"), (He.ga K "NoMeter"), (He.ga K "BadMorning"), (He.ga K "BadNumbers"), (He.ga K "NoNumber"), (He.ga K "BadNumber"), (He.ga K "BadPlaces"), (He.ga K "BadPaper"), (He.ga K "Contrary"), (He.ga K "TooMany"), (He.ga K "Back"), (He.ga K "NotYet"), (He.ga K "Past"), (He.ga K "Expected"), (He.ga K "NothingToUndo"), (He.ga K "NothingToRedo"), (He.ga K "BadJournal"), (He.ga K "BadRule"), (He.ga K "BadRun"), (He.ga K "BadReadings"), (He.ga K "BadOffers"), (He.ga K "BadLine")] 19 = true) && (decide (rowB K [(He.ga K "BadAmount"), (He.ga K "NoQuotient"), (He.ga K "BadText"), (He.ga K "BadHouse"), (He.ga K "NoFlat"), (He.ga K "BadDay"), (He.ga K "BadWeighing"), (He.ga K "OtherHouse"), (He.ga K "NoCell"), (He.ga K "BadUse"), (He.ga K "NoPerson"), (He.ga K "NoMeter"), (He.ga K "BadMorning"), (He.ga K "BadNumbers"), (He.ga K "NoNumber"), (He.ga K "BadNumber"), (He.ga K "BadPlaces"), (He.ga K "BadPaper"), (He.ga K "Contrary"), (He.ga K "TooMany"), (He.ga K "Back"), (He.ga K "NotYet"), (He.ga K "Past"), (He.ga K "Expected"), (He.ga K "NothingToUndo"), (He.ga K "NothingToRedo"), (He.ga K "BadJournal"), (He.ga K "BadRule"), (He.ga K "BadRun"), (He.ga K "BadReadings"), (He.ga K "BadOffers"), (He.ga K "BadLine")] 20 = true) && (decide (rowB K [(He.ga K "BadAmount"), (He.ga K "NoQuotient"), (He.ga K "BadText"), (He.ga K "BadHouse"), (He.ga K "NoFlat"), (He.ga K "BadDay"), (He.ga K "BadWeighing"), (He.ga K "OtherHouse"), (He.ga K "NoCell"), (He.ga K "BadUse"), (He.ga K "NoPerson"), (He.ga K "NoMeter"), (He.ga K "BadMorning"), (He.ga K "BadNumbers"), (He.ga K "NoNumber"), (He.ga K "BadNumber"), (He.ga K "BadPlaces"), (He.ga K "BadPaper"), (He.ga K "Contrary"), (He.ga K "TooMany"), (He.ga K "Back"), (He.ga K "NotYet"), (He.ga K "Past"), (He.ga K "Expected"), (He.ga K "NothingToUndo"), (He.ga K "NothingToRedo"), (He.ga K "BadJournal"), (He.ga K "BadRule"), (He.ga K "BadRun"), (He.ga K "BadReadings"), (He.ga K "BadOffers"), (He.ga K "BadLine")] 21 = true) && (decide (rowB K [(He.ga K "BadAmount"), (He.ga K "NoQuotient"), (He.ga K "BadText"), (He.ga K "BadHouse"), (He.ga K "NoFlat"), (He.ga K "BadDay"), (He.ga K "BadWeighing"), (He.ga K "OtherHouse"), (He.ga K "NoCell"), (He.ga K "BadUse"), (He.ga K "NoPerson"), (He.ga K "NoMeter"), (He.ga K "BadMorning"), (He.ga K "BadNumbers"), (He.ga K "NoNumber"), (He.ga K "BadNumber"), (He.ga K "BadPlaces"), (He.ga K "BadPaper"), (He.ga K "Contrary"), (He.ga K "TooMany"), (He.ga K "Back"), (He.ga K "NotYet"), (He.ga K "Past"), (He.ga K "Expected"), (He.ga K "NothingToUndo"), (He.ga K "NothingToRedo"), (He.ga K "BadJournal"), (He.ga K "BadRule"), (He.ga K "BadRun"), (He.ga K "BadReadings"), (He.ga K "BadOffers"), (He.ga K "BadLine")] 22 = true) && decide (rowB K [(He.ga K "BadAmount"), (He.ga K "NoQuotient"), (He.ga K "BadText"), (He.ga K "BadHouse"), (He.ga K "NoFlat"), (He.ga K "BadDay"), (He.ga K "BadWeighing"), (He.ga K "OtherHouse"), (He.ga K "NoCell"), (He.ga K "BadUse"), (He.ga K "NoPerson"), (He.ga K "NoMeter"), (He.ga K "BadMorning"), (He.ga K "BadNumbers"), (He.ga K "NoNumber"), (He.ga K "BadNumber"), (He.ga K "BadPlaces"), (He.ga K "BadPaper"), (He.ga K "Contrary"), (He.ga K "TooMany"), (He.ga K "Back"), (He.ga K "NotYet"), (He.ga K "Past"), (He.ga K "Expected"), (He.ga K "NothingToUndo"), (He.ga K "NothingToRedo"), (He.ga K "BadJournal"), (He.ga K "BadRule"), (He.ga K "BadRun"), (He.ga K "BadReadings"), (He.ga K "BadOffers"), (He.ga K "BadLine")] 23 = true))))))))))))))))))))))))
def bs11 (K : PySem.W.Frag) : Bool := (decide (rowB K [(He.ga K "BadAmount"), (He.ga K "NoQuotient"), (He.ga K "BadText"), (He.ga K "BadHouse"), (He.ga K "NoFlat"), (He.ga K "BadDay"), (He.ga K "BadWeighing"), (He.ga K "OtherHouse"), (He.ga K "NoCell"), (He.ga K "BadUse"), (He.ga K "NoPerson"), (He.ga K "NoMeter"), (He.ga K "BadMorning"), (He.ga K "BadNumbers"), (He.ga K "NoNumber"), (He.ga K "BadNumber"), (He.ga K "BadPlaces"), (He.ga K "BadPaper"), (He.ga K "Contrary"), (He.ga K "TooMany"), (He.ga K "Back"), (He.ga K "NotYet"), (He.ga K "Past"), (He.ga K "Expected"), (He.ga K "NothingToUndo"), (He.ga K "NothingToRedo"), (He.ga K "BadJournal"), (He.ga K "BadRule"), (He.ga K "BadRun"), (He.ga K "BadReadings"), (He.ga K "BadOffers"), (He.ga K "BadLine")] 24 = true) && (decide (rowB K [(He.ga K "BadAmount"), (He.ga K "NoQuotient"), (He.ga K "BadText"), (He.ga K "BadHouse"), (He.ga K "NoFlat"), (He.ga K "BadDay"), (He.ga K "BadWeighing"), (He.ga K "OtherHouse"), (He.ga K "NoCell"), (He.ga K "BadUse"), (He.ga K "NoPerson"), (He.ga K "NoMeter"), (He.ga K "BadMorning"), (He.ga K "BadNumbers"), (He.ga K "NoNumber"), (He.ga K "BadNumber"), (He.ga K "BadPlaces"), (He.ga K "BadPaper"), (He.ga K "Contrary"), (He.ga K "TooMany"), (He.ga K "Back"), (He.ga K "NotYet"), (He.ga K "Past"), (He.ga K "Expected"), (He.ga K "NothingToUndo"), (He.ga K "NothingToRedo"), (He.ga K "BadJournal"), (He.ga K "BadRule"), (He.ga K "BadRun"), (He.ga K "BadReadings"), (He.ga K "BadOffers"), (He.ga K "BadLine")] 25 = true) && (decide (rowB K [(He.ga K "BadAmount"), (He.ga K "NoQuotient"), (He.ga K "BadText"), (He.ga K "BadHouse"), (He.ga K "NoFlat"), (He.ga K "BadDay"), (He.ga K "BadWeighing"), (He.ga K "OtherHouse"), (He.ga K "NoCell"), (He.ga K "BadUse"), (He.ga K "NoPerson"), (He.ga K "NoMeter"), (He.ga K "BadMorning"), (He.ga K "BadNumbers"), (He.ga K "NoNumber"), (He.ga K "BadNumber"), (He.ga K "BadPlaces"), (He.ga K "BadPaper"), (He.ga K "Contrary"), (He.ga K "TooMany"), (He.ga K "Back"), (He.ga K "NotYet"), (He.ga K "Past"), (He.ga K "Expected"), (He.ga K "NothingToUndo"), (He.ga K "NothingToRedo"), (He.ga K "BadJournal"), (He.ga K "BadRule"), (He.ga K "BadRun"), (He.ga K "BadReadings"), (He.ga K "BadOffers"), (He.ga K "BadLine")] 26 = true) && (decide (rowB K [(He.ga K "BadAmount"), (He.ga K "NoQuotient"), (He.ga K "BadText"), (He.ga K "BadHouse"), (He.ga K "NoFlat"), (He.ga K "BadDay"), (He.ga K "BadWeighing"), (He.ga K "OtherHouse"), (He.ga K "NoCell"), (He.ga K "BadUse"), (He.ga K "NoPerson"), (He.ga K "NoMeter"), (He.ga K "BadMorning"), (He.ga K "BadNumbers"), (He.ga K "NoNumber"), (He.ga K "BadNumber"), (He.ga K "BadPlaces"), (He.ga K "BadPaper"), (He.ga K "Contrary"), (He.ga K "TooMany"), (He.ga K "Back"), (He.ga K "NotYet"), (He.ga K "Past"), (He.ga K "Expected"), (He.ga K "NothingToUndo"), (He.ga K "NothingToRedo"), (He.ga K "BadJournal"), (He.ga K "BadRule"), (He.ga K "BadRun"), (He.ga K "BadReadings"), (He.ga K "BadOffers"), (He.ga K "BadLine")] 27 = true) && (decide (rowB K [(He.ga K "BadAmount"), (He.ga K "NoQuotient"), (He.ga K "BadText"), (He.ga K "BadHouse"), (He.ga K "NoFlat"), (He.ga K "BadDay"), (He.ga K "BadWeighing"), (He.ga K "OtherHouse"), (He.ga K "NoCell"), (He.ga K "BadUse"), (He.ga K "NoPerson"), (He.ga K "NoMeter"), (He.ga K "BadMorning"), (He.ga K "BadNumbers"), (He.ga K "NoNumber"), (He.ga K "BadNumber"), (He.ga K "BadPlaces"), (He.ga K "BadPaper"), (He.ga K "Contrary"), (He.ga K "TooMany"), (He.ga K "Back"), (He.ga K "NotYet"), (He.ga K "Past"), (He.ga K "Expected"), (He.ga K "NothingToUndo"), (He.ga K "NothingToRedo"), (He.ga K "BadJournal"), (He.ga K "BadRule"), (He.ga K "BadRun"), (He.ga K "BadReadings"), (He.ga K "BadOffers"), (He.ga K "BadLine")] 28 = true) && (decide (rowB K [(He.ga K "BadAmount"), (He.ga K "NoQuotient"), (He.ga K "BadText"), (He.ga K "BadHouse"), (He.ga K "NoFlat"), (He.ga K "BadDay"), (He.ga K "BadWeighing"), (He.ga K "OtherHouse"), (He.ga K "NoCell"), (He.ga K "BadUse"), (He.ga K "NoPerson"), (He.ga K "NoMeter"), (He.ga K "BadMorning"), (He.ga K "BadNumbers"), (He.ga K "NoNumber"), (He.ga K "BadNumber"), (He.ga K "BadPlaces"), (He.ga K "BadPaper"), (He.ga K "Contrary"), (He.ga K "TooMany"), (He.ga K "Back"), (He.ga K "NotYet"), (He.ga K "Past"), (He.ga K "Expected"), (He.ga K "NothingToUndo"), (He.ga K "NothingToRedo"), (He.ga K "BadJournal"), (He.ga K "BadRule"), (He.ga K "BadRun"), (He.ga K "BadReadings"), (He.ga K "BadOffers"), (He.ga K "BadLine")] 29 = true) && (decide (rowB K [(He.ga K "BadAmount"), (He.ga K "NoQuotient"), (He.ga K "BadText"), (He.ga K "BadHouse"), (He.ga K "NoFlat"), (He.ga K "BadDay"), (He.ga K "BadWeighing"), (He.ga K "OtherHouse"), (He.ga K "NoCell"), (He.ga K "BadUse"), (He.ga K "NoPerson"), (He.ga K "NoMeter"), (He.ga K "BadMorning"), (He.ga K "BadNumbers"), (He.ga K "NoNumber"), (He.ga K "BadNumber"), (He.ga K "BadPlaces"), (He.ga K "BadPaper"), (He.ga K "Contrary"), (He.ga K "TooMany"), (He.ga K "Back"), (He.ga K "NotYet"), (He.ga K "Past"), (He.ga K "Expected"), (He.ga K "NothingToUndo"), (He.ga K "NothingToRedo"), (He.ga K "BadJournal"), (He.ga K "BadRule"), (He.ga K "BadRun"), (He.ga K "BadReadings"), (He.ga K "BadOffers"), (He.ga K "BadLine")] 30 = true) && (decide (rowB K [(He.ga K "BadAmount"), (He.ga K "NoQuotient"), (He.ga K "BadText"), (He.ga K "BadHouse"), (He.ga K "NoFlat"), (He.ga K "BadDay"), (He.ga K "BadWeighing"), (He.ga K "OtherHouse"), (He.ga K "NoCell"), (He.ga K "BadUse"), (He.ga K "NoPerson"), (He.ga K "NoMeter"), (He.ga K "BadMorning"), (He.ga K "BadNumbers"), (He.ga K "NoNumber"), (He.ga K "BadNumber"), (He.ga K "BadPlaces"), (He.ga K "BadPaper"), (He.ga K "Contrary"), (He.ga K "TooMany"), (He.ga K "Back"), (He.ga K "NotYet"), (He.ga K "Past"), (He.ga K "Expected"), (He.ga K "NothingToUndo"), (He.ga K "NothingToRedo"), (He.ga K "BadJournal"), (He.ga K "BadRule"), (He.ga K "BadRun"), (He.ga K "BadReadings"), (He.ga K "BadOffers"), (He.ga K "BadLine")] 31 = true) && (decide (PySem.W.nsIn K mainGlobals "is_whole" = some (some (.ref (He.ga K "is_whole")))) && (decide (PySem.W.nsIn K mainGlobals "is_name" = some (some (.ref (He.ga K "is_name")))) && (decide (PySem.W.nsIn K mainGlobals "decimal" = some (some (.ref (He.ga K "decimal")))) && (decide (PySem.W.nsIn K mainGlobals "ascending" = some (some (.ref (He.ga K "ascending")))) && (decide (PySem.W.nsIn K mainGlobals "drafted" = some (some (.ref (He.ga K "drafted")))) && (decide (PySem.W.nsIn K mainGlobals "tenants" = some (some (.ref (He.ga K "tenants")))) && (decide (PySem.W.nsIn K mainGlobals "prices" = some (some (.ref (He.ga K "prices")))) && (decide (PySem.W.nsIn K mainGlobals "figures" = some (some (.ref (He.ga K "figures")))) && (decide (PySem.W.nsIn K mainGlobals "_law_jar" = some (some (.ref (He.ga K "_law_jar")))) && (decide (PySem.W.nsIn K mainGlobals "_law_take" = some (some (.ref (He.ga K "_law_take")))) && (decide (PySem.W.nsIn K mainGlobals "_law_of" = some (some (.ref (He.ga K "_law_of")))) && (decide (PySem.W.nsIn K mainGlobals "_law_odd" = some (some (.ref (He.ga K "_law_odd")))) && (decide (PySem.W.nsIn K mainGlobals "_law_kinds_of" = some (some (.ref (He.ga K "_law_kinds_of")))) && (decide (PySem.W.nsIn K mainGlobals "_law_created" = some (some (.ref (He.ga K "_law_created")))) && (decide (PySem.W.nsIn K mainGlobals "_law_is_raised" = some (some (.ref (He.ga K "_law_is_raised")))) && decide (PySem.W.nsIn K mainGlobals "_law_fine" = some (some (.ref (He.ga K "_law_fine")))))))))))))))))))))))))))
def bs12 (K : PySem.W.Frag) : Bool := (decide (PySem.W.nsIn K mainGlobals "law" = some (some (.ref (He.ga K "law")))) && (decide (PySem.W.findIn K (.ref (He.ga K "Amount")) "__repr__" = some (some (.ref (He.ma K (He.ga K "Amount") "__repr__")))) && (decide (PySem.W.isFn K (.ref (He.ma K (He.ga K "Amount") "__repr__")) = true) && (decide (PySem.W.findIn K (.ref (He.ga K "House")) "__eq__" = some (some (.ref (He.ma K (He.ga K "House") "__eq__")))) && decide (PySem.W.isFn K (.ref (He.ma K (He.ga K "House") "__eq__")) = true)))))
def xb (K : PySem.W.Frag) : Bool := (bs0 K && (bs1 K && (bs2 K && (bs3 K && (bs4 K && (bs5 K && (bs6 K && (bs7 K && (bs8 K && (bs9 K && (bs10 K && (bs11 K && bs12 K))))))))))))
def dd0 : He.DefD := ⟨("Amount", some "__init__"), "__init__", "Amount.__init__", defArgs sInit, defBody sInit, defScope sInit, [.int 1], []⟩
def dd1 : He.DefD := ⟨("Draft", some "__init__"), "__init__", "Draft.__init__", defArgs sDrInit, defBody sDrInit, defScope sDrInit, [], []⟩
def dd2 : He.DefD := ⟨("Draft", some "take"), "take", "Draft.take", defArgs sDrTake, defBody sDrTake, defScope sDrTake, [], []⟩
def dd3 : He.DefD := ⟨("Draft", some "take_days"), "take_days", "Draft.take_days", defArgs sDrDays, defBody sDrDays, defScope sDrDays, [], []⟩
def dd4 : He.DefD := ⟨("Draft", some "take_place"), "take_place", "Draft.take_place", defArgs sDrPlace, defBody sDrPlace, defScope sDrPlace, [], []⟩
def dd5 : He.DefD := ⟨("Draft", some "take_price"), "take_price", "Draft.take_price", defArgs sDrPrice, defBody sDrPrice, defScope sDrPrice, [], []⟩
def dd6 : He.DefD := ⟨("Draft", some "take_stay"), "take_stay", "Draft.take_stay", defArgs sDrStay, defBody sDrStay, defScope sDrStay, [], []⟩
def dd7 : He.DefD := ⟨("Draft", some "has_place"), "has_place", "Draft.has_place", defArgs sDrHasP, defBody sDrHasP, defScope sDrHasP, [], []⟩
def dd8 : He.DefD := ⟨("Draft", some "has_flat"), "has_flat", "Draft.has_flat", defArgs sDrHasF, defBody sDrHasF, defScope sDrHasF, [], []⟩
def dd9 : He.DefD := ⟨("Draft", some "is_let"), "is_let", "Draft.is_let", defArgs sDrIsLet, defBody sDrIsLet, defScope sDrIsLet, [], []⟩
def dd10 : He.DefD := ⟨("House", some "__init__"), "__init__", "House.__init__", defArgs sHInit, defBody sHInit, defScope sHInit, [], []⟩
def dd11 : He.DefD := ⟨("MeterError", some "__init__"), "__init__", "MeterError.__init__", defArgs sInitE, defBody sInitE, defScope sInitE, [], []⟩
def dd12 : He.DefD := ⟨("is_whole", none), "is_whole", "is_whole", defArgs sWhole, defBody sWhole, defScope sWhole, [], []⟩
def dd13 : He.DefD := ⟨("is_name", none), "is_name", "is_name", defArgs sIsName, defBody sIsName, defScope sIsName, [], []⟩
def dd14 : He.DefD := ⟨("decimal", none), "decimal", "decimal", defArgs sDec, defBody sDec, defScope sDec, [], []⟩
def dd15 : He.DefD := ⟨("ascending", none), "ascending", "ascending", defArgs sAsc, defBody sAsc, defScope sAsc, [], []⟩
def dd16 : He.DefD := ⟨("drafted", none), "drafted", "drafted", defArgs sDrafted, defBody sDrafted, defScope sDrafted, [], []⟩
def dd17 : He.DefD := ⟨("tenants", none), "tenants", "tenants", defArgs sTenants, defBody sTenants, defScope sTenants, [], []⟩
def dd18 : He.DefD := ⟨("prices", none), "prices", "prices", defArgs sPricesOf, defBody sPricesOf, defScope sPricesOf, [], []⟩
def dd19 : He.DefD := ⟨("figures", none), "figures", "figures", defArgs sFig, defBody sFig, defScope sFig, [], []⟩
def dd20 : He.DefD := ⟨("_law_jar", none), "_law_jar", "_law_jar", defArgs sJar, defBody sJar, defScope sJar, [], []⟩
def dd21 : He.DefD := ⟨("_law_take", none), "_law_take", "_law_take", defArgs sTake, defBody sTake, defScope sTake, [], []⟩
def dd22 : He.DefD := ⟨("_law_of", none), "_law_of", "_law_of", defArgs sOf, defBody sOf, defScope sOf, [], []⟩
def dd23 : He.DefD := ⟨("_law_odd", none), "_law_odd", "_law_odd", defArgs sL_odd, defBody sL_odd, defScope sL_odd, [], []⟩
def dd24 : He.DefD := ⟨("_law_kinds_of", none), "_law_kinds_of", "_law_kinds_of", defArgs sL_kinds_of, defBody sL_kinds_of, defScope sL_kinds_of, [], []⟩
def dd25 : He.DefD := ⟨("_law_created", none), "_law_created", "_law_created", defArgs sL_created, defBody sL_created, defScope sL_created, [], []⟩
def dd26 : He.DefD := ⟨("_law_is_raised", none), "_law_is_raised", "_law_is_raised", defArgs sL_is_raised, defBody sL_is_raised, defScope sL_is_raised, [], []⟩
def dd27 : He.DefD := ⟨("_law_fine", none), "_law_fine", "_law_fine", defArgs sL_fine, defBody sL_fine, defScope sL_fine, [], []⟩
def dd28 : He.DefD := ⟨("law", none), "law", "law", defArgs sLaw, defBody sLaw, defScope sLaw, [], []⟩
def dd29 : He.DefD := ⟨("Amount", some "__repr__"), "__repr__", "Amount.__repr__", defArgs sRep, defBody sRep, defScope sRep, [], []⟩
def dd30 : He.DefD := ⟨("House", some "__eq__"), "__eq__", "House.__eq__", defArgs sHEq, defBody sHEq, defScope sHEq, [], []⟩
def fnD : List He.DefD := [dd0, dd1, dd2, dd3, dd4, dd5, dd6, dd7, dd8, dd9, dd10, dd11, dd12, dd13, dd14, dd15, dd16, dd17, dd18, dd19, dd20, dd21, dd22, dd23, dd24, dd25, dd26, dd27, dd28, dd29, dd30]
def ks0 : List Addr := [2, 3, 43, 45, 46, 48, 49, 50, 57, 59, 60, 62, 63, 64, 65, 66, 67, 70, 77, 78, 79, 82, 89, 90, 91, 94, 101, 102, 103, 106, 113, 114, 115, 118, 125, 126, 127, 130, 137, 138]
def ks1 : List Addr := [139, 142, 149, 150, 151, 154, 161, 162, 163, 166, 173, 174, 175, 178, 185, 186, 187, 190, 197, 198, 199, 202, 209, 210, 211, 214, 221, 222, 223, 226, 233, 234, 235, 238, 245, 246, 247, 250, 257, 258]
def ks2 : List Addr := [259, 262, 269, 270, 271, 274, 281, 282, 283, 286, 293, 294, 295, 298, 305, 306, 307, 310, 317, 318, 319, 322, 329, 330, 331, 334, 341, 342, 343, 346, 353, 354, 355, 358, 365, 366, 367, 370, 377, 378]
def ks3 : List Addr := [379, 382, 389, 390, 391, 394, 401, 402, 403, 406, 413, 414, 415, 418, 425, 426, 427, 430, 437, 438, 439, 442, 449, 450, 451, 454, 455, 457, 458, 460, 461, 462, 465, 466, 467, 469, 470, 472, 473, 474]
def ks4 : List Addr := [477, 478, 486, 487, 489, 490, 492, 493, 494, 496, 497, 499, 500, 501, 502, 504, 505, 507, 508, 509, 510, 511, 512, 514, 515, 517, 518, 519, 521, 522, 524, 525, 526, 528, 529, 531, 532, 533, 535, 536]
def ks5 : List Addr := [538, 539, 540, 542, 543, 545, 546, 547, 549, 550, 552, 553, 554, 556, 557, 559, 560, 561, 563, 564, 566, 567, 568, 570, 571, 573, 574, 575, 577, 578, 580, 581, 582, 584, 585, 587, 588, 589, 591, 592]
def ks6 : List Addr := [594, 595, 596, 598, 599, 601, 602, 603, 605, 606, 608, 609, 610, 612, 613, 615, 616, 617, 619, 620, 622, 623, 624, 625, 626, 627, 628, 631, 633, 634, 636, 637, 638, 640, 641, 643, 644, 645, 647, 648]
def ks7 : List Addr := [650, 651, 652, 654, 655, 657, 658, 666, 669, 670, 671, 673, 674, 676, 677, 678, 679, 681, 682, 684, 685, 686, 688, 689, 691, 692, 693, 695, 696, 698, 699, 700, 702, 703, 705, 706, 707, 709, 710, 712]
def ks8 : List Addr := [713, 714, 716, 717, 719, 720, 721, 723, 724, 726, 727, 728, 730, 731, 733, 734, 735, 736, 737, 738, 739, 749, 751, 752, 754, 755, 756, 758, 759, 761, 762, 763, 765, 766, 768, 769, 770, 772, 773, 775]
def ks9 : List Addr := [776, 777, 779, 780, 782, 783, 784, 786, 787, 789, 790, 791, 794, 795, 796, 799, 800, 801, 804, 805, 806, 807, 808, 809, 810, 813, 815, 816, 818, 819, 820, 822, 823, 825, 826, 827, 829, 830, 832, 833]
def ks10 : List Addr := [834, 836, 837, 839, 840, 841, 843, 844, 846, 847, 848, 850, 851, 853, 854, 855, 857, 858, 860, 861, 862, 864, 865, 867, 868, 869, 871, 872, 874, 875, 876, 878, 879, 881, 882, 883, 886, 887, 888, 891]
def ks11 : List Addr := [892]
def ksA : List Addr := ks0 ++ (ks1 ++ (ks2 ++ (ks3 ++ (ks4 ++ (ks5 ++ (ks6 ++ (ks7 ++ (ks8 ++ (ks9 ++ (ks10 ++ (ks11)))))))))))
end Er
namespace Er
open PySem PySem.W PySem.Calls PyProof.Rows
abbrev R : OpenRow := OpenLaw.row PySem.Challenge.rw_whoseuse_k00_errors
abbrev qv : Program := view R.prog [0, 68]
def nm0 : List PySem.Str := ["_wall", "MeterError", "BadAmount", "NoQuotient", "BadText", "BadHouse", "NoFlat", "BadDay", "BadWeighing", "OtherHouse", "NoCell", "BadUse", "NoPerson", "NoMeter", "BadMorning", "BadNumbers", "NoNumber", "BadNumber", "BadPlaces", "BadPaper", "Contrary", "TooMany", "Back", "NotYet", "Past", "Expected", "NothingToUndo", "NothingToRedo", "BadJournal"]
def nm1 : List PySem.Str := ["BadRule", "BadRun", "BadReadings", "BadOffers", "BadLine", "LETTERS", "TAKEN", "is_whole", "is_name", "decimal", "ascending", "WIDTH", "BLOCK", "Amount", "is_amount", "parts", "quotient", "figures", "NOBODY", "FIRST_PRICE", "House", "Draft", "drafted", "tenants", "prices", "_law_jar", "_law_take", "_law_of", "_law_odd", "_law_kinds_of"]
def nm2 : List PySem.Str := ["_law_created", "_law_is_raised", "_law_fine"]
def names : List PySem.Str := nm0 ++ nm1 ++ nm2
theorem run (w : World) : HandSHeadRun.RunEqI R qv (Hk.hookX ksA xb fnD) (Hk.obX ksA xb fnD) 12000 names w := by
  unfold HandSHeadRun.RunEqI
  kernel_rfl
end Er
/-! operators of an own class: library level -/
namespace AmL
open PySem PySem.SeqAt PySem.Calls PyProof.Rows
open AutoSeq1 (wpAny_loadPart')
open MeetsSeq

section
variable {prog : Program} {w : World} {A : Around} {E : Value → Shared → Prop} {s : Shared} {K : PySem.W.Frag} {C : Addr}

theorem refl_inst {x : Addr} {v : Value} {T id : String} {f : Addr} {op : CmpOp} {ox : Obj} {od : Option Obj} {Q : Value → Shared → Prop} (hu : A.units < cLine)
    (X : K.In s.heap) (I : PySem.W.InstAt s.heap x ox C od) (hT : s.TypeIs v T) (slot : Slot T (cmpInfo op).2.1 id)
    (dec : ∀ Q' : Value → Shared → Prop, Q' .notImplemented s → wpAny (model prog w) A (call (.builtin id) [v, .ref x]) Q' E s)
    (hsub : PySem.W.subIn K (.ref C) (.type T) = some false)
    (hs : PySem.W.findIn K (.ref C) (cmpInfo op).2.2 = some (some (.ref f))) (hf : PySem.W.isFn K (.ref f) = true)
    (h : wpAny (model prog w) A (call (.ref f) [.ref x, v]) (PySem.W.CmpBack Q) E s) : wpAny (model prog w) A (richCompare op v (.ref x)) Q E s := by
  have one : wpAny (model prog w) A (tryCompare (.ref x) (cmpInfo op).2.2 v) (fun r s' => ∃ v, r = some v ∧ Q v s') E s := by
    unfold tryCompare
    refine wpAny_bind (PySem.W.ifBound_K X I hs hf (wpAny_mono h (fun v s' hv => ?_) fun _ _ e => e))
    cases v <;> first | exact hv.elim | exact wpAny_pure ⟨_, rfl, hv⟩
  have hne : (Value.type T != Value.ref C) = true := by
    rw [bne, beq_eq_false_iff_ne.mpr (fun q => by cases q)]; rfl
  rcases hi : cmpInfo op with ⟨sym, f', r'⟩
  rw [hi] at slot one
  simp only [richCompare, hi, hT.oneThing_none]
  refine wpAny_holding ?_
  refine wpAny_bind (wpAny_cRoomFor hu ?_)
  refine wpAny_bind (wpAny_typeOf hT (wpAny_bind (I.type.here ?_)))
  simp only [hne, if_true]
  refine wpAny_bind ((PySem.W.looks_subIn X hsub).here ?_)
  simp only [Bool.false_eq_true, if_false]
  refine wpAny_bind (m := tryCompare v _ (.ref x)) (wpAny_tryCompare_declines hT slot (dec _ ⟨rfl, ?_⟩))
  simp only [Bool.not_false, if_true]
  refine wpAny_bind (wpAny_mono one (fun r s' z => ?_) fun _ _ e => e)
  obtain ⟨u, rfl, hq⟩ := z
  exact wpAny_pure hq


/-- the != that object gives: not (x == b) -/
theorem try_ne {x : Addr} {b : Value} {f : Addr} {ox : Obj} {od : Option Obj} {Q : Option Value → Shared → Prop} (hu : A.units + 1 < cLine)
    (X : K.In s.heap) (I : PySem.W.InstAt s.heap x ox C od)
    (hs : PySem.W.findIn K (.ref C) "__ne__" = some (some (.builtin "object.__ne__"))) (hobj : PySem.W.mroIn K C (.type "object") = some true)
    (he : PySem.W.findIn K (.ref C) "__eq__" = some (some (.ref f))) (hf : PySem.W.isFn K (.ref f) = true)
    (h : wpAny (model prog w) A.in1 (call (.ref f) [.ref x, b]) (fun v s' => ∃ k, v = .bool k ∧ Q (some (.bool (!k))) s') E s) : wpAny (model prog w) A (tryCompare (.ref x) "__ne__" b) Q E s := by
  have sub : PySem.W.Looks (model prog w) s.heap (isInstance (.ref x) (.type "object")) true := I.type.andThen (PySem.W.looks_mroIn X hobj)
  have main : wpAny (model prog w) A (call (.builtin "object.__ne__") [.ref x, b]) (fun v s' => ∃ k, v = .bool k ∧ Q (some (.bool k)) s') E s := by
    refine wpAny_call (codeAny_call_builtin F.slot_object_ne.plain F.entry_object_ne (@PySem.W.check_slot (model prog w) _ _ s "object.__ne__" "object" "__ne__" (.ref x) [b] [] _ F.cmpKind_ne F.cmpSplit_ne sub (F.cmpArgs_ne _ _) ?_))
    unfold Builtin.«object.__ne__»
    refine wpAny_bind (m := slotArgs _ _ _) (wpAny_pure ?_)
    refine wpAny_bind (wpAny_cRoomFor hu ?_)
    refine wpAny_bind (m := callSpecialIfBound? (.ref x) _ _) (PySem.W.ifBound_K X I he hf (wpAny_mono h (fun v s' hv => ?_) fun _ _ e => e))
    obtain ⟨k, rfl, q⟩ := hv
    refine wpAny_bind (wpAny_truthy_bool ?_)
    exact wpAny_pure ⟨_, rfl, q⟩
  unfold tryCompare
  refine wpAny_bind (m := callSpecialIfBound? (.ref x) _ _) ?_
  simp only [callSpecialIfBound?, bindSpecialIfBound?]
  refine wpAny_holding (wpAny_bind (wpAny_bind (wpAny_bind (I.type.here ((PySem.W.looks_findIn X hs).here ?_)))))
  refine wpAny_bind (wpAny_askSetting (wpAny_ite ?_))
  have bd : PySem.W.Looks (model prog w) s.heap (bindSpecial (.builtin "object.__ne__") (.ref x)) (.builtin "object.__ne__", [.ref x]) := PySem.W.Looks.of_pure (F.slot_object_ne.bind _)
  have fin : wpAny (model prog w) A (call (.builtin "object.__ne__") ([.ref x] ++ [b]) >>= fun v => pure (some v)) (fun r s' => wpAny (model prog w) A (match r with | some .notImplemented | none => pure none | some v => pure (some v)) Q E s') E s := by
    refine wpAny_bind (wpAny_mono main (fun v s' h' => ?_) fun _ _ h' => h')
    obtain ⟨k, rfl, q⟩ := h'
    exact wpAny_pure (wpAny_pure q)
  split
  · exact wpAny_bind (bd.here (wpAny_pure (by exact fin)))
  · exact wpAny_tryCatch (wpAny_bind (bd.here (wpAny_pure (by exact fin))))

/-- x != b, x an instance with an own == and no own != -/
theorem ne_inst {x : Addr} {b tb : Value} {f : Addr} {ox : Obj} {od : Option Obj} {Q : Value → Shared → Prop} (hu : A.units + 1 < cLine)
    (X : K.In s.heap) (I : PySem.W.InstAt s.heap x ox C od) (hb : PySem.W.Looks (model prog w) s.heap (typeOf b) tb) (hn : PySem.W.notFirst K C tb = true)
    (hs : PySem.W.findIn K (.ref C) "__ne__" = some (some (.builtin "object.__ne__"))) (hobj : PySem.W.mroIn K C (.type "object") = some true)
    (he : PySem.W.findIn K (.ref C) "__eq__" = some (some (.ref f))) (hf : PySem.W.isFn K (.ref f) = true)
    (h : wpAny (model prog w) A.in1 (call (.ref f) [.ref x, b]) (fun v s' => ∃ k, v = .bool k ∧ Q (.bool (!k)) s') E s) : wpAny (model prog w) A (richCompare .NotEq (.ref x) b) Q E s := by
  have one : wpAny (model prog w) A (tryCompare (.ref x) "__ne__" b) (fun r s' => ∃ v, r = some v ∧ Q v s') E s :=
    try_ne hu X I hs hobj he hf (wpAny_mono h (fun v s' ⟨k, e, q⟩ => ⟨k, e, _, rfl, q⟩) fun _ _ e => e)
  unfold richCompare
  simp only [oneThing_ref]
  refine wpAny_holding (wpAny_bind (wpAny_cRoomFor (by omega) ?_))
  refine wpAny_bind (I.type.here (wpAny_bind (hb.here ?_)))
  split
  · rename_i q
    have e : PySem.W.subIn K tb (.ref C) = some false := by
      rcases Bool.or_eq_true_iff.mp hn with e | e
      · rw [beq_iff_eq.mp e] at q; simp at q
      · exact beq_iff_eq.mp e
    refine wpAny_bind ((PySem.W.looks_subIn X e).here ?_)
    simp only [Bool.false_eq_true, if_false]
    refine wpAny_bind (wpAny_mono one (fun r s' z => ?_) fun _ _ e => e)
    obtain ⟨v, rfl, hq⟩ := z
    exact wpAny_pure hq
  · refine wpAny_bind (wpAny_pure ?_)
    simp only [Bool.false_eq_true, if_false]
    refine wpAny_bind (wpAny_mono one (fun r s' z => ?_) fun _ _ e => e)
    obtain ⟨v, rfl, hq⟩ := z
    exact wpAny_pure hq

/-- v != x, v of a built-in type that declines, x an instance -/
theorem ne_refl {x : Addr} {v : Value} {T id : String} {f : Addr} {ox : Obj} {od : Option Obj} {Q : Value → Shared → Prop} (hu : A.units + 1 < cLine)
    (X : K.In s.heap) (I : PySem.W.InstAt s.heap x ox C od) (hT : s.TypeIs v T) (slot : Slot T (cmpInfo .NotEq).2.1 id)
    (dec : ∀ Q' : Value → Shared → Prop, Q' .notImplemented s → wpAny (model prog w) A (call (.builtin id) [v, .ref x]) Q' E s)
    (hsub : PySem.W.subIn K (.ref C) (.type T) = some false)
    (hs : PySem.W.findIn K (.ref C) "__ne__" = some (some (.builtin "object.__ne__"))) (hobj : PySem.W.mroIn K C (.type "object") = some true)
    (he : PySem.W.findIn K (.ref C) "__eq__" = some (some (.ref f))) (hf : PySem.W.isFn K (.ref f) = true)
    (h : wpAny (model prog w) A.in1 (call (.ref f) [.ref x, v]) (fun v s' => ∃ k, v = .bool k ∧ Q (.bool (!k)) s') E s) : wpAny (model prog w) A (richCompare .NotEq v (.ref x)) Q E s := by
  have one : wpAny (model prog w) A (tryCompare (.ref x) (cmpInfo .NotEq).2.2 v) (fun r s' => ∃ v, r = some v ∧ Q v s') E s :=
    try_ne hu X I hs hobj he hf (wpAny_mono h (fun v s' ⟨k, e, q⟩ => ⟨k, e, _, rfl, q⟩) fun _ _ e => e)
  have hne : (Value.type T != Value.ref C) = true := by
    rw [bne, beq_eq_false_iff_ne.mpr (fun q => by cases q)]; rfl
  rcases hi : cmpInfo CmpOp.NotEq with ⟨sym, f', r'⟩
  rw [hi] at slot one
  simp only [richCompare, hi, hT.oneThing_none]
  refine wpAny_holding ?_
  refine wpAny_bind (wpAny_cRoomFor (by omega) ?_)
  refine wpAny_bind (wpAny_typeOf hT (wpAny_bind (I.type.here ?_)))
  simp only [hne, if_true]
  refine wpAny_bind ((PySem.W.looks_subIn X hsub).here ?_)
  simp only [Bool.false_eq_true, if_false]
  refine wpAny_bind (m := tryCompare v _ (.ref x)) (wpAny_tryCompare_declines hT slot (dec _ ⟨rfl, ?_⟩))
  simp only [Bool.not_false, if_true]
  refine wpAny_bind (wpAny_mono one (fun r s' z => ?_) fun _ _ e => e)
  obtain ⟨u, rfl, hq⟩ := z
  exact wpAny_pure hq

/-! ### what declines beside an instance -/
section
variable {a : Addr}
abbrev PlainAt (s : Shared) (a C : Addr) : Prop := ∃ dd sl, s.heap.get? a = some { cls := .ref C, dict := dd, data := .plain, slots := sl }
theorem dec_int_eq (b : Int) (u : Tok) (C : Addr) : Meets (Builtin.«int.__eq__» ⟨[.int b u, .ref a], []⟩) (fun _ R s => PlainAt s a C ∧ R (.ok (.ret .notImplemented)) s) :=
  .of_wp fun prog w A R s h => by obtain ⟨hp, g, d, tk, os⟩ := s; obtain ⟨⟨dd, sl, hl⟩, h⟩ := h; wp_walk using wpAny_loadPart' hl, wpAny_load hl; exact ⟨_, rfl, h⟩
theorem dec_int_ne (b : Int) (u : Tok) (C : Addr) : Meets (Builtin.«int.__ne__» ⟨[.int b u, .ref a], []⟩) (fun _ R s => PlainAt s a C ∧ R (.ok (.ret .notImplemented)) s) :=
  .of_wp fun prog w A R s h => by obtain ⟨hp, g, d, tk, os⟩ := s; obtain ⟨⟨dd, sl, hl⟩, h⟩ := h; wp_walk using wpAny_loadPart' hl, wpAny_load hl; exact ⟨_, rfl, h⟩
theorem dec_int_lt (b : Int) (u : Tok) (C : Addr) : Meets (Builtin.«int.__lt__» ⟨[.int b u, .ref a], []⟩) (fun _ R s => PlainAt s a C ∧ R (.ok (.ret .notImplemented)) s) :=
  .of_wp fun prog w A R s h => by obtain ⟨hp, g, d, tk, os⟩ := s; obtain ⟨⟨dd, sl, hl⟩, h⟩ := h; wp_walk using wpAny_loadPart' hl, wpAny_load hl; exact ⟨_, rfl, h⟩
theorem dec_int_le (b : Int) (u : Tok) (C : Addr) : Meets (Builtin.«int.__le__» ⟨[.int b u, .ref a], []⟩) (fun _ R s => PlainAt s a C ∧ R (.ok (.ret .notImplemented)) s) :=
  .of_wp fun prog w A R s h => by obtain ⟨hp, g, d, tk, os⟩ := s; obtain ⟨⟨dd, sl, hl⟩, h⟩ := h; wp_walk using wpAny_loadPart' hl, wpAny_load hl; exact ⟨_, rfl, h⟩
theorem dec_int_gt (b : Int) (u : Tok) (C : Addr) : Meets (Builtin.«int.__gt__» ⟨[.int b u, .ref a], []⟩) (fun _ R s => PlainAt s a C ∧ R (.ok (.ret .notImplemented)) s) :=
  .of_wp fun prog w A R s h => by obtain ⟨hp, g, d, tk, os⟩ := s; obtain ⟨⟨dd, sl, hl⟩, h⟩ := h; wp_walk using wpAny_loadPart' hl, wpAny_load hl; exact ⟨_, rfl, h⟩
theorem dec_int_ge (b : Int) (u : Tok) (C : Addr) : Meets (Builtin.«int.__ge__» ⟨[.int b u, .ref a], []⟩) (fun _ R s => PlainAt s a C ∧ R (.ok (.ret .notImplemented)) s) :=
  .of_wp fun prog w A R s h => by obtain ⟨hp, g, d, tk, os⟩ := s; obtain ⟨⟨dd, sl, hl⟩, h⟩ := h; wp_walk using wpAny_loadPart' hl, wpAny_load hl; exact ⟨_, rfl, h⟩
theorem dec_bool_eq (b : Bool) (C : Addr) : Meets (Builtin.«int.__eq__» ⟨[.bool b, .ref a], []⟩) (fun _ R s => PlainAt s a C ∧ R (.ok (.ret .notImplemented)) s) :=
  .of_wp fun prog w A R s h => by obtain ⟨hp, g, d, tk, os⟩ := s; obtain ⟨⟨dd, sl, hl⟩, h⟩ := h; wp_walk using wpAny_loadPart' hl, wpAny_load hl; exact ⟨_, rfl, h⟩
theorem dec_none_eq : Gives (Builtin.«NoneType.__eq__» ⟨[.none, .ref a], []⟩) (.val (Value.notImplemented)) :=
  .of_wp fun M A E s Q h => by obtain ⟨hp, g, d, tk, os⟩ := s; wp_walk; exact ⟨_, rfl, h⟩
theorem dec_str_eq (b : Str) (u : Tok) (C : Addr) : Meets (Builtin.«str.__eq__» ⟨[.str b u, .ref a], []⟩) (fun _ R s => PlainAt s a C ∧ R (.ok (.ret .notImplemented)) s) :=
  .of_wp fun prog w A R s h => by obtain ⟨hp, g, d, tk, os⟩ := s; obtain ⟨⟨dd, sl, hl⟩, h⟩ := h; wp_walk using wpAny_loadPart' hl, wpAny_load hl; exact ⟨_, rfl, h⟩
theorem dec_list_eq {l : Addr} {R : Result → Shared → Prop} (sub : PySem.W.Looks (model prog w) s.heap (isInstance (.ref a) (.type "list")) false) (h : R (.ok (.ret .notImplemented)) s) :
    wpAny (model prog w) A.in1 (Builtin.«list.__eq__» ⟨[.ref l, .ref a], []⟩) (fun fin s' => match fin with | .done f => R (.ok f) s' | .again c' => c'.quiet = true ∧ codeAny (model prog w) A c' R s') (fun e s' => R (.error e) s') s := by
  refine wpAny_bind (m := slotArgs _ _ _) (wpAny_pure ?_)
  refine wpAny_bind (m := isInstance _ _) (sub.here ?_)
  wp_walk
  exact h
theorem dec_tuple_eq {l : Addr} {R : Result → Shared → Prop} (sub : PySem.W.Looks (model prog w) s.heap (isInstance (.ref a) (.type "tuple")) false) (h : R (.ok (.ret .notImplemented)) s) :
    wpAny (model prog w) A.in1 (Builtin.«tuple.__eq__» ⟨[.ref l, .ref a], []⟩) (fun fin s' => match fin with | .done f => R (.ok f) s' | .again c' => c'.quiet = true ∧ codeAny (model prog w) A c' R s') (fun e s' => R (.error e) s') s := by
  refine wpAny_bind (m := slotArgs _ _ _) (wpAny_pure ?_)
  refine wpAny_bind (m := isInstance _ _) (sub.here ?_)
  wp_walk
  exact h
theorem dec_dict_eq {l : Addr} {R : Result → Shared → Prop} (sub : PySem.W.Looks (model prog w) s.heap (isInstance (.ref a) (.type "dict")) false) (h : R (.ok (.ret .notImplemented)) s) :
    wpAny (model prog w) A.in1 (Builtin.«dict.__eq__» ⟨[.ref l, .ref a], []⟩) (fun fin s' => match fin with | .done f => R (.ok f) s' | .again c' => c'.quiet = true ∧ codeAny (model prog w) A c' R s') (fun e s' => R (.error e) s') s := by
  have e : Builtin.Dict.dictSlotArgs "__eq__" ⟨[.ref l, .ref a], []⟩ = pure (.ref l, .ref a) := by kernel_rfl
  refine wpAny_bind (m := Builtin.Dict.dictSlotArgs _ _) ?_
  rw [e]
  refine wpAny_pure ?_
  refine wpAny_bind (m := isInstance _ _) (sub.here ?_)
  wp_walk
  exact h
theorem dec_bool_ne (b : Bool) (C : Addr) : Meets (Builtin.«int.__ne__» ⟨[.bool b, .ref a], []⟩) (fun _ R s => PlainAt s a C ∧ R (.ok (.ret .notImplemented)) s) :=
  .of_wp fun prog w A R s h => by obtain ⟨hp, g, d, tk, os⟩ := s; obtain ⟨⟨dd, sl, hl⟩, h⟩ := h; wp_walk using wpAny_loadPart' hl, wpAny_load hl; exact ⟨_, rfl, h⟩
theorem dec_none_ne : Gives (Builtin.«NoneType.__ne__» ⟨[.none, .ref a], []⟩) (.val (Value.notImplemented)) :=
  .of_wp fun M A E s Q h => by obtain ⟨hp, g, d, tk, os⟩ := s; wp_walk; exact ⟨_, rfl, h⟩
theorem dec_str_ne (b : Str) (u : Tok) (C : Addr) : Meets (Builtin.«str.__ne__» ⟨[.str b u, .ref a], []⟩) (fun _ R s => PlainAt s a C ∧ R (.ok (.ret .notImplemented)) s) :=
  .of_wp fun prog w A R s h => by obtain ⟨hp, g, d, tk, os⟩ := s; obtain ⟨⟨dd, sl, hl⟩, h⟩ := h; wp_walk using wpAny_loadPart' hl, wpAny_load hl; exact ⟨_, rfl, h⟩
theorem dec_list_ne {l : Addr} {R : Result → Shared → Prop} (sub : PySem.W.Looks (model prog w) s.heap (isInstance (.ref a) (.type "list")) false) (h : R (.ok (.ret .notImplemented)) s) :
    wpAny (model prog w) A.in1 (Builtin.«list.__ne__» ⟨[.ref l, .ref a], []⟩) (fun fin s' => match fin with | .done f => R (.ok f) s' | .again c' => c'.quiet = true ∧ codeAny (model prog w) A c' R s') (fun e s' => R (.error e) s') s := by
  refine wpAny_bind (m := slotArgs _ _ _) (wpAny_pure ?_)
  refine wpAny_bind (m := isInstance _ _) (sub.here ?_)
  wp_walk
  exact h
theorem dec_tuple_ne {l : Addr} {R : Result → Shared → Prop} (sub : PySem.W.Looks (model prog w) s.heap (isInstance (.ref a) (.type "tuple")) false) (h : R (.ok (.ret .notImplemented)) s) :
    wpAny (model prog w) A.in1 (Builtin.«tuple.__ne__» ⟨[.ref l, .ref a], []⟩) (fun fin s' => match fin with | .done f => R (.ok f) s' | .again c' => c'.quiet = true ∧ codeAny (model prog w) A c' R s') (fun e s' => R (.error e) s') s := by
  refine wpAny_bind (m := slotArgs _ _ _) (wpAny_pure ?_)
  refine wpAny_bind (m := isInstance _ _) (sub.here ?_)
  wp_walk
  exact h
theorem dec_dict_ne {l : Addr} {R : Result → Shared → Prop} (sub : PySem.W.Looks (model prog w) s.heap (isInstance (.ref a) (.type "dict")) false) (h : R (.ok (.ret .notImplemented)) s) :
    wpAny (model prog w) A.in1 (Builtin.«dict.__ne__» ⟨[.ref l, .ref a], []⟩) (fun fin s' => match fin with | .done f => R (.ok f) s' | .again c' => c'.quiet = true ∧ codeAny (model prog w) A c' R s') (fun e s' => R (.error e) s') s := by
  have e : Builtin.Dict.dictSlotArgs "__ne__" ⟨[.ref l, .ref a], []⟩ = pure (.ref l, .ref a) := by kernel_rfl
  refine wpAny_bind (m := Builtin.Dict.dictSlotArgs _ _) ?_
  rw [e]
  refine wpAny_pure ?_
  refine wpAny_bind (m := isInstance _ _) (sub.here ?_)
  wp_walk
  exact h
end
end
end AmL
/-! rules over the hand layer: operators of an own class, beside built-in values too -/
namespace Am
open PySem PySem.Spec PyProof.Rows L2

/-- values of built-in types -/
inductive Bk (H : Hp) : V → String → Prop where
  | non : Bk H .non "NoneType"
  | bl (b : Bool) : Bk H (.bl b) "bool"
  | int (i : Int) : Bk H (.int i) "int"
  | str (z : Str) : Bk H (.str z) "str"
  | lst {a : Addr} {xs : List V} (h : H a = some (.lst xs)) : Bk H (.ref a) "list"
  | tup {a : Addr} {xs : List V} (h : H a = some (.tup xs)) : Bk H (.ref a) "tuple"
  | dK {a : Addr} {kvs : List (Key × V)} (h : H a = some (.dK kvs)) : Bk H (.ref a) "dict"
def isI : V → Bool
  | .int _ => true
  | _ => false
theorem Bk.same {H H' : Hp} (e : Same H H') {x : V} {T : String} (b : Bk H x T) : Bk H' x T := by
  cases b with
  | non => exact .non
  | bl b => exact .bl b
  | int i => exact .int i
  | str z => exact .str z
  | lst h => exact .lst (e _ _ h)
  | tup h => exact .tup (e _ _ h)
  | dK h => exact .dK (e _ _ h)
theorem Bk.tyOf {K : PySem.W.Frag} {H : Hp} {x : V} {T : String} (b : Bk H x T) : TyOf K H x (.type T) := by
  cases b with
  | non => exact .non
  | bl b => exact .bl b
  | int i => exact .int i
  | str z => exact .str z
  | lst h => exact .lst h
  | tup h => exact .tup h
  | dK h => exact .dK h
section
variable {X : Cx} {pins : List (Addr × Obj)} {σ : L2.St} {H : Hp} {s : Shared}
theorem Bk.typeIs {x : V} {T : String} {u : Value} (b : Bk H x T) (I : Inv X pins σ H s) (r : RelV x u) : s.TypeIs u T := by
  cases b with
  | non => cases (show u = Value.none from r); rfl
  | bl b => cases (show u = Value.bool b from r); rfl
  | int i => obtain ⟨t, q⟩ := (show ∃ t, u = Value.int i t from r); cases q; rfl
  | str z => obtain ⟨t, q⟩ := (show ∃ t, u = Value.str z t from r); cases q; rfl
  | @lst a xs ea =>
    cases (show u = Value.ref a from r)
    obtain ⟨_, _, n, _, h1⟩ := (show ObjOk X.prog X.w H s.heap a (.lst xs) from I.hok a _ ea)
    exact ⟨_, h1, rfl⟩
  | @tup a xs ea =>
    cases (show u = Value.ref a from r)
    obtain ⟨_, _, _, o, h1, h2, _⟩ := (show ObjOk X.prog X.w H s.heap a (.tup xs) from I.hok a _ ea)
    exact ⟨o, h1, h2⟩
  | @dK a kvs ea =>
    cases (show u = Value.ref a from r)
    obtain ⟨_, _, vs, _, o, es, ep, h1, h2, _⟩ := (show ObjOk X.prog X.w H s.heap a (.dK kvs) from I.hok a _ ea)
    exact ⟨o, h1, h2.1⟩
theorem looks_typeIs {M : Model} {u : Value} {T : String} (h : s.TypeIs u T) : PySem.W.Looks M s.heap (typeOf u) (.type T) := by
  intro A Q E s' k q
  have h' : s'.TypeIs u T := by
    cases u with
    | ref a => obtain ⟨o, ho, hc⟩ := h; exact ⟨o, k _ _ ho, hc⟩
    | _ => exact h
  exact wpAny_typeOf h' q
end

/-- what the operators ask of the class -/
structure OpC (K : PySem.W.Frag) (C : Addr) : Prop where
  sf : PySem.W.selfFirst K C = true
  ne : PySem.W.findIn K (.ref C) "__ne__" = some (some (.builtin "object.__ne__"))
  ob : PySem.W.mroIn K C (.type "object") = some true
  s1 : PySem.W.subIn K (.ref C) (.type "int") = some false
  s2 : PySem.W.subIn K (.ref C) (.type "bool") = some false
  s3 : PySem.W.subIn K (.ref C) (.type "NoneType") = some false
  s4 : PySem.W.subIn K (.ref C) (.type "str") = some false
  s5 : PySem.W.subIn K (.ref C) (.type "list") = some false
  s6 : PySem.W.subIn K (.ref C) (.type "tuple") = some false
  s7 : PySem.W.subIn K (.ref C) (.type "dict") = some false
  r1 : PySem.W.subIn K (.type "int") (.ref C) = some false
  r2 : PySem.W.subIn K (.type "bool") (.ref C) = some false
  r3 : PySem.W.subIn K (.type "NoneType") (.ref C) = some false
  r4 : PySem.W.subIn K (.type "str") (.ref C) = some false
  r5 : PySem.W.subIn K (.type "list") (.ref C) = some false
  r6 : PySem.W.subIn K (.type "tuple") (.ref C) = some false
  r7 : PySem.W.subIn K (.type "dict") (.ref C) = some false
theorem OpC.sub {K : PySem.W.Frag} {C : Addr} {H : Hp} {x : V} {T : String} (c : OpC K C) (b : Bk H x T) : PySem.W.subIn K (.ref C) (.type T) = some false := by
  cases b <;> first | exact c.s1 | exact c.s2 | exact c.s3 | exact c.s4 | exact c.s5 | exact c.s6 | exact c.s7
theorem OpC.rev {K : PySem.W.Frag} {C : Addr} {H : Hp} {x : V} {T : String} (c : OpC K C) (b : Bk H x T) : PySem.W.subIn K (.type T) (.ref C) = some false := by
  cases b <;> first | exact c.r1 | exact c.r2 | exact c.r3 | exact c.r4 | exact c.r5 | exact c.r6 | exact c.r7
theorem OpC.nf {K : PySem.W.Frag} {C : Addr} {H : Hp} {x : V} {T : String} (c : OpC K C) (b : Bk H x T) : PySem.W.notFirst K C (.type T) = true := by
  unfold PySem.W.notFirst
  rw [c.rev b]
  simp
theorem nf_self {K : PySem.W.Frag} {C : Addr} : PySem.W.notFirst K C (.ref C) = true := by
  unfold PySem.W.notFirst
  simp

/-- a method that an operator calls -/
structure Om (X : Cx) (C : Addr) (name : Str) (g : Addr) : Prop where
  hs : PySem.W.findIn X.K (.ref C) name = some (some (.ref g))
  hf : PySem.W.isFn X.K (.ref g) = true
/-- an instance of C, or a value of a built-in type -/
def OrB (C : Addr) (H : Hp) (y : V) : Prop := (∃ b dy gs, y = .ref b ∧ H b = some (.ins C dy gs)) ∨ ∃ T, Bk H y T
section
variable {X : Cx} {C g : Addr} {k : Nat} {fd : FuncData} {ps : List Str} {sp : Sp} {CX : CXT} {E : XK} {pins : List (Addr × Obj)} {σ : L2.St} {H : Hp} {s : Shared}
theorem inst_of {a dx : Addr} {fs : List (Str × V)} (I : Inv X pins σ H s) (ha : H a = some (.ins C dx fs)) : ∃ od, PySem.W.InstAt s.heap a (PySem.W.instObj C dx) C (some od) := by
  obtain ⟨mA, J, _⟩ := ins_get I.hok ha
  obtain ⟨od, J, _⟩ := J.look
  exact ⟨od, J⟩
theorem plain_of {a dx : Addr} {fs : List (Str × V)} (I : Inv X pins σ H s) (ha : H a = some (.ins C dx fs)) : AmL.PlainAt s a C := by
  obtain ⟨_, _, _, h, _⟩ := (show ObjOk X.prog X.w H s.heap a (.ins C dx fs) from I.hok a _ ha)
  exact ⟨_, _, h⟩
theorem orB_type {y : V} {u : Value} (c : OpC X.K C) (I : Inv X pins σ H s) (ry : RelV y u) (h : OrB C H y) : ∃ tb, PySem.W.Looks (model X.prog X.w) s.heap (typeOf u) tb ∧ PySem.W.notFirst X.K C tb = true := by
  rcases h with ⟨b, dy, gs, rfl, hb⟩ | ⟨T, b⟩
  · cases (show u = Value.ref b from ry)
    obtain ⟨od, J⟩ := inst_of I hb
    exact ⟨.ref C, J.type, nf_self⟩
  · exact ⟨.type T, looks_typeIs (b.typeIs I ry), c.nf b⟩

/-- x op y: x an instance -/
def rCmp (C : Addr) (sp : Sp) (E : XK) : R2 := fun x y H Q => (∃ a dx fs, x = .ref a ∧ H a = some (.ins C dx fs)) ∧ OrB C H y ∧ sp [x, y] H Q E
theorem op_cmpC {op : CmpOp} (hop : ∀ a b, compareOp op a b = richCompare op a b) (c : OpC X.K C) (m : Om X C (cmpInfo op).2.1 g) (F : FnOk X.prog X.w X.K X.mg X.base CX k g fd ps sp) (hr : Room k X.A) (hb : Binds X.K fd ps [])
    (hx : Passes CX X E) : OpR X (compareOp op) (rCmp C sp E) := by
  intro pins s σ H x y v u Q I rx ry h
  obtain ⟨⟨a, dx, fs, rfl, ha⟩, hy, q⟩ := h
  cases (show v = Value.ref a from rx)
  obtain ⟨od, J⟩ := inst_of I ha
  obtain ⟨tb, ht, hn⟩ := orB_type c I ry hy
  obtain ⟨mm, hF⟩ := I.fr
  rw [hop]
  refine PySem.W.cmp_K (op := op) hr.units0 hF I.ok.mod.kin J ht hn m.hs m.hf ?_
  refine wpAny_mono (run_fn (us := [.ref a, u]) (vs := [.ref a, y]) (dvs := []) F hr hb .nil hx I (.cons rfl (.cons ry .nil)) q) (fun w s' z => ?_) fun _ _ x => x
  obtain ⟨z', H', I', rz, qz⟩ := z
  exact SlX.cmpback rz ⟨z', H', I', rz, qz⟩

theorem room_in1 {A : Around} (hr : Room (k + 1) A) : Room k A.in1 := hr.in1
/-- the callee runs one builtin below -/
theorem run_in1 {Q : VK} {us : List Value} {vs : List V} (F : FnOk X.prog X.w X.K X.mg X.base CX k g fd ps sp) (hr : Room (k + 1) X.A) (hb : Binds X.K fd ps []) (hx : Passes CX X E)
    (I : Inv X pins σ H s) (r : Vals vs us) (h : sp vs H Q E) : wpAny (model X.prog X.w) X.A.in1 (call (.ref g) us) (EP X pins σ Q) X.xe s := by
  have hl : us.length = ps.length := by rw [← r.length]; exact F.len _ _ _ _ h
  refine wpAny_call (codeAny_mono (F.run X.A.in1 X.stack s H ⟨us, []⟩ us vs Q E hr.in1 I.env0.in1 (by
    have := hb s us I.kIn (by simpa using hl)
    simpa using this) r h) fun r s' hq => ?_)
  cases r with
  | error e => exact hx pins σ H s e s' I hq
  | ok fl =>
    cases fl with
    | ret u => exact I.after hq
    | next => exact False.elim hq
    | brk => exact False.elim hq
    | cont => exact False.elim hq

/-- x != y: x an instance whose class has an own ==, that hands back a truth value -/
def rNeC (C : Addr) (sp : Sp) (E : XK) : R2 := fun x y H Q => (∃ a dx fs, x = .ref a ∧ H a = some (.ins C dx fs)) ∧ OrB C H y ∧ sp [x, y] H (fun v H' => ∃ b, v = .bl b ∧ Q (.bl (!b)) H') E
theorem op_neC (c : OpC X.K C) (m : Om X C "__eq__" g) (F : FnOk X.prog X.w X.K X.mg X.base CX k g fd ps sp) (hr : Room (k + 1) X.A) (hb : Binds X.K fd ps [])
    (hx : Passes CX X E) : OpR X (compareOp .NotEq) (rNeC C sp E) := by
  intro pins s σ H x y v u Q I rx ry h
  obtain ⟨⟨a, dx, fs, rfl, ha⟩, hy, q⟩ := h
  cases (show v = Value.ref a from rx)
  obtain ⟨od, J⟩ := inst_of I ha
  obtain ⟨tb, ht, hn⟩ := orB_type c I ry hy
  show wpAny (model X.prog X.w) X.A (richCompare .NotEq _ _) (EP X pins σ Q) X.xe s
  refine AmL.ne_inst (by have := hr.units; omega) I.kIn J ht hn c.ne c.ob m.hs m.hf ?_
  refine wpAny_mono (run_in1 (us := [.ref a, u]) (vs := [.ref a, y]) F hr hb hx I (.cons rfl (.cons ry .nil)) q) (fun w s' z => ?_) fun _ _ x => x
  obtain ⟨z', H', I', rz, b, rfl, qz⟩ := z
  cases (show w = Value.bool b from rz)
  exact ⟨b, rfl, .bl (!b), H', I', rfl, qz⟩

theorem insub {a dx : Addr} {fs : List (Str × V)} {T : String} (I : Inv X pins σ H s) (ha : H a = some (.ins C dx fs)) (h : PySem.W.subIn X.K (.ref C) (.type T) = some false) :
    PySem.W.Looks (model X.prog X.w) s.heap (isInstance (.ref a) (.type T)) false := by
  obtain ⟨od, J⟩ := inst_of I ha
  exact J.type.andThen (PySem.W.looks_subIn I.kIn h)

/-- what declines -/
structure Dec (X : Cx) (op : CmpOp) (P : Hp → V → Prop) : Prop where
  run : ∀ (pins : List (Addr × Obj)) (σ : L2.St) (H : Hp) (s : Shared) (C a dx : Addr) (fs : List (Str × V)) (x : V) (v : Value), OpC X.K C → Inv X pins σ H s → RelV x v → P H x → H a = some (.ins C dx fs) →
    ∃ T id, Bk H x T ∧ Slot T (cmpInfo op).2.1 id ∧ ∀ (E : Value → Shared → Prop) (Q' : Value → Shared → Prop), Q' .notImplemented s → wpAny (model X.prog X.w) X.A (call (.builtin id) [v, .ref a]) Q' E s

/-- x op y: x a value that declines, y an instance -/
def rRef (C : Addr) (P : Hp → V → Prop) (sp : Sp) (E : XK) : R2 := fun x y H Q => P H x ∧ (∃ a dx fs, y = .ref a ∧ H a = some (.ins C dx fs)) ∧ sp [y, x] H Q E
theorem op_refC {op : CmpOp} {P : Hp → V → Prop} (hop : ∀ a b, compareOp op a b = richCompare op a b) (d : Dec X op P) (c : OpC X.K C) (m : Om X C (cmpInfo op).2.2 g) (F : FnOk X.prog X.w X.K X.mg X.base CX k g fd ps sp) (hr : Room k X.A)
    (hb : Binds X.K fd ps []) (hx : Passes CX X E) : OpR X (compareOp op) (rRef C P sp E) := by
  intro pins s σ H x y v u Q I rx ry h
  obtain ⟨hp, ⟨a, dx, fs, rfl, ha⟩, q⟩ := h
  cases (show u = Value.ref a from ry)
  obtain ⟨od, J⟩ := inst_of I ha
  obtain ⟨T, id, bk, slot, dec⟩ := d.run pins σ H s C a dx fs x v c I rx hp ha
  rw [hop]
  refine AmL.refl_inst (op := op) hr.units0 I.kIn J (bk.typeIs I rx) slot (fun Q' q' => dec _ Q' q') (c.sub bk) m.hs m.hf ?_
  refine wpAny_mono (run_fn (us := [.ref a, v]) (vs := [.ref a, x]) (dvs := []) F hr hb .nil hx I (.cons rfl (.cons rx .nil)) q) (fun w s' z => ?_) fun _ _ x => x
  obtain ⟨z', H', I', rz, qz⟩ := z
  exact SlX.cmpback rz ⟨z', H', I', rz, qz⟩
def rRefN (C : Addr) (P : Hp → V → Prop) (sp : Sp) (E : XK) : R2 := fun x y H Q => P H x ∧ (∃ a dx fs, y = .ref a ∧ H a = some (.ins C dx fs)) ∧ sp [y, x] H (fun v H' => ∃ b, v = .bl b ∧ Q (.bl (!b)) H') E
theorem op_refN {P : Hp → V → Prop} (d : Dec X .NotEq P) (c : OpC X.K C) (m : Om X C "__eq__" g) (F : FnOk X.prog X.w X.K X.mg X.base CX k g fd ps sp) (hr : Room (k + 1) X.A)
    (hb : Binds X.K fd ps []) (hx : Passes CX X E) : OpR X (compareOp .NotEq) (rRefN C P sp E) := by
  intro pins s σ H x y v u Q I rx ry h
  obtain ⟨hp, ⟨a, dx, fs, rfl, ha⟩, q⟩ := h
  cases (show u = Value.ref a from ry)
  obtain ⟨od, J⟩ := inst_of I ha
  obtain ⟨T, id, bk, slot, dec⟩ := d.run pins σ H s C a dx fs x v c I rx hp ha
  show wpAny (model X.prog X.w) X.A (richCompare .NotEq _ _) (EP X pins σ Q) X.xe s
  refine AmL.ne_refl (by have := hr.units; omega) I.kIn J (bk.typeIs I rx) slot (fun Q' q' => dec _ Q' q') (c.sub bk) c.ne c.ob m.hs m.hf ?_
  refine wpAny_mono (run_in1 (us := [.ref a, v]) (vs := [.ref a, x]) F hr hb hx I (.cons rfl (.cons rx .nil)) q) (fun w s' z => ?_) fun _ _ x => x
  obtain ⟨z', H', I', rz, b, rfl, qz⟩ := z
  cases (show w = Value.bool b from rz)
  exact ⟨b, rfl, .bl (!b), H', I', rfl, qz⟩
end
section
variable {X : Cx}
theorem meets_call {T : String} {name : Str} {id : String} {B : Builtin} {v : Value} {rest : List Value} {A : Around} {E : Value → Shared → Prop} {s : Shared} {prog : Program} {w : World} (slot : Slot T name id) (hT : s.TypeIs v T) (entry : entryFor table id = some B) (args : argsOk id ⟨v :: rest, []⟩)
    {P : Shared → Prop} (g : PySem.Meets (B ⟨v :: rest, []⟩) (fun _ R s => P s ∧ R (.ok (.ret .notImplemented)) s)) (hp : P s) (Q' : Value → Shared → Prop) (q : Q' .notImplemented s) : wpAny (model prog w) A (call (.builtin id) (v :: rest)) Q' E s :=
  wpAny_call (codeAny_call_builtin slot.plain entry (slot.check _ _ _ _ _ _ _ _ hT args (g prog w A (wants Q' E) s ⟨hp, q⟩)))
def PInt : Hp → V → Prop := fun _ x => ∃ i, x = .int i
theorem dec_intEq : Dec X .Eq PInt := ⟨fun pins σ H s C a dx fs x v c I r hp ha => by
  obtain ⟨i, rfl⟩ := hp
  obtain ⟨t, rfl⟩ := (show ∃ t, v = Value.int i t from r)
  exact ⟨"int", _, .int i, PySem.F.slot_int_eq, fun E Q' q => meets_call PySem.F.slot_int_eq (typeIs_int s i t) PySem.F.entry_int_eq (PySem.F.args_int_eq_2 _ _) (AmL.dec_int_eq i t C) (plain_of I ha) Q' q⟩⟩
theorem dec_intNotEq : Dec X .NotEq PInt := ⟨fun pins σ H s C a dx fs x v c I r hp ha => by
  obtain ⟨i, rfl⟩ := hp
  obtain ⟨t, rfl⟩ := (show ∃ t, v = Value.int i t from r)
  exact ⟨"int", _, .int i, PySem.F.slot_int_ne, fun E Q' q => meets_call PySem.F.slot_int_ne (typeIs_int s i t) PySem.F.entry_int_ne (PySem.F.args_int_ne_2 _ _) (AmL.dec_int_ne i t C) (plain_of I ha) Q' q⟩⟩
theorem dec_intLt : Dec X .Lt PInt := ⟨fun pins σ H s C a dx fs x v c I r hp ha => by
  obtain ⟨i, rfl⟩ := hp
  obtain ⟨t, rfl⟩ := (show ∃ t, v = Value.int i t from r)
  exact ⟨"int", _, .int i, PySem.F.slot_int_lt, fun E Q' q => meets_call PySem.F.slot_int_lt (typeIs_int s i t) PySem.F.entry_int_lt (PySem.F.args_int_lt_2 _ _) (AmL.dec_int_lt i t C) (plain_of I ha) Q' q⟩⟩
theorem dec_intLtE : Dec X .LtE PInt := ⟨fun pins σ H s C a dx fs x v c I r hp ha => by
  obtain ⟨i, rfl⟩ := hp
  obtain ⟨t, rfl⟩ := (show ∃ t, v = Value.int i t from r)
  exact ⟨"int", _, .int i, PySem.F.slot_int_le, fun E Q' q => meets_call PySem.F.slot_int_le (typeIs_int s i t) PySem.F.entry_int_le (PySem.F.args_int_le_2 _ _) (AmL.dec_int_le i t C) (plain_of I ha) Q' q⟩⟩
theorem dec_intGt : Dec X .Gt PInt := ⟨fun pins σ H s C a dx fs x v c I r hp ha => by
  obtain ⟨i, rfl⟩ := hp
  obtain ⟨t, rfl⟩ := (show ∃ t, v = Value.int i t from r)
  exact ⟨"int", _, .int i, PySem.F.slot_int_gt, fun E Q' q => meets_call PySem.F.slot_int_gt (typeIs_int s i t) PySem.F.entry_int_gt (PySem.F.args_int_gt_2 _ _) (AmL.dec_int_gt i t C) (plain_of I ha) Q' q⟩⟩
theorem dec_intGtE : Dec X .GtE PInt := ⟨fun pins σ H s C a dx fs x v c I r hp ha => by
  obtain ⟨i, rfl⟩ := hp
  obtain ⟨t, rfl⟩ := (show ∃ t, v = Value.int i t from r)
  exact ⟨"int", _, .int i, PySem.F.slot_int_ge, fun E Q' q => meets_call PySem.F.slot_int_ge (typeIs_int s i t) PySem.F.entry_int_ge (PySem.F.args_int_ge_2 _ _) (AmL.dec_int_ge i t C) (plain_of I ha) Q' q⟩⟩
def PBk : Hp → V → Prop := fun H x => ∃ T, Bk H x T
theorem dec_bkEq : Dec X .Eq PBk := ⟨fun pins σ H s C a dx fs x v c I r hp ha => by
  obtain ⟨T, b⟩ := hp
  refine ⟨T, ?_⟩
  have hT := b.typeIs I r
  cases b with
  | non =>
    cases (show v = Value.none from r)
    exact ⟨_, .non, PySem.F.slot_NoneType_eq, fun E Q' q => call_gives PySem.F.slot_NoneType_eq hT PySem.F.entry_NoneType_eq (PySem.F.args_NoneType_eq_2 _ _) AmL.dec_none_eq q⟩
  | bl k =>
    cases (show v = Value.bool k from r)
    exact ⟨_, .bl k, PySem.F.slot_bool_eq, fun E Q' q => meets_call PySem.F.slot_bool_eq hT PySem.F.entry_int_eq (PySem.F.args_int_eq_2 _ _) (AmL.dec_bool_eq k C) (plain_of I ha) Q' q⟩
  | int i =>
    obtain ⟨t, rfl⟩ := (show ∃ t, v = Value.int i t from r)
    exact ⟨_, .int i, PySem.F.slot_int_eq, fun E Q' q => meets_call PySem.F.slot_int_eq hT PySem.F.entry_int_eq (PySem.F.args_int_eq_2 _ _) (AmL.dec_int_eq i t C) (plain_of I ha) Q' q⟩
  | str z =>
    obtain ⟨t, rfl⟩ := (show ∃ t, v = Value.str z t from r)
    exact ⟨_, .str z, PySem.F.slot_str_eq, fun E Q' q => meets_call PySem.F.slot_str_eq hT PySem.F.entry_str_eq (PySem.F.args_str_eq_2 _ _) (AmL.dec_str_eq z t C) (plain_of I ha) Q' q⟩
  | @lst l xs ea =>
    cases (show v = Value.ref l from r)
    exact ⟨_, .lst ea, PySem.F.slot_list_eq, fun E Q' q => GQ.call_here PySem.F.slot_list_eq hT PySem.F.entry_list_eq (PySem.F.args_list_eq_2 _ _) (AmL.dec_list_eq (R := wants Q' E) (insub I ha c.s5) q)⟩
  | @tup l xs ea =>
    cases (show v = Value.ref l from r)
    exact ⟨_, .tup ea, PySem.F.slot_tuple_eq, fun E Q' q => GQ.call_here PySem.F.slot_tuple_eq hT PySem.F.entry_tuple_eq (PySem.F.args_tuple_eq_2 _ _) (AmL.dec_tuple_eq (R := wants Q' E) (insub I ha c.s6) q)⟩
  | @dK l kvs ea =>
    cases (show v = Value.ref l from r)
    exact ⟨_, .dK ea, PySem.F.slot_dict_eq, fun E Q' q => GQ.call_here PySem.F.slot_dict_eq hT PySem.F.entry_dict_eq (PySem.F.args_dict_eq_2 _ _) (AmL.dec_dict_eq (R := wants Q' E) (insub I ha c.s7) q)⟩⟩
theorem dec_bkNotEq : Dec X .NotEq PBk := ⟨fun pins σ H s C a dx fs x v c I r hp ha => by
  obtain ⟨T, b⟩ := hp
  refine ⟨T, ?_⟩
  have hT := b.typeIs I r
  cases b with
  | non =>
    cases (show v = Value.none from r)
    exact ⟨_, .non, PySem.F.slot_NoneType_ne, fun E Q' q => call_gives PySem.F.slot_NoneType_ne hT PySem.F.entry_NoneType_ne (PySem.F.args_NoneType_ne_2 _ _) AmL.dec_none_ne q⟩
  | bl k =>
    cases (show v = Value.bool k from r)
    exact ⟨_, .bl k, PySem.F.slot_bool_ne, fun E Q' q => meets_call PySem.F.slot_bool_ne hT PySem.F.entry_int_ne (PySem.F.args_int_ne_2 _ _) (AmL.dec_bool_ne k C) (plain_of I ha) Q' q⟩
  | int i =>
    obtain ⟨t, rfl⟩ := (show ∃ t, v = Value.int i t from r)
    exact ⟨_, .int i, PySem.F.slot_int_ne, fun E Q' q => meets_call PySem.F.slot_int_ne hT PySem.F.entry_int_ne (PySem.F.args_int_ne_2 _ _) (AmL.dec_int_ne i t C) (plain_of I ha) Q' q⟩
  | str z =>
    obtain ⟨t, rfl⟩ := (show ∃ t, v = Value.str z t from r)
    exact ⟨_, .str z, PySem.F.slot_str_ne, fun E Q' q => meets_call PySem.F.slot_str_ne hT PySem.F.entry_str_ne (PySem.F.args_str_ne_2 _ _) (AmL.dec_str_ne z t C) (plain_of I ha) Q' q⟩
  | @lst l xs ea =>
    cases (show v = Value.ref l from r)
    exact ⟨_, .lst ea, PySem.F.slot_list_ne, fun E Q' q => GQ.call_here PySem.F.slot_list_ne hT PySem.F.entry_list_ne (PySem.F.args_list_ne_2 _ _) (AmL.dec_list_ne (R := wants Q' E) (insub I ha c.s5) q)⟩
  | @tup l xs ea =>
    cases (show v = Value.ref l from r)
    exact ⟨_, .tup ea, PySem.F.slot_tuple_ne, fun E Q' q => GQ.call_here PySem.F.slot_tuple_ne hT PySem.F.entry_tuple_ne (PySem.F.args_tuple_ne_2 _ _) (AmL.dec_tuple_ne (R := wants Q' E) (insub I ha c.s6) q)⟩
  | @dK l kvs ea =>
    cases (show v = Value.ref l from r)
    exact ⟨_, .dK ea, PySem.F.slot_dict_ne, fun E Q' q => GQ.call_here PySem.F.slot_dict_ne hT PySem.F.entry_dict_ne (PySem.F.args_dict_ne_2 _ _) (AmL.dec_dict_ne (R := wants Q' E) (insub I ha c.s7) q)⟩⟩
end
section
variable {X : Cx} {C g : Addr} {k : Nat} {fd : FuncData} {ps : List Str} {sp : Sp} {CX : CXT} {E : XK}
/-- what an arithmetic operator asks of the type int -/
structure OpI (X : Cx) (C : Addr) (nm : String) : Prop where
  h1 : ∃ fo, PySem.W.findIn X.K (.type "int") (PySem.dunder nm) = some fo
  h2 : ∃ ro, PySem.W.findIn X.K (.type "int") (PySem.dunderR nm) = some ro
  hr : ∃ g : Addr, PySem.W.findIn X.K (.ref C) (PySem.dunderR nm) = some (some (.ref g))
/-- x op y: x an instance, y an instance or an int -/
def OrI (C : Addr) (H : Hp) (y : V) : Prop := (∃ b dy gs, y = .ref b ∧ H b = some (.ins C dy gs)) ∨ ∃ i, y = .int i
def rBin (C : Addr) (sp : Sp) (E : XK) : R2 := fun x y H Q => (∃ a dx fs, x = .ref a ∧ H a = some (.ins C dx fs)) ∧ OrI C H y ∧ sp [x, y] H Q E
theorem op_binC {op : Operator} (c : OpC X.K C) (ci : OpI X C op.info.2) (m : Om X C (PySem.dunder op.info.2) g) (F : FnOk X.prog X.w X.K X.mg X.base CX k g fd ps sp) (hr : Room k X.A) (hb : Binds X.K fd ps [])
    (hx : Passes CX X E) : OpR X (binaryOp op) (rBin C sp E) := by
  intro pins s σ H x y v u Q I rx ry h
  obtain ⟨⟨a, dx, fs, rfl, ha⟩, hy, q⟩ := h
  cases (show v = Value.ref a from rx)
  obtain ⟨od, J⟩ := inst_of I ha
  obtain ⟨mm, hF⟩ := I.fr
  have fin : wpAny (model X.prog X.w) X.A (call (.ref g) [.ref a, u]) (PySem.W.CmpBack (EP X pins σ Q)) X.xe s := by
    refine wpAny_mono (run_fn (us := [.ref a, u]) (vs := [.ref a, y]) (dvs := []) F hr hb .nil hx I (.cons rfl (.cons ry .nil)) q) (fun w s' z => ?_) fun _ _ x => x
    obtain ⟨z', H', I', rz, qz⟩ := z
    exact SlX.cmpback rz ⟨z', H', I', rz, qz⟩
  rcases hy with ⟨b, dy, gs, rfl, hb'⟩ | ⟨i, rfl⟩
  · cases (show u = Value.ref b from ry)
    obtain ⟨od', J'⟩ := inst_of I hb'
    exact PySem.W.binop_K hF I.ok.mod.kin J J'.type c.sf m.hs m.hf fin
  · obtain ⟨t, rfl⟩ := (show ∃ t, u = Value.int i t from ry)
    obtain ⟨fo, h1⟩ := ci.h1
    obtain ⟨ro, h2⟩ := ci.h2
    obtain ⟨g', h3⟩ := ci.hr
    exact PySem.W.ksp_binT hF I.ok.mod.kin J rfl c.sf m.hs m.hf h3 (.inr ⟨g', rfl⟩) h1 h2 c.r1 fin
/-- -x -/
def rNegC (C : Addr) (sp : Sp) (E : XK) : V → Hp → VK → Prop := fun x H Q => (∃ a dx fs, x = .ref a ∧ H a = some (.ins C dx fs)) ∧ sp [x] H Q E
theorem un_negC (m : Om X C "__neg__" g) (F : FnOk X.prog X.w X.K X.mg X.base CX k g fd ps sp) (hr : Room k X.A) (hb : Binds X.K fd ps [])
    (hx : Passes CX X E) : UnR X (unaryOp .USub) (rNegC C sp E) := by
  intro pins s σ H x v Q I rx h
  obtain ⟨⟨a, dx, fs, rfl, ha⟩, q⟩ := h
  cases (show v = Value.ref a from rx)
  obtain ⟨od, J⟩ := inst_of I ha
  obtain ⟨mm, hF⟩ := I.fr
  exact PySem.W.ksp_neg hF I.ok.mod.kin J m.hs m.hf (run_fn (us := [.ref a]) (vs := [.ref a]) (dvs := []) F hr hb .nil hx I (.cons rfl .nil) q)
theorem UnR.or {f : Value → Sem Value} {r r' : V → Hp → VK → Prop} (h : UnR X f r) (h' : UnR X f r') : UnR X f (fun x H Q => r x H Q ∨ r' x H Q) := by
  intro pins s σ H x v Q I rx q
  rcases q with q | q
  · exact h pins s σ H x v Q I rx q
  · exact h' pins s σ H x v Q I rx q
end
end Am
namespace Am
/-! fractions in least terms -/
def gc (n u : Int) : Int := ((Nat.gcd n.natAbs u.natAbs : Nat) : Int)
def sg (n u : Int) : Int := if u < 0 then -gc n u else gc n u
def fr (n u : Int) : Int × Int := (n.fdiv (sg n u), u.fdiv (sg n u))
def Low (n u : Int) : Prop := 0 < u ∧ Nat.gcd n.natAbs u.natAbs = 1

theorem gc_pos {n u : Int} (hu : u ≠ 0) : 0 < gc n u := by
  unfold gc
  have : 0 < Nat.gcd n.natAbs u.natAbs := Nat.gcd_pos_of_pos_right _ (by omega)
  omega
theorem gc_dvd_l (n u : Int) : gc n u ∣ n := by
  unfold gc
  exact Int.ofNat_dvd_left.mpr (Nat.gcd_dvd_left _ _)
theorem gc_dvd_r (n u : Int) : gc n u ∣ u := by
  unfold gc
  exact Int.ofNat_dvd_left.mpr (Nat.gcd_dvd_right _ _)
theorem sg_ne {n u : Int} (hu : u ≠ 0) : sg n u ≠ 0 := by
  have := gc_pos (n := n) hu
  unfold sg
  split <;> omega
theorem sg_dvd_l (n u : Int) : sg n u ∣ n := by
  unfold sg
  split
  · exact Int.neg_dvd.mpr (gc_dvd_l n u)
  · exact gc_dvd_l n u
theorem sg_dvd_r (n u : Int) : sg n u ∣ u := by
  unfold sg
  split
  · exact Int.neg_dvd.mpr (gc_dvd_r n u)
  · exact gc_dvd_r n u
theorem fdiv_mul {a b : Int} (h : b ∣ a) : a.fdiv b * b = a := by
  obtain ⟨c, rfl⟩ := h
  by_cases hb : b = 0
  · subst hb; simp
  · rw [Int.mul_fdiv_cancel_left _ hb, Int.mul_comm]
theorem fr_l {n u : Int} : (fr n u).1 * sg n u = n := fdiv_mul (sg_dvd_l n u)
theorem fr_r {n u : Int} : (fr n u).2 * sg n u = u := fdiv_mul (sg_dvd_r n u)
theorem natAbs_sg (n u : Int) : (sg n u).natAbs = Nat.gcd n.natAbs u.natAbs := by
  unfold sg gc
  split <;> omega
theorem fr_low {n u : Int} (hu : u ≠ 0) : Low (fr n u).1 (fr n u).2 := by
  have hg := gc_pos (n := n) hu
  have h1 := fr_l (n := n) (u := u)
  have h2 := fr_r (n := n) (u := u)
  have a1 : (fr n u).1.natAbs * Nat.gcd n.natAbs u.natAbs = n.natAbs := by
    rw [← natAbs_sg, ← Int.natAbs_mul, h1]
  have a2 : (fr n u).2.natAbs * Nat.gcd n.natAbs u.natAbs = u.natAbs := by
    rw [← natAbs_sg, ← Int.natAbs_mul, h2]
  have gp : 0 < Nat.gcd n.natAbs u.natAbs := Nat.gcd_pos_of_pos_right _ (by omega)
  refine ⟨?_, ?_⟩
  · by_cases c : u < 0
    · have e : sg n u = -gc n u := if_pos c
      rw [e] at h2
      refine Int.lt_of_not_ge fun q => ?_
      have : 0 ≤ (fr n u).2 * -gc n u := by
        have := Int.mul_nonneg (a := -(fr n u).2) (b := gc n u) (by omega) (by omega)
        rw [Int.neg_mul] at this
        rw [Int.mul_neg]
        exact this
      omega
    · have e : sg n u = gc n u := if_neg c
      rw [e] at h2
      refine Int.lt_of_not_ge fun q => ?_
      have : 0 ≤ -((fr n u).2 * gc n u) := by
        have := Int.mul_nonneg (a := -(fr n u).2) (b := gc n u) (by omega) (by omega)
        rw [Int.neg_mul] at this
        exact this
      omega
  · have k : Nat.gcd ((fr n u).1.natAbs * Nat.gcd n.natAbs u.natAbs) ((fr n u).2.natAbs * Nat.gcd n.natAbs u.natAbs) = Nat.gcd n.natAbs u.natAbs := by
      rw [a1, a2]
    rw [Nat.gcd_mul_right] at k
    have k' : Nat.gcd (fr n u).1.natAbs (fr n u).2.natAbs * Nat.gcd n.natAbs u.natAbs = 1 * Nat.gcd n.natAbs u.natAbs := by rw [k, Nat.one_mul]
    exact Nat.eq_of_mul_eq_mul_right gp k'
theorem Low.ne {n u : Int} (h : Low n u) : u ≠ 0 := by have := h.1; omega
theorem low_one (n : Int) : Low n 1 := ⟨by decide, by simp⟩
theorem Low.neg {n u : Int} (h : Low n u) : Low (-n) u := ⟨h.1, by rw [Int.natAbs_neg]; exact h.2⟩
theorem fr_of_low {n u : Int} (h : Low n u) : fr n u = (n, u) := by
  have e : sg n u = 1 := by
    unfold sg gc
    rw [h.2, if_neg (by have := h.1; omega)]
    rfl
  unfold fr
  rw [e, Int.fdiv_one, Int.fdiv_one]
theorem fr_pos_lt {n u : Int} (hu : 0 < u) : decide ((fr n u).1 < 0) = decide (n < 0) := by
  have e : sg n u = gc n u := if_neg (by omega)
  have hg := gc_pos (n := n) (u := u) (by omega)
  have h := fr_l (n := n) (u := u)
  rw [e] at h
  refine decide_eq_decide.mpr ⟨fun q => ?_, fun q => ?_⟩
  · have := Int.mul_neg_of_neg_of_pos q hg
    omega
  · refine Int.lt_of_not_ge fun z => ?_
    have := Int.mul_nonneg z (Int.le_of_lt hg)
    omega
theorem fr_pos_le {n u : Int} (hu : 0 < u) : decide ((fr n u).1 ≤ 0) = decide (n ≤ 0) := by
  have e : sg n u = gc n u := if_neg (by omega)
  have hg := gc_pos (n := n) (u := u) (by omega)
  have h := fr_l (n := n) (u := u)
  rw [e] at h
  refine decide_eq_decide.mpr ⟨fun q => ?_, fun q => ?_⟩
  · have := Int.mul_nonneg (a := -(fr n u).1) (b := gc n u) (by omega) (by omega)
    rw [Int.neg_mul] at this
    omega
  · refine Int.le_of_not_gt fun z => ?_
    have := Int.mul_pos z hg
    omega
theorem le_of_mul {a b c : Nat} (h : a * b = c) (hb : 0 < b) : a ≤ c := by
  rw [← h]
  exact Nat.le_mul_of_pos_right a hb
theorem fr_le1 {n u : Int} (hu : u ≠ 0) : (fr n u).1.natAbs ≤ n.natAbs := by
  have gp : 0 < Nat.gcd n.natAbs u.natAbs := Nat.gcd_pos_of_pos_right _ (by omega)
  exact le_of_mul (b := Nat.gcd n.natAbs u.natAbs) (by rw [← natAbs_sg, ← Int.natAbs_mul, fr_l]) gp
theorem fr_le2 {n u : Int} (hu : u ≠ 0) : (fr n u).2.natAbs ≤ u.natAbs := by
  have gp : 0 < Nat.gcd n.natAbs u.natAbs := Nat.gcd_pos_of_pos_right _ (by omega)
  exact le_of_mul (b := Nat.gcd n.natAbs u.natAbs) (by rw [← natAbs_sg, ← Int.natAbs_mul, fr_r]) gp
theorem sg_le {n u : Int} (hu : u ≠ 0) : (sg n u).natAbs ≤ u.natAbs := by
  rw [natAbs_sg]
  exact Nat.le_of_dvd (by omega) (Nat.gcd_dvd_right _ _)
/-- the law's own fraction: the sign ahead, then // by the greatest divisor -/
theorem law_fr {n u : Int} (hu : u ≠ 0) : fr n u = (((if u > 0 then 1 else -1) * n).fdiv (gc n u), ((if u > 0 then 1 else -1) * u).fdiv (gc n u)) := by
  unfold fr sg
  by_cases c : u < 0
  · rw [if_pos c, if_neg (by omega)]
    have e : ∀ x : Int, x.fdiv (-gc n u) = (-1 * x).fdiv (gc n u) := fun x => by
      have := Int.neg_fdiv_neg (-x) (gc n u)
      rw [Int.neg_neg] at this
      rw [this]
      congr 1
      omega
    rw [e, e]
  · rw [if_neg c, if_pos (by omega), Int.one_mul, Int.one_mul]
end Am
namespace Am
open PySem PySem.Spec PyProof.Rows L2

/-! ### data -/
def pf (n u : Int) : List (Str × V) := putF "under" (.int u) (putF "number" (.int n) [])
theorem nu_ : ¬ (("number" : Str) = "under") := by decide +kernel
theorem un_ : ¬ (("under" : Str) = "number") := by decide +kernel
theorem pf_number (n u : Int) : (pf n u).lookup ("number" : Str) = some (.int n) := by
  unfold pf
  rw [lookup_putF, if_neg nu_, lookup_putF, if_pos rfl]
theorem pf_under (n u : Int) : (pf n u).lookup ("under" : Str) = some (.int u) := by
  unfold pf
  rw [lookup_putF, if_pos rfl]
/-- an Amount in least terms -/
def AmAt (C : Addr) (H : Hp) (v : V) (n u : Int) : Prop := Low n u ∧ ∃ a dx, v = .ref a ∧ H a = some (.ins C dx (pf n u))
/-- an Amount or an integer -/
def AmV (C : Addr) (H : Hp) (v : V) (n u : Int) : Prop := AmAt C H v n u ∨ (v = .int n ∧ u = 1)
theorem AmAt.same {C : Addr} {H H' : Hp} {v : V} {n u : Int} (e : Same H H') (h : AmAt C H v n u) : AmAt C H' v n u := by
  obtain ⟨l, a, dx, rfl, h⟩ := h
  exact ⟨l, a, dx, rfl, e _ _ h⟩
theorem AmV.same {C : Addr} {H H' : Hp} {v : V} {n u : Int} (e : Same H H') (h : AmV C H v n u) : AmV C H' v n u := h.elim (fun h => .inl (h.same e)) .inr
theorem AmAt.low {C : Addr} {H : Hp} {v : V} {n u : Int} (h : AmAt C H v n u) : Low n u := h.1
theorem AmV.low {C : Addr} {H : Hp} {v : V} {n u : Int} (h : AmV C H v n u) : Low n u := h.elim (fun h => h.1) fun ⟨_, e⟩ => by rw [e]; exact low_one n
theorem AmAt.inst {C : Addr} {H : Hp} {v : V} {n u : Int} (h : AmAt C H v n u) : ∃ a dx fs, v = .ref a ∧ H a = some (.ins C dx fs) := by
  obtain ⟨l, a, dx, rfl, h⟩ := h
  exact ⟨a, dx, _, rfl, h⟩
theorem AmV.orB {C : Addr} {H : Hp} {v : V} {n u : Int} (h : AmV C H v n u) : OrB C H v := by
  rcases h with h | ⟨rfl, _⟩
  · obtain ⟨a, dx, fs, rfl, ha⟩ := h.inst
    exact .inl ⟨a, dx, fs, rfl, ha⟩
  · exact .inr ⟨_, .int n⟩
theorem AmV.orI {C : Addr} {H : Hp} {v : V} {n u : Int} (h : AmV C H v n u) : OrI C H v := by
  rcases h with h | ⟨rfl, _⟩
  · obtain ⟨a, dx, fs, rfl, ha⟩ := h.inst
    exact .inl ⟨a, dx, fs, rfl, ha⟩
  · exact .inr ⟨n, rfl⟩
def Bd (k : Nat) (n : Int) : Prop := n.natAbs < 2 ^ k
theorem same_upd {H : Hp} {p : Addr} {o : HO} (h : H p = none) : Same H (upd H p o) := fun b u e => by rw [upd_ne (ne_of_none e h)]; exact e

/-! ### facts of the text -/
structure Txt (K : PySem.W.Frag) (mg : Str → Option Value) (C : Addr) : Prop where
  cl : Cls K C
  op : OpC K C
  ca : PySem.W.findIn K (.ref C) "__class__" = some (some (.builtin "object.__class__"))
  cn : PySem.W.specialIn K (.builtin "object.__class__") "__get__" = some (some (.builtin "getset_descriptor.__get__"))
  ct : PySem.W.takesIn K (.builtin "object.__class__") = some true
  kC : PySem.W.kitOne K (.ref C) (.ref C) = some true
  kI : PySem.W.kitOne K (.ref C) (.type "int") = some false
  k1 : PySem.W.kitOne K (.type "int") (.ref C) = some false
  k2 : PySem.W.kitOne K (.type "bool") (.ref C) = some false
  k3 : PySem.W.kitOne K (.type "NoneType") (.ref C) = some false
  k4 : PySem.W.kitOne K (.type "str") (.ref C) = some false
  k5 : PySem.W.kitOne K (.type "list") (.ref C) = some false
  k6 : PySem.W.kitOne K (.type "tuple") (.ref C) = some false
  k7 : PySem.W.kitOne K (.type "dict") (.ref C) = some false
  nN : NoAttr K C "number"
  nU : NoAttr K C "under"
  mgC : mg "Amount" = some (.ref C)
  isi : mg "isinstance" = none
  int : mg "int" = none
  bool : mg "bool" = none
  gcd : mg "gcd" = some (.builtin "math.gcd")
theorem Txt.kOf {K : PySem.W.Frag} {mg : Str → Option Value} {C : Addr} {H : Hp} {x : V} {T : String} (t : Txt K mg C) (b : Bk H x T) : PySem.W.kitOne K (.type T) (.ref C) = some false := by
  cases b <;> first | exact t.k1 | exact t.k2 | exact t.k3 | exact t.k4 | exact t.k5 | exact t.k6 | exact t.k7
def isIB : V → Bool
  | .int _ => true
  | .bl _ => true
  | _ => false
def isB : V → Bool
  | .bl _ => true
  | _ => false
theorem kB_int {K : PySem.W.Frag} {H : Hp} {x : V} {T : String} (b : Bk H x T) : PySem.W.kitOne K (.type T) (.type "int") = some (isIB x) := by
  cases b with
  | non => exact kit_ty (show kitB "NoneType" "int" = some false by decide +kernel)
  | bl => exact kit_ty (show kitB "bool" "int" = some true by decide +kernel)
  | int => exact kit_ty (show kitB "int" "int" = some true by decide +kernel)
  | str => exact kit_ty (show kitB "str" "int" = some false by decide +kernel)
  | lst => exact kit_ty (show kitB "list" "int" = some false by decide +kernel)
  | tup => exact kit_ty (show kitB "tuple" "int" = some false by decide +kernel)
  | dK => exact kit_ty (show kitB "dict" "int" = some false by decide +kernel)
theorem kB_bool {K : PySem.W.Frag} {H : Hp} {x : V} {T : String} (b : Bk H x T) : PySem.W.kitOne K (.type T) (.type "bool") = some (isB x) := by
  cases b with
  | non => exact kit_ty (show kitB "NoneType" "bool" = some false by decide +kernel)
  | bl => exact kit_ty (show kitB "bool" "bool" = some true by decide +kernel)
  | int => exact kit_ty (show kitB "int" "bool" = some false by decide +kernel)
  | str => exact kit_ty (show kitB "str" "bool" = some false by decide +kernel)
  | lst => exact kit_ty (show kitB "list" "bool" = some false by decide +kernel)
  | tup => exact kit_ty (show kitB "tuple" "bool" = some false by decide +kernel)
  | dK => exact kit_ty (show kitB "dict" "bool" = some false by decide +kernel)
theorem Txt.tyC {K : PySem.W.Frag} {mg : Str → Option Value} {C a dx : Addr} {H : Hp} {fs : List (Str × V)} (t : Txt K mg C) (h : H a = some (.ins C dx fs)) : TyX K H (.ref a) (.ref C) :=
  .base (.ins h t.cl t.ca t.cn t.ct t.op.ob)

/-! ### promises -/
def spWhole (C : Addr) : Sp := fun vs H Q _ => ∃ v, vs = [v] ∧ ((∃ T, Bk H v T) ∨ ∃ a dx fs, v = .ref a ∧ H a = some (.ins C dx fs)) ∧ Q (.bl (isI v)) H
def IsAm (C : Addr) (H : Hp) (v : V) (b : Bool) : Prop := ((∃ T, Bk H v T) ∧ b = isI v) ∨ ((∃ a dx fs, v = .ref a ∧ H a = some (.ins C dx fs)) ∧ b = true)
def spIsAm (C : Addr) : Sp := fun vs H Q _ => ∃ v b, vs = [v] ∧ IsAm C H v b ∧ Q (.bl b) H
theorem AmV.isAm {C : Addr} {H : Hp} {y : V} {n u : Int} (h : AmV C H y n u) : IsAm C H y true := by
  rcases h with h | ⟨rfl, _⟩
  · exact .inr ⟨h.inst, rfl⟩
  · exact .inl ⟨⟨_, .int n⟩, rfl⟩
def spParts (C : Addr) : Sp := fun vs H Q _ => ∃ v n u, vs = [v] ∧ AmV C H v n u ∧ ∀ p, H p = none → Q (.ref p) (upd H p (.tup [.int n, .int u]))
def spInit (C : Addr) : Sp := fun vs H Q _ => ∃ x dx n u, vs = [.ref x, .int n, .int u] ∧ H x = some (.ins C dx []) ∧ u ≠ 0 ∧ Bd 8900 n ∧ Bd 8900 u ∧
  ∀ H' : Hp, H' x = some (.ins C dx (pf (fr n u).1 (fr n u).2)) → (∀ b o, H b = some o → b ≠ x → H' b = some o) → Q .non H'
/-- // by any divisor below 2 ^ 9000 -/
theorem op_fdivX {X : Cx} : OpR X (binaryOp .FloorDiv) (rI (fun _ j => j ≠ 0 ∧ j.natAbs.log2 < 9000) fun i j => .int (i.fdiv j)) := opI fun i j _ _ _ _ _ hc q =>
  floordiv_int hc.1 q (.inl (PyProof.noPylong_of_log2 hc.2))

section
variable {P : Program} {w : World} {K : PySem.W.Frag} {mg : Str → Option Value} {base : Heap}
theorem b_isi : bootBuiltins "isinstance" = some (.builtin "isinstance") := by decide +kernel
theorem b_int : bootBuiltins "int" = some (.type "int") := by decide +kernel
theorem b_bool : bootBuiltins "bool" = some (.type "bool") := by decide +kernel

theorem scWhole : FnScope ["value"] ["value"] (defScope sWhole) := ⟨rfl, rfl, rfl, by decide +kernel, rfl, by decide +kernel, by decide +kernel⟩
theorem ok_whole {f C : Addr} {fd : FuncData} (F : Fun K "is_whole" "is_whole" sWhole f fd) (T : Txt K mg C) : FnOk P w K mg base CX0 1 f fd ["value"] (spWhole C) := by
  refine F.ok scWhole (fun vs H Q E h => ?_) (fun cdv A outer s H vs Q E hr h => ?_)
  · obtain ⟨v, rfl, _⟩ := h
    rfl
  · obtain ⟨v, rfl, hv, q⟩ := h
    refine ⟨_, pss_one (ps_ret (pe_and (pe_callB call_isi (by rfl) T.isi b_isi (pa_cons (pv 0) (pa_cons (pe_bltn (v := .ty "int") (by rfl) T.int b_int rfl) pa_nil)))
      (pe_one (pe_not (pe_callB call_isi (by rfl) T.isi b_isi (pa_cons (pv 0) (pa_cons (pe_bltn (v := .ty "bool") (by rfl) T.bool b_bool rfl) pa_nil))))))), ?_⟩
    rcases hv with ⟨Ty, b⟩ | ⟨a, dx, fs, rfl, ha⟩
    · refine ⟨_, rfl, v, .ty "int", .type Ty, .type "int", _, rfl, .ty _, .base b.tyOf, kB_int b, _, rfl, ?_⟩
      have kb := kB_bool (K := K) b
      cases v with
      | int i => exact iteT ⟨_, rfl, _, .ty "bool", .type Ty, .type "bool", _, rfl, .ty _, .base b.tyOf, kb, _, rfl, q⟩
      | bl i => exact iteT ⟨_, rfl, _, .ty "bool", .type Ty, .type "bool", _, rfl, .ty _, .base b.tyOf, kb, _, rfl, q⟩
      | _ => exact iteF q
    · exact ⟨_, rfl, .ref a, .ty "int", .ref C, .type "int", _, rfl, .ty _, T.tyC ha, T.kI, _, rfl, iteF q⟩
theorem scIsAm : FnScope ["value"] ["value"] (defScope sIsAm) := ⟨rfl, rfl, rfl, by decide +kernel, rfl, by decide +kernel, by decide +kernel⟩
theorem ok_isAm {f C fW : Addr} {fd fdW : FuncData} (F : Fun K "is_amount" "is_amount" sIsAm f fd) (T : Txt K mg C) (GW : FnOk P w K mg base CX0 1 fW fdW ["value"] (spWhole C)) (bW : Binds K fdW ["value"] []) (mW : mg "is_whole" = some (.ref fW)) (kW : PySem.W.keepIn K (.ref fW) = true) :
    FnOk P w K mg base CX0 2 f fd ["value"] (spIsAm C) := by
  refine F.ok scIsAm (fun vs H Q E h => ?_) (fun cdv A outer s H vs Q E hr h => ?_)
  · obtain ⟨v, b, rfl, _⟩ := h
    rfl
  · obtain ⟨v, k, rfl, hv, q⟩ := h
    refine ⟨_, pss_one (ps_ret (pe_or (pe_callB call_isi (by rfl) T.isi b_isi (pa_cons (pv 0) (pa_cons (pe_glob (v := .ref C) (by rfl) T.mgC rfl) pa_nil)))
      (pe_one (pe_call GW hr (by rfl) mW kW bW .nil pass0 (pa_cons (pv 0) pa_nil))))), ?_⟩
    rcases hv with ⟨⟨Ty, b⟩, rfl⟩ | ⟨⟨a, dx, fs, rfl, ha⟩, rfl⟩
    · exact ⟨_, rfl, v, .ref C, .type Ty, .ref C, _, rfl, .own _, .base b.tyOf, T.kOf b, _, rfl, iteF ⟨_, rfl, _, rfl, .inl ⟨Ty, b⟩, q⟩⟩
    · exact ⟨_, rfl, .ref a, .ref C, .ref C, .ref C, _, rfl, .own _, T.tyC ha, T.kC, _, rfl, iteT q⟩
theorem scParts : FnScope ["amount"] ["amount"] (defScope sParts) := ⟨rfl, rfl, rfl, by decide +kernel, rfl, by decide +kernel, by decide +kernel⟩
theorem ok_parts {f C : Addr} {fd : FuncData} (F : Fun K "parts" "parts" sParts f fd) (T : Txt K mg C) : FnOk P w K mg base CX0 1 f fd ["amount"] (spParts C) := by
  refine F.ok scParts (fun vs H Q E h => ?_) (fun cdv A outer s H vs Q E hr h => ?_)
  · obtain ⟨v, n, u, rfl, _⟩ := h
    rfl
  · obtain ⟨v, n, u, rfl, hv, q⟩ := h
    refine ⟨_, pss_cons (ps_if (pt_val (pe_callB call_isi (by rfl) T.isi b_isi (pa_cons (pv 0) (pa_cons (pe_glob (v := .ref C) (by rfl) T.mgC rfl) pa_nil))))
      (pss_one (ps_ret (pe_tup (pa_cons (pe_fld (pv 0) rfl) (pa_cons (pe_fld (pv 0) rfl) pa_nil))))) pss_nil)
      (pss_one (ps_ret (pe_tup (pa_cons (pv 0) (pa_cons pe_int pa_nil))))), ?_⟩
    rcases hv with ⟨l, a, dx, rfl, ha⟩ | ⟨rfl, rfl⟩
    · refine ⟨_, rfl, .ref a, .ref C, .ref C, .ref C, _, rfl, .own _, T.tyC ha, T.kC, _, rfl, iteT ?_⟩
      exact ⟨_, rfl, a, C, dx, _, _, rfl, ha, T.cl, T.nN, pf_number _ _, _, rfl, a, C, dx, _, _, rfl, ha, T.cl, T.nU, pf_under _ _, (by show 2 ≤ sizeLine; decide), q⟩
    · refine ⟨_, rfl, .int n, .ref C, .type "int", .ref C, _, rfl, .own _, .base (.int n), T.k1, _, rfl, iteF ?_⟩
      exact ⟨_, rfl, (by show 2 ≤ sizeLine; decide), q⟩
end
end Am
/-! texts as lists of signs: one sign found, cut at, parted at -/
namespace SL
open PySem PySem.StrLaws PySem.Builtin PySem.Builtin.Str
abbrev ofL (l : List Nat) : Str := ⟨l.toArray⟩
theorem ofL_toList (x : Str) : ofL x.cps.toList = x := by cases x; simp [ofL]
theorem toList_ofL (l : List Nat) : (ofL l).cps.toList = l := by simp [ofL]
theorem len_toList (x : Str) : x.cps.toList.length = x.length := Array.length_toList
theorem ext {x y : Str} (h : x.cps.toList = y.cps.toList) : x = y := by rw [← ofL_toList x, ← ofL_toList y, h]
/-- where the sign stands -/
def idxs (c : Nat) : List Nat → Nat → List Nat
  | [], _ => []
  | y :: ys, k => if y = c then k :: idxs c ys (k + 1) else idxs c ys (k + 1)
theorem occ_run (x : Str) (c limit : Nat) : ∀ (m : List Nat) (i : Nat) (acc : Array Nat) (free : Nat), x.cps.toList.drop i = m → i + m.length = x.length → acc.size ≤ limit → free ≤ i →
    (forIn (List.range' i (m.length + 1)) (acc, free) (occBody x ⟨#[c]⟩ x.length limit)).run.fst.toList = acc.toList ++ (idxs c m i).take (limit - acc.size)
  | [], i, acc, free, hd, hl, hs, hf => by
    have hl' : i = x.length := by simpa using hl
    subst hl'
    rw [show List.range' x.length (([] : List Nat).length + 1) = [x.length] from rfl, List.forIn_cons]
    unfold occBody
    rw [if_neg (by rintro ⟨⟨_, h⟩, _⟩; have : (⟨#[c]⟩ : Str).length = 1 := rfl; omega)]
    simp [idxs]
  | y :: m, i, acc, free, hd, hl, hs, hf => by
    have hi : x.cps.toList[i]? = some y := by
      have e := congrArg (·[0]?) hd
      simpa using e
    have hd' : x.cps.toList.drop (i + 1) = m := by
      have e := congrArg List.tail hd
      simpa using e
    have hl' : (i + 1) + m.length = x.length := by simp only [List.length_cons] at hl; omega
    rw [List.length_cons, List.range'_succ, List.forIn_cons]
    unfold occBody
    by_cases hc : y = c
    · subst hc
      have hat := (subAt_one x y i).mpr hi
      by_cases hlt : acc.size < limit
      · rw [if_pos ⟨⟨⟨hlt, hf⟩, hat.1⟩, hat.2⟩]
        have ih := occ_run x y limit m (i + 1) (acc.push i) (i + (⟨#[y]⟩ : Str).length) hd' hl' (by rw [Array.size_push]; omega) (Nat.le_refl _)
        refine Eq.trans ih ?_
        have e : limit - acc.size = (limit - (acc.push i).size) + 1 := by rw [Array.size_push]; omega
        rw [e]
        simp [idxs]
      · rw [if_neg (by rintro ⟨⟨⟨h, _⟩, _⟩, _⟩; exact hlt h)]
        have ih := occ_run x y limit m (i + 1) acc free hd' hl' hs (by omega)
        refine Eq.trans ih ?_
        have e : limit - acc.size = 0 := by omega
        rw [e]
        simp
    · rw [if_neg (by rintro ⟨⟨_, h1⟩, h2⟩; have h3 := (subAt_one x c i).mp ⟨h1, h2⟩; rw [hi] at h3; exact hc (Option.some.inj h3))]
      have ih := occ_run x c limit m (i + 1) acc free hd' hl' hs (by omega)
      refine Eq.trans ih ?_
      simp [idxs, hc]
theorem occ_sign (x : Str) (c limit : Nat) : occurrences x ⟨#[c]⟩ 0 x.length limit = (idxs c x.cps.toList 0).take limit := by
  rw [occ_eq]
  have h := occ_run x c limit x.cps.toList 0 #[] 0 (by simp) (by rw [len_toList]; omega) (Nat.zero_le _) (Nat.le_refl _)
  have e : x.length + 1 - 0 = x.cps.toList.length + 1 := by rw [len_toList]; omega
  rw [e, h]
  simp
theorem idxs_len (c : Nat) : ∀ (m : List Nat) (k : Nat), (idxs c m k).length ≤ m.length
  | [], _ => Nat.le_refl _
  | y :: m, k => by
    have := idxs_len c m (k + 1)
    unfold idxs
    split <;> simp <;> omega
theorem idxs_none {c : Nat} : ∀ {m : List Nat} {k : Nat}, c ∉ m → idxs c m k = []
  | [], _, _ => rfl
  | y :: m, k, h => by
    unfold idxs
    rw [if_neg (fun e => h (by rw [e]; exact List.mem_cons_self ..))]
    exact idxs_none (fun z => h (List.mem_cons_of_mem _ z))
theorem idxs_app {c : Nat} {r : List Nat} : ∀ {p : List Nat} {k : Nat}, c ∉ p → idxs c (p ++ c :: r) k = (k + p.length) :: idxs c r (k + p.length + 1)
  | [], k, _ => by simp [idxs]
  | y :: p, k, h => by
    have ih := idxs_app (r := r) (k := k + 1) (fun z => h (List.mem_cons_of_mem _ z) : c ∉ p)
    rw [List.cons_append, idxs, if_neg (fun e => h (by rw [e]; exact List.mem_cons_self ..)), ih, List.length_cons]
    rw [show k + 1 + p.length = k + (p.length + 1) by omega]
/-- the list cut at each c -/
def cutAt (c : Nat) : List Nat → List (List Nat)
  | [] => [[]]
  | y :: ys => if y = c then [] :: cutAt c ys else match cutAt c ys with
    | [] => [[y]]
    | w :: ws => (y :: w) :: ws
theorem cut_ne (c : Nat) (l : List Nat) : cutAt c l ≠ [] := by
  cases l with
  | nil => simp [cutAt]
  | cons y ys =>
    unfold cutAt
    split
    · simp
    · split <;> simp
theorem cut_none {c : Nat} : ∀ {l : List Nat}, c ∉ l → cutAt c l = [l]
  | [], _ => rfl
  | y :: ys, h => by
    unfold cutAt
    rw [if_neg (fun e => h (by rw [e]; exact List.mem_cons_self ..)), cut_none (fun z => h (List.mem_cons_of_mem _ z))]
theorem cut_app {c : Nat} {r : List Nat} : ∀ {p : List Nat}, c ∉ p → cutAt c (p ++ c :: r) = p :: cutAt c r
  | [], _ => by simp [cutAt]
  | y :: p, h => by
    have ih := cut_app (r := r) (fun z => h (List.mem_cons_of_mem _ z) : c ∉ p)
    rw [List.cons_append, cutAt, if_neg (fun e => h (by rw [e]; exact List.mem_cons_self ..)), ih]
theorem first_c {c : Nat} : ∀ {l : List Nat}, c ∈ l → ∃ p r, l = p ++ c :: r ∧ c ∉ p
  | [], h => by cases h
  | y :: ys, h => by
    by_cases e : y = c
    · exact ⟨[], ys, by rw [e]; rfl, by simp⟩
    · rcases List.mem_cons.mp h with z | z
      · exact (e z.symm).elim
      · obtain ⟨p, r, h1, h2⟩ := first_c z
        refine ⟨y :: p, r, by rw [h1]; rfl, ?_⟩
        intro z
        rcases List.mem_cons.mp z with z | z
        · exact e z.symm
        · exact h2 z
theorem sub_ofL (x : Str) (a b : Nat) : strSub x a b = ofL ((x.cps.toList.drop a).take (b - a)) := ext (by rw [strSub_toList, toList_ofL])
theorem parts_eq (x : Str) (c : Nat) : ∀ (n : Nat) (m : List Nat) (a : Nat), m.length ≤ n → x.cps.toList.drop a = m → a + m.length = x.length →
    ((a :: (idxs c m a).map (· + 1)).zip (idxs c m a ++ [x.length])).map (fun p => strSub x p.1 p.2) = (cutAt c m).map ofL := by
  intro n
  induction n with
  | zero =>
    intro m a hn hd hl
    have e : m = [] := List.eq_nil_of_length_eq_zero (by omega)
    subst e
    simp [idxs, cutAt, sub_ofL, hd]
  | succ n ih =>
    intro m a hn hd hl
    by_cases hc : c ∈ m
    · obtain ⟨p, r, e, hp⟩ := first_c hc
      subst e
      have hl2 : a + (p.length + (r.length + 1)) = x.length := by simpa using hl
      have hd2 : x.cps.toList.drop (a + p.length + 1) = r := by
        have e : x.cps.toList.drop (a + p.length + 1) = (x.cps.toList.drop a).drop (p.length + 1) := by rw [List.drop_drop]; congr 1
        rw [e, hd]
        simp
      rw [idxs_app hp, cut_app hp]
      have h := ih r (a + p.length + 1) (by simp only [List.length_append, List.length_cons] at hn; omega) hd2 (by omega)
      show strSub x a (a + p.length) :: List.map (fun p => strSub x p.1 p.2) (((a + p.length + 1) :: (idxs c r (a + p.length + 1)).map (· + 1)).zip (idxs c r (a + p.length + 1) ++ [x.length])) = ofL p :: (cutAt c r).map ofL
      rw [h, sub_ofL, hd]
      have e : a + p.length - a = p.length := by omega
      rw [e]
      simp
    · rw [idxs_none hc, cut_none hc]
      show [strSub x a x.length] = [ofL m]
      rw [sub_ofL, hd]
      have e : x.length - a = m.length := by omega
      rw [e]
      simp
theorem split_sign (x : Str) (c : Nat) (h0 : x.length ≠ 0 → strKind x ≥ strKind ⟨#[c]⟩) : Txt.split x ⟨#[c]⟩ = (cutAt c x.cps.toList).map ofL := by
  unfold Txt.split
  have l1 : (⟨#[c]⟩ : Str).length = 1 := rfl
  rw [occ_sign, l1]
  by_cases hx : x.length = 0
  · have e : x.cps.toList = [] := List.eq_nil_of_length_eq_zero (by rw [len_toList]; exact hx)
    have hlt : (decide (x.length < 1) || decide (strKind x < strKind ⟨#[c]⟩)) = true := by rw [hx]; simp
    rw [if_pos hlt, e]
    show [x] = [ofL []]
    rw [← e, ofL_toList]
  · have hlt : ¬ (decide (x.length < 1) || decide (strKind x < strKind ⟨#[c]⟩)) = true := by
      have := h0 hx
      simp only [Bool.or_eq_true, decide_eq_true_eq]
      omega
    rw [if_neg hlt]
    have hlen : (idxs c x.cps.toList 0).take (x.length + 1) = idxs c x.cps.toList 0 := by
      refine List.take_of_length_le ?_
      have := idxs_len c x.cps.toList 0
      rw [len_toList] at this
      omega
    rw [hlen]
    have key := parts_eq x c x.cps.toList.length x.cps.toList 0 (Nat.le_refl _) (by simp) (by rw [len_toList]; omega)
    by_cases hem : (idxs c x.cps.toList 0).isEmpty = true
    · rw [if_pos hem]
      have e : idxs c x.cps.toList 0 = [] := List.isEmpty_iff.mp hem
      rw [e] at key
      rw [← key]
      show [x] = [strSub x 0 x.length]
      rw [sub_ofL]
      have e2 : (x.cps.toList.drop 0).take (x.length - 0) = x.cps.toList := by
        rw [List.drop_zero]
        exact List.take_of_length_le (by rw [len_toList]; omega)
      rw [e2, ofL_toList]
    · rw [if_neg hem, ← key]
      rfl
theorem part_sign (x : Str) (c : Nat) (p r : List Nat) (h : x.cps.toList = p ++ c :: r) (hp : c ∉ p) : Txt.partition x ⟨#[c]⟩ = (ofL p, ⟨#[c]⟩, ofL r) := by
  unfold Txt.partition
  rw [occ_sign, h, idxs_app hp]
  show (strSub x 0 (0 + p.length), (⟨#[c]⟩ : Str), strSub x (0 + p.length + 1) x.length) = _
  rw [sub_ofL, sub_ofL, h]
  have l : x.length = p.length + (r.length + 1) := by rw [← len_toList, h]; simp
  congr 1
  · simp
  · congr 1
    rw [l]
    have e : (p ++ c :: r).drop (0 + p.length + 1) = r := by
      have e : (0 + p.length + 1) = p.length + 1 := by omega
      rw [e]
      simp
    rw [e]
    congr 2
    refine List.take_of_length_le ?_
    omega
theorem part_none (x : Str) (c : Nat) (h : c ∉ x.cps.toList) : Txt.partition x ⟨#[c]⟩ = (x, Str.empty, Str.empty) := by
  unfold Txt.partition
  rw [occ_sign, idxs_none h]
  rfl
end SL
/-! houses: what their text tells, and how the program keeps it while it reads -/
namespace Hs
open PySem PySem.Spec PyProof.Rows L2
structure Pl where
  name : Str
  room : Nat
  inner : Bool
structure St where
  who : Str
  pl : Str
  a : Nat
  b : Nat
structure Lore where
  days : Nat
  places : List Pl
  prices : List (Nat × Nat)
  stays : List St
def plO (p : Pl) : HO := .tup [.str p.name, .int p.room, .bl p.inner]
def prO (p : Nat × Nat) : HO := .tup [.int p.1, .int p.2]
def stO (s : St) : HO := .tup [.str s.who, .str s.pl, .int s.a, .int s.b]
/-- objects one by one -/
def Refs {α : Type} (f : α → HO) (H : Hp) (rs : List Addr) (xs : List α) : Prop := rs.length = xs.length ∧ ∀ (i : Nat) (r : Addr) (x : α), rs[i]? = some r → xs[i]? = some x → H r = some (f x)
def LstAt {α : Type} (f : α → HO) (H : Hp) (l : Addr) (xs : List α) : Prop := ∃ rs : List Addr, H l = some (.lst (rs.map V.ref)) ∧ Refs f H rs xs
section
variable {α : Type} {f : α → HO} {H H' : Hp} {l : Addr} {xs : List α} {rs : List Addr}
theorem Refs.same (h : Refs f H rs xs) (e : Same H H') : Refs f H' rs xs := ⟨h.1, fun i r x a b => e _ _ (h.2 i r x a b)⟩
theorem LstAt.same (h : LstAt f H l xs) (e : Same H H') : LstAt f H' l xs := by
  obtain ⟨rs, a, b⟩ := h
  exact ⟨rs, e _ _ a, b.same e⟩
theorem Refs.at (h : Refs f H rs xs) {i : Nat} {v : V} (hv : (rs.map V.ref)[i]? = some v) : ∃ r x, v = .ref r ∧ rs[i]? = some r ∧ xs[i]? = some x ∧ H r = some (f x) := by
  rw [List.getElem?_map] at hv
  cases hr : rs[i]? with
  | none => rw [hr] at hv; cases hv
  | some r =>
    rw [hr] at hv
    have e : V.ref r = v := Option.some.inj hv
    have hi : i < xs.length := by
      rw [← h.1]
      exact (List.getElem?_eq_some_iff.mp hr).1
    exact ⟨r, xs[i], e.symm, rfl, List.getElem?_eq_getElem hi, h.2 i r _ hr (List.getElem?_eq_getElem hi)⟩
theorem Refs.nil : Refs f H [] [] := ⟨rfl, fun i r x a => by simp at a⟩
theorem Refs.snoc {r : Addr} {x : α} (h : Refs f H rs xs) (hr : H r = some (f x)) : Refs f H (rs ++ [r]) (xs ++ [x]) := by
  refine ⟨by simp [h.1], fun i q y a b => ?_⟩
  by_cases c : i < rs.length
  · rw [List.getElem?_append_left c] at a
    rw [List.getElem?_append_left (by rw [← h.1]; exact c)] at b
    exact h.2 i q y a b
  · rw [List.getElem?_append_right (by omega)] at a
    rw [List.getElem?_append_right (by rw [← h.1]; omega), ← h.1] at b
    by_cases z : i - rs.length = 0
    · rw [z] at a b
      simp at a b
      rw [← a, ← b]
      exact hr
    · have : ([r] : List Addr)[i - rs.length]? = none := List.getElem?_eq_none (by simp; omega)
      rw [this] at a
      cases a
end
/-- all but what is named stands as it did -/
def Fr (ms : List Addr) (H H' : Hp) : Prop := ∀ b u, H b = some u → b ∉ ms → H' b = some u
theorem Fr.same {ms : List Addr} {H H' : Hp} (e : Same H H') : Fr ms H H' := fun b u h _ => e b u h
theorem Fr.trans {ms : List Addr} {H H1 H2 : Hp} (a : Fr ms H H1) (b : Fr ms H1 H2) : Fr ms H H2 := fun c u e n => b c u (a c u e n) n
def dfs (days : Nat) (lp lt ls : Addr) : List (Str × V) := putF "stays" (.ref ls) (putF "tariffs" (.ref lt) (putF "places" (.ref lp) (putF "days" (.int days) [])))
/-- a draft, its lists -/
structure DraftAt (C : Addr) (H : Hp) (d lp lt ls : Addr) (L : Lore) : Prop where
  ob : ∃ dx, H d = some (.ins C dx (dfs L.days lp lt ls))
  pl : LstAt plO H lp L.places
  pr : LstAt prO H lt L.prices
  st : LstAt stO H ls L.stays
  n1 : lp ≠ lt
  n2 : lp ≠ ls
  n3 : lt ≠ ls
theorem DraftAt.same {C : Addr} {H H' : Hp} {d lp lt ls : Addr} {L : Lore} (h : DraftAt C H d lp lt ls L) (e : Same H H') : DraftAt C H' d lp lt ls L :=
  ⟨by obtain ⟨dx, z⟩ := h.ob; exact ⟨dx, e _ _ z⟩, h.pl.same e, h.pr.same e, h.st.same e, h.n1, h.n2, h.n3⟩
theorem n_dp : ¬ (("days" : Str) = "places") := by decide +kernel
theorem n_dt : ¬ (("days" : Str) = "tariffs") := by decide +kernel
theorem n_ds : ¬ (("days" : Str) = "stays") := by decide +kernel
theorem n_pt : ¬ (("places" : Str) = "tariffs") := by decide +kernel
theorem n_ps : ¬ (("places" : Str) = "stays") := by decide +kernel
theorem n_ts : ¬ (("tariffs" : Str) = "stays") := by decide +kernel
theorem dfs_days (n : Nat) (lp lt ls : Addr) : (dfs n lp lt ls).lookup ("days" : Str) = some (.int n) := by
  unfold dfs
  rw [lookup_putF, if_neg n_ds, lookup_putF, if_neg n_dt, lookup_putF, if_neg n_dp, lookup_putF, if_pos rfl]
theorem dfs_pl (n : Nat) (lp lt ls : Addr) : (dfs n lp lt ls).lookup ("places" : Str) = some (.ref lp) := by
  unfold dfs
  rw [lookup_putF, if_neg n_ps, lookup_putF, if_neg n_pt, lookup_putF, if_pos rfl]
theorem dfs_ta (n : Nat) (lp lt ls : Addr) : (dfs n lp lt ls).lookup ("tariffs" : Str) = some (.ref lt) := by
  unfold dfs
  rw [lookup_putF, if_neg n_ts, lookup_putF, if_pos rfl]
theorem dfs_st (n : Nat) (lp lt ls : Addr) : (dfs n lp lt ls).lookup ("stays" : Str) = some (.ref ls) := by
  unfold dfs
  rw [lookup_putF, if_pos rfl]
theorem dfs_set (n m : Nat) (lp lt ls : Addr) : putF "days" (.int m) (dfs n lp lt ls) = dfs m lp lt ls := by
  have e : dfs n lp lt ls = [(("days" : Str), V.int n), (("places" : Str), V.ref lp), (("tariffs" : Str), V.ref lt), (("stays" : Str), V.ref ls)] := by
    unfold dfs
    simp only [putF, if_neg n_dp, if_neg n_dt, if_neg n_ds, if_neg n_pt, if_neg n_ps, if_neg n_ts]
  have e2 : dfs m lp lt ls = [(("days" : Str), V.int m), (("places" : Str), V.ref lp), (("tariffs" : Str), V.ref lt), (("stays" : Str), V.ref ls)] := by
    unfold dfs
    simp only [putF, if_neg n_dp, if_neg n_dt, if_neg n_ds, if_neg n_pt, if_neg n_ps, if_neg n_ts]
  rw [e, e2]
  simp [putF]
/-- what the class Draft must have -/
structure DC (K : PySem.W.Frag) (C : Addr) : Prop where
  cl : Cls K C
  nD : NoAttr K C "days"
  nP : NoAttr K C "places"
  nT : NoAttr K C "tariffs"
  nS : NoAttr K C "stays"
end Hs
/-! the questions of a draft -/
namespace Hs
open PySem PySem.Spec PyProof.Rows L2 Am
theorem b_any : bootBuiltins "any" = some (.builtin "any") := by decide +kernel
/-- what is asked in vain: nothing but new objects -/
def hasP (L : Lore) (x : Str) : Bool := L.places.any fun p => decide (p.name = x)
def hasF (L : Lore) : Bool := L.places.any fun p => p.inner
def letS (L : Lore) (x : Str) (a b : Nat) : Bool := L.stays.any fun s => decide (s.pl = x) && (decide (s.a < b) && decide (a < s.b))
def Small (L : Lore) : Prop := L.places.length ≤ 4 ∧ L.prices.length ≤ 3 ∧ L.stays.length ≤ 8
def spHasP (C : Addr) : Sp := fun vs H Q _ => ∃ (d lp lt ls : Addr) (L : Lore) (x : Str), vs = [.ref d, .str x] ∧ DraftAt C H d lp lt ls L ∧ Small L ∧ ∀ H', Same H H' → Q (.bl (hasP L x)) H'
def spHasF (C : Addr) : Sp := fun vs H Q _ => ∃ (d lp lt ls : Addr) (L : Lore), vs = [.ref d] ∧ DraftAt C H d lp lt ls L ∧ Small L ∧ ∀ H', Same H H' → Q (.bl (hasF L)) H'
def spIsLet (C : Addr) : Sp := fun vs H Q _ => ∃ (d lp lt ls : Addr) (L : Lore) (x : Str) (a b : Nat), vs = [.ref d, .str x, .int a, .int b] ∧ DraftAt C H d lp lt ls L ∧ Small L ∧ ∀ H', Same H H' → Q (.bl (letS L x a b)) H'
theorem any_map {α : Type} (g : α → Bool) (xs : List α) : (xs.map g).any id = xs.any g := by rw [List.any_map]; rfl
theorem str_eq (x y : Str) : decide (V.str x = V.str y) = decide (x = y) := decide_eq_decide.mpr ⟨V.str.inj, fun h => by rw [h]⟩
/-- what a comprehension holds between its turns -/
def Tk (H1 : Hp) (D : Addr) (ys : List V) (i : Nat) (H : Hp) : Prop := Same H1 H ∧ H D = some (.lst (ys.take i))
theorem Tk.start {H1 : Hp} {D : Addr} {ys : List V} (nD : H1 D = none) : Tk H1 D ys 0 (upd H1 D (.lst [])) := ⟨same_upd nD, by rw [upd_same]; rfl⟩
theorem Tk.step {H1 H H' : Hp} {D : Addr} {ys : List V} {i : Nat} {y : V} (nD : H1 D = none) (h : Tk H1 D ys i H) (e : Same H H') (hy : ys[i]? = some y) (hn : ys.length ≤ 1000) :
    ∃ acc, H' D = some (.lst acc) ∧ acc.length < sizeLine ∧ Tk H1 D ys (i + 1) (upd H' D (.lst (acc ++ [y]))) := by
  refine ⟨_, e _ _ h.2, ?_, ?_, ?_⟩
  · rw [List.length_take]
    exact Nat.lt_of_le_of_lt (Nat.le_trans (Nat.min_le_right _ _) hn) (by decide)
  · intro b o z
    rw [upd_ne (ne_of_none z nD)]
    exact e _ _ (h.1 _ _ z)
  · rw [upd_same, List.take_add_one, hy]
    rfl
theorem Tk.done {H1 H : Hp} {D : Addr} {ys : List V} {n : Nat} (h : Tk H1 D ys n H) (hn : n = ys.length) : H D = some (.lst ys) := by
  have := h.2
  rw [hn, List.take_length] at this
  exact this
section
variable {P : Program} {w : World} {K : PySem.W.Frag} {mg : Str → Option Value} {base : Heap} {C : Addr}
theorem scHasP : FnScope ["self", "name", "place", "room", "inner"] ["self", "name"] (defScope sDrHasP) := ⟨rfl, rfl, rfl, by decide +kernel, rfl, by decide +kernel, by decide +kernel⟩
theorem ok_hasP {f : Addr} {fd : FuncData} (F : Fun K "has_place" "Draft.has_place" sDrHasP f fd) (dc : DC K C) (na : mg "any" = none) : FnOk P w K mg base CX0 1 f fd ["self", "name"] (spHasP C) := by
  refine F.ok scHasP (fun vs H Q E h => ?_) (fun cdv A outer s H vs Q E hr h => ?_)
  · obtain ⟨d, lp, lt, ls, L, x, rfl, _⟩ := h
    rfl
  · obtain ⟨d, lp, lt, ls, L, x, rfl, hd, sm, q⟩ := h
    refine ⟨_, pss_one (ps_ret (pe_callB (cr_any rfl) (by rfl) na b_any (pa_cons (pe_lc (own := [("place", 2), ("room", 3), ("inner", 4)]) (g := gTup K 3 (gCons (gName 2) (gCons (gName 3) (gCons (gName 4) gNil)))) (tt := tYes) rfl scHasP.nd (pi_list (pe_fld (pv 0) rfl))
      (blkOk_by (N := ["self", "name", "place", "room", "inner"]) (sc := defScope sDrHasP) (by decide +kernel))
      (fun _ _ _ _ _ => pg_tup rfl (pgs_cons (pg_name (i := 2) scHasP.nd rfl (.inl rfl)) (pgs_cons (pg_name (i := 3) scHasP.nd rfl (.inl rfl)) (pgs_cons (pg_name (i := 4) scHasP.nd rfl (.inl rfl)) pgs_nil)))) (fun _ _ _ _ _ => pts_nil)
      (fun _ _ _ _ _ => pe_cmpR op_eq (pv 2) (pv 1) (nomark _))) pa_nil))), ?_⟩
    obtain ⟨dx, ob⟩ := hd.ob
    obtain ⟨rs, hl, hrs⟩ := hd.pl
    refine ⟨_, rfl, d, C, dx, _, _, rfl, ob, dc.cl, dc.nP, dfs_pl _ _ _ _, lp, rfl, ⟨_, SqL.of hl⟩, fun D nD => ?_⟩
    refine lc_it (walk_list (xs := rs.map V.ref)) (Pv := Tk H D (L.places.map fun p => V.bl (decide (p.name = x)))) (Tk.start nD) (fun i H' _ hh => SqL.of (hh.1 _ _ hl)) ?_ ?_
    · rintro i v H1 H2 hi hk ⟨rfl, hv⟩
      obtain ⟨r, p, rfl, hr', hp, ho⟩ := hrs.at hv
      refine ⟨r, _, rfl, SqT.of (hk.1 _ _ ho), rfl, _, _, rfl, _, _, rfl, _, _, rfl, rfl, rfl, ?_⟩
      unfold tYes
      refine iteT ⟨_, rfl, _, rfl, rfl, ?_⟩
      rw [str_eq]
      exact hk.step nD (Same.refl _) (by rw [List.getElem?_map, hp]; rfl) (by rw [List.length_map]; have := sm.1; omega)
    · rintro H1 hk
      refine ⟨D, L.places.map fun p => decide (p.name = x), rfl, SqL.of ?_, ?_⟩
      · rw [List.map_map]
        exact hk.done (by simp [hrs.1])
      · rw [any_map]
        exact q H1 hk.1
theorem scHasF : FnScope ["self", "name", "room", "inner"] ["self"] (defScope sDrHasF) := ⟨rfl, rfl, rfl, by decide +kernel, rfl, by decide +kernel, by decide +kernel⟩
theorem ok_hasF {f : Addr} {fd : FuncData} (F : Fun K "has_flat" "Draft.has_flat" sDrHasF f fd) (dc : DC K C) (na : mg "any" = none) : FnOk P w K mg base CX0 1 f fd ["self"] (spHasF C) := by
  refine F.ok scHasF (fun vs H Q E h => ?_) (fun cdv A outer s H vs Q E hr h => ?_)
  · obtain ⟨d, lp, lt, ls, L, rfl, _⟩ := h
    rfl
  · obtain ⟨d, lp, lt, ls, L, rfl, hd, sm, q⟩ := h
    refine ⟨_, pss_one (ps_ret (pe_callB (cr_any rfl) (by rfl) na b_any (pa_cons (pe_lc (own := [("name", 1), ("room", 2), ("inner", 3)]) (g := gTup K 3 (gCons (gName 1) (gCons (gName 2) (gCons (gName 3) gNil)))) (tt := tYes) rfl scHasF.nd (pi_list (pe_fld (pv 0) rfl))
      (blkOk_by (N := ["self", "name", "room", "inner"]) (sc := defScope sDrHasF) (by decide +kernel))
      (fun _ _ _ _ _ => pg_tup rfl (pgs_cons (pg_name (i := 1) scHasF.nd rfl (.inl rfl)) (pgs_cons (pg_name (i := 2) scHasF.nd rfl (.inl rfl)) (pgs_cons (pg_name (i := 3) scHasF.nd rfl (.inl rfl)) pgs_nil)))) (fun _ _ _ _ _ => pts_nil)
      (fun _ _ _ _ _ => pv 3)) pa_nil))), ?_⟩
    obtain ⟨dx, ob⟩ := hd.ob
    obtain ⟨rs, hl, hrs⟩ := hd.pl
    refine ⟨_, rfl, d, C, dx, _, _, rfl, ob, dc.cl, dc.nP, dfs_pl _ _ _ _, lp, rfl, ⟨_, SqL.of hl⟩, fun D nD => ?_⟩
    refine lc_it (walk_list (xs := rs.map V.ref)) (Pv := Tk H D (L.places.map fun p => V.bl p.inner)) (Tk.start nD) (fun i H' _ hh => SqL.of (hh.1 _ _ hl)) ?_ ?_
    · rintro i v H1 H2 hi hk ⟨rfl, hv⟩
      obtain ⟨r, p, rfl, hr', hp, ho⟩ := hrs.at hv
      refine ⟨r, _, rfl, SqT.of (hk.1 _ _ ho), rfl, _, _, rfl, _, _, rfl, _, _, rfl, rfl, rfl, ?_⟩
      unfold tYes
      refine iteT ⟨_, rfl, ?_⟩
      exact hk.step nD (Same.refl _) (by rw [List.getElem?_map, hp]; rfl) (by rw [List.length_map]; have := sm.1; omega)
    · rintro H1 hk
      refine ⟨D, L.places.map fun p => p.inner, rfl, SqL.of ?_, ?_⟩
      · rw [List.map_map]
        exact hk.done (by simp [hrs.1])
      · rw [any_map]
        exact q H1 hk.1
theorem scIsLet : FnScope ["self", "name", "first", "behind", "person", "place", "start", "end"] ["self", "name", "first", "behind"] (defScope sDrIsLet) := ⟨rfl, rfl, rfl, by decide +kernel, rfl, by decide +kernel, by decide +kernel⟩
theorem ok_isLet {f : Addr} {fd : FuncData} (F : Fun K "is_let" "Draft.is_let" sDrIsLet f fd) (dc : DC K C) (na : mg "any" = none) : FnOk P w K mg base CX0 1 f fd ["self", "name", "first", "behind"] (spIsLet C) := by
  refine F.ok scIsLet (fun vs H Q E h => ?_) (fun cdv A outer s H vs Q E hr h => ?_)
  · obtain ⟨d, lp, lt, ls, L, x, a, b, rfl, _⟩ := h
    rfl
  · obtain ⟨d, lp, lt, ls, L, x, a, b, rfl, hd, sm, q⟩ := h
    refine ⟨_, pss_one (ps_ret (pe_callB (cr_any rfl) (by rfl) na b_any (pa_cons (pe_lc (own := [("person", 4), ("place", 5), ("start", 6), ("end", 7)]) (g := gTup K 4 (gCons (gName 4) (gCons (gName 5) (gCons (gName 6) (gCons (gName 7) gNil))))) (tt := tYes) rfl scIsLet.nd (pi_list (pe_fld (pv 0) rfl))
      (blkOk_by (N := ["self", "name", "first", "behind", "person", "place", "start", "end"]) (sc := defScope sDrIsLet) (by decide +kernel))
      (fun _ _ _ _ _ => pg_tup rfl (pgs_cons (pg_name (i := 4) scIsLet.nd rfl (.inl rfl)) (pgs_cons (pg_name (i := 5) scIsLet.nd rfl (.inl rfl)) (pgs_cons (pg_name (i := 6) scIsLet.nd rfl (.inl rfl)) (pgs_cons (pg_name (i := 7) scIsLet.nd rfl (.inl rfl)) pgs_nil))))) (fun _ _ _ _ _ => pts_nil)
      (fun _ _ _ _ _ => pe_and (pe_cmpR op_eq (pv 5) (pv 1) (nomark _)) (pe_and (pe_cmpR op_lt (pv 6) (pv 3) (nomark _)) (pe_one (pe_cmpR op_lt (pv 2) (pv 7) (nomark _)))))) pa_nil))), ?_⟩
    obtain ⟨dx, ob⟩ := hd.ob
    obtain ⟨rs, hl, hrs⟩ := hd.st
    refine ⟨_, rfl, d, C, dx, _, _, rfl, ob, dc.cl, dc.nS, dfs_st _ _ _ _, ls, rfl, ⟨_, SqL.of hl⟩, fun D nD => ?_⟩
    refine lc_it (walk_list (xs := rs.map V.ref)) (Pv := Tk H D (L.stays.map fun s => V.bl (decide (s.pl = x) && (decide (s.a < b) && decide (a < s.b))))) (Tk.start nD) (fun i H' _ hh => SqL.of (hh.1 _ _ hl)) ?_ ?_
    · rintro i v H1 H2 hi hk ⟨rfl, hv⟩
      obtain ⟨r, p, rfl, hr', hp, ho⟩ := hrs.at hv
      refine ⟨r, _, rfl, SqT.of (hk.1 _ _ ho), rfl, _, _, rfl, _, _, rfl, _, _, rfl, _, _, rfl, rfl, rfl, ?_⟩
      unfold tYes
      refine iteT ⟨_, rfl, _, rfl, rfl, _, rfl, ?_⟩
      rw [str_eq]
      have fin : ∀ y : Bool, (decide (p.pl = x) && (decide (p.a < b) && decide (a < p.b))) = y → ∃ acc, H2 D = some (.lst acc) ∧ acc.length < sizeLine ∧ Tk H D (L.stays.map fun s => V.bl (decide (s.pl = x) && (decide (s.a < b) && decide (a < s.b)))) (i + 1) (upd H2 D (.lst (acc ++ [V.bl y]))) := by
        rintro y rfl
        exact hk.step nD (Same.refl _) (by rw [List.getElem?_map, hp]; rfl) (by rw [List.length_map]; have := sm.2.2; omega)
      have d1 : decide ((p.a : Int) < (b : Int)) = decide (p.a < b) := decide_eq_decide.mpr (by omega)
      have d2 : decide ((a : Int) < (p.b : Int)) = decide (a < p.b) := decide_eq_decide.mpr (by omega)
      cases c : decide (p.pl = x) with
      | false => exact iteF (fin _ (by rw [c]; rfl))
      | true =>
        refine iteT ⟨_, rfl, _, rfl, _, _, rfl, rfl, _, rfl, ?_⟩
        rw [d1]
        cases c2 : decide (p.a < b) with
        | false => exact iteF (fin _ (by rw [c, c2]; rfl))
        | true =>
          exact iteT ⟨_, rfl, _, rfl, _, _, rfl, rfl, fin (decide ((a : Int) < (p.b : Int))) (by rw [c, c2, d2]; rfl)⟩
    · rintro H1 hk
      refine ⟨D, L.stays.map fun s => (decide (s.pl = x) && (decide (s.a < b) && decide (a < s.b))), rfl, SqL.of ?_, ?_⟩
      · rw [List.map_map]
        exact hk.done (by simp [hrs.1])
      · rw [any_map]
        exact q H1 hk.1
end
end Hs
namespace Am
open PySem PySem.Spec PyProof.Rows L2
abbrev FInit (K : PySem.W.Frag) (f : Addr) (fd : FuncData) : Prop := FunD K "__init__" "Amount.__init__" (defArgs sInit) (defBody sInit) (defScope sInit) [.int 1] [] f fd
theorem log2_lt {n : Nat} {k : Nat} (hk : 0 < k) (h : n < 2 ^ k) : n.log2 < k := PySem.Flt.log2_lt_of hk h
theorem bd_sg {n u : Int} (hu : u ≠ 0) (h : Bd 8900 u) : (sg n u).natAbs.log2 < 9000 := Nat.lt_trans (log2_lt (by decide) (Nat.lt_of_le_of_lt (sg_le hu) h)) (by decide)
section
variable {P : Program} {w : World} {K : PySem.W.Frag} {mg : Str → Option Value} {base : Heap}
theorem scInit : FnScope ["self", "number", "under", "shared"] ["self", "number", "under"] (defScope sInit) := ⟨rfl, rfl, rfl, by decide +kernel, rfl, by decide +kernel, by decide +kernel⟩
theorem ok_init {f C fW : Addr} {fd fdW : FuncData} (F : FInit K f fd) (T : Txt K mg C) (GW : FnOk P w K mg base CX0 1 fW fdW ["value"] (spWhole C)) (bW : Binds K fdW ["value"] []) (mW : mg "is_whole" = some (.ref fW)) (kW : PySem.W.keepIn K (.ref fW) = true) :
    FnOk P w K mg base CX0 2 f fd ["self", "number", "under"] (spInit C) := by
  refine F.ok scInit (fun vs H Q E h => ?_) (fun cdv A outer s H vs Q E hr h => ?_)
  · obtain ⟨x, dx, n, u, rfl, _⟩ := h
    rfl
  · obtain ⟨x, dx, n, u, rfl, hx, hu, bn, bu, q⟩ := h
    refine ⟨_, pss_cons (ps_if (PW.pt (pw_or (pt_not (pt_val (pe_call GW hr (by rfl) mW kW bW .nil pass0 (pa_cons (pv 1) pa_nil)))) (pw_or (pt_not (pt_val (pe_call GW hr (by rfl) mW kW bW .nil pass0 (pa_cons (pv 2) pa_nil)))) (pw_or1 (pt_cmpR op_eq (pv 2) pe_int (nomark _)))))) (pss_one ps_never) pss_nil)
      (pss_cons (ps_set (i := 3) scInit.nd rfl (.inl rfl) (pe_callBfun cr_gcd (by rfl) T.gcd (pa_cons (pv 1) (pa_cons (pv 2) pa_nil))))
      (pss_cons (ps_if (pt_cmpR op_lt (pv 2) pe_int (nomark _)) (pss_one (ps_set (i := 3) scInit.nd rfl (.inl rfl) (pe_un un_neg (pv 3)))) pss_nil)
      (pss_cons (ps_fld (pv 0) (pe_op op_fdivX (pv 1) (pv 3)) rfl)
      (pss_one (ps_fld (pv 0) (pe_op op_fdivX (pv 2) (pv 3)) rfl))))), ?_⟩
    have d0 : decide (V.int u = V.int 0) = false := decide_eq_false (fun e => hu (V.int.inj e))
    refine ⟨_, rfl, _, rfl, .inl ⟨_, .int n⟩, _, rfl, iteF ⟨_, rfl, _, rfl, .inl ⟨_, .int u⟩, _, rfl, iteF ⟨_, rfl, rfl, _, rfl, ?_⟩⟩⟩
    rw [d0]
    refine iteF ?_
    refine ⟨_, rfl, _, rfl, _, _, rfl, ?_⟩
    have fin : ∀ s, s = sg n u → tSeq (sFld K (tVar 0) (tOp (rI (fun _ j => j ≠ 0 ∧ j.natAbs.log2 < 9000) fun i j => .int (i.fdiv j)) (tVar 1) (tVar 3)) "number") (sFld K (tVar 0) (tOp (rI (fun _ j => j ≠ 0 ∧ j.natAbs.log2 < 9000) fun i j => .int (i.fdiv j)) (tVar 2) (tVar 3)) "under")
        { nx := fun _ H' => Q .non H', rt := Q } [some (.ref x), some (.int n), some (.int u), some (.int s)] H := by
      rintro s rfl
      refine ⟨_, rfl, _, rfl, _, _, rfl, rfl, ⟨sg_ne hu, bd_sg hu bu⟩, _, rfl, x, C, dx, _, rfl, hx, T.cl, T.nN, (by show 0 < 1000; decide), ?_⟩
      refine ⟨_, rfl, _, rfl, _, _, rfl, rfl, ⟨sg_ne hu, bd_sg hu bu⟩, _, rfl, x, C, dx, _, rfl, upd_same, T.cl, T.nU, (by show 1 < 1000; decide), ?_⟩
      exact q _ upd_same fun b o e nb => by rw [upd_ne nb, upd_ne nb]; exact e
    refine ⟨_, rfl, _, _, rfl, rfl, _, rfl, ite2 (fun c => ?_) (fun c => ?_)⟩
    · refine ⟨_, rfl, _, rfl, ?_⟩
      exact fin _ (by unfold sg; rw [if_pos (of_decide_eq_true c)]; rfl)
    · exact fin _ (by unfold sg; rw [if_neg (fun z => c (decide_eq_true z))]; rfl)
end
end Am
namespace Am
open PySem PySem.Spec PyProof.Rows L2
/-- a def of the module that keeps its promise -/
def GotF (P : Program) (w : World) (K : PySem.W.Frag) (mg : Str → Option Value) (base : Heap) (x : Str) (k : Nat) (ps : List Str) (sp : Sp) : Prop :=
  ∃ (f : Addr) (fd : FuncData), FnOk P w K mg base CX0 k f fd ps sp ∧ Binds K fd ps [] ∧ mg x = some (.ref f) ∧ PySem.W.keepIn K (.ref f) = true
/-- a method of the class -/
def GotM (P : Program) (w : World) (K : PySem.W.Frag) (mg : Str → Option Value) (base : Heap) (C : Addr) (x : Str) (k : Nat) (ps : List Str) (sp : Sp) : Prop :=
  ∃ (f : Addr) (fd : FuncData), FnOk P w K mg base CX0 k f fd ps sp ∧ Binds K fd ps [] ∧ PySem.W.findIn K (.ref C) x = some (some (.ref f)) ∧ PySem.W.isFn K (.ref f) = true
/-- the making of an Amount -/
def GotI (P : Program) (w : World) (K : PySem.W.Frag) (mg : Str → Option Value) (base : Heap) (C : Addr) : Prop :=
  ∃ (f : Addr) (fd : FuncData), FnOk P w K mg base CX0 2 f fd ["self", "number", "under"] (spInit C) ∧ Binds K fd ["self", "number", "under"] [] ∧ (∃ ds, Vals [V.int 1] ds ∧ Binds K fd ["self", "number", "under"] ds) ∧ Mk K C f
structure OpIK (K : PySem.W.Frag) (C : Addr) (nm : String) : Prop where
  h1 : ∃ fo, PySem.W.findIn K (.type "int") (PySem.dunder nm) = some fo
  h2 : ∃ ro, PySem.W.findIn K (.type "int") (PySem.dunderR nm) = some ro
  hr : ∃ g : Addr, PySem.W.findIn K (.ref C) (PySem.dunderR nm) = some (some (.ref g))

theorem make_read {C : Addr} {H : Hp} {Q : VK} {E : XK} {n u : Int} (hu : u ≠ 0) (bn : Bd 8900 n) (bu : Bd 8900 u) (q : ∀ v H', Same H H' → AmAt C H' v (fr n u).1 (fr n u).2 → Q v H') :
    ∀ x dx, H x = none → H dx = none → dx ≠ x → spInit C [.ref x, .int n, .int u] (upd (upd H dx (.own x)) x (.ins C dx [])) (fun v H2 => v = .non ∧ Q (.ref x) H2) E :=
  fun x dx nx ndx nex => ⟨x, dx, n, u, rfl, upd_same, hu, bn, bu, fun H' hx k => ⟨rfl, q _ _ (Same.made nx ndx k) ⟨fr_low hu, x, dx, rfl, hx⟩⟩⟩

theorem Bd.mono {k j : Nat} {n : Int} (h : Bd k n) (hj : k ≤ j) : Bd j n := Nat.lt_of_lt_of_le h (Nat.pow_le_pow_right (by decide) hj)
theorem Bd.neg {k : Nat} {n : Int} (h : Bd k n) : Bd k (-n) := by unfold Bd; rw [Int.natAbs_neg]; exact h
theorem Bd.mul {k j : Nat} {n m : Int} (h : Bd k n) (h' : Bd j m) : Bd (k + j) (n * m) := wide_lt h h'
theorem Bd.add {k : Nat} {n m : Int} (h : Bd k n) (h' : Bd k m) : Bd (k + 1) (n + m) := by
  unfold Bd at *
  have e : 2 ^ (k + 1) = 2 ^ k + 2 ^ k := by omega
  have := Int.natAbs_add_le n m
  omega
theorem Bd.cmul {k : Nat} {n m : Int} (h : Bd k n) (h' : Bd k m) (h0 : 0 < k) (hk : k ≤ 5000) : CMulW n m := wide_mul h h' h0 h0 (by omega)

def spEq (C : Addr) : Sp := fun vs H Q _ => ∃ a y n u, vs = [a, y] ∧ AmAt C H a n u ∧ ((∃ n' u', AmV C H y n' u' ∧ ∀ H', Same H H' → Q (.bl (decide (n = n' ∧ u = u'))) H') ∨ ((∃ T, Bk H y T) ∧ isI y = false ∧ Q (.bl false) H))
def spNeg (C : Addr) : Sp := fun vs H Q _ => ∃ a n u, vs = [a] ∧ AmAt C H a n u ∧ Bd 8900 n ∧ Bd 8900 u ∧ ∀ v H', Same H H' → AmAt C H' v (-n) u → Q v H'
def spAdd (C : Addr) : Sp := fun vs H Q _ => ∃ a y n u n' u', vs = [a, y] ∧ AmAt C H a n u ∧ AmV C H y n' u' ∧ (Bd 4000 n ∧ Bd 4000 u ∧ Bd 4000 n' ∧ Bd 4000 u') ∧
  ∀ v H', Same H H' → AmAt C H' v (fr (n * u' + n' * u) (u * u')).1 (fr (n * u' + n' * u) (u * u')).2 → Q v H'
def spSub (C : Addr) : Sp := fun vs H Q _ => ∃ a y n u n' u', vs = [a, y] ∧ AmAt C H a n u ∧ AmV C H y n' u' ∧ (Bd 4000 n ∧ Bd 4000 u ∧ Bd 4000 n' ∧ Bd 4000 u') ∧
  ∀ v H', Same H H' → AmAt C H' v (fr (n * u' + -n' * u) (u * u')).1 (fr (n * u' + -n' * u) (u * u')).2 → Q v H'
def spCmp (C : Addr) (r : Int → Bool) : Sp := fun vs H Q _ => ∃ a y n u n' u', vs = [a, y] ∧ AmAt C H a n u ∧ AmV C H y n' u' ∧ (Bd 4000 n ∧ Bd 4000 u ∧ Bd 4000 n' ∧ Bd 4000 u') ∧
  ∀ H', Same H H' → Q (.bl (r (fr (n * u' + -n' * u) (u * u')).1)) H'
theorem eqv_two (n u n' u' : Int) : PyData.eqv (.tuple [.int n, .int u]) (.tuple [.int n', .int u']) = decide (n = n' ∧ u = u') := by
  simp [PyData.eqv, PyData.eqvAll, Bool.beq_eq_decide_eq]
section
variable {P : Program} {w : World} {K : PySem.W.Frag} {mg : Str → Option Value} {base : Heap} {C : Addr}
theorem scNeg : FnScope ["self"] ["self"] (defScope sNeg) := ⟨rfl, rfl, rfl, by decide +kernel, rfl, by decide +kernel, by decide +kernel⟩
theorem ok_neg {f : Addr} {fd : FuncData} (F : Fun K "__neg__" "Amount.__neg__" sNeg f fd) (T : Txt K mg C) (GI : GotI P w K mg base C) : FnOk P w K mg base CX0 4 f fd ["self"] (spNeg C) := by
  obtain ⟨fI, fdI, GI, bI, _, M⟩ := GI
  refine F.ok scNeg (fun vs H Q E h => ?_) (fun cdv A outer s H vs Q E hr h => ?_)
  · obtain ⟨a, n, u, rfl, _⟩ := h
    rfl
  · obtain ⟨a, n, u, rfl, ⟨l, x, dx, rfl, hx⟩, bn, bu, q⟩ := h
    refine ⟨_, pss_one (ps_ret (pe_make M GI hr (by rfl) T.mgC bI .nil pass0 (pa_cons (pe_un un_neg (pe_fld (pv 0) rfl)) (pa_cons (pe_fld (pv 0) rfl) pa_nil)))), ?_⟩
    refine ⟨_, rfl, x, C, dx, _, _, rfl, hx, T.cl, T.nN, pf_number _ _, _, rfl, _, rfl, x, C, dx, _, _, rfl, hx, T.cl, T.nU, pf_under _ _, ?_⟩
    refine make_read l.ne bn.neg bu fun v H' e h => q v H' e ?_
    rw [fr_of_low l.neg] at h
    exact h
theorem scAdd : FnScope ["self", "other", "number", "under"] ["self", "other"] (defScope sAdd) := ⟨rfl, rfl, rfl, by decide +kernel, rfl, by decide +kernel, by decide +kernel⟩
theorem ok_add {f : Addr} {fd : FuncData} (F : Fun K "__add__" "Amount.__add__" sAdd f fd) (T : Txt K mg C) (GI : GotI P w K mg base C) (GA : GotF P w K mg base "is_amount" 2 ["value"] (spIsAm C)) (GP : GotF P w K mg base "parts" 1 ["amount"] (spParts C)) :
    FnOk P w K mg base CX0 4 f fd ["self", "other"] (spAdd C) := by
  obtain ⟨fI, fdI, GI, bI, _, M⟩ := GI
  obtain ⟨fA, fdA, GA, bA, mA, kA⟩ := GA
  obtain ⟨fP, fdP, GP, bP, mP, kP⟩ := GP
  refine F.ok scAdd (fun vs H Q E h => ?_) (fun cdv A outer s H vs Q E hr h => ?_)
  · obtain ⟨a, y, n, u, n', u', rfl, _⟩ := h
    rfl
  · obtain ⟨a, y, n, u, n', u', rfl, ⟨l, x, dx, rfl, hx⟩, hy, ⟨b1, b2, b3, b4⟩, q⟩ := h
    have hr1 : Room 1 _ := hr.mono (by decide)
    have hr2 : Room 2 _ := hr.mono (by decide)
    refine ⟨_, pss_cons (ps_if (pt_not (pt_val (pe_call GA hr2 (by rfl) mA kA bA .nil pass0 (pa_cons (pv 1) pa_nil)))) (pss_one ps_never) pss_nil)
      (pss_cons (ps_asg (pe_call GP hr1 (by rfl) mP kP bP .nil pass0 (pa_cons (pv 1) pa_nil)) (pg_tup rfl (pgs_cons (pg_name (i := 2) scAdd.nd rfl (.inl rfl)) (pgs_cons (pg_name (i := 3) scAdd.nd rfl (.inl rfl)) pgs_nil))))
      (pss_one (ps_ret (pe_make M GI hr (by rfl) T.mgC bI .nil pass0 (pa_cons (pe_op op_add (pe_op op_mulW (pe_fld (pv 0) rfl) (pv 3)) (pe_op op_mulW (pv 2) (pe_fld (pv 0) rfl))) (pa_cons (pe_op op_mulW (pe_fld (pv 0) rfl) (pv 3)) pa_nil)))))), ?_⟩
    refine ⟨_, rfl, _, true, rfl, hy.isAm, _, rfl, iteF ?_⟩
    refine ⟨_, rfl, y, n', u', rfl, hy, fun p np => ⟨p, _, rfl, SqT.of upd_same, rfl, _, _, rfl, _, _, rfl, rfl, ?_⟩⟩
    have hx1 : (upd H p (.tup [V.int n', V.int u'])) x = some (.ins C dx (pf n u)) := by rw [upd_ne (ne_of_none hx np)]; exact hx
    refine ⟨_, rfl, x, C, dx, _, _, rfl, hx1, T.cl, T.nN, pf_number _ _, _, rfl, _, _, rfl, rfl, b1.cmul b4 (by decide) (by decide), ?_⟩
    refine ⟨_, rfl, _, rfl, x, C, dx, _, _, rfl, hx1, T.cl, T.nU, pf_under _ _, _, _, rfl, rfl, b3.cmul b2 (by decide) (by decide), _, _, rfl, rfl, ?_⟩
    refine ⟨_, rfl, x, C, dx, _, _, rfl, hx1, T.cl, T.nU, pf_under _ _, _, rfl, _, _, rfl, rfl, b2.cmul b4 (by decide) (by decide), ?_⟩
    have hu : u * u' ≠ 0 := Int.mul_ne_zero l.ne hy.low.ne
    refine make_read hu ((b1.mul b4).add (b3.mul b2) |>.mono (by decide)) ((b2.mul b4).mono (by decide)) fun v H' e h => q v H' ((same_upd np).trans e) h
theorem scSub : FnScope ["self", "other"] ["self", "other"] (defScope sSub) := ⟨rfl, rfl, rfl, by decide +kernel, rfl, by decide +kernel, by decide +kernel⟩
theorem ok_sub {f : Addr} {fd : FuncData} (F : Fun K "__sub__" "Amount.__sub__" sSub f fd) (T : Txt K mg C) (GA : GotF P w K mg base "is_amount" 2 ["value"] (spIsAm C)) (GN : GotM P w K mg base C "__neg__" 4 ["self"] (spNeg C)) (GD : GotM P w K mg base C "__add__" 4 ["self", "other"] (spAdd C)) (cA : OpIK K C "add") :
    FnOk P w K mg base CX0 5 f fd ["self", "other"] (spSub C) := by
  obtain ⟨fN, fdN, GN, bN, hN, iN⟩ := GN
  obtain ⟨fA, fdA, GA, bA, mA, kA⟩ := GA
  obtain ⟨fD, fdD, GD, bD, hD, iD⟩ := GD
  refine F.ok scSub (fun vs H Q E h => ?_) (fun cdv A outer s H vs Q E hr h => ?_)
  · obtain ⟨a, y, n, u, n', u', rfl, _⟩ := h
    rfl
  · obtain ⟨a, y, n, u, n', u', rfl, ha, hy, ⟨b1, b2, b3, b4⟩, q⟩ := h
    have hr2 : Room 2 _ := hr.mono (by decide)
    refine ⟨_, pss_cons (ps_if (pt_not (pt_val (pe_call GA hr2 (by rfl) mA kA bA .nil pass0 (pa_cons (pv 1) pa_nil)))) (pss_one ps_never) pss_nil)
      (pss_one (ps_ret (pe_op (op_binC (op := .Add) T.op ⟨cA.h1, cA.h2, cA.hr⟩ ⟨hD, iD⟩ GD hr bD pass0) (pv 0) (pe_un (UnR.or (un_negC ⟨hN, iN⟩ GN hr bN pass0) un_neg) (pv 1))))), ?_⟩
    refine ⟨_, rfl, _, true, rfl, hy.isAm, _, rfl, iteF ?_⟩
    have fin : ∀ v1 H1, Same H H1 → AmV C H1 v1 (-n') u' → rBin C (spAdd C) E0 a v1 H1 Q := fun v1 H1 e h1 =>
      ⟨(ha.same e).inst, h1.orI, a, v1, n, u, -n', u', rfl, ha.same e, h1, ⟨b1, b2, b3.neg, b4⟩, fun v H' e' h => q v H' (e.trans e') h⟩
    refine ⟨_, rfl, _, rfl, ?_⟩
    rcases hy with hy | ⟨rfl, rfl⟩
    · exact .inl ⟨hy.inst, y, n', u', rfl, hy, b3.mono (by decide), b4.mono (by decide), fun v1 H1 e h1 => fin v1 H1 e (.inl h1)⟩
    · exact .inr ⟨_, rfl, fin _ _ (Same.refl _) (.inr ⟨rfl, rfl⟩)⟩
theorem scEq : FnScope ["self", "other"] ["self", "other"] (defScope sEq) := ⟨rfl, rfl, rfl, by decide +kernel, rfl, by decide +kernel, by decide +kernel⟩
theorem ok_eq {f : Addr} {fd : FuncData} (F : Fun K "__eq__" "Amount.__eq__" sEq f fd) (T : Txt K mg C) (GA : GotF P w K mg base "is_amount" 2 ["value"] (spIsAm C)) (GP : GotF P w K mg base "parts" 1 ["amount"] (spParts C)) :
    FnOk P w K mg base CX0 3 f fd ["self", "other"] (spEq C) := by
  obtain ⟨fA, fdA, GA, bA, mA, kA⟩ := GA
  obtain ⟨fP, fdP, GP, bP, mP, kP⟩ := GP
  refine F.ok scEq (fun vs H Q E h => ?_) (fun cdv A outer s H vs Q E hr h => ?_)
  · obtain ⟨a, y, n, u, rfl, _⟩ := h
    rfl
  · obtain ⟨a, y, n, u, rfl, ⟨l, x, dx, rfl, hx⟩, hy⟩ := h
    have hr1 : Room 1 _ := hr.mono (by decide)
    refine ⟨_, pss_cons (ps_if (pt_not (pt_val (pe_call GA hr (by rfl) mA kA bA .nil pass0 (pa_cons (pv 1) pa_nil)))) (pss_one (ps_ret pe_bl)) pss_nil)
      (pss_one (ps_ret (pe_cmpR (op_eqD hr.units) (pe_tup (pa_cons (pe_fld (pv 0) rfl) (pa_cons (pe_fld (pv 0) rfl) pa_nil))) (pe_call GP hr1 (by rfl) mP kP bP .nil pass0 (pa_cons (pv 1) pa_nil)) (nomark _)))), ?_⟩
    rcases hy with ⟨n', u', hy, q⟩ | ⟨⟨Ty, b⟩, hi, q⟩
    · refine ⟨_, rfl, _, true, rfl, hy.isAm, _, rfl, iteF ?_⟩
      refine ⟨_, rfl, x, C, dx, _, _, rfl, hx, T.cl, T.nN, pf_number _ _, _, rfl, x, C, dx, _, _, rfl, hx, T.cl, T.nU, pf_under _ _, (by show 2 ≤ sizeLine; decide), fun p np => ?_⟩
      have s1 := same_upd (o := .tup [V.int n, V.int u]) np
      refine ⟨_, rfl, y, n', u', rfl, hy.same s1, fun p' np' => ?_⟩
      have npp : p ≠ p' := fun e => by rw [← e, upd_same] at np'; cases np'
      have s2 := same_upd (o := .tup [V.int n', V.int u']) np'
      refine ⟨.tuple [.int n, .int u], .tuple [.int n', .int u'], .tup (SqT.of (Eq.trans (upd_ne npp) upd_same)) (.cons (.int n) (.cons (.int u) .nil)), .tup (SqT.of upd_same) (.cons (.int n') (.cons (.int u') .nil)), rfl, rfl, ?_⟩
      rw [eqv_two]
      exact q _ (s1.trans s2)
    · exact ⟨_, rfl, _, false, rfl, .inl ⟨⟨Ty, b⟩, hi.symm⟩, _, rfl, iteT q⟩
theorem scLt : FnScope ["self", "other"] ["self", "other"] (defScope sLt) := ⟨rfl, rfl, rfl, by decide +kernel, rfl, by decide +kernel, by decide +kernel⟩
theorem ok_lt {f : Addr} {fd : FuncData} (F : Fun K "__lt__" "Amount.__lt__" sLt f fd) (T : Txt K mg C) (GA : GotF P w K mg base "is_amount" 2 ["value"] (spIsAm C)) (GS : GotM P w K mg base C "__sub__" 5 ["self", "other"] (spSub C)) (cS : OpIK K C "sub") :
    FnOk P w K mg base CX0 6 f fd ["self", "other"] (spCmp C (fun i => decide (i < 0))) := by
  obtain ⟨fA, fdA, GA, bA, mA, kA⟩ := GA
  obtain ⟨fS, fdS, GS, bS, hS, iS⟩ := GS
  refine F.ok scLt (fun vs H Q E h => ?_) (fun cdv A outer s H vs Q E hr h => ?_)
  · obtain ⟨a, y, n, u, n', u', rfl, _⟩ := h
    rfl
  · obtain ⟨a, y, n, u, n', u', rfl, ha, hy, bb, q⟩ := h
    have hr2 : Room 2 _ := hr.mono (by decide)
    refine ⟨_, pss_cons (ps_if (pt_not (pt_val (pe_call GA hr2 (by rfl) mA kA bA .nil pass0 (pa_cons (pv 1) pa_nil)))) (pss_one ps_never) pss_nil)
      (pss_one (ps_ret (pe_cmpR op_lt (pe_fld (pe_op (op_binC (op := .Sub) T.op ⟨cS.h1, cS.h2, cS.hr⟩ ⟨hS, iS⟩ GS hr bS pass0) (pv 0) (pv 1)) rfl) pe_int (nomark _)))), ?_⟩
    refine ⟨_, rfl, _, true, rfl, hy.isAm, _, rfl, iteF ?_⟩
    refine ⟨_, rfl, _, rfl, ha.inst, hy.orI, a, y, n, u, n', u', rfl, ha, hy, bb, fun v H' e h => ?_⟩
    obtain ⟨l, z, dz, rfl, hz⟩ := h
    exact ⟨z, C, dz, _, _, rfl, hz, T.cl, T.nN, pf_number _ _, _, _, rfl, rfl, q H' e⟩
theorem scLe : FnScope ["self", "other"] ["self", "other"] (defScope sLe) := ⟨rfl, rfl, rfl, by decide +kernel, rfl, by decide +kernel, by decide +kernel⟩
theorem ok_le {f : Addr} {fd : FuncData} (F : Fun K "__le__" "Amount.__le__" sLe f fd) (T : Txt K mg C) (GA : GotF P w K mg base "is_amount" 2 ["value"] (spIsAm C)) (GS : GotM P w K mg base C "__sub__" 5 ["self", "other"] (spSub C)) (cS : OpIK K C "sub") :
    FnOk P w K mg base CX0 6 f fd ["self", "other"] (spCmp C (fun i => decide (i ≤ 0))) := by
  obtain ⟨fA, fdA, GA, bA, mA, kA⟩ := GA
  obtain ⟨fS, fdS, GS, bS, hS, iS⟩ := GS
  refine F.ok scLe (fun vs H Q E h => ?_) (fun cdv A outer s H vs Q E hr h => ?_)
  · obtain ⟨a, y, n, u, n', u', rfl, _⟩ := h
    rfl
  · obtain ⟨a, y, n, u, n', u', rfl, ha, hy, bb, q⟩ := h
    have hr2 : Room 2 _ := hr.mono (by decide)
    refine ⟨_, pss_cons (ps_if (pt_not (pt_val (pe_call GA hr2 (by rfl) mA kA bA .nil pass0 (pa_cons (pv 1) pa_nil)))) (pss_one ps_never) pss_nil)
      (pss_one (ps_ret (pe_cmpR op_le (pe_fld (pe_op (op_binC (op := .Sub) T.op ⟨cS.h1, cS.h2, cS.hr⟩ ⟨hS, iS⟩ GS hr bS pass0) (pv 0) (pv 1)) rfl) pe_int (nomark _)))), ?_⟩
    refine ⟨_, rfl, _, true, rfl, hy.isAm, _, rfl, iteF ?_⟩
    refine ⟨_, rfl, _, rfl, ha.inst, hy.orI, a, y, n, u, n', u', rfl, ha, hy, bb, fun v H' e h => ?_⟩
    obtain ⟨l, z, dz, rfl, hz⟩ := h
    exact ⟨z, C, dz, _, _, rfl, hz, T.cl, T.nN, pf_number _ _, _, _, rfl, rfl, q H' e⟩
theorem scGt : FnScope ["self", "other"] ["self", "other"] (defScope sGt) := ⟨rfl, rfl, rfl, by decide +kernel, rfl, by decide +kernel, by decide +kernel⟩
theorem ok_gt {f : Addr} {fd : FuncData} (F : Fun K "__gt__" "Amount.__gt__" sGt f fd) (T : Txt K mg C) (GA : GotF P w K mg base "is_amount" 2 ["value"] (spIsAm C)) (GS : GotM P w K mg base C "__sub__" 5 ["self", "other"] (spSub C)) (cS : OpIK K C "sub") :
    FnOk P w K mg base CX0 6 f fd ["self", "other"] (spCmp C (fun i => decide (0 < i))) := by
  obtain ⟨fA, fdA, GA, bA, mA, kA⟩ := GA
  obtain ⟨fS, fdS, GS, bS, hS, iS⟩ := GS
  refine F.ok scGt (fun vs H Q E h => ?_) (fun cdv A outer s H vs Q E hr h => ?_)
  · obtain ⟨a, y, n, u, n', u', rfl, _⟩ := h
    rfl
  · obtain ⟨a, y, n, u, n', u', rfl, ha, hy, bb, q⟩ := h
    have hr2 : Room 2 _ := hr.mono (by decide)
    refine ⟨_, pss_cons (ps_if (pt_not (pt_val (pe_call GA hr2 (by rfl) mA kA bA .nil pass0 (pa_cons (pv 1) pa_nil)))) (pss_one ps_never) pss_nil)
      (pss_one (ps_ret (pe_cmpR op_gt (pe_fld (pe_op (op_binC (op := .Sub) T.op ⟨cS.h1, cS.h2, cS.hr⟩ ⟨hS, iS⟩ GS hr bS pass0) (pv 0) (pv 1)) rfl) pe_int (nomark _)))), ?_⟩
    refine ⟨_, rfl, _, true, rfl, hy.isAm, _, rfl, iteF ?_⟩
    refine ⟨_, rfl, _, rfl, ha.inst, hy.orI, a, y, n, u, n', u', rfl, ha, hy, bb, fun v H' e h => ?_⟩
    obtain ⟨l, z, dz, rfl, hz⟩ := h
    exact ⟨z, C, dz, _, _, rfl, hz, T.cl, T.nN, pf_number _ _, _, _, rfl, rfl, q H' e⟩
theorem scGe : FnScope ["self", "other"] ["self", "other"] (defScope sGe) := ⟨rfl, rfl, rfl, by decide +kernel, rfl, by decide +kernel, by decide +kernel⟩
theorem ok_ge {f : Addr} {fd : FuncData} (F : Fun K "__ge__" "Amount.__ge__" sGe f fd) (T : Txt K mg C) (GA : GotF P w K mg base "is_amount" 2 ["value"] (spIsAm C)) (GS : GotM P w K mg base C "__sub__" 5 ["self", "other"] (spSub C)) (cS : OpIK K C "sub") :
    FnOk P w K mg base CX0 6 f fd ["self", "other"] (spCmp C (fun i => decide (0 ≤ i))) := by
  obtain ⟨fA, fdA, GA, bA, mA, kA⟩ := GA
  obtain ⟨fS, fdS, GS, bS, hS, iS⟩ := GS
  refine F.ok scGe (fun vs H Q E h => ?_) (fun cdv A outer s H vs Q E hr h => ?_)
  · obtain ⟨a, y, n, u, n', u', rfl, _⟩ := h
    rfl
  · obtain ⟨a, y, n, u, n', u', rfl, ha, hy, bb, q⟩ := h
    have hr2 : Room 2 _ := hr.mono (by decide)
    refine ⟨_, pss_cons (ps_if (pt_not (pt_val (pe_call GA hr2 (by rfl) mA kA bA .nil pass0 (pa_cons (pv 1) pa_nil)))) (pss_one ps_never) pss_nil)
      (pss_one (ps_ret (pe_cmpR op_ge (pe_fld (pe_op (op_binC (op := .Sub) T.op ⟨cS.h1, cS.h2, cS.hr⟩ ⟨hS, iS⟩ GS hr bS pass0) (pv 0) (pv 1)) rfl) pe_int (nomark _)))), ?_⟩
    refine ⟨_, rfl, _, true, rfl, hy.isAm, _, rfl, iteF ?_⟩
    refine ⟨_, rfl, _, rfl, ha.inst, hy.orI, a, y, n, u, n', u', rfl, ha, hy, bb, fun v H' e h => ?_⟩
    obtain ⟨l, z, dz, rfl, hz⟩ := h
    exact ⟨z, C, dz, _, _, rfl, hz, T.cl, T.nN, pf_number _ _, _, _, rfl, rfl, q H' e⟩
end
end Am
/-! texts of amounts: what is read, and what is written -/
namespace Mt
open PySem PySem.NumText SL
/-- the figures of a number -/
def dg (m : Nat) : List Nat := (Nat.toDigits 10 m).map Char.toNat
theorem dg_str (m : Nat) : (Str.ofString (toString ((m : Nat) : Int))).cps.toList = dg m := PySem.W.KIN.signs_num m
theorem dg_val (m : Nat) : digitsVal (dg m) = m := PySem.W.KIN.val_back m
theorem dg_all (m : Nat) : AllDigits (dg m) := by
  intro c hc
  obtain ⟨ch, hch, e⟩ := List.mem_map.mp hc
  have r := PyProof.Rows.digit_range (Nat.isDigit_of_mem_toDigits (by decide) (by decide) hch)
  rw [← e]
  exact r
theorem dg_lt {d : Nat} (h : d < 10) : dg d = [48 + d] := by
  have e := Nat.toDigits_of_lt_base (b := 10) h
  unfold dg
  rw [e]
  match d, h with
  | 0, _ | 1, _ | 2, _ | 3, _ | 4, _ | 5, _ | 6, _ | 7, _ | 8, _ | 9, _ => rfl
theorem dg_step {m d : Nat} (hm : 0 < m) (hd : d < 10) : dg (10 * m + d) = dg m ++ [48 + d] := by
  rw [← dg_lt hd]
  unfold dg
  rw [← List.map_append, Nat.toDigits_append_toDigits (by decide) hm hd]
theorem dg_ne (m : Nat) : dg m ≠ [] := by
  by_cases h : m < 10
  · rw [dg_lt h]; simp
  · have e : m = 10 * (m / 10) + m % 10 := by omega
    rw [e, dg_step (by omega) (by omega)]
    simp
/-- zeros ahead, to k signs -/
def zpad (k : Nat) (l : List Nat) : List Nat := List.replicate (k - l.length) 48 ++ l
theorem dg_len : ∀ (k m : Nat), m < 10 ^ (k + 1) → (dg m).length ≤ k + 1
  | 0, m, h => by rw [dg_lt (by simpa using h)]; simp
  | k + 1, m, h => by
    by_cases c : m < 10
    · rw [dg_lt c]; simp
    · have e : m = 10 * (m / 10) + m % 10 := by omega
      have h2 : m / 10 < 10 ^ (k + 1) := by rw [Nat.pow_succ] at h; omega
      have := dg_len k (m / 10) h2
      rw [e, dg_step (by omega) (by omega)]
      simp only [List.length_append, List.length_cons, List.length_nil]
      omega
theorem dg_block {q : Nat} (hq : 0 < q) : ∀ (k b : Nat), b < 10 ^ (k + 1) → dg (q * 10 ^ (k + 1) + b) = dg q ++ zpad (k + 1) (dg b)
  | 0, b, h => by
    have hb : b < 10 := by simpa using h
    have e : q * 10 ^ (0 + 1) + b = 10 * q + b := by rw [show 10 ^ (0 + 1) = 10 from rfl]; omega
    rw [e, dg_step hq hb, dg_lt hb]
    rfl
  | k + 1, b, h => by
    have hd : b % 10 < 10 := by omega
    have hb : b / 10 < 10 ^ (k + 1) := by rw [Nat.pow_succ] at h; omega
    have e : q * 10 ^ (k + 1 + 1) + b = 10 * (q * 10 ^ (k + 1) + b / 10) + b % 10 := by rw [Nat.pow_succ 10 (k + 1), ← Nat.mul_assoc]; omega
    have pos : 0 < q * 10 ^ (k + 1) + b / 10 := Nat.lt_of_lt_of_le (Nat.mul_pos hq (Nat.pow_pos (by decide))) (Nat.le_add_right _ _)
    rw [e, dg_step pos hd, dg_block hq k (b / 10) hb, List.append_assoc]
    congr 1
    by_cases z : b < 10
    · have e0 : b / 10 = 0 := by omega
      have e1 : b % 10 = b := by omega
      rw [e0, e1, dg_lt z, dg_lt (by decide : 0 < 10)]
      unfold zpad
      show List.replicate (k + 1 - 1) 48 ++ [48] ++ [48 + b] = List.replicate (k + 1 + 1 - 1) 48 ++ [48 + b]
      rw [show k + 1 - 1 = k from rfl, show k + 1 + 1 - 1 = k + 1 from rfl, List.replicate_succ']
    · have e2 : b = 10 * (b / 10) + b % 10 := by omega
      have e3 : dg b = dg (b / 10) ++ [48 + b % 10] := by rw [e2, dg_step (by omega) (by omega)]; congr 2 <;> omega
      have l3 := dg_len k (b / 10) hb
      rw [e3]
      unfold zpad
      rw [List.length_append, List.length_cons, List.length_nil, List.append_assoc]
      congr 2
      omega
theorem fold_lt : ∀ (cs : List Nat) (a : Nat), AllDigits cs → cs.foldl (fun acc c => acc * 10 + (c - 48)) a < (a + 1) * 10 ^ cs.length
  | [], a, _ => by simp
  | c :: cs, a, h => by
    have ih := fold_lt cs (a * 10 + (c - 48)) h.tail
    have hc := h.head
    rw [List.length_cons, Nat.pow_succ, Nat.mul_comm (10 ^ cs.length) 10, ← Nat.mul_assoc]
    exact Nat.lt_of_lt_of_le ih (Nat.mul_le_mul_right _ (by omega))
theorem val_lt {cs : List Nat} (h : AllDigits cs) : digitsVal cs < 10 ^ cs.length := by
  have := fold_lt cs 0 h
  simpa [digitsVal] using this
def digB (c : Nat) : Bool := decide (48 ≤ c ∧ c ≤ 57)
/-- the number that a word writes; -1 if it writes none -/
def num (l : List Nat) : Int := if (!l.isEmpty && l.all digB) = true then (if (l.head? = some 48 ∧ l ≠ [48]) then -1 else (digitsVal l : Int)) else -1
theorem all_dig {l : List Nat} (h : l.all digB = true) : AllDigits l := fun c hc => by
  have := List.all_eq_true.mp h c hc
  exact of_decide_eq_true this
theorem num_lt {l : List Nat} {k : Nat} (h : l.length ≤ k) : (num l).natAbs < 10 ^ k ∨ num l = -1 := by
  unfold num
  split
  · rename_i c
    rw [Bool.and_eq_true] at c
    split
    · exact .inr rfl
    · exact .inl (Nat.lt_of_lt_of_le (val_lt (all_dig c.2)) (Nat.pow_le_pow_right (by decide) h))
  · exact .inr rfl
theorem num_ge (l : List Nat) : -1 ≤ num l := by
  unfold num
  split
  · split
    · omega
    · omega
  · omega
theorem num_not {l : List Nat} {c : Nat} (h : c ∈ l) (hc : digB c = false) : num l = -1 := by
  unfold num
  rw [if_neg]
  intro z
  rw [Bool.and_eq_true] at z
  have := List.all_eq_true.mp z.2 c h
  rw [hc] at this
  cases this
theorem num_dg (m : Nat) : num (dg m) = m := by
  have h : (!(dg m).isEmpty && (dg m).all digB) = true := by
    rw [Bool.and_eq_true]
    refine ⟨?_, List.all_eq_true.mpr fun c hc => decide_eq_true (dg_all m c hc)⟩
    have := dg_ne m
    cases e : dg m with
    | nil => exact absurd e this
    | cons a r => rfl
  unfold num
  rw [if_pos h, if_neg, dg_val]
  rintro ⟨h1, h2⟩
  by_cases z : m < 10
  · rw [dg_lt z] at h1 h2
    have e : 48 + m = 48 := by simpa using h1
    exact h2 (by rw [e])
  · -- the first figure is no nought
    have key : ∀ n, 0 < n → (dg n).head? ≠ some 48 := by
      intro n
      induction n using Nat.strongRecOn with
      | _ n ih =>
        intro hn
        by_cases z : n < 10
        · rw [dg_lt z]
          simp
          omega
        · have e : n = 10 * (n / 10) + n % 10 := by omega
          rw [e, dg_step (by omega) (by omega), List.head?_append]
          have := ih (n / 10) (by omega) (by omega)
          cases q : (dg (n / 10)).head? with
          | none => exact absurd (List.head?_eq_none_iff.mp q) (dg_ne _)
          | some v => rw [q] at this; simpa using this
    exact key m (by omega) h1
/-- the sign ahead left out -/
def bare (l : List Nat) : List Nat := if l.head? = some 45 then l.tail else l
def sgn (l : List Nat) : Bool := decide (l.head? = some 45)
/-- the text of a whole number -/
def intL (n : Int) : List Nat := (Str.ofString (toString n)).cps.toList
def textT (n u : Int) : Str := Str.ofString (toString n) ++ (if u = 1 then ("" : Str) else ("/" : Str) ++ Str.ofString (toString u))
def fin (neg : Bool) (number under : Int) (x : Str) : Option (Int × Int) := if textT (Am.fr (if neg then -number else number) under).1 (Am.fr (if neg then -number else number) under).2 = x then some (Am.fr (if neg then -number else number) under) else none
def readB (x : Str) (l : List Nat) (top : List Nat) (under : Int) : Option (Int × Int) := if num (bare top) < 0 ∨ under < 1 then none else fin (sgn l) (num (bare top)) under x
/-- what the text is read as -/
def readT (x : Str) : Option (Int × Int) :=
  if 47 ∈ x.cps.toList then readB x x.cps.toList (x.cps.toList.takeWhile (fun c => decide (c ≠ 47))) (num (x.cps.toList.dropWhile (fun c => decide (c ≠ 47))).tail)
  else readB x x.cps.toList x.cps.toList 1
theorem intL_pos {n : Int} (h : 0 ≤ n) : intL n = dg n.natAbs := by
  obtain ⟨m, rfl⟩ := Int.eq_ofNat_of_zero_le h
  exact dg_str m
theorem intL_neg {n : Int} (h : n < 0) : intL n = 45 :: dg n.natAbs := by
  unfold intL
  rw [PyProof.Rows.toString_neg h, Int.zero_sub]
  have e : ∀ a b : String, (Str.ofString (a ++ b)).cps.toList = (Str.ofString a).cps.toList ++ (Str.ofString b).cps.toList := fun a b => by
    rw [Str.ofString_eq_toList, Str.ofString_eq_toList, Str.ofString_eq_toList]
    simp
  rw [e]
  have e2 : (Str.ofString (toString (-n))).cps.toList = dg n.natAbs := by
    have z := intL_pos (n := -n) (by omega)
    unfold intL at z
    rw [z, Int.natAbs_neg]
  rw [e2]
  rfl
theorem not_dig {c : Nat} (h : digB c = false) (m : Nat) : c ∉ dg m := fun z => by
  have := dg_all m c z
  unfold digB at h
  rw [decide_eq_true this] at h
  cases h
theorem dg_head {m : Nat} : (dg m).head? ≠ some 45 := by
  intro z
  have : 45 ∈ dg m := List.mem_of_head? z
  exact not_dig (by decide) m this
theorem bare_int (n : Int) : bare (intL n) = dg n.natAbs ∧ sgn (intL n) = decide (n < 0) := by
  by_cases c : n < 0
  · rw [intL_neg c]
    refine ⟨rfl, ?_⟩
    rw [decide_eq_true c]
    rfl
  · rw [intL_pos (by omega)]
    unfold bare sgn
    rw [if_neg dg_head, decide_eq_false c, decide_eq_false dg_head]
    exact ⟨rfl, rfl⟩
theorem no_slash (n : Int) : 47 ∉ intL n := by
  by_cases c : n < 0
  · rw [intL_neg c]
    intro z
    rcases List.mem_cons.mp z with z | z
    · cases z
    · exact not_dig (by decide) _ z
  · rw [intL_pos (by omega)]
    exact not_dig (by decide) _
theorem textT_L (n u : Int) : (textT n u).cps.toList = intL n ++ (if u = 1 then [] else 47 :: intL u) := by
  unfold textT
  rw [Str.cps_append]
  by_cases c : u = 1
  · rw [if_pos c, if_pos c]
    show ((Str.ofString (toString n)).cps ++ #[]).toList = _
    simp [intL]
  · rw [if_neg c, if_neg c, Str.cps_append]
    show ((Str.ofString (toString n)).cps ++ (#[47] ++ (Str.ofString (toString u)).cps)).toList = _
    simp [intL]
theorem take_ne {p r : List Nat} (hp : 47 ∉ p) : (p ++ 47 :: r).takeWhile (fun c => decide (c ≠ 47)) = p ∧ ((p ++ 47 :: r).dropWhile (fun c => decide (c ≠ 47))).tail = r := by
  induction p with
  | nil => simp
  | cons y p ih =>
    have hy : y ≠ 47 := fun e => hp (by rw [e]; exact List.mem_cons_self ..)
    obtain ⟨h1, h2⟩ := ih (fun z => hp (List.mem_cons_of_mem _ z))
    constructor
    · rw [List.cons_append, List.takeWhile_cons, if_pos (decide_eq_true hy), h1]
    · rw [List.cons_append, List.dropWhile_cons, if_pos (decide_eq_true hy), h2]
theorem readT_no {x : Str} (h : 47 ∉ x.cps.toList) : readT x = readB x x.cps.toList x.cps.toList 1 := if_neg h
theorem readT_yes {x : Str} {p r : List Nat} (h : x.cps.toList = p ++ 47 :: r) (hp : 47 ∉ p) : readT x = readB x x.cps.toList p (num r) := by
  unfold readT
  rw [if_pos (by rw [h]; simp), h, (take_ne hp).1, (take_ne hp).2]
theorem sgn_app {p r : List Nat} : sgn (p ++ 47 :: r) = sgn p := by
  cases p with
  | nil => rfl
  | cons y p => rfl
theorem bare_app {p r : List Nat} : bare (p ++ 47 :: r) = bare p ++ 47 :: r := by
  cases p with
  | nil => rfl
  | cons y p =>
    unfold bare
    by_cases c : y = 45
    · rw [if_pos (by rw [c]; rfl), if_pos (by rw [c]; rfl)]
      rfl
    · rw [if_neg (by show ¬ some y = some 45; simpa using c), if_neg (by show ¬ some y = some 45; simpa using c)]
theorem bare_mem {p : List Nat} {c : Nat} (h : c ∈ bare p) : c ∈ p := by
  unfold bare at h
  split at h
  · exact List.mem_of_mem_tail h
  · exact h
theorem bare_len (p : List Nat) : (bare p).length ≤ p.length := by
  unfold bare
  split
  · simp
  · exact Nat.le_refl _
/-- a text that was written is read -/
theorem read_written {n u : Int} (h : Am.Low n u) : readT (textT n u) = some (n, u) := by
  have hL := textT_L n u
  obtain ⟨b1, b2⟩ := bare_int n
  have abs : (if decide (n < 0) = true then -(n.natAbs : Int) else (n.natAbs : Int)) = n := by
    by_cases c : n < 0
    · rw [if_pos (decide_eq_true c)]; omega
    · rw [if_neg (by simpa using c)]; omega
  by_cases c : u = 1
  · subst c
    rw [if_pos rfl, List.append_nil] at hL
    rw [readT_no (by rw [hL]; exact no_slash n)]
    unfold readB
    rw [hL, b1, b2, num_dg, if_neg (by omega)]
    unfold fin
    rw [abs, Am.fr_of_low h, if_pos rfl]
  · rw [if_neg c] at hL
    have hu := h.1
    rw [readT_yes hL (no_slash n)]
    have e : num (intL u) = u := by rw [intL_pos (by omega), num_dg]; omega
    unfold readB
    rw [hL, sgn_app, b1, b2, num_dg, e, if_neg (by omega)]
    unfold fin
    rw [abs, Am.fr_of_low h, if_pos rfl]
/-- the law's own words for the same -/
theorem due_eq (x : Str) : (if (cutAt 47 (bare x.cps.toList)).length > 2 ∨ num ((cutAt 47 (bare x.cps.toList)).headD []) < 0 ∨ (if (cutAt 47 (bare x.cps.toList)).length = 2 then num ((cutAt 47 (bare x.cps.toList)).getLastD []) else 1) < 1 then none
    else fin (sgn x.cps.toList) (num ((cutAt 47 (bare x.cps.toList)).headD [])) (if (cutAt 47 (bare x.cps.toList)).length = 2 then num ((cutAt 47 (bare x.cps.toList)).getLastD []) else 1) x) = readT x := by
  by_cases h : 47 ∈ x.cps.toList
  · obtain ⟨p, r, e, hp⟩ := first_c h
    rw [readT_yes e hp]
    have hb : 47 ∉ bare p := fun z => hp (bare_mem z)
    rw [e, bare_app, sgn_app, cut_app hb]
    by_cases h2 : 47 ∈ r
    · obtain ⟨p2, r2, e2, hp2⟩ := first_c h2
      have l : (bare p :: cutAt 47 r).length > 2 := by
        rw [e2, cut_app hp2]
        have := cut_ne 47 r2
        have : 0 < (cutAt 47 r2).length := List.length_pos_iff.mpr this
        simp only [List.length_cons]
        omega
      rw [if_pos (.inl l)]
      unfold readB
      rw [num_not h2 (by decide), if_pos (.inr (by decide))]
    · rw [cut_none h2]
      have l : ([bare p, r] : List (List Nat)).length = 2 := rfl
      have hd : ([bare p, r] : List (List Nat)).headD [] = bare p := rfl
      have hl : ([bare p, r] : List (List Nat)).getLastD [] = r := rfl
      rw [if_pos l, hd, hl]
      unfold readB
      rw [sgn_app]
      by_cases z : num (bare p) < 0 ∨ num r < 1
      · rw [if_pos z, if_pos (.inr z)]
      · rw [if_neg z, if_neg (by
          rintro (y | y)
          · rw [l] at y; omega
          · exact z y)]
  · rw [readT_no h]
    have hb : 47 ∉ bare x.cps.toList := fun z => h (bare_mem z)
    rw [cut_none hb]
    have l1 : ¬ ([bare x.cps.toList] : List (List Nat)).length = 2 := by simp
    have hd : ([bare x.cps.toList] : List (List Nat)).headD [] = bare x.cps.toList := rfl
    rw [if_neg l1, hd]
    unfold readB
    by_cases z : num (bare x.cps.toList) < 0
    · rw [if_pos (.inr (.inl z)), if_pos (.inl z)]
    · have l3 : ([bare x.cps.toList] : List (List Nat)).length = 1 := rfl
      rw [if_neg (by rw [l3]; omega), if_neg (by omega)]
end Mt
namespace Am
open PySem PySem.Spec PyProof.Rows L2
/-- decimal(word) -/
def spDec : Sp := fun vs H Q _ => ∃ x : Str, vs = [.str x] ∧ x.length ≤ 640 ∧ Q (.int (Mt.num x.cps.toList)) H
theorem digit_asc : ∀ c, c < 128 → Unicode.isDigit c = Mt.digB c := by
  have h : ∀ c : Fin 128, Unicode.isDigit c.val = Mt.digB c.val := by decide +kernel
  exact fun c hc => h ⟨c, hc⟩
theorem ascB (x : Str) : Txt.isascii x = x.cps.toList.all (fun c => decide (c < 128)) := by
  unfold Txt.isascii
  rw [← Array.all_toList]
theorem digB_asc {c : Nat} (h : Mt.digB c = true) : c < 128 := by
  have := of_decide_eq_true h
  omega
theorem decimal_test (x : Str) : (Txt.isascii x && Txt.isdigit x) = (!x.cps.toList.isEmpty && x.cps.toList.all Mt.digB) := by
  rw [ascB]
  unfold Txt.isdigit
  rw [← Array.all_toList]
  have e0 : decide (x.length > 0) = !x.cps.toList.isEmpty := by
    rw [← SL.len_toList]
    cases x.cps.toList <;> simp
  rw [e0]
  generalize x.cps.toList = l
  cases ha : l.all (fun c => decide (c < 128)) with
  | true =>
    have e : l.all Unicode.isDigit = l.all Mt.digB := by
      rw [Bool.eq_iff_iff, List.all_eq_true, List.all_eq_true]
      have h := List.all_eq_true.mp ha
      exact ⟨fun z c hc => by rw [← digit_asc c (of_decide_eq_true (h c hc))]; exact z c hc, fun z c hc => by rw [digit_asc c (of_decide_eq_true (h c hc))]; exact z c hc⟩
    rw [e, Bool.true_and]
  | false =>
    cases hd : l.all Mt.digB with
    | false => simp
    | true =>
      have h := List.all_eq_true.mp hd
      have : l.all (fun c => decide (c < 128)) = true := List.all_eq_true.mpr fun c hc => decide_eq_true (digB_asc (h c hc))
      rw [ha] at this
      cases this
theorem starts0 (x : Str) : Txt.startswith x "0" = decide (x.cps.toList.head? = some 48) := by
  unfold Txt.startswith
  have e : ("0" : Str) = ⟨#[48]⟩ := by decide +kernel
  rw [e]
  have h := StrLaws.subAt_one x 48 0
  rw [Bool.eq_iff_iff, Bool.and_eq_true, decide_eq_true_eq, decide_eq_true_eq, h, List.head?_eq_getElem?]
theorem is0 (x : Str) : decide (V.str x = V.str ("0" : Str)) = decide (x.cps.toList = [48]) := by
  have e : ("0" : Str) = ⟨#[48]⟩ := by decide +kernel
  rw [e]
  refine decide_eq_decide.mpr ⟨fun h => ?_, fun h => ?_⟩
  · rw [V.str.inj h]
  · rw [SL.ext (x := x) (y := ⟨#[48]⟩) h]
section
variable {P : Program} {w : World} {K : PySem.W.Frag} {mg : Str → Option Value} {base : Heap} {C D : Addr}
theorem scDec : FnScope ["word"] ["word"] (defScope sDec) := ⟨rfl, rfl, rfl, by decide +kernel, rfl, by decide +kernel, by decide +kernel⟩
theorem ok_dec {f : Addr} {fd : FuncData} (F : Fun K "decimal" "decimal" sDec f fd) (ni : mg "int" = none) : FnOk P w K mg base CX0 1 f fd ["word"] spDec := by
  refine F.ok scDec (fun vs H Q E h => ?_) (fun cdv A outer s H vs Q E hr h => ?_)
  · obtain ⟨x, rfl, _⟩ := h
    rfl
  · obtain ⟨x, rfl, hl, q⟩ := h
    refine ⟨_, pss_cons (ps_if (pt_not (PW.pt (pw_and (pt_val (pe_bm0 PySem.F.plainAttrs_str PySem.F.slot_str_isascii PySem.F.type_str_isascii mt_isascii (pv 0))) (pw_and1 (pt_val (pe_bm0 PySem.F.plainAttrs_str PySem.F.slot_str_isdigit PySem.F.type_str_isdigit mt_isdigit (pv 0)))))))
        (pss_one (ps_ret (pe_un un_neg pe_int))) pss_nil)
      (pss_cons (ps_if (PW.pt (pw_and (pt_val (pe_bm PySem.F.plainAttrs_str PySem.F.slot_str_startswith PySem.F.type_str_startswith mt_startswith (pv 0) (pa_cons pe_str pa_nil))) (pw_and1 (pt_cmpR op_ne (pv 0) pe_str (nomark _)))))
        (pss_one (ps_ret (pe_un un_neg pe_int))) pss_nil)
      (pss_one (ps_ret (pe_callTy (call_int_str) (by rfl) ni b_int (pa_cons (pv 0) pa_nil))))), ?_⟩
    have key : Mt.num x.cps.toList = if (Txt.isascii x && Txt.isdigit x) = true then (if (x.cps.toList.head? = some 48 ∧ x.cps.toList ≠ [48]) then -1 else (NumText.digitsVal x.cps.toList : Int)) else -1 := by rw [decimal_test]; rfl
    rw [key] at q
    refine ⟨_, rfl, rfl, x, rfl, rfl, trivial, _, rfl, ?_⟩
    cases ha : Txt.isascii x with
    | false =>
      refine iteF (iteT ?_)
      rw [ha, Bool.false_and, if_neg (by decide)] at q
      exact ⟨_, rfl, q⟩
    | true =>
      refine iteT ⟨_, rfl, rfl, x, rfl, rfl, trivial, _, rfl, ?_⟩
      cases hd : Txt.isdigit x with
      | false =>
        refine iteT ?_
        rw [ha, hd, Bool.and_false, if_neg (by decide)] at q
        exact ⟨_, rfl, q⟩
      | true =>
        refine iteF ?_
        have hT : (!x.cps.toList.isEmpty && x.cps.toList.all Mt.digB) = true := by rw [← decimal_test, ha, hd]; rfl
        rw [Bool.and_eq_true] at hT
        have hne : x.cps.toList ≠ [] := by
          intro e
          rw [e] at hT
          exact absurd hT.1 (by decide)
        have hI : PySem.intText? x = some (NumText.digitsVal x.cps.toList : Int) := PySem.intText_digits (Mt.all_dig hT.2) hne (by omega)
        rw [ha, hd, if_pos (by decide)] at q
        have fin : ¬ (x.cps.toList.head? = some 48 ∧ x.cps.toList ≠ [48]) → tRet (tCB (fun xs H Q => ∃ a n, xs = [V.str a] ∧ intText? a = some n ∧ a.length ≤ 640 ∧ Q (V.int n) H) (tCons (tVar 0) tNil)) { nx := fun x H' => Q V.non H', rt := Q } [some (V.str x)] H := by
          intro z
          rw [if_neg z] at q
          exact ⟨_, rfl, x, _, rfl, hI, hl, q⟩
        refine ⟨_, rfl, rfl, x, _, rfl, rfl, _, rfl, ?_⟩
        rw [starts0]
        by_cases h0 : x.cps.toList.head? = some 48
        · rw [decide_eq_true h0]
          refine iteT ⟨_, rfl, rfl, _, rfl, ?_⟩
          rw [is0]
          by_cases h1 : x.cps.toList = [48]
          · rw [decide_eq_true h1]
            exact iteF (fin fun z => z.2 h1)
          · rw [decide_eq_false h1]
            refine iteT ⟨_, rfl, ?_⟩
            rw [if_pos ⟨h0, h1⟩] at q
            exact q
        · rw [decide_eq_false h0]
          exact iteF (iteF (fin fun z => h0 z.1))
end
end Am
/-! promises of defs that are run where no repr is under way (A.guards = some []): such a def may ask repr of its own objects -/
namespace Gu
open PySem PySem.Spec PyProof.Rows L2
structure FnG (P : Program) (w : World) (K : PySem.W.Frag) (mg : Str → Option Value) (base : Heap) (CX : CXT) (k : Nat) (f : Addr) (fd : FuncData) (ps : List Str) (sp : Sp) : Prop where
  len : ∀ vs H Q E, sp vs H Q E → vs.length = ps.length
  go : ∀ (A : Around) (out : List Env) (s : Shared) (H : Hp) (args : Args) (us : List Value) (vs : List V) (Q : VK) (E : XK), Room k A → A.guards = some [] → Env0 P w K mg base A out s H →
    BindsTo s fd args (ps.zip us) → Vals vs us → sp vs H Q E → codeAny (model P w) A (.call (.ref f) args) (CR CX out P w H s Q E) s
section
variable {P : Program} {w : World} {K : PySem.W.Frag} {mg : Str → Option Value} {base : Heap} {CX : CXT} {k : Nat} {f : Addr} {fd : FuncData} {N ps : List Str} {sp : Sp}
theorem FnG.of (F : FnOk P w K mg base CX k f fd ps sp) : FnG P w K mg base CX k f fd ps sp :=
  ⟨F.len, fun A out s H args us vs Q E hr _ => F.run A out s H args us vs Q E hr⟩
/-- a def by its body, where nothing is guarded -/
theorem okG {x qual : Str} {st : Stmt} (F : Fun K x qual st f fd) (S : FnScope N ps (defScope st)) (len : ∀ vs H Q E, sp vs H Q E → vs.length = ps.length)
    (body : ∀ (cdv : Value) (A : Around) (out : List Env) (s : Shared) (H : Hp) (vs : List V) (Q : VK) (E : XK), A.guards = some [] → Room k (A.deeper (envOfC qual (defScope st) s.heap.objs.size f cdv)) → sp vs H Q E →
      ∃ t, PSs (cxOf CX P w K mg base N qual (defScope st) f cdv A out s H E) (defBody st) t ∧ t { nx := fun _ H' => Q .non H', rt := Q } (start N vs) H) : FnG P w K mg base CX (k + 1) f fd ps sp := by
  obtain ⟨oc, od, kV, doc, pm, an, cdv, ct, osl, rfl, at_, code⟩ := F.ex
  constructor
  · exact len
  intro A out s H args us vs Q E room free e0 bind rel want
  have n1 := len _ _ _ _ want
  have inK : K.In s.heap := e0.mod.kin.keeps (fun b o z => (e0.bs b o z).1)
  have noLim : s.heap.NoLimit := e0.mod.nolimit.keeps (fun b o z => (e0.bs b o z).1)
  have kinds : ∀ y ∈ ps.zip us, (defScope st).names.lookup y.1 = some .local ∨ ((defScope st).names.lookup y.1 = some .cell ∧ ((cellsFrom (s.heap.objs.size + 1) (defScope st).names []).lookup y.1).isSome = true) := by
    rintro ⟨n, v⟩ hy
    exact (S.par n (List.of_mem_zip hy).1).imp id fun q => ⟨q, PySem.W.cellsFrom_some _ _ _ (.inl q)⟩
  apply codeAny_call_function room.depth (inK _ _ at_) rfl S.co S.gen rfl (PySem.W.codeRec_of inK code) (bind _ _ _ _ _)
  apply wpAny_newFunctionEnv_cells S.kind kinds
  intro env he s1 x
  subst he
  refine ⟨noLim.keeps x.toInCall.keep, codeAny_func ?_⟩
  obtain ⟨t, run, go⟩ := body cdv A out s H vs Q E free (room.deeper _) want
  have I := inv_start (CX := CX) (E := E) S room.hd e0 n1 rel x
  apply wpAny_mono (run.run [] s1 (start N vs) H _ I go)
  · intro fl s' q
    match fl, q with
    | .ret u, ⟨v, σ', H', J, rv, qv⟩ => exact ⟨v, H', J.os, J.bare, J.base, J.hok, rv, qv⟩
    | .next, ⟨σ', H', J, qv⟩ => exact ⟨.non, H', J.os, J.bare, J.base, J.hok, rfl, qv⟩
    | .brk, ⟨_, _, _, z⟩ => exact z.elim
    | .cont, ⟨_, _, _, z⟩ => exact z.elim
  · exact fun _ _ z => z
/-- the same where nothing is let out -/
theorem okG0 {x qual : Str} {st : Stmt} (F : Fun K x qual st f fd) (S : FnScope N ps (defScope st)) (len : ∀ vs H Q E, sp vs H Q E → vs.length = ps.length)
    (body : ∀ (cdv : Value) (A : Around) (out : List Env) (s : Shared) (H : Hp) (vs : List V) (Q : VK) (E : XK), A.guards = some [] → Room k (A.deeper (envOfC qual (defScope st) s.heap.objs.size f cdv)) → sp vs H Q E →
      ∃ t, PSs (cxOf CX0 P w K mg base N qual (defScope st) f cdv A out s H E).nox (defBody st) t ∧ t { nx := fun _ H' => Q .non H', rt := Q } (start N vs) H) : FnG P w K mg base CX0 (k + 1) f fd ps sp :=
  okG F S len fun cdv A out s H vs Q E free room want => let ⟨t, h, q⟩ := body cdv A out s H vs Q E free room want; ⟨t, h.nox, q⟩
end
section
variable {X : Cx} {CX : CXT} {k : Nat} {f : Addr} {fd : FuncData} {ps : List Str} {sp : Sp} {E : XK} {x : Str} {p pos : Pos} {e : Expr} {es : List Expr} {t : TA}
/-- f(e, ..): a def whose promise wants that nothing is guarded -/
theorem pe_callG (F : FnG X.prog X.w X.K X.mg X.base CX k f fd ps sp) (free : X.A.guards = some []) (hr : Room k X.A) (hg : Gl X x) (hm : X.mg x = some (.ref f)) (hk : PySem.W.keepIn X.K (.ref f) = true) (hb : Binds X.K fd ps []) (hx : Passes CX X E)
    (ha : PA X (e :: es) t) (h1 : (x == ("__debug__" : Str)) = false := by decide) (h2 : starEach (e :: es) X.env = (false, eval e X.env) :: starEach es X.env := by rfl) (h3 : (backTo pos (starEach es X.env)).any (·.1) = false := by rfl) :
    PE X (.Call (.Name x p) (e :: es) [] pos) (tCall sp [] E t) := by
  constructor
  intro pins s σ H Q I want
  refine wpAny_Call_Name_kw (ld_glob I hg hm ?_ h1)
  refine PySem.W.callWith_K (h₀ := X.base) I.ok.mod.kin hk (thn (ha.run pos pins s σ H _ I want) ?_) h2 h3
  rintro us s1 ⟨vs, H1, I1, rel, q⟩
  refine ⟨I1.kIn, wpAny_call ?_⟩
  have q' : sp vs H1 Q E := by simpa using q
  have n1 : us.length = ps.length := by rw [← rel.length]; exact F.len _ _ _ _ q'
  refine codeAny_mono (F.go X.A X.stack s1 H1 ⟨us, []⟩ us vs Q E hr free I1.env0 (by have := hb s1 us I1.kIn (by simpa using n1); simpa using this) rel q') ?_
  intro r s' z
  match r, z with
  | .error e, z => exact hx pins σ H1 s1 e s' I1 z
  | .ok (.ret u), z => exact I1.after z
end

/-- the data that a value stands for, of a heap -/
def rRepr (K : PySem.W.Frag) : List V → Hp → VK → Prop := fun xs H Q => ∃ a d, xs = [.ref a] ∧ Dp K H (.ref a) d ∧ d.showable = true ∧ d.hasDict = false ∧ d.depth ≤ 60 ∧ d.shown.length ≤ sizeLine ∧ Q (.str d.shown) H
theorem call_reprD {X : Cx} (free : X.A.guards = some []) (hu : X.A.units + 64 < cLine) : CallR X (.builtin "repr") (rRepr X.K) := by
  intro pins s σ H xs us Q I rel want
  obtain ⟨a, d, rfl, hd, sh, nd, dp, sz, q⟩ := want
  obtain ⟨u, rfl, ru⟩ := vals1 rel
  cases (show u = Value.ref a from ru)
  obtain ⟨as, r⟩ := Dp.reads I d (.ref a) _ hd rfl
  refine repr_of_reads' r sh (fun z => by rw [nd] at z; cases z) free (by omega) (fun _ _ z => z) ?_ sz
  intro h' t tk kp
  exact ⟨.str d.shown, H, I.kept kp, ⟨t, rfl⟩, q⟩
end Gu
namespace Gu
open PySem PySem.Spec PyProof.Rows L2
section
variable {P : Program} {w : World} {K : PySem.W.Frag} {mg mb : Str → Option Value} {k : Nat} {fa a : Addr} {fd : FuncData} {x : Str} {sp : Sp} {s : Shared} {vs : List Value} {ns : List Int}
/-- the script's object -/
abbrev scr (vs : List Value) : Obj := { cls := .type "list", data := .seq vs.toArray }
/-- what may be known at the law's call: nothing but the script, as it stands -/
def Bare (a : Addr) (vs : List Value) (ns : List Int) (H : Hp) : Prop := ∀ b u, H b = some u → b = a ∧ u = .frz (scr vs) (.lst (ns.map V.int))
theorem from_caller (inK : K.In s.heap) (glob : s.heap.Ns mainGlobals mg) (bi : s.heap.Ns builtinsNs mb) (hbi : ∀ x : Str, x ≠ "__name__" → mb x = bootBuiltins x) (lim : s.heap.NoLimit) (gens : s.gens = #[])
    (script : s.heap.get? a = some (scr vs)) (room : Room k callerA) (F : ∀ base : Heap, K.In base → base.Ns mainGlobals mg → FnG P w K mg base CX0 k fa fd [x] sp)
    (bind : ∀ (s : Shared) (u : Value), BindsTo s fd ⟨[u], []⟩ [(x, u)]) {H : Hp} (bare : Bare a vs ns H) (ok : HOk P w H s.heap) (off : H a ≠ none → K.lookup a = none)
    (want : sp [.ref a] H (fun v _ => v = .bl true) fun _ _ _ => False) :
    codeAny (model P w) callerA (.call (.ref fa) ⟨[.ref a], []⟩) (fun r s' => r = .ok (.ret (.bool true)) ∧ OldK s.heap s'.heap ∧ s'.os = s.os ∧ AllBare s'.gens) s := by
  -- an object whose data is a dict is not the script, so it is not known
  have apart : ∀ {b : Addr} {o : Obj} {es : Array DictEntry} {n : Nat}, s.heap.get? b = some o → o.data = .dict es n → H b = none := by
    intro b o es n e d
    cases z : H b with
    | none => rfl
    | some u =>
      obtain ⟨rfl, _⟩ := bare b u z
      rw [script] at e
      cases e
      cases (show Data.seq vs.toArray _ = Data.dict es n from d)
  have ns' : ∀ {b : Addr} {m : Str → Option Value}, s.heap.Ns b m → (hidT s.heap H).Ns b m := by
    rintro b m ⟨o, es, n, e, d, rest⟩
    exact ⟨o, es, n, hidT_get e (apart e d), d, rest⟩
  have inB : K.In (hidT s.heap H) := by
    intro b o e
    refine hidT_get (inK b o e) ?_
    cases z : H b with
    | none => rfl
    | some u =>
      obtain ⟨rfl, _⟩ := bare b u z
      rw [off (by rw [z]; exact fun q => by cases q)] at e
      cases e
  obtain ⟨mc, l1, l2⟩ := lim
  have e0 : Env0 P w K mg (hidT s.heap H) callerA [] s H := {
    frames := rfl
    mod := ⟨inB, ns' glob, ⟨mb, ns' bi, hbi⟩, ⟨mc, ns' l1, l2⟩⟩
    bs := fun b o e => of_hidT e
    bsz := Nat.le_of_eq (hidT_size _ _)
    funs := trivial
    frf := by intro b hb; cases hb
    hok := ok
    bare := .of_eq gens }
  refine codeAny_mono ((F _ inB (ns' glob)).go callerA [] s H ⟨[.ref a], []⟩ [.ref a] [.ref a] _ _ room rfl e0 (bind s (.ref a)) (.cons rfl .nil) want) ?_
  intro r s' z
  match r, z with
  | .error e, z => exact z.elim
  | .ok (.ret u), ⟨v, H', os, bare', un, ok', rv, q⟩ =>
    have q' : v = .bl true := q
    subst q'
    cases (show u = Value.bool true from rv)
    refine ⟨rfl, OldK.of_keep (fun b o e => ?_), os, bare'⟩
    cases z : H b with
    | none => exact un.keep b o e z (by intro h; cases h) (by intro h; cases h)
    | some u =>
      obtain ⟨rfl, rfl⟩ := bare b u z
      obtain ⟨e1, _⟩ := ok b _ z
      obtain ⟨e2, _⟩ := ok' b _ (un.frzs b _ _ z)
      rw [e] at e1
      cases e1
      exact e2
end
/-- the end of a law's row, from a promise of that kind -/
theorem walkG {l : PySem.W.OpenLaw} {n k : Nat} {q : Program} {loose : List Str} {XP : (Str → Option Value) → Heap → Prop} {YP : World → Heap → Prop} {d : DefRec} {K : Params → PySem.W.Frag} {sp : PySem.W.Frag → Sp} {x : Str}
    (most : l.most = some n) (small : n ≤ sizeLine) (nodef : d.params.defaults = []) (room : Room k callerA) (inK : ∀ (w : World) (h : Heap), YP w h → (K w.params).In h)
    (F : ∀ (w : World) (mg : Str → Option Value) (fa : Addr) (h : Heap), (K w.params).In h → h.Ns mainGlobals mg → mg d.name = some (.ref fa) →
      ∃ fd : FuncData, (∀ (s : Shared) (u : Value), BindsTo s fd ⟨[u], []⟩ [(x, u)]) ∧ ∀ base : Heap, (K w.params).In base → base.Ns mainGlobals mg → FnG l.prog w (K w.params) mg base CX0 k fa fd [x] (sp (K w.params)))
    (want : ∀ (K : PySem.W.Frag) (H : Hp) (a : Addr) (ns : List Int), ns.length ≤ n → SqL K H a (ns.map V.int) → sp K [.ref a] H (fun v _ => v = .bl true) fun _ _ _ => False) :
    PySem.W.WalkO q loose XP YP l.row.toRowW d [] (fun f vs => PySem.call f vs) := by
  refine Att.attach_call most nodef fun w s₀ s mg mb fa o pm cd doc a vs ns G Y ho hd hcd hmg script hints len gens => ?_
  have kin := inK w _ Y
  obtain ⟨fd, bind, hF⟩ := F w mg fa _ kin G.T.g hmg
  have rel : Vals (ns.map V.int) vs := vals_ints hints
  have small' : (ns.map V.int).length ≤ sizeLine := by rw [List.length_map]; exact Nat.le_trans len small
  have small2 : vs.toArray.size ≤ sizeLine := by rw [List.size_toArray, ← rel.length]; exact small'
  cases known : K w.params |>.lookup a with
  | some o' =>
    have e := kin a o' known
    rw [script] at e
    cases e
    refine from_caller (ns := ns) (H := fun _ => none) kin G.T.g G.T.b G.T.builtins G.T.nolimit gens script room hF bind (by intro b u z; cases z) (by intro b u z; cases z) (fun z => (z rfl).elim) ?_
    exact want _ _ a ns len (.inr ⟨_, vs.toArray, _, known, rfl, rfl, rfl, small2, by simpa using rel⟩)
  | none =>
    refine from_caller (ns := ns) (H := upd (fun _ => none) a (.frz (scr vs) (.lst (ns.map V.int)))) kin G.T.g G.T.b G.T.builtins G.T.nolimit gens script room hF bind ?_ ?_ (fun _ => known) ?_
    · intro b u z
      by_cases c : b = a
      · subst c
        rw [upd_same] at z
        exact ⟨rfl, (Option.some.inj z).symm⟩
      · rw [upd_ne c] at z
        cases z
    · intro b u z
      by_cases c : b = a
      · subst c
        rw [upd_same] at z
        cases z
        exact ⟨script, small', vs, _, rel, script⟩
      · rw [upd_ne c] at z
        cases z
    · exact want _ _ a ns len (.inl (.inr ⟨_, upd_same⟩))
end Gu
namespace Am
open PySem PySem.Spec PyProof.Rows L2
/-- all but p stands as it did -/
def Chg (p : Addr) (H H' : Hp) : Prop := ∀ b u, H b = some u → b ≠ p → H' b = some u
theorem Chg.refl (p : Addr) (H : Hp) : Chg p H H := fun _ _ e _ => e
theorem Chg.trans {p : Addr} {H H1 H2 : Hp} (a : Chg p H H1) (b : Chg p H1 H2) : Chg p H H2 := fun c u e n => b c u (a c u e n) n
theorem Chg.of {p : Addr} {H H' : Hp} (s : Same H H') : Chg p H H' := fun b u e _ => s b u e
theorem Chg.upd {p : Addr} {H : Hp} {o : HO} : Chg p H (upd H p o) := fun b u e n => by rw [upd_ne n]; exact e
/-- the law's jar: what is left of the cell's own digits, the mixed number, how often it was asked -/
def JarAt (H : Hp) (p : Addr) (N : Int) : Prop := ∃ o m c : Int, H p = some (.lst [.int o, .int m, .int c]) ∧ 0 ≤ o ∧ (0 ≤ m ∧ m < 2 ^ 61) ∧ 0 ≤ c ∧ c ≤ N
theorem JarAt.mono {H : Hp} {p : Addr} {N M : Int} (h : JarAt H p N) (l : N ≤ M) : JarAt H p M := by
  obtain ⟨o, m, c, h, a, b, d, e⟩ := h
  exact ⟨o, m, c, h, a, b, d, Int.le_trans e l⟩
theorem JarAt.same {H H' : Hp} {p : Addr} {N : Int} (h : JarAt H p N) (e : Same H H') : JarAt H' p N := by
  obtain ⟨o, m, c, h, r⟩ := h
  exact ⟨o, m, c, e _ _ h, r⟩
theorem JarAt.lst {H : Hp} {p : Addr} {N : Int} (h : JarAt H p N) : ∃ xs, H p = some (.lst xs) := by
  obtain ⟨o, m, c, h, _⟩ := h
  exact ⟨_, h⟩
theorem AmAt.chg {C p : Addr} {H H' : Hp} {N : Int} {v : V} {n u : Int} (j : JarAt H p N) (e : Chg p H H') (h : AmAt C H v n u) : AmAt C H' v n u := by
  obtain ⟨l, a, dx, rfl, h⟩ := h
  obtain ⟨xs, hp⟩ := j.lst
  exact ⟨l, a, dx, rfl, e _ _ h (ne_of h hp (by intro z; cases z))⟩
theorem AmV.chg {C p : Addr} {H H' : Hp} {N : Int} {v : V} {n u : Int} (j : JarAt H p N) (e : Chg p H H') (h : AmV C H v n u) : AmV C H' v n u := h.elim (fun h => .inl (h.chg j e)) .inr
theorem tup_chg {p a : Addr} {H H' : Hp} {N : Int} {xs : List V} (j : JarAt H p N) (e : Chg p H H') (h : H a = some (.tup xs)) : H' a = some (.tup xs) := by
  obtain ⟨ys, hp⟩ := j.lst
  exact e _ _ h (ne_of h hp (by intro z; cases z))
theorem atI_in {xs : List V} {i : Int} (h0 : 0 ≤ i) (h1 : i < xs.length) : ∃ v, atI xs i = some v ∧ v ∈ xs := by
  obtain ⟨j, rfl⟩ := Int.eq_ofNat_of_zero_le h0
  have hj : j < xs.length := by omega
  exact ⟨xs[j], atI_nat (List.getElem?_eq_getElem hj), List.getElem_mem hj⟩
structure Nm (mg : Str → Option Value) : Prop where
  len : mg "len" = none
  abs : mg "abs" = none
  int : mg "int" = none
  max : mg "max" = none
  min : mg "min" = none
  range : mg "range" = none
  all : mg "all" = none
  repr : mg "repr" = none
  isi : mg "isinstance" = none
theorem b_abs : bootBuiltins "abs" = some (.builtin "abs") := by decide +kernel
theorem b_repr : bootBuiltins "repr" = some (.builtin "repr") := by decide +kernel
theorem b_max : bootBuiltins "max" = some (.builtin "max") := by decide +kernel
theorem b_min : bootBuiltins "min" = some (.builtin "min") := by decide +kernel
theorem b_all : bootBuiltins "all" = some (.builtin "all") := by decide +kernel
/-- ** of a written base of any size -/
theorem op_powX {X : Cx} : OpR X (binaryOp .Pow) (rI (fun i j => 0 ≤ j ∧ (Builtin.Int.intBits i : Int) * j ≤ 2 ^ 27) fun i j => .int (i ^ j.toNat)) := opI fun i j _ _ _ _ _ hc q => pow_int hc.1 hc.2 q
theorem b01 (b : Bool) : (-(2 ^ 64) : Int) < (if b = true then 1 else 0) ∧ (if b = true then (1 : Int) else 0) < 2 ^ 64 := by cases b <;> decide
theorem b01n (b : Bool) : (0 : Int) ≤ (if b = true then 1 else 0) := by cases b <;> decide
def spJar (K : PySem.W.Frag) : Sp := fun vs H Q _ => ∃ (a : Addr) (ns : List Int) (k : Int), vs = [.ref a, .int k] ∧ SqL K H a (ns.map V.int) ∧ 0 ≤ k ∧ k ≤ 63 ∧ ∀ p H', Same H H' → H p = none → JarAt H' p 0 → Q (.ref p) H'
def spTake : Sp := fun vs H Q _ => ∃ (p : Addr) (u N : Int), vs = [.ref p, .int u] ∧ (0 < u ∧ u < 1073741824) ∧ JarAt H p N ∧ N ≤ 9999 ∧ ∀ d H', (0 ≤ d ∧ d < u) → Chg p H H' → JarAt H' p (N + 1) → Q (.int d) H'
def spOf : Sp := fun vs H Q _ => ∃ (p l : Addr) (xs : List V) (N : Int), vs = [.ref p, .ref l] ∧ H l = some (.lst xs) ∧ l ≠ p ∧ (0 < xs.length ∧ xs.length ≤ 1000) ∧ JarAt H p N ∧ N ≤ 9999 ∧ ∀ v H', v ∈ xs → Chg p H H' → JarAt H' p (N + 1) → Q v H'
theorem sq_bound {k c : Int} (hk : 0 ≤ k) (hk2 : k ≤ 200000) (h0 : 0 ≤ c) (h1 : c ≤ 10000) : 0 ≤ k * c * c ∧ k * c * c ≤ 20000000000000 := by
  have a : 0 ≤ k * c := Int.mul_nonneg hk h0
  refine ⟨Int.mul_nonneg a h0, ?_⟩
  have b : k * c ≤ 200000 * 10000 := Int.mul_le_mul hk2 h1 h0 (by decide)
  have d : k * c * c ≤ 200000 * 10000 * 10000 := Int.mul_le_mul b h1 h0 (by decide)
  omega
section
variable {P : Program} {w : World} {K : PySem.W.Frag} {mg : Str → Option Value} {base : Heap} {C : Addr}
theorem scJar : FnScope ["_law_script", "_law_k", "_law_cell", "_law_own", "_law_mixed"] ["_law_script", "_law_k"] (defScope sJar) := ⟨rfl, rfl, rfl, by decide +kernel, rfl, by decide +kernel, by decide +kernel⟩
theorem ok_jar {f : Addr} {fd : FuncData} (F : Fun K "_law_jar" "_law_jar" sJar f fd) (T : Nm mg) : FnOk P w K mg base CX0 1 f fd ["_law_script", "_law_k"] (spJar K) := by
  refine F.ok scJar (fun vs H Q E h => ?_) (fun cdv A outer s H vs Q E hr h => ?_)
  · obtain ⟨a, ns, k, rfl, _⟩ := h
    rfl
  · obtain ⟨a, ns, k, rfl, hS, h0, h1, q⟩ := h
    refine ⟨_, C8.pss_cut (ps_set (i := 2) scJar.nd rfl (.inl rfl) (pe_ifExp (pt_cmpR op_lt (pv 1) (pe_callB call_len_seq (by rfl) T.len PySem.boot_len (pa_cons (pv 0) pa_nil)) (nomark _)) (pe_ix ix_list (pv 0) (pv 1) (fun _ _ => rfl)) (pe_op op_add (pe_op op_mul pe_int (pv 1)) pe_int)))
      (pss_cons (ps_set (i := 3) scJar.nd rfl (.inl rfl) (pe_op op_mul (pe_op op_mod (pe_callTy call_int1 (by rfl) T.int b_int (pa_cons (pe_callB call_abs (by rfl) T.abs b_abs (pa_cons (pv 2) pa_nil)) pa_nil)) (pe_op op_powX (pe_op op_pow pe_int pe_int) pe_int))
        (pe_callTy call_int1 (by rfl) T.int b_int (pa_cons (pe_cmpR op_ge (pe_callB call_abs (by rfl) T.abs b_abs (pa_cons (pv 2) pa_nil)) (pe_op op_pow pe_int pe_int) (nomark _)) pa_nil))))
      (pss_cons (ps_set (i := 4) scJar.nd rfl (.inl rfl) (pe_callTy call_int1 (by rfl) T.int b_int (pa_cons (pe_op op_add (pe_op op_add (pe_op op_mul (pe_op op_mod (pe_callTy call_int1 (by rfl) T.int b_int (pa_cons (pv 2) pa_nil)) pe_int) pe_int) (pe_op op_mul (pe_op op_mul pe_int (pv 1)) (pv 1))) pe_int) pa_nil)))
      (pss_one (ps_ret (pe_lst (pa_cons (pv 3) (pa_cons (pe_op op_mod (pv 4) pe_int) (pa_cons pe_int pa_nil)))))))), ?_⟩
    refine ⟨fun σ' H' => ∃ cell : Int, σ' = [some (.ref a), some (.int k), some (.int cell), none, none] ∧ H' = H, ?_, ?_⟩
    · refine ⟨_, rfl, _, rfl, a, _, rfl, .inl hS, _, _, rfl, rfl, _, rfl, ite2 (fun c => ?_) (fun c => ?_)⟩
      · have c' := of_decide_eq_true c
        rw [List.length_map] at c'
        obtain ⟨v, hv, mv⟩ := atI_in (xs := ns.map V.int) h0 (by rw [List.length_map]; exact c')
        obtain ⟨z, _, rfl⟩ := List.mem_map.mp mv
        exact ⟨_, rfl, _, rfl, a, _, _, _, rfl, rfl, hS, hv, z, rfl, rfl⟩
      · exact ⟨_, rfl, _, _, rfl, rfl, .inl (by decide), _, _, rfl, rfl, _, rfl, rfl⟩
    · rintro σ' H' ⟨cell, rfl, rfl⟩
      have own0 : ∀ x : Int, 0 ≤ x % (((10 : Int) ^ (60 : Int).toNat) ^ (5 : Int).toNat) := fun x => Int.emod_nonneg _ (by decide +kernel)
      refine ⟨_, rfl, cell, rfl, .inl ⟨_, rfl, _, _, rfl, rfl, ⟨by decide, by decide, by decide⟩, _, _, rfl, rfl, (by decide +kernel), _, _, rfl, rfl, (by show (0 : Int) < (10 ^ (60 : Int).toNat) ^ (5 : Int).toNat; decide +kernel), ?_⟩⟩
      refine ⟨_, rfl, cell, rfl, _, _, rfl, rfl, ⟨by decide, by decide, by decide⟩, _, _, rfl, rfl, .inr ⟨_, rfl, _, _, rfl, rfl, .inr (b01 _), ?_⟩⟩
      refine ⟨_, rfl, .inl ⟨_, rfl, _, _, rfl, rfl, (by show (0 : Int) < 2305843009213693951; decide), _, _, rfl, rfl, .inr (by decide), ?_⟩⟩
      refine ⟨_, rfl, _, _, rfl, rfl, .inl (by decide), _, rfl, _, _, rfl, rfl, .inr (by omega), _, _, rfl, rfl, _, _, rfl, rfl, .inl ⟨_, rfl, ?_⟩⟩
      refine ⟨_, rfl, _, rfl, _, _, rfl, rfl, (by show (0 : Int) < 2305843009213693921; decide), (by show 3 ≤ sizeLine; decide), fun p np => ?_⟩
      refine q p _ (same_upd np) np ⟨_, _, _, upd_same, ?_, ⟨Int.emod_nonneg _ (by decide), Int.lt_of_lt_of_le (Int.emod_lt_of_pos _ (by decide)) (by decide)⟩, Int.le_refl _, Int.le_refl _⟩
      exact Int.mul_nonneg (own0 _) (b01n _)
theorem scTake : FnScope ["_law_jar_here", "_law_upto", "_law_digit", "_law_prime", "_law_mixed"] ["_law_jar_here", "_law_upto"] (defScope sTake) := ⟨rfl, rfl, rfl, by decide +kernel, rfl, by decide +kernel, by decide +kernel⟩
theorem ok_take {f : Addr} {fd : FuncData} (F : Fun K "_law_take" "_law_take" sTake f fd) (T : Nm mg) : FnOk P w K mg base CX0 1 f fd ["_law_jar_here", "_law_upto"] spTake := by
  refine F.ok scTake (fun vs H Q E h => ?_) (fun cdv A outer s H vs Q E hr h => ?_)
  · obtain ⟨p, u, N, rfl, _⟩ := h
    rfl
  · obtain ⟨p, u, N, rfl, ⟨u0, u1⟩, ⟨o, m, c, hp, o0, ⟨m0, m1⟩, c0, c1⟩, hN, q⟩ := h
    refine ⟨_, pss_cons (ps_if (pt_cmpR op_gt (pe_ix ix_list (pv 0) pe_int (fun _ _ => rfl)) pe_int (nomark _))
        (pss_cons (ps_set (i := 2) scTake.nd rfl (.inl rfl) (pe_op op_mod (pe_callTy call_int1 (by rfl) T.int b_int (pa_cons (pe_ix ix_list (pv 0) pe_int (fun _ _ => rfl)) pa_nil)) (pv 1)))
        (pss_cons (ps_asg (pe_op op_fdiv (pe_ix ix_list (pv 0) pe_int (fun _ _ => rfl)) (pv 1)) (pg_sub (pv 0) pe_int set_list))
        (pss_one (ps_ret (pv 2))))) pss_nil)
      (pss_cons (ps_asg (pe_op op_add (pe_ix ix_list (pv 0) pe_int (fun _ _ => rfl)) pe_int) (pg_sub (pv 0) pe_int set_list))
      (pss_cons (ps_set (i := 3) scTake.nd rfl (.inl rfl) (pe_ix ix_list (pe_lst (pa_cons pe_int (pa_cons pe_int (pa_cons pe_int (pa_cons pe_int (pa_cons pe_int pa_nil)))))) (pe_op op_mod (pe_callTy call_int1 (by rfl) T.int b_int (pa_cons (pe_ix ix_list (pv 0) pe_int (fun _ _ => rfl)) pa_nil)) pe_int) (fun _ _ => rfl)))
      (pss_cons (ps_set (i := 4) scTake.nd rfl (.inl rfl) (pe_op op_mod (pe_callTy call_int1 (by rfl) T.int b_int (pa_cons (pe_op op_pow (pe_callTy call_int1 (by rfl) T.int b_int (pa_cons (pe_op op_add (pe_op op_add (pe_ix ix_list (pv 0) pe_int (fun _ _ => rfl)) (pe_op op_mul (pe_op op_mul pe_int (pe_ix ix_list (pv 0) pe_int (fun _ _ => rfl))) (pe_ix ix_list (pv 0) pe_int (fun _ _ => rfl)))) pe_int) pa_nil)) pe_int) pa_nil)) (pv 3)))
      (pss_one (ps_ret (pe_op op_mod (pe_callTy call_int1 (by rfl) T.int b_int (pa_cons (pe_op op_fdiv (pe_op op_mul (pv 4) (pe_op op_add (pe_op op_mod (pe_callTy call_int1 (by rfl) T.int b_int (pa_cons (pv 4) pa_nil)) pe_int) (pe_op op_mul pe_int (pe_ix ix_list (pv 0) pe_int (fun _ _ => rfl))))) pe_int) pa_nil)) (pv 1))))))), ?_⟩
    refine ⟨_, rfl, p, _, _, _, rfl, rfl, SqL.of hp, rfl, _, _, rfl, rfl, _, rfl, ite2 (fun z => ?_) (fun _ => ?_)⟩
    · refine ⟨_, rfl, p, _, _, _, rfl, rfl, SqL.of hp, rfl, .inl ⟨_, rfl, _, rfl, _, _, rfl, rfl, u0, ?_⟩⟩
      refine ⟨_, rfl, p, _, _, _, rfl, rfl, SqL.of hp, rfl, _, rfl, _, _, rfl, rfl, ⟨u0, u1⟩, _, rfl, p, _, _, 0, rfl, rfl, hp, rfl, ?_⟩
      refine ⟨_, rfl, q _ _ ⟨Int.emod_nonneg _ (by omega), Int.emod_lt_of_pos _ u0⟩ Chg.upd ⟨_, _, _, upd_same, Int.ediv_nonneg o0 (by omega), ⟨m0, m1⟩, c0, by omega⟩⟩
    · refine ⟨_, rfl, p, _, _, _, rfl, rfl, SqL.of hp, rfl, _, _, rfl, rfl, _, rfl, p, _, _, 2, rfl, rfl, hp, rfl, ?_⟩
      have hp1 : (upd H p (.lst ([V.int o, .int m, .int c].set 2 (.int (c + 1))))) p = some (.lst [V.int o, .int m, .int (c + 1)]) := upd_same
      have k1 : Chg p H (upd H p (.lst ([V.int o, .int m, .int c].set 2 (.int (c + 1))))) := Chg.upd
      generalize (upd H p (.lst ([V.int o, .int m, .int c].set 2 (.int (c + 1))))) = H1 at hp1 k1 ⊢
      refine ⟨by show 5 ≤ sizeLine; decide, fun l nl => ?_⟩
      have npl : p ≠ l := ne_of_none hp1 nl
      have hp2 : ∀ o, (upd H1 l o) p = some (.lst [V.int _, .int m, .int (c + 1)]) := fun o => by rw [upd_ne npl]; exact hp1
      refine ⟨_, rfl, p, _, _, _, rfl, rfl, SqL.of (hp2 _), rfl, .inl ⟨_, rfl, _, _, rfl, rfl, (by show (0 : Int) < 5; decide), ?_⟩⟩
      obtain ⟨v, hv, mv⟩ := atI_in (xs := [V.int 2147483647, .int 2147483629, .int 2147483587, .int 2147483579, .int 2147483563]) (i := (c + 1) % 5) (Int.emod_nonneg _ (by decide)) (Int.emod_lt_of_pos _ (by decide))
      obtain ⟨pr, rfl, pr0⟩ : ∃ pr : Int, v = .int pr ∧ 0 < pr := by
        simp only [List.mem_cons, List.not_mem_nil, or_false] at mv
        rcases mv with rfl | rfl | rfl | rfl | rfl <;> exact ⟨_, rfl, by decide⟩
      refine ⟨l, _, _, _, rfl, rfl, SqL.of upd_same, hv, ?_⟩
      have sq := fun (k : Int) (a : 0 ≤ k) (b : k ≤ 200000) => sq_bound (k := k) (c := c + 1) a b (by omega) (by omega)
      refine ⟨_, rfl, p, _, _, _, rfl, rfl, SqL.of (hp2 _), rfl, ?_⟩
      refine ⟨_, rfl, p, _, _, _, rfl, rfl, SqL.of (hp2 _), rfl, _, _, rfl, rfl, .inl (by decide), ?_⟩
      refine ⟨_, rfl, p, _, _, _, rfl, rfl, SqL.of (hp2 _), rfl, _, _, rfl, rfl, .inr (by omega), ?_⟩
      refine ⟨_, _, rfl, rfl, _, _, rfl, rfl, .inl ⟨_, rfl, _, _, rfl, rfl, ⟨by decide, by decide, ?_⟩, .inl ⟨_, rfl, _, rfl, _, _, rfl, rfl, pr0, ?_⟩⟩⟩
      · have := sq 120017 (by decide) (by decide)
        omega
      refine ⟨_, rfl, _, rfl, .inl ⟨_, rfl, _, _, rfl, rfl, (by show (0 : Int) < 10007; decide), ?_⟩⟩
      refine ⟨_, rfl, p, _, _, _, rfl, rfl, SqL.of (hp2 _), rfl, _, _, rfl, rfl, .inl (by decide), _, _, rfl, rfl, _, _, rfl, rfl, .inr ?_, _, _, rfl, rfl, ⟨by decide, by decide⟩, .inl ⟨_, rfl, _, rfl, _, _, rfl, rfl, u0, ?_⟩⟩
      · have g0 := fun x : Int => Int.emod_nonneg x (b := 10007) (by decide)
        have g1 := fun x : Int => Int.emod_lt_of_pos x (b := 10007) (by decide)
        have := g0 (((m + 120017 * (c + 1) * (c + 1) + 59) ^ (3 : Int).toNat) % pr)
        have := g1 (((m + 120017 * (c + 1) * (c + 1) + 59) ^ (3 : Int).toNat) % pr)
        constructor <;> omega
      · have np1 := hp2 (.lst [V.int 2147483647, .int 2147483629, .int 2147483587, .int 2147483579, .int 2147483563])
        exact q _ _ ⟨Int.emod_nonneg _ (by omega), Int.emod_lt_of_pos _ u0⟩ (k1.trans (Chg.of (same_upd nl))) ⟨_, _, _, np1, o0, ⟨m0, m1⟩, by omega, by omega⟩
theorem scOf : FnScope ["_law_jar_here", "_law_some"] ["_law_jar_here", "_law_some"] (defScope sOf) := ⟨rfl, rfl, rfl, by decide +kernel, rfl, by decide +kernel, by decide +kernel⟩
theorem ok_of {f : Addr} {fd : FuncData} (F : Fun K "_law_of" "_law_of" sOf f fd) (T : Nm mg) (GT : GotF P w K mg base "_law_take" 1 ["_law_jar_here", "_law_upto"] spTake) : FnOk P w K mg base CX0 2 f fd ["_law_jar_here", "_law_some"] spOf := by
  obtain ⟨fT, fdT, GT, bT, mT, kT⟩ := GT
  refine F.ok scOf (fun vs H Q E h => ?_) (fun cdv A outer s H vs Q E hr h => ?_)
  · obtain ⟨p, l, xs, N, rfl, _⟩ := h
    rfl
  · obtain ⟨p, l, xs, N, rfl, hl, nlp, ⟨x0, x1⟩, hj, hN, q⟩ := h
    refine ⟨_, pss_one (ps_ret (pe_ix ix_list (pv 1) (pe_call GT hr (by rfl) mT kT bT .nil pass0 (pa_cons (pv 0) (pa_cons (pe_callB call_len_seq (by rfl) T.len PySem.boot_len (pa_cons (pv 1) pa_nil)) pa_nil))) (fun _ _ => rfl))), ?_⟩
    refine ⟨_, rfl, _, rfl, _, rfl, l, _, rfl, .inl (SqL.of hl), ?_⟩
    refine ⟨p, _, N, rfl, ⟨by omega, by omega⟩, hj, hN, fun d H' hd k j => ?_⟩
    obtain ⟨v, hv, mv⟩ := atI_in hd.1 hd.2
    exact ⟨l, xs, d, v, rfl, rfl, SqL.of (k _ _ hl nlp), hv, q v H' mv k j⟩
end
end Am
/-! names, and the lines of a house, one by one -/
namespace Hs
open PySem PySem.Spec PyProof.Rows L2 Am
def abc : Str := "abcdefghijklmnopqrstuvwxyz"
def letB (c : Nat) : Bool := decide (97 ≤ c ∧ c ≤ 122)
/-- a name -/
def nameB (x : Str) : Bool := (decide (1 ≤ x.length) && decide (x.length ≤ 8)) && (!(decide (x = "main") || (decide (x = "house") || decide (x = "rest"))) && x.cps.toList.all letB)
theorem in_abc (c : Nat) : decide (c ∈ abc.cps.toList) = letB c := by
  have e : abc.cps.toList = [97, 98, 99, 100, 101, 102, 103, 104, 105, 106, 107, 108, 109, 110, 111, 112, 113, 114, 115, 116, 117, 118, 119, 120, 121, 122] := by decide +kernel
  rw [e]
  refine decide_eq_decide.mpr ⟨fun h => ?_, fun h => ?_⟩
  · simp only [List.mem_cons, List.not_mem_nil, or_false] at h
    omega
  · simp only [List.mem_cons, List.not_mem_nil, or_false]
    omega
/-- the module's words -/
structure Wd (K : PySem.W.Frag) (mg : Str → Option Value) : Prop where
  tk : ∃ T, mg "TAKEN" = some (.ref T) ∧ ∀ H, SqT K H T [V.str "main", V.str "house", V.str "rest"]
  lt : ∃ t, mg "LETTERS" = some (.str abc t)
def spIsName : Sp := fun vs H Q _ => ∃ x : Str, vs = [.str x] ∧ x.length ≤ 900 ∧ ∀ H', Same H H' → Q (.bl (nameB x)) H'
theorem taken_in (x : Str) : inV (V.str x) [V.str "main", V.str "house", V.str "rest"] = (decide (x = "main") || (decide (x = "house") || decide (x = "rest"))) := by
  have e : ∀ y : Str, eqV (V.str y) (V.str x) = decide (x = y) := fun y => by
    show (y == x) = _
    rw [Bool.eq_iff_iff, beq_iff_eq, decide_eq_true_eq]
    exact eq_comm
  show (eqV (V.str "main") (V.str x) || (eqV (V.str "house") (V.str x) || (eqV (V.str "rest") (V.str x) || false))) = _
  rw [e, e, e, Bool.or_false]
section
variable {P : Program} {w : World} {K : PySem.W.Frag} {mg : Str → Option Value} {base : Heap} {C : Addr}
theorem kstr {K : PySem.W.Frag} : PySem.W.kitOne K (.type "str") (.type "str") = some true := kit_ty (show kitB "str" "str" = some true by decide +kernel)
theorem scIsName : FnScope ["value", "letter"] ["value"] (defScope sIsName) := ⟨rfl, rfl, rfl, by decide +kernel, rfl, by decide +kernel, by decide +kernel⟩
theorem ok_isName {f : Addr} {fd : FuncData} (F : Fun K "is_name" "is_name" sIsName f fd) (W : Wd K mg) (T : Nm mg) (ns : mg "str" = none) : FnOk P w K mg base CX0 1 f fd ["value"] spIsName := by
  obtain ⟨⟨tkA, mT, tk⟩, tl, mL⟩ := W
  refine F.ok scIsName (fun vs H Q E h => ?_) (fun cdv A outer s H vs Q E hr h => ?_)
  · obtain ⟨x, rfl, _⟩ := h
    rfl
  · obtain ⟨x, rfl, hl, q⟩ := h
    have b_str : bootBuiltins "str" = some (.type "str") := by decide +kernel
    refine ⟨_, pss_cons (ps_if (PW.pt (pw_or (pt_not (pt_val (pe_callB call_isi (by rfl) T.isi b_isi (pa_cons (pv 0) (pa_cons (pe_bltn (v := .ty "str") (by rfl) ns b_str rfl) pa_nil)))))
          (pw_or1 (pt_not (pt_chain op_le op_le pe_int (pe_callB call_len_str (by rfl) T.len PySem.boot_len (pa_cons (pv 0) pa_nil)) pe_int)))))
        (pss_one (ps_ret pe_bl)) pss_nil)
      (pss_one (ps_ret (pe_and (pe_cmpR op_notIn_seq (pv 0) (pe_glob (v := .ref tkA) (by rfl) mT rfl) (by rfl))
        (pe_one (pe_callB (cr_all rfl) (by rfl) T.all b_all (pa_cons (pe_lc (own := [("letter", 1)]) (g := gName 1) (tt := tYes) rfl scIsName.nd
          (pi_str (pv 0)) (blkOk_by (N := ["value", "letter"]) (sc := defScope sIsName) (by decide +kernel)) (fun _ _ _ _ _ => pg_name (i := 1) scIsName.nd rfl (Or.inl rfl)) (fun _ _ _ _ _ => pts_nil)
          (fun _ _ _ _ _ => pe_cmpR op_in_sign (pv 1) (pe_glob (v := .str abc) (by rfl) mL ⟨_, rfl⟩) (by rfl))) pa_nil)))))), ?_⟩
    have big : ∀ {k : Nat}, k ≤ 4000 → k ≤ sizeLine := fun h => Nat.le_trans h (by decide)
    have no : nameB x = false → tRet (tC (V.bl false)) { nx := fun x H' => Q V.non H', rt := Q } [some (V.str x), none] H := fun e => by
      have := q H (Same.refl _)
      rw [e] at this
      exact this
    refine ⟨_, rfl, .str x, .ty "str", .type "str", .type "str", _, rfl, .ty _, .base (Bk.tyOf (.str x)), kstr, _, rfl, iteF ?_⟩
    refine ⟨_, rfl, x, rfl, big (by omega), _, _, rfl, rfl, _, rfl, ?_⟩
    have d1 : decide ((1 : Int) ≤ (x.length : Int)) = decide (1 ≤ x.length) := decide_eq_decide.mpr (by omega)
    have d2 : decide ((x.length : Int) ≤ (8 : Int)) = decide (x.length ≤ 8) := decide_eq_decide.mpr (by omega)
    rw [d1]
    cases c1 : decide (1 ≤ x.length) with
    | false =>
      refine iteF ⟨_, rfl, iteT (no ?_)⟩
      unfold nameB
      rw [c1]
      rfl
    | true =>
      refine iteT ⟨_, _, rfl, rfl, _, rfl, ?_⟩
      rw [d2]
      cases c2 : decide (x.length ≤ 8) with
      | false =>
        refine iteT (no ?_)
        unfold nameB
        rw [c1, c2]
        rfl
      | true =>
        refine iteF ?_
        refine ⟨_, rfl, tkA, _, rfl, .inr (tk H), rfl, rfl, _, rfl, ?_⟩
        rw [if_pos rfl, taken_in]
        cases c3 : (decide (x = "main") || (decide (x = "house") || decide (x = "rest"))) with
        | true =>
          refine iteF ?_
          have := q H (Same.refl _)
          unfold nameB at this
          rw [c1, c2, c3] at this
          exact this
        | false =>
          refine iteT ⟨_, rfl, x, rfl, fun D nD => ?_⟩
          have hsz : x.cps.size = x.cps.toList.length := by simp
          refine lc_it (walk_str (z := x)) (Pv := Tk H D (x.cps.toList.map fun c => V.bl (letB c))) (Tk.start nD) (fun _ _ _ _ => trivial) ?_ ?_
          · rintro i v H1 H2 hi hk ⟨rfl, c, hc, rfl⟩
            refine ⟨rfl, ?_⟩
            unfold tYes
            refine iteT ⟨_, rfl, c, _, rfl, rfl, ?_⟩
            rw [in_abc]
            have hc' : x.cps.toList[i]? = some c := by rw [Array.getElem?_toList]; exact hc
            exact hk.step nD (Same.refl _) (by rw [List.getElem?_map, hc']; rfl) (by rw [List.length_map, SL.len_toList]; omega)
          · rintro H1 hk
            refine ⟨D, x.cps.toList.map letB, rfl, SqL.of ?_, ?_⟩
            · rw [List.map_map]
              exact hk.done (by rw [hsz, List.length_map])
            · have := q H1 hk.1
              unfold nameB at this
              rw [c1, c2, c3] at this
              rw [List.all_map]
              exact this
end
end Hs
/-! a, *b = a list -/
namespace Stt
open PySem PySem.Spec PyProof.Rows L2
section
variable {prog : Program} {w : World} {A : Around} {E : Value → Shared → Prop} {s : Shared}
theorem parts_of_list {l : Addr} {v0 : Value} {vr : List Value} {R : List Value → Shared → Prop} (at_ : s.heap.IsList l (v0 :: vr).toArray) (calm : A.handled = none) (small : vr.length ≤ 16000)
    (next : ∀ (hp : Heap) (tk : Nat), (∀ b o, s.heap.get? b = some o → hp.get? b = some o) → R [v0, .ref hp.objs.size] { s with heap := hp.push { cls := .type "list", data := .seq vr.toArray }, toks := tk }) :
    wpAny (model prog w) A (unpackItems (.ref l) 2 (some 1)) R E s := by
  obtain ⟨ol, eol, _⟩ := id at_
  have below := Heap.lt_size eol
  have apart : l ≠ s.heap.objs.size := Nat.ne_of_lt below
  have iter0 : wpAny (model prog w) A (notIterableAtAll (.ref l)) (fun b s' => b = false ∧ s' = s) E s := by
    unfold notIterableAtAll
    exact wpAny_bind (wpAny_specialOf at_.typeIs slot_list_iter.lookup (wpAny_pure ⟨rfl, rfl⟩))
  unfold unpackItems
  refine wpAny_bind (wpAny_mono iter0 (fun b s' z => ?_) fun _ _ z => z)
  obtain ⟨rfl, rfl⟩ := z
  simp only [Bool.false_eq_true, if_false]
  refine wpAny_bind (wpAny_holding (wpAny_pyIter_list at_ ?_))
  have size2 : (v0 :: vr).toArray.size = vr.length + 1 := by simp
  refine wpAny_bind (wpAny_holding (PySem.W.kun_draw apart 1 0 _ _ ⟨_, Heap.get?_push_size _ rfl, rfl, rfl⟩ (at_.push _) (by rw [size2]; omega) ?_))
  intro g1 it1 sb1
  have at1 : g1.IsList l (v0 :: vr).toArray := (at_.push _).extBut sb1.extBut apart
  obtain ⟨o1, eo1, _⟩ := id at1
  obtain ⟨oi, eoi, _⟩ := id it1
  rw [if_neg (show ¬ (((v0 :: vr).toArray.toList.drop 0).take 1).length < 1 by simp)]
  have k1 : 1 ≤ (v0 :: vr).toArray.size := by rw [size2]; omega
  have z1 : (v0 :: vr).toArray.size ≤ sizeLine := by rw [size2]; exact Nat.le_trans (show _ ≤ 16001 by omega) (by decide)
  refine wpAny_bind (wpAny_holding (PySem.W.kun_collect (s := { s' with heap := g1 }) (T := "list_iterator") (.inr (.inr (.inl rfl))) (Walks.list (A := A.in1) calm s'.heap.objs.size l apart _) (fun j u st => st.1.typeIs) k1 ⟨it1, at1⟩ (Heap.lt_size eoi) (Heap.lt_size eo1) ?_ z1))
  intro g2 tk keep
  have whole : ∀ b o, s'.heap.get? b = some o → g2.get? b = some o := fun b o e => by
    have nb : b ≠ s'.heap.objs.size := Nat.ne_of_lt (Heap.lt_size e)
    exact keep b o nb (sb1.extBut b o nb (Heap.get?_push_of_some _ e))
  have e1 : (v0 :: vr).toArray.toList.drop 1 = vr := by simp
  have e0 : ((v0 :: vr).toArray.toList.drop 0).take 1 = [v0] := by simp
  rw [e1, e0]
  rw [if_neg (show ¬ vr.length < 2 - 1 - 1 by omega)]
  have et : vr.take (vr.length - (2 - 1 - 1)) = vr := List.take_of_length_le (by omega)
  have ed : vr.drop (vr.length - (2 - 1 - 1)) = [] := List.drop_of_length_le (by omega)
  rw [et, ed]
  refine wpAny_bind (wpAny_newList (wpAny_pure ?_) (Nat.le_trans small (by decide)))
  exact next g2 tk whole
end
section
variable {X : Cx}
theorem pgs_star {t : Expr} {sp : Pos} {g : TG} (h : PG X t g) (hs : (assignEach [.Starred t sp] X.env).map (·.2) = [assign t X.env] := by rfl) : PGs X [.Starred t sp] (gCons g gNil) := by
  refine ⟨fun pins s σ H vs us Q I r want => ?_⟩
  obtain ⟨v, vr, rfl, want⟩ := want
  cases r with
  | cons r rr =>
    rw [hs]
    refine assignInOrder_cons (thn (h.run pins s σ H _ _ _ I r want) fun _ s1 ⟨σ1, H1, I1, e, q1⟩ => ?_)
    subst e
    cases rr
    exact assignInOrder_nil ⟨σ1, H1, I1, q1⟩
/-- the first of a list, and a new list of the others -/
def gStar (K : PySem.W.Frag) (t : TGs) : TG := fun v σ H Q => ∃ l x xs, v = .ref l ∧ SqL K H l (x :: xs) ∧ xs.length ≤ 1000 ∧ ∀ D, H D = none → t [x, .ref D] σ (upd H D (.lst xs)) Q
theorem pg_star {es : List Expr} {k : Nat} {t : TGs} {pos : Pos} (hc : X.calm = true) (h : PGs X es t) (hn : (assignEach es X.env).length = 2 := by rfl) (hst : (assignEach es X.env).findIdx? (·.1) = some 1 := by rfl) : PG X (.Tuple es k pos) (gStar X.K t) := by
  refine ⟨fun pins s σ H v u Q I r want => ?_⟩
  obtain ⟨l, x, xs, rfl, hl, hx, want⟩ := want
  cases r
  obtain ⟨its, rv, pl, hz⟩ := I.list hl
  cases rv with
  | cons r0 rr =>
    rename_i v0 vr
    rw [assign_Tuple]
    refine wpAny_bind (wpAny_standAt ?_)
    unfold unpack
    rw [hn, hst]
    refine wpAny_bind (wpAny_holding (parts_of_list pl.isList (I.ok.hd hc) (by rw [← rr.length]; omega) fun hp tk keep => ?_))
    have I1 : Inv X pins σ H { s with heap := hp, toks := tk } := I.kept keep
    have hf : H hp.objs.size = none := I1.hok.fresh (Nat.le_refl _)
    refine h.run pins _ σ _ [x, .ref hp.objs.size] [v0, .ref hp.objs.size] Q (I1.laid (t' := tk) (o := .lst xs) (fun b u e => Heap.get?_push_of_some _ e) (Nat.le_refl _) ?_) (.cons r0 (.cons rfl .nil)) (want _ hf)
    exact ⟨Nat.le_trans hx (by decide), vr, 0, rr, Heap.get?_push_size _ rfl⟩
end
end Stt
/-! the lines of a house -/
namespace Hs
open PySem PySem.Spec PyProof.Rows L2 Am
/-- a list of texts -/
def WdAt (H : Hp) (l : Addr) (ws : List Str) : Prop := H l = some (.lst (ws.map V.str))
def spDays (C : Addr) : Sp := fun vs H Q _ => ∃ (d lp lt ls lw : Addr) (L : Lore) (w : Str) (n : Nat), vs = [.ref d, .ref lw] ∧ DraftAt C H d lp lt ls L ∧ WdAt H lw [w] ∧ L.days = 0 ∧ w.length ≤ 600 ∧ Mt.num w.cps.toList = n ∧ (1 ≤ n ∧ n ≤ 14) ∧
  ∀ H', Fr [d] H H' → DraftAt C H' d lp lt ls { L with days := n } → Q (.bl true) H'
theorem Fr.upd {ms : List Addr} {H : Hp} {d : Addr} {o : HO} (h : d ∈ ms) : Fr ms H (upd H d o) := fun b u e n => by
  rw [upd_ne (fun z => n (by rw [z]; exact h))]
  exact e
theorem Fr.mono {ms ns : List Addr} {H H' : Hp} (h : Fr ms H H') (e : ∀ x ∈ ms, x ∈ ns) : Fr ns H H' := fun b u z n => h b u z (fun y => n (e b y))
theorem dfs_len (n : Nat) (lp lt ls : Addr) : (dfs n lp lt ls).length = 4 := by
  unfold dfs
  simp only [putF, if_neg n_dp, if_neg n_dt, if_neg n_ds, if_neg n_pt, if_neg n_ps, if_neg n_ts]
  rfl
section
variable {P : Program} {w : World} {K : PySem.W.Frag} {mg : Str → Option Value} {base : Heap} {C : Addr}
theorem DraftAt.fld {H : Hp} {d lp lt ls : Addr} {L : Lore} (h : DraftAt C H d lp lt ls L) : ∃ dx, H d = some (.ins C dx (dfs L.days lp lt ls)) := h.ob
theorem DraftAt.d_ne {H : Hp} {d lp lt ls : Addr} {L : Lore} (h : DraftAt C H d lp lt ls L) : d ≠ lp ∧ d ≠ lt ∧ d ≠ ls := by
  obtain ⟨dx, ob⟩ := h.ob
  obtain ⟨r1, l1, _⟩ := h.pl
  obtain ⟨r2, l2, _⟩ := h.pr
  obtain ⟨r3, l3, _⟩ := h.st
  exact ⟨ne_of ob l1 (by intro z; cases z), ne_of ob l2 (by intro z; cases z), ne_of ob l3 (by intro z; cases z)⟩
theorem LstAt.keep {α : Type} {f : α → HO} {H H' : Hp} {l : Addr} {xs : List α} {ms : List Addr} (h : LstAt f H l xs) (e : Fr ms H H') (hl : l ∉ ms) (ho : ∀ r x, H r = some (f x) → r ∉ ms) : LstAt f H' l xs := by
  obtain ⟨rs, a, b, c⟩ := h
  exact ⟨rs, e _ _ a hl, b, fun i r x h1 h2 => e _ _ (c i r x h1 h2) (ho r x (c i r x h1 h2))⟩
theorem scDays : FnScope ["self", "words", "days"] ["self", "words"] (defScope sDrDays) := ⟨rfl, rfl, rfl, by decide +kernel, rfl, by decide +kernel, by decide +kernel⟩
theorem ok_days {f : Addr} {fd : FuncData} (F : Fun K "take_days" "Draft.take_days" sDrDays f fd) (dc : DC K C) (T : Nm mg) (GD : GotF P w K mg base "decimal" 1 ["word"] spDec) : FnOk P w K mg base CX0 2 f fd ["self", "words"] (spDays C) := by
  obtain ⟨fD, fdD, GD, bD, mD, kD⟩ := GD
  refine F.ok scDays (fun vs H Q E h => ?_) (fun cdv A outer s H vs Q E hr h => ?_)
  · obtain ⟨d, lp, lt, ls, lw, L, x, n, rfl, _⟩ := h
    rfl
  · obtain ⟨d, lp, lt, ls, lw, L, x, n, rfl, hd, hw, z0, lx, hn, ⟨n1, n14⟩, q⟩ := h
    refine ⟨_, pss_cons (ps_if (PW.pt (pw_or (pt_cmpR op_gt (pe_fld (pv 0) rfl) pe_int (nomark _)) (pw_or1 (pt_cmpR op_ne (pe_callB call_len_seq (by rfl) T.len PySem.boot_len (pa_cons (pv 1) pa_nil)) pe_int (nomark _))))) (pss_one (ps_ret pe_bl)) pss_nil)
      (pss_cons (ps_set (i := 2) scDays.nd rfl (.inl rfl) (pe_call GD hr (by rfl) mD kD bD .nil pass0 (pa_cons (pe_ix ix_list (pv 1) pe_int (fun _ _ => rfl)) pa_nil)))
      (pss_cons (ps_if (pt_not (pt_chain op_le op_le pe_int (pv 2) pe_int)) (pss_one (ps_ret pe_bl)) pss_nil)
      (pss_cons (ps_fld (pv 0) (pv 2) rfl)
      (pss_one (ps_ret pe_bl))))), ?_⟩
    obtain ⟨dx, ob⟩ := hd.ob
    refine ⟨_, rfl, d, C, dx, _, _, rfl, ob, dc.cl, dc.nD, dfs_days _ _ _ _, _, _, rfl, rfl, _, rfl, ?_⟩
    rw [z0, show decide (((0 : Nat) : Int) > 0) = false from rfl]
    refine iteF ⟨_, rfl, lw, _, rfl, .inl (SqL.of hw), rfl, _, rfl, iteF ?_⟩
    refine ⟨_, rfl, lw, _, _, _, rfl, rfl, SqL.of hw, rfl, x, rfl, by omega, ?_⟩
    rw [hn]
    refine ⟨_, rfl, _, _, rfl, rfl, _, rfl, ?_⟩
    rw [show decide ((1 : Int) ≤ (n : Int)) = true from decide_eq_true (by omega)]
    refine iteT ⟨_, _, rfl, rfl, _, rfl, ?_⟩
    rw [show decide ((n : Int) ≤ (14 : Int)) = true from decide_eq_true (by omega)]
    refine iteF ?_
    obtain ⟨ne1, ne2, ne3⟩ := hd.d_ne
    refine ⟨_, rfl, _, rfl, d, C, dx, _, rfl, ob, dc.cl, dc.nD, by rw [dfs_len]; decide, ?_⟩
    rw [dfs_set]
    have no : ∀ {α : Type} {f : α → HO} (hf : ∀ x, f x ≠ .ins C dx (dfs L.days lp lt ls)) (r : Addr) (x : α), H r = some (f x) → r ∉ [d] := by
      intro α f hf r x e z
      rw [List.mem_singleton.mp z, ob] at e
      exact hf x (Option.some.inj e).symm
    have fr : Fr [d] H (upd H d (.ins C dx (dfs n lp lt ls))) := Fr.upd (by simp)
    refine q _ fr ⟨⟨dx, upd_same⟩, ?_, ?_, ?_, hd.n1, hd.n2, hd.n3⟩
    · exact hd.pl.keep fr (by simpa using ne1.symm) (no (fun x z => by unfold plO at z; cases z))
    · exact hd.pr.keep fr (by simpa using ne2.symm) (no (fun x z => by unfold prO at z; cases z))
    · exact hd.st.keep fr (by simpa using ne3.symm) (no (fun x z => by unfold stO at z; cases z))
end
end Hs
namespace Hs
open PySem PySem.Spec PyProof.Rows L2 Am
def spPlace (C : Addr) : Sp := fun vs H Q _ => ∃ (d lp lt ls lw : Addr) (L : Lore) (x r : Str) (n : Nat) (inner : Bool), vs = [.ref d, .ref lw, .bl inner] ∧ DraftAt C H d lp lt ls L ∧ Small L ∧ WdAt H lw [x, r] ∧ L.days ≠ 0 ∧ L.prices = [] ∧ L.stays = [] ∧ x.length ≤ 600 ∧ r.length ≤ 600 ∧
  nameB x = true ∧ hasP L x = false ∧ Mt.num r.cps.toList = n ∧ (1 ≤ n ∧ n ≤ 9) ∧ L.places.length < 4 ∧ (L.places.length = 3 → inner = true ∨ hasF L = true) ∧
  ∀ H', Fr [lp] H H' → DraftAt C H' d lp lt ls { L with places := L.places ++ [⟨x, n, inner⟩] } → Q (.bl true) H'
def spPrice (C : Addr) : Sp := fun vs H Q _ => ∃ (d lp lt ls lw : Addr) (L : Lore) (x y : Str) (a n : Nat), vs = [.ref d, .ref lw] ∧ DraftAt C H d lp lt ls L ∧ Small L ∧ WdAt H lw [x, y] ∧ hasF L = true ∧ L.stays = [] ∧ L.prices.length < 3 ∧ x.length ≤ 600 ∧ y.length ≤ 600 ∧
  Mt.num x.cps.toList = a ∧ Mt.num y.cps.toList = n ∧ (∀ p, L.prices.getLast? = some p → p.1 < a) ∧ a < L.days ∧ n ≤ 99 ∧
  ∀ H', Fr [lt] H H' → DraftAt C H' d lp lt ls { L with prices := L.prices ++ [(a, n)] } → Q (.bl true) H'
def spStay (C : Addr) : Sp := fun vs H Q _ => ∃ (d lp lt ls lw : Addr) (L : Lore) (x y u v : Str) (a b : Nat), vs = [.ref d, .ref lw] ∧ DraftAt C H d lp lt ls L ∧ Small L ∧ WdAt H lw [x, y, u, v] ∧ hasF L = true ∧ L.stays.length < 8 ∧ x.length ≤ 600 ∧ y.length ≤ 600 ∧ u.length ≤ 600 ∧ v.length ≤ 600 ∧
  nameB x = true ∧ hasP L y = true ∧ Mt.num u.cps.toList = a ∧ Mt.num v.cps.toList = b ∧ a < b ∧ b ≤ L.days ∧ letS L y a b = false ∧
  ∀ H', Fr [ls] H H' → DraftAt C H' d lp lt ls { L with stays := L.stays ++ [⟨x, y, a, b⟩] } → Q (.bl true) H'
/-- a method of Draft, its promise known -/
def GotD (P : Program) (w : World) (K : PySem.W.Frag) (mg : Str → Option Value) (base : Heap) (C : Addr) (x : Str) (k : Nat) (ps : List Str) (sp : Sp) : Prop :=
  ∃ (f : Addr) (fd : FuncData), FnOk P w K mg base CX0 k f fd ps sp ∧ Binds K fd ps [] ∧ Meth K C x f
theorem dfs_none {x : Str} (n : Nat) (lp lt ls : Addr) (h1 : ¬ x = "days") (h2 : ¬ x = "places") (h3 : ¬ x = "tariffs") (h4 : ¬ x = "stays") : (dfs n lp lt ls).lookup x = none := by
  unfold dfs
  rw [lookup_putF, if_neg h4, lookup_putF, if_neg h3, lookup_putF, if_neg h2, lookup_putF, if_neg h1]
  rfl
section
variable {P : Program} {w : World} {K : PySem.W.Frag} {mg : Str → Option Value} {base : Heap} {C : Addr}
theorem dfs_m (n : Nat) (lp lt ls : Addr) : (dfs n lp lt ls).lookup ("has_place" : Str) = none ∧ (dfs n lp lt ls).lookup ("has_flat" : Str) = none ∧ (dfs n lp lt ls).lookup ("is_let" : Str) = none ∧ (dfs n lp lt ls).lookup ("take_days" : Str) = none ∧
    (dfs n lp lt ls).lookup ("take_place" : Str) = none ∧ (dfs n lp lt ls).lookup ("take_price" : Str) = none ∧ (dfs n lp lt ls).lookup ("take_stay" : Str) = none ∧ (dfs n lp lt ls).lookup ("take" : Str) = none :=
  ⟨dfs_none _ _ _ _ (by decide +kernel) (by decide +kernel) (by decide +kernel) (by decide +kernel), dfs_none _ _ _ _ (by decide +kernel) (by decide +kernel) (by decide +kernel) (by decide +kernel), dfs_none _ _ _ _ (by decide +kernel) (by decide +kernel) (by decide +kernel) (by decide +kernel),
   dfs_none _ _ _ _ (by decide +kernel) (by decide +kernel) (by decide +kernel) (by decide +kernel), dfs_none _ _ _ _ (by decide +kernel) (by decide +kernel) (by decide +kernel) (by decide +kernel), dfs_none _ _ _ _ (by decide +kernel) (by decide +kernel) (by decide +kernel) (by decide +kernel),
   dfs_none _ _ _ _ (by decide +kernel) (by decide +kernel) (by decide +kernel) (by decide +kernel), dfs_none _ _ _ _ (by decide +kernel) (by decide +kernel) (by decide +kernel) (by decide +kernel)⟩
/-- the truth of a list -/
theorem tru_lst {X : Cx} {H : Hp} {l : Addr} {xs : List V} (h : H l = some (.lst xs)) : TruV X.K (.ref l) H (!xs.isEmpty) := .inl ⟨xs, SqL.of h, rfl⟩
theorem int_eq (x y : Int) : decide (V.int x = V.int y) = decide (x = y) := decide_eq_decide.mpr ⟨V.int.inj, fun h => by rw [h]⟩
/-- a list grows by a new object -/
theorem LstAt.grow {α : Type} {f : α → HO} {H : Hp} {l : Addr} {xs : List α} {rs : List Addr} {D : Addr} {x : α} (hl : H l = some (.lst (rs.map V.ref))) (h : Refs f H rs xs) (nD : H D = none) (hf : ∀ x ys, f x ≠ .lst ys) :
    LstAt f (upd (upd H D (f x)) l (.lst (rs.map V.ref ++ [.ref D]))) l (xs ++ [x]) ∧ Fr [l] H (upd (upd H D (f x)) l (.lst (rs.map V.ref ++ [.ref D]))) := by
  have nl : D ≠ l := fun z => by rw [← z, nD] at hl; cases hl
  have fr : Fr [l] H (upd (upd H D (f x)) l (.lst (rs.map V.ref ++ [.ref D]))) := fun b u e n => by
    rw [upd_ne (fun z => n (by rw [z]; simp)), upd_ne (ne_of_none e nD)]
    exact e
  refine ⟨⟨rs ++ [D], by rw [upd_same, List.map_append]; rfl, Refs.snoc ⟨h.1, fun i r y a b => fr _ _ (h.2 i r y a b) ?_⟩ (by rw [upd_ne nl, upd_same])⟩, fr⟩
  intro z
  have e := h.2 i r y a b
  rw [List.mem_singleton.mp z, hl] at e
  exact hf y _ (Option.some.inj e).symm
theorem plO_nl (x : Pl) (ys : List V) : plO x ≠ .lst ys := fun z => by unfold plO at z; cases z
theorem prO_nl (x : Nat × Nat) (ys : List V) : prO x ≠ .lst ys := fun z => by unfold prO at z; cases z
theorem stO_nl (x : St) (ys : List V) : stO x ≠ .lst ys := fun z => by unfold stO at z; cases z
theorem at_nl {α : Type} {f : α → HO} {H : Hp} {l : Addr} {zs : List V} (hl : H l = some (.lst zs)) (hf : ∀ x ys, f x ≠ .lst ys) (r : Addr) (x : α) (e : H r = some (f x)) : r ∉ [l] := fun z => by
  rw [List.mem_singleton.mp z, hl] at e
  exact hf x _ (Option.some.inj e).symm
theorem DraftAt.pushP {H : Hp} {d lp lt ls D : Addr} {L : Lore} {rp : List Addr} {p : Pl} (h : DraftAt C H d lp lt ls L) (hl : H lp = some (.lst (rp.map V.ref))) (hr : Refs plO H rp L.places) (nD : H D = none) :
    DraftAt C (upd (upd H D (plO p)) lp (.lst (rp.map V.ref ++ [.ref D]))) d lp lt ls { L with places := L.places ++ [p] } ∧ Fr [lp] H (upd (upd H D (plO p)) lp (.lst (rp.map V.ref ++ [.ref D]))) := by
  obtain ⟨a, fr⟩ := LstAt.grow (x := p) hl hr nD plO_nl
  obtain ⟨dx, ob⟩ := h.ob
  obtain ⟨e1, e2, e3⟩ := h.d_ne
  exact ⟨⟨⟨dx, fr _ _ ob (by simpa using e1)⟩, a, h.pr.keep fr (by simpa using h.n1.symm) (at_nl hl prO_nl), h.st.keep fr (by simpa using h.n2.symm) (at_nl hl stO_nl), h.n1, h.n2, h.n3⟩, fr⟩
theorem DraftAt.pushT {H : Hp} {d lp lt ls D : Addr} {L : Lore} {rp : List Addr} {p : Nat × Nat} (h : DraftAt C H d lp lt ls L) (hl : H lt = some (.lst (rp.map V.ref))) (hr : Refs prO H rp L.prices) (nD : H D = none) :
    DraftAt C (upd (upd H D (prO p)) lt (.lst (rp.map V.ref ++ [.ref D]))) d lp lt ls { L with prices := L.prices ++ [p] } ∧ Fr [lt] H (upd (upd H D (prO p)) lt (.lst (rp.map V.ref ++ [.ref D]))) := by
  obtain ⟨a, fr⟩ := LstAt.grow (x := p) hl hr nD prO_nl
  obtain ⟨dx, ob⟩ := h.ob
  obtain ⟨e1, e2, e3⟩ := h.d_ne
  exact ⟨⟨⟨dx, fr _ _ ob (by simpa using e2)⟩, h.pl.keep fr (by simpa using h.n1) (at_nl hl plO_nl), a, h.st.keep fr (by simpa using h.n3.symm) (at_nl hl stO_nl), h.n1, h.n2, h.n3⟩, fr⟩
theorem DraftAt.pushS {H : Hp} {d lp lt ls D : Addr} {L : Lore} {rp : List Addr} {p : St} (h : DraftAt C H d lp lt ls L) (hl : H ls = some (.lst (rp.map V.ref))) (hr : Refs stO H rp L.stays) (nD : H D = none) :
    DraftAt C (upd (upd H D (stO p)) ls (.lst (rp.map V.ref ++ [.ref D]))) d lp lt ls { L with stays := L.stays ++ [p] } ∧ Fr [ls] H (upd (upd H D (stO p)) ls (.lst (rp.map V.ref ++ [.ref D]))) := by
  obtain ⟨a, fr⟩ := LstAt.grow (x := p) hl hr nD stO_nl
  obtain ⟨dx, ob⟩ := h.ob
  obtain ⟨e1, e2, e3⟩ := h.d_ne
  exact ⟨⟨⟨dx, fr _ _ ob (by simpa using e3)⟩, h.pl.keep fr (by simpa using h.n2) (at_nl hl plO_nl), h.pr.keep fr (by simpa using h.n3) (at_nl hl prO_nl), a, h.n1, h.n2, h.n3⟩, fr⟩
theorem Fr.of {ms : List Addr} {H H1 H2 : Hp} (a : Same H H1) (b : Fr ms H1 H2) : Fr ms H H2 := fun c u e n => b c u (a c u e) n
theorem scPlace : FnScope ["self", "words", "inner", "name", "room", "many"] ["self", "words", "inner"] (defScope sDrPlace) := ⟨rfl, rfl, rfl, by decide +kernel, rfl, by decide +kernel, by decide +kernel⟩
theorem ok_place {f : Addr} {fd : FuncData} (F : Fun K "take_place" "Draft.take_place" sDrPlace f fd) (dc : DC K C) (T : Nm mg) (GD : GotF P w K mg base "decimal" 1 ["word"] spDec) (GN : GotF P w K mg base "is_name" 1 ["value"] spIsName) (GP : GotD P w K mg base C "has_place" 1 ["self", "name"] (spHasP C)) (GFl : GotD P w K mg base C "has_flat" 1 ["self"] (spHasF C)) :
    FnOk P w K mg base CX0 2 f fd ["self", "words", "inner"] (spPlace C) := by
  obtain ⟨fD, fdD, GD, bD, mD, kD⟩ := GD
  obtain ⟨fN, fdN, GN, bN, mN, kN⟩ := GN
  obtain ⟨fP, fdP, GP, bP, mP⟩ := GP
  obtain ⟨fL, fdL, GFl, bL, mL⟩ := GFl
  refine F.ok scPlace (fun vs H Q E h => ?_) (fun cdv A outer s H vs Q E hr h => ?_)
  · obtain ⟨d, lp, lt, ls, lw, L, x, r, n, inner, rfl, _⟩ := h
    rfl
  · obtain ⟨d, lp, lt, ls, lw, L, x, r, n, inner, rfl, hd, sm, hw, nz, p0, s0, lx, lr, hx, hp, hn, ⟨n1, n9⟩, l4, l3, q⟩ := h
    refine ⟨_, pss_cons (ps_if (PW.pt (pw_or (pt_cmpR op_eq (pe_fld (pv 0) rfl) pe_int (nomark _)) (pw_or (pt_truth (pe_fld (pv 0) rfl) (fun _ => rfl)) (pw_or (pt_truth (pe_fld (pv 0) rfl) (fun _ => rfl)) (pw_or1 (pt_cmpR op_ne (pe_callB call_len_seq (by rfl) T.len PySem.boot_len (pa_cons (pv 1) pa_nil)) pe_int (nomark _))))))) (pss_one (ps_ret pe_bl)) pss_nil)
      (pss_cons (ps_par (by rfl) scPlace.nd (i := 3) (j := 4) rfl rfl (by decide) rfl rfl (pa_cons (pe_ix ix_list (pv 1) pe_int (fun _ _ => rfl)) (pa_cons (pe_call GD hr (by rfl) mD kD bD .nil pass0 (pa_cons (pe_ix ix_list (pv 1) pe_int (fun _ _ => rfl)) pa_nil)) pa_nil)) (by rfl))
      (pss_cons (ps_if (PW.pt (pw_or (pt_not (pt_val (pe_call GN hr (by rfl) mN kN bN .nil pass0 (pa_cons (pv 3) pa_nil)))) (pw_or (pt_val (pe_meth (pv 0) dc.cl mP GP hr bP .nil pass0 (pa_cons (pv 3) pa_nil))) (pw_or1 (pt_not (pt_chain op_le op_le pe_int (pv 4) pe_int)))))) (pss_one (ps_ret pe_bl)) pss_nil)
      (pss_cons (ps_set (i := 5) scPlace.nd rfl (.inl rfl) (pe_callB call_len_seq (by rfl) T.len PySem.boot_len (pa_cons (pe_fld (pv 0) rfl) pa_nil)))
      (pss_cons (ps_if (PW.pt (pw_or (pt_cmpR op_eq (pv 5) pe_int (nomark _)) (pw_or1 (PW.pt (pw_and (pt_cmpR op_eq (pv 5) pe_int (nomark _)) (pw_and (pt_not (pt_val (pv 2))) (pw_and1 (pt_not (pt_val (pe_meth0 (pv 0) dc.cl mL GFl hr bL .nil pass0)))))))))) (pss_one (ps_ret pe_bl)) pss_nil)
      (pss_cons (ps_expr (pe_bm PySem.F.plainAttrs_list PySem.F.slot_list_append PySem.F.type_list_append mt_append (pe_fld (pv 0) rfl) (pa_cons (pe_tup (pa_cons (pv 3) (pa_cons (pv 4) (pa_cons (pv 2) pa_nil)))) pa_nil)))
      (pss_one (ps_ret pe_bl))))))), ?_⟩
    obtain ⟨dx, ob⟩ := hd.ob
    obtain ⟨rp, hlp, hrp⟩ := hd.pl
    obtain ⟨rt, hlt, hrt⟩ := hd.pr
    obtain ⟨rs, hls, hrs⟩ := hd.st
    obtain rfl : rt = [] := by have := hrt.1; rw [p0] at this; exact List.eq_nil_of_length_eq_zero this
    obtain rfl : rs = [] := by have := hrs.1; rw [s0] at this; exact List.eq_nil_of_length_eq_zero this
    obtain ⟨m1, m2, m3, m4, m5, m6, m7, m8⟩ := dfs_m L.days lp lt ls
    refine ⟨_, rfl, d, C, dx, _, _, rfl, ob, dc.cl, dc.nD, dfs_days _ _ _ _, rfl, _, rfl, ?_⟩
    rw [int_eq, show decide ((L.days : Int) = 0) = false from decide_eq_false (by omega)]
    refine iteF ⟨_, rfl, d, C, dx, _, _, rfl, ob, dc.cl, dc.nT, dfs_ta _ _ _ _, false, tru_lst hlt, iteF ?_⟩
    refine ⟨_, rfl, d, C, dx, _, _, rfl, ob, dc.cl, dc.nS, dfs_st _ _ _ _, false, tru_lst hls, iteF ?_⟩
    refine ⟨_, rfl, lw, _, rfl, .inl (SqL.of hw), rfl, _, rfl, iteF ?_⟩
    refine ⟨_, rfl, lw, _, _, _, rfl, rfl, SqL.of hw, rfl, ?_⟩
    refine ⟨_, rfl, lw, _, _, _, rfl, rfl, SqL.of hw, rfl, r, rfl, by omega, ?_⟩
    rw [hn]
    refine ⟨_, _, rfl, _, rfl, x, rfl, by omega, fun H1 e1 => ⟨_, rfl, ?_⟩⟩
    rw [hx]
    refine iteF ⟨_, rfl, d, dx, _, rfl, e1 _ _ ob, m1, _, rfl, d, lp, lt, ls, L, x, rfl, hd.same e1, sm, fun H2 e2 => ⟨_, rfl, ?_⟩⟩
    rw [hp]
    have e02 := e1.trans e2
    refine iteF ⟨_, rfl, _, _, rfl, rfl, _, rfl, ?_⟩
    rw [show decide ((1 : Int) ≤ (n : Int)) = true from decide_eq_true (by omega)]
    refine iteT ⟨_, _, rfl, rfl, _, rfl, ?_⟩
    rw [show decide ((n : Int) ≤ (9 : Int)) = true from decide_eq_true (by omega)]
    refine iteF ?_
    refine ⟨_, rfl, d, C, dx, _, _, rfl, e02 _ _ ob, dc.cl, dc.nP, dfs_pl _ _ _ _, lp, _, rfl, .inl (SqL.of (e02 _ _ hlp)), ?_⟩
    rw [List.length_map, hrp.1]
    refine ⟨_, rfl, rfl, _, rfl, ?_⟩
    rw [int_eq, show decide ((L.places.length : Int) = 4) = false from decide_eq_false (by omega)]
    refine iteF ⟨_, rfl, rfl, _, rfl, ?_⟩
    rw [int_eq]
    cases c3 : decide ((L.places.length : Int) = 3) with
    | false => 
      refine iteF (iteF ?_)
      have e03 := e02
      refine ⟨_, rfl, d, C, dx, _, _, rfl, e03 _ _ ob, dc.cl, dc.nP, dfs_pl _ _ _ _, .inl ⟨rfl, _, SqL.of (e03 _ _ hlp)⟩, ?_⟩
      refine ⟨_, rfl, _, rfl, _, rfl, (show 3 ≤ sizeLine by decide), fun D nD => ?_⟩
      obtain ⟨hd', fr⟩ := (hd.same e03).pushP (p := ⟨x, n, inner⟩) (e03 _ _ hlp) (hrp.same e03) nD
      refine ⟨lp, _, _, rfl, rfl, ?_, ?_, q _ (Fr.of e03 fr) hd'⟩
      · rw [upd_ne (ne_of_none (e03 _ _ hlp) nD)]
        exact e03 _ _ hlp
      · rw [List.length_map, hrp.1]
        exact Nat.lt_of_lt_of_le l4 (by decide)
    | true => 
      refine iteT ⟨_, rfl, _, rfl, ?_⟩
      have l3' : L.places.length = 3 := by have := of_decide_eq_true c3; omega
      cases inner with
      | true => 
        refine iteF (iteF ?_)
        have e03 := e02
        refine ⟨_, rfl, d, C, dx, _, _, rfl, e03 _ _ ob, dc.cl, dc.nP, dfs_pl _ _ _ _, .inl ⟨rfl, _, SqL.of (e03 _ _ hlp)⟩, ?_⟩
        refine ⟨_, rfl, _, rfl, _, rfl, (show 3 ≤ sizeLine by decide), fun D nD => ?_⟩
        obtain ⟨hd', fr⟩ := (hd.same e03).pushP (p := ⟨x, n, true⟩) (e03 _ _ hlp) (hrp.same e03) nD
        refine ⟨lp, _, _, rfl, rfl, ?_, ?_, q _ (Fr.of e03 fr) hd'⟩
        · rw [upd_ne (ne_of_none (e03 _ _ hlp) nD)]
          exact e03 _ _ hlp
        · rw [List.length_map, hrp.1]
          exact Nat.lt_of_lt_of_le l4 (by decide)
      | false =>
        refine iteT ⟨_, rfl, d, dx, _, rfl, e02 _ _ ob, m2, d, lp, lt, ls, L, rfl, hd.same e02, sm, fun H3 e3 => ⟨_, rfl, ?_⟩⟩
        have e03 := e02.trans e3
        rw [(l3 l3').resolve_left (by decide)]
        refine iteF ?_
        refine ⟨_, rfl, d, C, dx, _, _, rfl, e03 _ _ ob, dc.cl, dc.nP, dfs_pl _ _ _ _, .inl ⟨rfl, _, SqL.of (e03 _ _ hlp)⟩, ?_⟩
        refine ⟨_, rfl, _, rfl, _, rfl, (show 3 ≤ sizeLine by decide), fun D nD => ?_⟩
        obtain ⟨hd', fr⟩ := (hd.same e03).pushP (p := ⟨x, n, false⟩) (e03 _ _ hlp) (hrp.same e03) nD
        refine ⟨lp, _, _, rfl, rfl, ?_, ?_, q _ (Fr.of e03 fr) hd'⟩
        · rw [upd_ne (ne_of_none (e03 _ _ hlp) nD)]
          exact e03 _ _ hlp
        · rw [List.length_map, hrp.1]
          exact Nat.lt_of_lt_of_le l4 (by decide)
end
end Hs
namespace Hs
open PySem PySem.Spec PyProof.Rows L2 Am
section
variable {P : Program} {w : World} {K : PySem.W.Frag} {mg : Str → Option Value} {base : Heap} {C : Addr}
theorem scPrice : FnScope ["self", "words", "day", "number", "ahead"] ["self", "words"] (defScope sDrPrice) := ⟨rfl, rfl, rfl, by decide +kernel, rfl, by decide +kernel, by decide +kernel⟩
theorem atI_last {xs : List V} {v : V} : atI (xs ++ [v]) (-1) = some v := by
  have e : ixN (xs.length + 1) (-1) = some xs.length := by
    unfold ixN
    rw [if_neg (by decide), if_pos (by omega)]
    exact congrArg some (by omega)
  simp only [atI, List.length_append, List.length_singleton, e, Option.bind_some]
  simp
theorem if_val {c : Bool} {tA tB : TE} {σ : L2.St} {H : Hp} {Q : VK} (v : V) (h : Q v H) (hA : c = true → ∀ Q', Q' v H → tA σ H Q') (hB : c = false → ∀ Q', Q' v H → tB σ H Q') : if c = true then tA σ H Q else tB σ H Q := by
  cases c with
  | true => exact iteT (hA rfl _ h)
  | false => exact iteF (hB rfl _ h)
def ahd (ps : List (Nat × Nat)) : Int := match ps.getLast? with | some p => (p.1 : Int) | none => -1
theorem ok_price {f : Addr} {fd : FuncData} (F : Fun K "take_price" "Draft.take_price" sDrPrice f fd) (dc : DC K C) (T : Nm mg) (GD : GotF P w K mg base "decimal" 1 ["word"] spDec) (GFl : GotD P w K mg base C "has_flat" 1 ["self"] (spHasF C)) :
    FnOk P w K mg base CX0 2 f fd ["self", "words"] (spPrice C) := by
  obtain ⟨fD, fdD, GD, bD, mD, kD⟩ := GD
  obtain ⟨fL, fdL, GFl, bL, mL⟩ := GFl
  refine F.ok scPrice (fun vs H Q E h => ?_) (fun cdv A outer s H vs Q E hr h => ?_)
  · obtain ⟨d, lp, lt, ls, lw, L, x, y, a, n, rfl, _⟩ := h
    rfl
  · obtain ⟨d, lp, lt, ls, lw, L, x, y, a, n, rfl, hd, sm, hw, hf, s0, l3, lx, ly, hx, hy, hlast, ha, hn, q⟩ := h
    refine ⟨_, pss_cons (ps_if (PW.pt (pw_or (pt_not (pt_val (pe_meth0 (pv 0) dc.cl mL GFl hr bL .nil pass0))) (pw_or (pt_truth (pe_fld (pv 0) rfl) (fun _ => rfl)) (pw_or (pt_cmpR op_eq (pe_callB call_len_seq (by rfl) T.len PySem.boot_len (pa_cons (pe_fld (pv 0) rfl) pa_nil)) pe_int (nomark _)) (pw_or1 (pt_cmpR op_ne (pe_callB call_len_seq (by rfl) T.len PySem.boot_len (pa_cons (pv 1) pa_nil)) pe_int (nomark _))))))) (pss_one (ps_ret pe_bl)) pss_nil)
      (pss_cons (ps_par (by rfl) scPrice.nd (i := 2) (j := 3) rfl rfl (by decide) rfl rfl (pa_cons (pe_call GD hr (by rfl) mD kD bD .nil pass0 (pa_cons (pe_ix ix_list (pv 1) pe_int (fun _ _ => rfl)) pa_nil)) (pa_cons (pe_call GD hr (by rfl) mD kD bD .nil pass0 (pa_cons (pe_ix ix_list (pv 1) pe_int (fun _ _ => rfl)) pa_nil)) pa_nil)) (by rfl))
      (pss_cons (ps_set (i := 4) scPrice.nd rfl (.inl rfl) (pe_ifExp (pt_truth (pe_fld (pv 0) rfl) (fun _ => rfl)) (pe_ix ix_tup (pe_ix ix_list (pe_fld (pv 0) rfl) (pe_un un_neg pe_int) (fun _ _ => rfl)) pe_int (fun _ _ => rfl)) (pe_un un_neg pe_int)))
      (pss_cons (ps_if (PW.pt (pw_or (pt_not (pt_chain op_lt op_lt (pv 4) (pv 2) (pe_fld (pv 0) rfl))) (pw_or1 (pt_not (pt_chain op_le op_le pe_int (pv 3) pe_int))))) (pss_one (ps_ret pe_bl)) pss_nil)
      (pss_cons (ps_expr (pe_bm PySem.F.plainAttrs_list PySem.F.slot_list_append PySem.F.type_list_append mt_append (pe_fld (pv 0) rfl) (pa_cons (pe_tup (pa_cons (pv 2) (pa_cons (pv 3) pa_nil))) pa_nil)))
      (pss_one (ps_ret pe_bl)))))), ?_⟩
    obtain ⟨dx, ob⟩ := hd.ob
    obtain ⟨rt, hlt, hrt⟩ := hd.pr
    obtain ⟨rs, hls, hrs⟩ := hd.st
    obtain rfl : rs = [] := by have := hrs.1; rw [s0] at this; exact List.eq_nil_of_length_eq_zero this
    obtain ⟨m1, m2, m3, m4, m5, m6, m7, m8⟩ := dfs_m L.days lp lt ls
    refine ⟨_, rfl, d, dx, _, rfl, ob, m2, d, lp, lt, ls, L, rfl, hd, sm, fun H1 e1 => ⟨_, rfl, ?_⟩⟩
    rw [hf]
    refine iteF ⟨_, rfl, d, C, dx, _, _, rfl, e1 _ _ ob, dc.cl, dc.nS, dfs_st _ _ _ _, false, tru_lst (e1 _ _ hls), iteF ?_⟩
    refine ⟨_, rfl, d, C, dx, _, _, rfl, e1 _ _ ob, dc.cl, dc.nT, dfs_ta _ _ _ _, lt, _, rfl, .inl (SqL.of (e1 _ _ hlt)), ?_⟩
    rw [List.length_map, hrt.1]
    refine ⟨rfl, _, rfl, ?_⟩
    rw [int_eq, show decide ((L.prices.length : Int) = 3) = false from decide_eq_false (by omega)]
    refine iteF ⟨_, rfl, lw, _, rfl, .inl (SqL.of (e1 _ _ hw)), rfl, _, rfl, iteF ?_⟩
    refine ⟨_, rfl, lw, _, _, _, rfl, rfl, SqL.of (e1 _ _ hw), rfl, x, rfl, by omega, ?_⟩
    refine ⟨_, rfl, lw, _, _, _, rfl, rfl, SqL.of (e1 _ _ hw), rfl, y, rfl, by omega, ?_⟩
    rw [hx, hy]
    refine ⟨_, _, rfl, _, rfl, d, C, dx, _, _, rfl, e1 _ _ ob, dc.cl, dc.nT, dfs_ta _ _ _ _, _, tru_lst (e1 _ _ hlt), ?_⟩
    refine if_val (V.int (ahd L.prices)) ?_ (fun hc Q' q' => ?_) (fun hc Q' q' => ?_)
    · have lt1 : ahd L.prices < (a : Int) := by
        unfold ahd
        cases hg : L.prices.getLast? with
        | none => show (-1 : Int) < _; omega
        | some p => have := hlast p hg; show (p.1 : Int) < _; omega
      refine ⟨_, rfl, _, rfl, _, _, rfl, rfl, _, rfl, ?_⟩
      rw [show decide (ahd L.prices < (a : Int)) = true from decide_eq_true lt1]
      refine iteT ⟨_, rfl, d, C, dx, _, _, rfl, e1 _ _ ob, dc.cl, dc.nD, dfs_days _ _ _ _, _, _, rfl, rfl, _, rfl, ?_⟩
      rw [show decide ((a : Int) < (L.days : Int)) = true from decide_eq_true (by omega)]
      refine iteF ⟨_, rfl, _, _, rfl, rfl, _, rfl, ?_⟩
      rw [show decide ((0 : Int) ≤ (n : Int)) = true from decide_eq_true (by omega)]
      refine iteT ⟨_, _, rfl, rfl, _, rfl, ?_⟩
      rw [show decide ((n : Int) ≤ (99 : Int)) = true from decide_eq_true (by omega)]
      refine iteF ?_
      refine ⟨_, rfl, d, C, dx, _, _, rfl, e1 _ _ ob, dc.cl, dc.nT, dfs_ta _ _ _ _, .inl ⟨rfl, _, SqL.of (e1 _ _ hlt)⟩, ?_⟩
      refine ⟨_, rfl, _, rfl, (show 2 ≤ sizeLine by decide), fun D nD => ?_⟩
      obtain ⟨hd', fr⟩ := (hd.same e1).pushT (p := (a, n)) (e1 _ _ hlt) (hrt.same e1) nD
      refine ⟨lt, _, _, rfl, rfl, ?_, ?_, q _ (Fr.of e1 fr) hd'⟩
      · rw [upd_ne (ne_of_none (e1 _ _ hlt) nD)]
        exact e1 _ _ hlt
      · rw [List.length_map, hrt.1]
        exact Nat.lt_of_lt_of_le l3 (by decide)
    · rcases List.eq_nil_or_concat L.prices with hz | ⟨ys, p, hz⟩
      · obtain rfl : rt = [] := by have := hrt.1; rw [hz] at this; exact List.eq_nil_of_length_eq_zero this
        cases hc
      · rw [List.concat_eq_append] at hz
        obtain ⟨hle, hat⟩ := id hrt
        rcases List.eq_nil_or_concat rt with hz2 | ⟨rs, r, hz2⟩
        · rw [hz, hz2] at hle
          simp at hle
        rw [List.concat_eq_append] at hz2
        subst hz2
        rw [hz] at hle hat
        have hle' : rs.length = ys.length := by simpa using hle
        have ho := hat rs.length r p (by simp) (by rw [hle']; simp)
        have ev : ahd L.prices = (p.1 : Int) := by
          unfold ahd
          rw [hz, List.getLast?_append]
          rfl
        rw [ev] at q'
        refine ⟨_, rfl, d, C, dx, _, _, rfl, e1 _ _ ob, dc.cl, dc.nT, dfs_ta _ _ _ _, _, rfl, lt, _, _, .ref r, rfl, rfl, SqL.of (e1 _ _ hlt), by rw [List.map_append]; exact atI_last, r, _, _, _, rfl, rfl, SqT.of (e1 _ _ ho), rfl, q'⟩
    · rcases List.eq_nil_or_concat L.prices with hz | ⟨ys, p, hz⟩
      · rw [hz] at q'
        exact ⟨_, rfl, q'⟩
      · have := hrt.1
        rw [hz, List.concat_eq_append, List.length_append, List.length_singleton] at this
        have he : rt ≠ [] := fun z => by rw [z] at this; simp at this
        cases rt with
        | nil => exact absurd rfl he
        | cons _ _ => cases hc
end
end Hs
/-! chains of comparisons, however long -/
namespace Chn
open PySem PySem.Spec PyProof.Rows L2
structure PCh (X : Cx) (ops : List CmpOp) (es : List Expr) (t : V → TT) : Prop where
  run : ∀ (pins : List (Addr × Obj)) (s : Shared) (σ : L2.St) (H : Hp) (Q : Bool → Hp → Prop) (pos : Pos) (x : V) (v : Value), L2.Inv X pins σ H s → L2.RelV x v → t x σ H Q →
    wpAny (model X.prog X.w) X.A (testChain pos v ops (evalEach es X.env)) (TP X pins σ Q) X.xe s
def cLast (r : R2) (tb : TE) : V → TT := fun x σ H Q => tb σ H fun y H2 => r x y H2 fun z H3 => ∃ k, z = .bl k ∧ Q k H3
def cLink (r : R2) (tb : TE) (t : V → TT) : V → TT := fun x σ H Q => tb σ H fun y H2 => r x y H2 fun z H3 => ∃ k, z = .bl k ∧ if k = true then t y σ H3 Q else Q false H3
def tChn (ta : TE) (t : V → TT) : TT := fun σ H Q => ta σ H fun x H1 => t x σ H1 Q
variable {X : Cx}
theorem c_last {op : CmpOp} {b : Expr} {r : R2} {tb : TE} (ho : OpR X (compareOp op) r) (hb : PE X b tb) : PCh X [op] [b] (cLast r tb) := by
  refine ⟨fun pins s σ H Q pos x v I rv q => test_last (thn (hb.run pins s σ H _ I q) ?_)⟩
  rintro u s2 ⟨y, H2, I2, r2, q2⟩
  refine thn (ho pins s2 σ H2 x y v u _ I2 rv r2 q2) ?_
  rintro d s3 ⟨z, H3, I3, r3, k, rfl, q3⟩
  cases r3
  exact wpAny_truthy_bool ⟨H3, I3, q3⟩
theorem c_link {op op' : CmpOp} {ops : List CmpOp} {b b' : Expr} {bs : List Expr} {r : R2} {tb : TE} {t : V → TT} (ho : OpR X (compareOp op) r) (hb : PE X b tb) (h : PCh X (op' :: ops) (b' :: bs) t) : PCh X (op :: op' :: ops) (b :: b' :: bs) (cLink r tb t) := by
  refine ⟨fun pins s σ H Q pos x v I rv q => test_link (thn (hb.run pins s σ H _ I q) ?_)⟩
  rintro u s2 ⟨y, H2, I2, r2, q2⟩
  refine thn (ho pins s2 σ H2 x y v u _ I2 rv r2 q2) ?_
  rintro d s3 ⟨z, H3, I3, r3, k, rfl, q3⟩
  cases r3
  refine wpAny_truthy_bool ?_
  cases k with
  | true => exact ite_tt (h.run pins s3 σ H3 Q pos y u I3 r2 q3)
  | false => exact ite_ff ⟨H3, I3, q3⟩
theorem pt_chn {a b b' : Expr} {bs : List Expr} {op op' : CmpOp} {ops : List CmpOp} {ta : TE} {t : V → TT} {pos : Pos} (ha : PE X a ta) (h : PCh X (op :: op' :: ops) (b :: b' :: bs) t) (hm : lastMarks (op :: op' :: ops) (b :: b' :: bs) = false := by rfl) :
    PT X (a.Compare (op :: op' :: ops) (b :: b' :: bs) pos) (tChn ta t) := by
  refine ⟨fun pins s σ H Q I q => isTrue_chain (thn (ha.run pins s σ H _ I q) ?_) hm⟩
  rintro v s1 ⟨x, H1, I1, r1, q1⟩
  exact h.run pins s1 σ H1 Q pos x v I1 r1 q1
end Chn
namespace Hs
open PySem PySem.Spec PyProof.Rows L2 Am
section
variable {P : Program} {w : World} {K : PySem.W.Frag} {mg : Str → Option Value} {base : Heap} {C : Addr}
theorem scStay : FnScope ["self", "words", "person", "place", "first", "behind"] ["self", "words"] (defScope sDrStay) := ⟨rfl, rfl, rfl, by decide +kernel, rfl, by decide +kernel, by decide +kernel⟩
theorem ok_stay {f : Addr} {fd : FuncData} (F : Fun K "take_stay" "Draft.take_stay" sDrStay f fd) (dc : DC K C) (T : Nm mg) (GD : GotF P w K mg base "decimal" 1 ["word"] spDec) (GN : GotF P w K mg base "is_name" 1 ["value"] spIsName) (GP : GotD P w K mg base C "has_place" 1 ["self", "name"] (spHasP C)) (GFl : GotD P w K mg base C "has_flat" 1 ["self"] (spHasF C)) (GL : GotD P w K mg base C "is_let" 1 ["self", "name", "first", "behind"] (spIsLet C)) :
    FnOk P w K mg base CX0 2 f fd ["self", "words"] (spStay C) := by
  obtain ⟨fD, fdD, GD, bD, mD, kD⟩ := GD
  obtain ⟨fN, fdN, GN, bN, mN, kN⟩ := GN
  obtain ⟨fP, fdP, GP, bP, mP⟩ := GP
  obtain ⟨fL, fdL, GFl, bL, mL⟩ := GFl
  obtain ⟨fI, fdI, GL, bI, mI⟩ := GL
  refine F.ok scStay (fun vs H Q E h => ?_) (fun cdv A outer s H vs Q E hr h => ?_)
  · obtain ⟨d, lp, lt, ls, lw, L, x, y, u, v, a, b, rfl, _⟩ := h
    rfl
  · obtain ⟨d, lp, lt, ls, lw, L, x, y, u, v, a, b, rfl, hd, sm, hw, hf, l8, lx, ly, lu, lv, hx, hy, hu, hv, hab, hb, hlet, q⟩ := h
    refine ⟨_, pss_cons (ps_if (PW.pt (pw_or (pt_not (pt_val (pe_meth0 (pv 0) dc.cl mL GFl hr bL .nil pass0))) (pw_or (pt_cmpR op_eq (pe_callB call_len_seq (by rfl) T.len PySem.boot_len (pa_cons (pe_fld (pv 0) rfl) pa_nil)) pe_int (nomark _)) (pw_or1 (pt_cmpR op_ne (pe_callB call_len_seq (by rfl) T.len PySem.boot_len (pa_cons (pv 1) pa_nil)) pe_int (nomark _)))))) (pss_one (ps_ret pe_bl)) pss_nil)
      (pss_cons (ps_asg (g := gTup K 4 (gCons (gName 2) (gCons (gName 3) (gCons (gName 4) (gCons (gName 5) gNil))))) (pe_tup (pa_cons (pe_ix ix_list (pv 1) pe_int (fun _ _ => rfl)) (pa_cons (pe_ix ix_list (pv 1) pe_int (fun _ _ => rfl)) (pa_cons (pe_call GD hr (by rfl) mD kD bD .nil pass0 (pa_cons (pe_ix ix_list (pv 1) pe_int (fun _ _ => rfl)) pa_nil)) (pa_cons (pe_call GD hr (by rfl) mD kD bD .nil pass0 (pa_cons (pe_ix ix_list (pv 1) pe_int (fun _ _ => rfl)) pa_nil)) pa_nil)))))
        (pg_tup rfl (pgs_cons (pg_name (i := 2) scStay.nd rfl (.inl rfl)) (pgs_cons (pg_name (i := 3) scStay.nd rfl (.inl rfl)) (pgs_cons (pg_name (i := 4) scStay.nd rfl (.inl rfl)) (pgs_cons (pg_name (i := 5) scStay.nd rfl (.inl rfl)) pgs_nil))))))
      (pss_cons (ps_if (PW.pt (pw_or (pt_not (pt_val (pe_call GN hr (by rfl) mN kN bN .nil pass0 (pa_cons (pv 2) pa_nil)))) (pw_or1 (pt_not (pt_val (pe_meth (pv 0) dc.cl mP GP hr bP .nil pass0 (pa_cons (pv 3) pa_nil))))))) (pss_one (ps_ret pe_bl)) pss_nil)
      (pss_cons (ps_if (PW.pt (pw_or (pt_not (Chn.pt_chn pe_int (Chn.c_link op_le (pv 4) (Chn.c_link op_lt (pv 5) (Chn.c_last op_le (pe_fld (pv 0) rfl)))))) (pw_or1 (pt_val (pe_meth (pv 0) dc.cl mI GL hr bI .nil pass0 (pa_cons (pv 3) (pa_cons (pv 4) (pa_cons (pv 5) pa_nil)))))))) (pss_one (ps_ret pe_bl)) pss_nil)
      (pss_cons (ps_expr (pe_bm PySem.F.plainAttrs_list PySem.F.slot_list_append PySem.F.type_list_append mt_append (pe_fld (pv 0) rfl) (pa_cons (pe_tup (pa_cons (pv 2) (pa_cons (pv 3) (pa_cons (pv 4) (pa_cons (pv 5) pa_nil))))) pa_nil)))
      (pss_one (ps_ret pe_bl)))))), ?_⟩
    obtain ⟨dx, ob⟩ := hd.ob
    obtain ⟨rs, hls, hrs⟩ := hd.st
    obtain ⟨m1, m2, m3, m4, m5, m6, m7, m8⟩ := dfs_m L.days lp lt ls
    have lens : L.stays.length ≤ 8 := by omega
    refine ⟨_, rfl, d, dx, _, rfl, ob, m2, d, lp, lt, ls, L, rfl, hd, sm, fun H1 e1 => ⟨_, rfl, ?_⟩⟩
    rw [hf]
    refine iteF ⟨_, rfl, d, C, dx, _, _, rfl, e1 _ _ ob, dc.cl, dc.nS, dfs_st _ _ _ _, ls, _, rfl, .inl (SqL.of (e1 _ _ hls)), ?_⟩
    rw [List.length_map, hrs.1]
    refine ⟨rfl, _, rfl, ?_⟩
    rw [int_eq, show decide ((L.stays.length : Int) = 8) = false from decide_eq_false (by omega)]
    refine iteF ⟨_, rfl, lw, _, rfl, .inl (SqL.of (e1 _ _ hw)), rfl, _, rfl, iteF ?_⟩
    refine ⟨_, rfl, lw, _, _, _, rfl, rfl, SqL.of (e1 _ _ hw), rfl, ?_⟩
    refine ⟨_, rfl, lw, _, _, _, rfl, rfl, SqL.of (e1 _ _ hw), rfl, ?_⟩
    refine ⟨_, rfl, lw, _, _, _, rfl, rfl, SqL.of (e1 _ _ hw), rfl, u, rfl, by omega, ?_⟩
    refine ⟨_, rfl, lw, _, _, _, rfl, rfl, SqL.of (e1 _ _ hw), rfl, v, rfl, by omega, ?_⟩
    rw [hu, hv]
    refine ⟨(show 4 ≤ sizeLine by decide), fun D0 nD0 => ?_⟩
    have e01 := e1.trans (same_upd (o := .tup [.str x, .str y, .int a, .int b]) nD0)
    refine ⟨D0, _, rfl, SqT.of upd_same, rfl, _, _, rfl, _, _, rfl, _, _, rfl, _, _, rfl, rfl, ?_⟩
    refine ⟨_, rfl, x, rfl, by omega, fun H2 e2 => ⟨_, rfl, ?_⟩⟩
    rw [hx]
    have e02 := e01.trans e2
    refine iteF ⟨_, rfl, d, dx, _, rfl, e02 _ _ ob, m1, _, rfl, d, lp, lt, ls, L, y, rfl, hd.same e02, sm, fun H3 e3 => ⟨_, rfl, ?_⟩⟩
    rw [hy]
    have e03 := e02.trans e3
    refine iteF ?_
    refine ⟨_, rfl, _, _, rfl, rfl, _, rfl, ?_⟩
    rw [show decide ((0 : Int) ≤ (a : Int)) = true from decide_eq_true (by omega)]
    refine iteT ⟨_, rfl, _, _, rfl, rfl, _, rfl, ?_⟩
    rw [show decide ((a : Int) < (b : Int)) = true from decide_eq_true (by omega)]
    refine iteT ⟨_, rfl, d, C, dx, _, _, rfl, e03 _ _ ob, dc.cl, dc.nD, dfs_days _ _ _ _, _, _, rfl, rfl, _, rfl, ?_⟩
    rw [show decide ((b : Int) ≤ (L.days : Int)) = true from decide_eq_true (by omega)]
    refine iteF ⟨_, rfl, d, dx, _, rfl, e03 _ _ ob, m3, _, rfl, _, rfl, _, rfl, d, lp, lt, ls, L, y, a, b, rfl, hd.same e03, sm, fun H4 e4 => ⟨_, rfl, ?_⟩⟩
    rw [hlet]
    have e04 := e03.trans e4
    refine iteF ⟨_, rfl, d, C, dx, _, _, rfl, e04 _ _ ob, dc.cl, dc.nS, dfs_st _ _ _ _, .inl ⟨rfl, _, SqL.of (e04 _ _ hls)⟩, ?_⟩
    refine ⟨_, rfl, _, rfl, _, rfl, _, rfl, (show 4 ≤ sizeLine by decide), fun D nD => ?_⟩
    obtain ⟨hd', fr⟩ := (hd.same e04).pushS (p := ⟨x, y, a, b⟩) (e04 _ _ hls) (hrs.same e04) nD
    refine ⟨ls, _, _, rfl, rfl, ?_, ?_, q _ (Fr.of e04 fr) hd'⟩
    · rw [upd_ne (ne_of_none (e04 _ _ hls) nD)]
      exact e04 _ _ hls
    · rw [List.length_map, hrs.1]
      exact Nat.lt_of_lt_of_le l8 (by decide)
end
end Hs
namespace Hs
open PySem PySem.Spec PyProof.Rows L2 Am
/-- a line that may stand behind what is told -/
inductive Step (L : Lore) (ln : Str) : Lore → Prop
  | days {x : Str} {n : Nat} : Txt.split ln " " = [("days" : Str), x] → L.days = 0 → x.length ≤ 600 → Mt.num x.cps.toList = n → (1 ≤ n ∧ n ≤ 14) → Step L ln { L with days := n }
  | place {x r : Str} {n : Nat} {inner : Bool} : Txt.split ln " " = [(if inner then ("flat" : Str) else ("bare" : Str)), x, r] → L.days ≠ 0 → L.prices = [] → L.stays = [] → x.length ≤ 600 → r.length ≤ 600 → nameB x = true → hasP L x = false → Mt.num r.cps.toList = n → (1 ≤ n ∧ n ≤ 9) →
      L.places.length < 4 → (L.places.length = 3 → inner = true ∨ hasF L = true) → Step L ln { L with places := L.places ++ [⟨x, n, inner⟩] }
  | price {x y : Str} {a n : Nat} : Txt.split ln " " = [("price" : Str), x, y] → hasF L = true → L.stays = [] → L.prices.length < 3 → x.length ≤ 600 → y.length ≤ 600 → Mt.num x.cps.toList = a → Mt.num y.cps.toList = n → (∀ p, L.prices.getLast? = some p → p.1 < a) → a < L.days → n ≤ 99 → Step L ln { L with prices := L.prices ++ [(a, n)] }
  | stay {x y u v : Str} {a b : Nat} : Txt.split ln " " = [("lives" : Str), x, y, u, v] → hasF L = true → L.stays.length < 8 → x.length ≤ 600 → y.length ≤ 600 → u.length ≤ 600 → v.length ≤ 600 → nameB x = true → hasP L y = true → Mt.num u.cps.toList = a → Mt.num v.cps.toList = b → a < b → b ≤ L.days → letS L y a b = false → Step L ln { L with stays := L.stays ++ [⟨x, y, a, b⟩] }
theorem Step.small {L L' : Lore} {ln : Str} (h : Step L ln L') (s : Small L) : Small L' := by
  obtain ⟨a, b, c⟩ := s
  cases h with
  | days => exact ⟨a, b, c⟩
  | place => exact ⟨by simp only [List.length_append, List.length_singleton]; omega, b, c⟩
  | price => exact ⟨a, by simp only [List.length_append, List.length_singleton]; omega, c⟩
  | stay => exact ⟨a, b, by simp only [List.length_append, List.length_singleton]; omega⟩
def spTake (C : Addr) : Sp := fun vs H Q _ => ∃ (d lp lt ls : Addr) (L L' : Lore) (ln : Str), vs = [.ref d, .str ln] ∧ DraftAt C H d lp lt ls L ∧ Small L ∧ ln.length ≤ 4000 ∧ Step L ln L' ∧
  ∀ H', Fr [d, lp, lt, ls] H H' → DraftAt C H' d lp lt ls L' → Q (.bl true) H'
section
variable {P : Program} {w : World} {K : PySem.W.Frag} {mg : Str → Option Value} {base : Heap} {C : Addr}
theorem scTake : FnScope ["self", "line", "kind", "words"] ["self", "line"] (defScope sDrTake) := ⟨rfl, rfl, rfl, by decide +kernel, rfl, by decide +kernel, by decide +kernel⟩
theorem ok_take {f : Addr} {fd : FuncData} (F : Fun K "take" "Draft.take" sDrTake f fd) (dc : DC K C) (G1 : GotD P w K mg base C "take_days" 2 ["self", "words"] (spDays C)) (G2 : GotD P w K mg base C "take_place" 2 ["self", "words", "inner"] (spPlace C)) (G3 : GotD P w K mg base C "take_price" 2 ["self", "words"] (spPrice C)) (G4 : GotD P w K mg base C "take_stay" 2 ["self", "words"] (spStay C)) :
    FnOk P w K mg base CX0 3 f fd ["self", "line"] (spTake C) := by
  obtain ⟨f1, fd1, G1, b1, k1⟩ := G1
  obtain ⟨f2, fd2, G2, b2, k2⟩ := G2
  obtain ⟨f3, fd3, G3, b3, k3⟩ := G3
  obtain ⟨f4, fd4, G4, b4, k4⟩ := G4
  refine F.ok scTake (fun vs H Q E h => ?_) (fun cdv A outer s H vs Q E hr h => ?_)
  · obtain ⟨d, lp, lt, ls, L, L', ln, rfl, _⟩ := h
    rfl
  · obtain ⟨d, lp, lt, ls, L, L', ln, rfl, hd, sm, hln, st, q⟩ := h
    refine ⟨_, pss_cons (ps_asg (g := Stt.gStar K (gCons (gName 2) (gCons (gName 3) gNil))) (pe_split (pv 1) pe_str) (Stt.pg_star rfl (pgs_cons (pg_name (i := 2) scTake.nd rfl (.inl rfl)) (Stt.pgs_star (pg_name (i := 3) scTake.nd rfl (.inl rfl))))))
      (pss_cons (ps_if (pt_cmpR op_eq (pv 2) pe_str (nomark _)) (pss_one (ps_ret (pe_meth (pv 0) dc.cl k1 G1 hr b1 .nil pass0 (pa_cons (pv 3) pa_nil)))) pss_nil)
      (pss_cons (ps_if (PW.pt (pw_or (pt_cmpR op_eq (pv 2) pe_str (nomark _)) (pw_or1 (pt_cmpR op_eq (pv 2) pe_str (nomark _))))) (pss_one (ps_ret (pe_meth (pv 0) dc.cl k2 G2 hr b2 .nil pass0 (pa_cons (pv 3) (pa_cons (pe_cmpR op_eq (pv 2) pe_str (nomark _)) pa_nil))))) pss_nil)
      (pss_cons (ps_if (pt_cmpR op_eq (pv 2) pe_str (nomark _)) (pss_one (ps_ret (pe_meth (pv 0) dc.cl k3 G3 hr b3 .nil pass0 (pa_cons (pv 3) pa_nil)))) pss_nil)
      (pss_cons (ps_if (pt_cmpR op_eq (pv 2) pe_str (nomark _)) (pss_one (ps_ret (pe_meth (pv 0) dc.cl k4 G4 hr b4 .nil pass0 (pa_cons (pv 3) pa_nil)))) pss_nil)
      (pss_one (ps_ret pe_bl)))))), ?_⟩
    obtain ⟨dx, ob⟩ := hd.ob
    obtain ⟨m1, m2, m3, m4, m5, m6, m7, m8⟩ := dfs_m L.days lp lt ls
    refine ⟨_, rfl, ⟨_, rfl⟩, _, _, rfl, rfl, by decide +kernel, Nat.le_trans (show ln.length + 2 ≤ 4002 by omega) (by decide), fun D nD => ?_⟩
    have e1 := same_upd (o := .lst ((Txt.split ln " ").map V.str)) nD
    have no : ∀ {u v : Str} {A B : Prop}, ¬ u = v → B → if (decide (V.str u = V.str v)) = true then A else B := fun h b => by
      rw [str_eq, decide_eq_false h]
      exact iteF b
    have big : ∀ {k : Nat}, k ≤ 10 → k ≤ 1000 := fun h => by omega
    cases st with
    | @days x n hs h0 lx hx hn =>
      rw [hs] at e1 ⊢
      refine ⟨D, _, _, rfl, SqL.of upd_same, big (show 1 ≤ 10 by decide), fun D2 nD2 => ?_⟩
      have e2 := e1.trans (same_upd (o := .lst [V.str x]) nD2)
      refine ⟨_, _, rfl, _, _, rfl, rfl, ⟨_, rfl, rfl, _, rfl, iteT ?_⟩⟩
      exact ⟨_, rfl, d, dx, _, rfl, e2 _ _ ob, m4, _, rfl, d, lp, lt, ls, D2, L, x, n, rfl, hd.same e2, upd_same, h0, lx, hx, hn, fun H' fr hd' => q _ (Fr.mono (Fr.of e2 fr) (by simp)) hd'⟩
    | @place x r n inner hs h0 p0 s0 lx lr hx hp hn n19 l4 l3 =>
      rw [hs] at e1 ⊢
      refine ⟨D, _, _, rfl, SqL.of upd_same, big (show 2 ≤ 10 by decide), fun D2 nD2 => ?_⟩
      have e2 := e1.trans (same_upd (o := .lst [V.str x, V.str r]) nD2)
      refine ⟨_, _, rfl, _, _, rfl, rfl, ⟨_, rfl, rfl, _, rfl, no (by cases inner <;> decide +kernel) ?_⟩⟩
      cases inner with
      | true =>
        refine ⟨_, rfl, rfl, _, rfl, iteT (iteT ?_)⟩
        exact ⟨_, rfl, d, dx, _, rfl, e2 _ _ ob, m5, _, rfl, _, rfl, rfl, d, lp, lt, ls, D2, L, x, r, n, true, rfl, hd.same e2, sm, upd_same, h0, p0, s0, lx, lr, hx, hp, hn, n19, l4, l3, fun H' fr hd' => q _ (Fr.mono (Fr.of e2 fr) (by simp)) hd'⟩
      | false =>
        refine ⟨_, rfl, rfl, _, rfl, iteF ⟨_, rfl, rfl, _, rfl, iteT ?_⟩⟩
        exact ⟨_, rfl, d, dx, _, rfl, e2 _ _ ob, m5, _, rfl, _, rfl, rfl, d, lp, lt, ls, D2, L, x, r, n, false, rfl, hd.same e2, sm, upd_same, h0, p0, s0, lx, lr, hx, hp, hn, n19, l4, l3, fun H' fr hd' => q _ (Fr.mono (Fr.of e2 fr) (by simp)) hd'⟩
    | @price x y a n hs hf s0 l3 lx ly hx hy hl ha hn =>
      rw [hs] at e1 ⊢
      refine ⟨D, _, _, rfl, SqL.of upd_same, big (show 2 ≤ 10 by decide), fun D2 nD2 => ?_⟩
      have e2 := e1.trans (same_upd (o := .lst [V.str x, V.str y]) nD2)
      refine ⟨_, _, rfl, _, _, rfl, rfl, ⟨_, rfl, rfl, _, rfl, no (by decide +kernel) ?_⟩⟩
      refine ⟨_, rfl, rfl, _, rfl, no (by decide +kernel) ⟨_, rfl, rfl, _, rfl, no (by decide +kernel) ⟨_, rfl, rfl, _, rfl, iteT ?_⟩⟩⟩
      exact ⟨_, rfl, d, dx, _, rfl, e2 _ _ ob, m6, _, rfl, d, lp, lt, ls, D2, L, x, y, a, n, rfl, hd.same e2, sm, upd_same, hf, s0, l3, lx, ly, hx, hy, hl, ha, hn, fun H' fr hd' => q _ (Fr.mono (Fr.of e2 fr) (by simp)) hd'⟩
    | @stay x y u v a b hs hf l8 lx ly lu lv hx hy hu hv hab hb hl =>
      rw [hs] at e1 ⊢
      refine ⟨D, _, _, rfl, SqL.of upd_same, big (show 4 ≤ 10 by decide), fun D2 nD2 => ?_⟩
      have e2 := e1.trans (same_upd (o := .lst [V.str x, V.str y, V.str u, V.str v]) nD2)
      refine ⟨_, _, rfl, _, _, rfl, rfl, ⟨_, rfl, rfl, _, rfl, no (by decide +kernel) ?_⟩⟩
      refine ⟨_, rfl, rfl, _, rfl, no (by decide +kernel) ⟨_, rfl, rfl, _, rfl, no (by decide +kernel) ⟨_, rfl, rfl, _, rfl, no (by decide +kernel) ⟨_, rfl, rfl, _, rfl, iteT ?_⟩⟩⟩⟩
      exact ⟨_, rfl, d, dx, _, rfl, e2 _ _ ob, m7, _, rfl, d, lp, lt, ls, D2, L, x, y, u, v, a, b, rfl, hd.same e2, sm, upd_same, hf, l8, lx, ly, lu, lv, hx, hy, hu, hv, hab, hb, hl, fun H' fr hd' => q _ (Fr.mono (Fr.of e2 fr) (by simp)) hd'⟩
end
end Hs
/-! for k, x in enumerate(xs, start=..) -/
namespace Enu
open PySem PySem.Spec PyProof.Rows L2
theorem callWith_type_kwB {M : Model} {A : Around} {E : Value → Shared → Prop} {s : Shared} {pos : Pos} {T : String} {first : List Value} {args : List (Bool × Sem Value)} {keywords : List (Option Str × Sem Value)} {Q : Value → Shared → Prop}
    (hplain : (args.any fun x => x.fst) = false) (hkw : (keywords.any fun x => x.fst.isNone) = false)
    (h : wpAny M A (evalArgs (Value.type T) true args keywords) (fun a s₁ => wpAny M A (call (Value.type T) (first ++ a.pos) a.kw) Q E s₁) E s) : wpAny M A (callWith pos (Value.type T) first args keywords) Q E s := by
  unfold callWith
  refine wpAny_bind (wpAny_holding (wpAny_mono h (fun a s₁ h₁ => ?_) fun _ _ z => z))
  refine wpAny_bind (wpAny_standAt ?_)
  simp only [hplain, hkw, Bool.or_false]
  refine wpAny_bind (wpAny_pure ?_)
  refine wpAny_bind (wpAny_mono h₁ (fun r s₂ hr => wpAny_bind (wpAny_holding (wpAny_point (wpAny_pure hr)))) fun _ _ z => z)
def IteF (K : PySem.W.Frag) (a : Addr) (k : Int) : It :=
  { go := fun i H => ∃ xs x, SqL K H a xs ∧ xs[i]? = some x
    yld := fun i H v H' => ∃ T x, v = V.ref T ∧ H T = none ∧ H' = upd H T (HO.tup [V.int (k + i), x]) ∧ ∀ (xs : List V), SqL K H a xs → xs[i]? = some x
    stop := fun i H => ∃ xs, SqL K H a xs ∧ xs.length = i }
theorem turn_enumF {P : Program} {w : World} {K : PySem.W.Frag} {elts : List Expr} {kk : Nat} {tpos : Pos} (a e it : Addr) (k : Int) :
    Turn P w K (Expr.Tuple elts kk tpos) (IteF K a k) [e, it] e fun i h => (∃ old, IsEnum h e it (k + i) old) ∧ h.IsListIter it a i ∧ e ≠ it := by
  refine ⟨by simp, ?_, ?_, ?_, ?_, ?_⟩
  · rintro i h ⟨⟨old, he⟩, ⟨o, ho, hc, hd⟩, ne⟩ b hb
    have e' : b = e ∨ b = it := by simpa using hb
    rcases e' with rfl | rfl
    · exact ⟨_, he, fun v q => nomatch q⟩
    · exact ⟨o, ho, fun v q => by rw [hd] at q; exact nomatch q⟩
  · rintro i h h' ⟨⟨old, he⟩, hi, ne⟩ kp
    exact ⟨⟨old, kp e (by simp) _ he⟩, hi.at fun o q => kp it (by simp) o q, ne⟩
  · rintro X rfl rfl rfl hc i pins s σ H E I hf ⟨⟨old, he⟩, hit, ne⟩ ⟨xs, x, hq, hx⟩
    obtain ⟨its, rv, p, hz⟩ := I.list hq
    obtain ⟨u, hu, ru⟩ := Vals.get rv hx
    have hel := Heap.lt_size he
    have hil : it < s.heap.objs.size := by obtain ⟨w, q, _⟩ := hit; exact Heap.lt_size q
    have hal : s.heap.IsList a its.toArray := p.isList
    have nai : a ≠ it := by
      rintro rfl
      obtain ⟨o1, q1, c1, _⟩ := id hit
      obtain ⟨o2, q2, c2, _⟩ := id hal
      rw [q1] at q2
      cases q2
      rw [c1] at c2
      exact absurd c2 (by decide)
    have nae : a ≠ e := by
      rintro rfl
      obtain ⟨o2, q2, c2, _⟩ := id hal
      have := he.symm.trans q2
      cases this
      exact absurd (show Value.type "enumerate" = Value.type "list" from c2) (by decide)
    have G := GoesN.enumFrom (elts := elts) (x1 := kk) (pos := tpos) k (Draws.list (prog := X.prog) (w := X.w) (A := X.A.in1) (I.ok.hd hc) it a nai its.toArray) e ne (by simp [ne, nae.symm]) (by simp)
    have ilt : i < its.toArray.size := by
      have h1 := (List.getElem?_eq_some_iff.mp hu).1
      simpa using h1
    refine G.goes i s _ E ilt ⟨⟨old, he⟩, hit, hal⟩ ?_
    rintro v h' tk ⟨T, t, y, rfl, hT, hy, hTu⟩ ⟨hen, hit', hal'⟩ kp htk
    have ey : y = u := by
      have h1 : its.toArray[i]? = some u := by rw [List.getElem?_toArray]; exact hu
      exact Option.some.inj (hy.symm.trans h1)
    subst ey
    obtain ⟨oT, qT, cT, nT, dT⟩ := hTu
    refine ⟨.ref T, upd H T (.tup [.int (k + i), x]), Inv.turnedNew (ch := [e, it]) I (fun b o nb z => kp b o nb z) hf hT ?_, rfl, ⟨T, x, rfl, I.hok.fresh hT, rfl, fun ys hys => ?_⟩, ⟨?_, hit', ne⟩, fun b hb => ?_⟩
    · exact ⟨(show 2 ≤ sizeLine by decide), [Value.int (k + i) t, y], .cons ⟨t, rfl⟩ (.cons ru .nil), oT, qT, cT, nT, dT⟩
    · rw [I.list_inj hys hq]
      exact hx
    · exact hen
    · have e' : b = e ∨ b = it := by simpa using hb
      have hlt : b < s.heap.objs.size := by rcases e' with rfl | rfl <;> assumption
      rw [upd_ne (Nat.ne_of_lt (Nat.lt_of_lt_of_le hlt hT))]
      exact (hf b hb).1
  · rintro X rfl rfl rfl hc i pins s σ H E I hf ⟨⟨old, he⟩, hit, ne⟩ ⟨xs, hq, hx⟩
    obtain ⟨its, rv, p, hz⟩ := I.list hq
    have hal : s.heap.IsList a its.toArray := p.isList
    have nai : a ≠ it := by
      rintro rfl
      obtain ⟨o1, q1, c1, _⟩ := id hit
      obtain ⟨o2, q2, c2, _⟩ := id hal
      rw [q1] at q2
      cases q2
      rw [c1] at c2
      exact absurd c2 (by decide)
    have nae : a ≠ e := by
      rintro rfl
      obtain ⟨o2, q2, c2, _⟩ := id hal
      have := he.symm.trans q2
      cases this
      exact absurd (show Value.type "enumerate" = Value.type "list" from c2) (by decide)
    have G := GoesN.enumFrom (elts := elts) (x1 := kk) (pos := tpos) k (Draws.list (prog := X.prog) (w := X.w) (A := X.A.in1) (I.ok.hd hc) it a nai its.toArray) e ne (by simp [ne, nae.symm]) (by simp)
    have en : its.toArray.size = i := by
      rw [← hx, rv.length]
      simp
    rw [← en] at he hit
    refine wpAny_mono (G.stops s (fun s1 => L2.Inv X pins σ H s1) E ⟨⟨old, he⟩, hit, hal⟩ ?_) (fun _ _ z => z) fun _ _ z => z
    intro h' tk kp htk
    exact I.turnedL (ch := [e, it]) (fun b o nb z => kp b o nb z) hf
  · rintro A i s Q E ⟨⟨old, he⟩, _⟩ q
    exact wpAny_pyIter_enum he q
theorem walk_enumF {K : PySem.W.Frag} {a : Addr} {xs : List V} {k : Int} : Walk (IteF K a k) xs.length (fun H => SqL K H a xs) (YPair (fun i => some (V.int (k + i))) fun i => xs[i]?) := by
  refine ⟨fun i H hi g => ⟨xs, xs[i], g, List.getElem?_eq_getElem hi⟩, fun H g => ⟨xs, g, rfl⟩, ?_⟩
  rintro i H x H' hi g ⟨T, y, rfl, nT, rfl, hy⟩
  exact ⟨T, _, y, rfl, nT, rfl, rfl, hy xs g⟩
def iEnumS (K : PySem.W.Frag) (ta tk : TA) : TI := fun σ H R => ta σ H fun vs H1 => tk σ H1 fun zs H2 => ∃ a xs k, vs = [V.ref a] ∧ zs = [V.int k] ∧ -2 ^ 63 ≤ k ∧ k < 2 ^ 63 ∧ SqL K H2 a xs ∧ R (IteF K a k) H2
theorem pi_enumS {X : Cx} {e : Expr} {ta tk : TA} {p pos tpos : Pos} {elts : List Expr} {kk : Nat} {kws : List Keyword} (hg : Gl X "enumerate") (hm : X.mg "enumerate" = none) (ha : PA X [e] ta) (hk : PK X kws tk)
    (he : backTo pos (starEach [e] X.env) = [(false, eval e X.env)] := by rfl)
    (hpl : ((backTo pos (starEach [e] X.env)).any fun x => x.fst) = false := by rfl)
    (hall : ((backToKw pos (keywordEach kws X.env)).all fun x => x.fst.isSome) = true := by rfl)
    (hnone : ((backToKw pos (keywordEach kws X.env)).any fun x => x.fst.isNone) = false := by rfl)
    (hks : List.filterMap (fun x => x.fst) (backToKw pos (keywordEach kws X.env)) = [("start" : Str)] := by rfl) :
    PI X (Expr.Tuple elts kk tpos) ((Expr.Name "enumerate" p).Call [e] kws pos) (iEnumS X.K ta tk) := by
  refine ⟨fun pins s σ H R I h => wpAny_Call_Name_kw (ld_blt I hg hm boot_enumerate (callWith_type_kwB hpl hnone ?_) (by decide +kernel) (by decide +kernel))⟩
  rw [he]
  refine evalArgs_kwB hall ?_
  have h0 := ha.run pos pins s σ H _ I h
  rw [he] at h0
  refine thn h0 ?_
  rintro us s1 ⟨vs, H1, I1, r1, q1⟩
  refine thn (hk.run pos pins s1 σ H1 _ I1 q1) ?_
  rintro ws s2 ⟨zs, H2, I2, r2, a, xs, k, rfl, rfl, k1, k2, hq, q⟩
  rw [hks]
  cases r1 with
  | cons ra rra =>
  cases rra
  cases ra
  cases r2 with
  | cons rk rrk =>
  cases rrk
  obtain ⟨tt, rfl⟩ := rk
  obtain ⟨its, rv, p', hz⟩ := I2.list hq
  refine enum_begins_start (begins_list a its.toArray) p'.isList k1 k2 ?_
  intro h' hen hit hsz hkp
  have I3 := I2.kept (t' := s2.toks) hkp
  refine wpAny_pyIter_enum hen ?_
  refine ⟨s2.heap.objs.size + 1, [s2.heap.objs.size + 1, s2.heap.objs.size], _, IteF X.K a k, H2, rfl, I3, turn_enumF a (s2.heap.objs.size + 1) s2.heap.objs.size k, ⟨⟨Value.none, ?_⟩, ?_, Nat.succ_ne_self _⟩, fun b hb => ?_, q⟩
  · rw [show k + ((0 : Nat) : Int) = k from Int.add_zero k]
    exact hen
  · exact ⟨_, hit, rfl, rfl⟩
  · have e' : b = s2.heap.objs.size + 1 ∨ b = s2.heap.objs.size := by simpa using hb
    have hle : s2.heap.objs.size ≤ b := by
      rcases e' with z | z
      · rw [z]; exact Nat.le_add_right _ 1
      · rw [z]; exact Nat.le_refl _
    exact Inv.fpOk I2 hle (HOk.fresh I2.hok hle)
end Enu
namespace Hs
open PySem PySem.Spec PyProof.Rows L2 Am
def L0 : Lore := ⟨0, [], [], []⟩
inductive Steps : Lore → List Str → Lore → Prop
  | nil {L : Lore} : Steps L [] L
  | cons {L L1 L2 : Lore} {l : Str} {ls : List Str} : Step L l L1 → Steps L1 ls L2 → Steps L (l :: ls) L2
def spInitD (C : Addr) : Sp := fun vs H Q _ => ∃ x dx, vs = [.ref x] ∧ H x = some (.ins C dx []) ∧
  ∀ H' lp lt ls, Fr [x] H H' → DraftAt C H' x lp lt ls L0 → H lp = none → H lt = none → H ls = none → Q .non H'
section
variable {P : Program} {w : World} {K : PySem.W.Frag} {mg : Str → Option Value} {base : Heap} {C : Addr}
theorem scDrInit : FnScope ["self"] ["self"] (defScope sDrInit) := ⟨rfl, rfl, rfl, by decide +kernel, rfl, by decide +kernel, by decide +kernel⟩
theorem LstAt.nil {α : Type} {f : α → HO} {H : Hp} {l : Addr} (h : H l = some (.lst [])) : LstAt f H l [] := ⟨[], h, Refs.nil⟩
theorem none_of {H : Hp} {a b : Addr} {o : HO} (h : upd H a o b = none) : b ≠ a ∧ H b = none := by
  have n : b ≠ a := fun z => by rw [z, upd_same] at h; cases h
  exact ⟨n, by rw [upd_ne n] at h; exact h⟩
theorem ok_drInit {f : Addr} {fd : FuncData} (F : Fun K "__init__" "Draft.__init__" sDrInit f fd) (dc : DC K C) : FnOk P w K mg base CX0 1 f fd ["self"] (spInitD C) := by
  refine F.ok scDrInit (fun vs H Q E h => ?_) (fun cdv A outer s H vs Q E hr h => ?_)
  · obtain ⟨x, dx, rfl, _⟩ := h
    rfl
  · obtain ⟨x, dx, rfl, ob, q⟩ := h
    refine ⟨_, pss_cons (ps_fld (pv 0) pe_int rfl) (pss_cons (ps_fld (pv 0) (pe_lst pa_nil) rfl) (pss_cons (ps_fld (pv 0) (pe_lst pa_nil) rfl) (pss_one (ps_fld (pv 0) (pe_lst pa_nil) rfl)))), ?_⟩
    refine ⟨_, rfl, x, C, dx, _, rfl, ob, dc.cl, dc.nD, by decide, ?_⟩
    refine ⟨by decide, fun lp nlp => ⟨_, rfl, x, C, dx, _, rfl, (by rw [upd_ne (ne_of_none upd_same nlp)]; exact upd_same), dc.cl, dc.nP, by decide +kernel, ?_⟩⟩
    refine ⟨by decide, fun lt nlt => ⟨_, rfl, x, C, dx, _, rfl, (by rw [upd_ne (ne_of_none upd_same nlt)]; exact upd_same), dc.cl, dc.nT, ?_, ?_⟩⟩
    · simp only [putF, if_neg n_dp]
      show 2 < 1000
      decide
    refine ⟨by decide, fun ls nls => ⟨_, rfl, x, C, dx, _, rfl, (by rw [upd_ne (ne_of_none upd_same nls)]; exact upd_same), dc.cl, dc.nS, ?_, ?_⟩⟩
    · simp only [putF, if_neg n_dp, if_neg n_dt, if_neg n_pt]
      show 3 < 1000
      decide
    obtain ⟨p1, p2⟩ := none_of nlp
    obtain ⟨t1, t2⟩ := none_of nlt
    obtain ⟨t3, t4⟩ := none_of t2
    obtain ⟨_, t5⟩ := none_of t4
    obtain ⟨s1, s2⟩ := none_of nls
    obtain ⟨s3, s4⟩ := none_of s2
    obtain ⟨_, s5⟩ := none_of s4
    obtain ⟨s6, s7⟩ := none_of s5
    obtain ⟨_, s8⟩ := none_of s7
    refine q _ lp lt ls (fun b u e nb => ?_) ⟨⟨dx, upd_same⟩, LstAt.nil ?_, LstAt.nil ?_, LstAt.nil ?_, Ne.symm t3, Ne.symm s6, Ne.symm s3⟩ p2 t5 s8
    · have n0 : b ≠ x := fun z => nb (by rw [z]; simp)
      have n1 := ne_of_none e p2
      have n2 := ne_of_none e t5
      have n3 := ne_of_none e s8
      rw [upd_ne n0, upd_ne n3, upd_ne n0, upd_ne n2, upd_ne n0, upd_ne n1, upd_ne n0]
      exact e
    · rw [upd_ne p1, upd_ne (Ne.symm s6), upd_ne p1, upd_ne (Ne.symm t3), upd_ne p1, upd_same]
    · rw [upd_ne t1, upd_ne (Ne.symm s3), upd_ne t1, upd_same]
    · rw [upd_ne s1, upd_same]
end
end Hs
namespace Hs
open PySem PySem.Spec PyProof.Rows L2 Am
/-- a text that tells a house -/
structure Told (x : Str) (L : Lore) : Prop where
  st : Steps L0 (Txt.split x "\n") L
  hf : hasF L = true
  ls : ∀ l ∈ Txt.split x "\n", l.length ≤ 4000
  n : (Txt.split x "\n").length ≤ 1000
  len : x.length ≤ 100000
def spDrafted (C : Addr) : Sp := fun vs H Q _ => ∃ (x : Str) (L : Lore), vs = [.str x] ∧ Told x L ∧
  ∀ H' d lp lt ls, Same H H' → DraftAt C H' d lp lt ls L → H d = none → H lp = none → H lt = none → H ls = none → Small L → Q (.ref d) H'
theorem L0_small : Small L0 := ⟨by decide, by decide, by decide⟩
section
variable {P : Program} {w : World} {K : PySem.W.Frag} {mg : Str → Option Value} {base : Heap} {C : Addr}
theorem scDrafted : FnScope ["text", "draft", "lines", "at", "line"] ["text"] (defScope sDrafted) := ⟨rfl, rfl, rfl, by decide +kernel, rfl, by decide +kernel, by decide +kernel⟩
theorem ok_drafted {f fi : Addr} {fd fdi : FuncData} (F : Fun K "drafted" "drafted" sDrafted f fd) (dc : DC K C) (T : Nm mg) (ns : mg "str" = none) (ne : mg "enumerate" = none)
    (M : Mk K C fi) (GI : FnOk P w K mg base CX0 1 fi fdi ["self"] (spInitD C)) (bI : Binds K fdi ["self"] []) (mC : mg "Draft" = some (.ref C))
    (GT : GotD P w K mg base C "take" 3 ["self", "line"] (spTake C)) (GFl : GotD P w K mg base C "has_flat" 1 ["self"] (spHasF C)) : FnOk P w K mg base CX0 4 f fd ["text"] (spDrafted C) := by
  obtain ⟨f1, fd1, GT, b1, k1⟩ := GT
  obtain ⟨fL, fdL, GFl, bL, mL⟩ := GFl
  refine F.ok scDrafted (fun vs H Q E h => ?_) (fun cdv A outer s H vs Q E hr h => ?_)
  · obtain ⟨x, L, rfl, _⟩ := h
    rfl
  · obtain ⟨x, L, rfl, td, q⟩ := h
    have b_str : bootBuiltins "str" = some (.type "str") := by decide +kernel
    have hr2 : Room 2 _ := hr.mono (by decide)
    have hr1 : Room 1 _ := hr.mono (by decide)
    refine ⟨_, pss_cons (ps_if (pt_not (pt_val (pe_callB call_isi (by rfl) T.isi b_isi (pa_cons (pv 0) (pa_cons (pe_bltn (v := .ty "str") (by rfl) ns b_str rfl) pa_nil))))) (pss_one ps_never) pss_nil)
      (pss_cons (ps_par (by rfl) scDrafted.nd (i := 1) (j := 2) rfl rfl (by decide) rfl rfl (pa_cons (pe_make0 M GI hr2 (by rfl) mC bI .nil pass0) (pa_cons (pe_split (pv 0) pe_str) pa_nil)) (by rfl))
      (pss_cons (ps_for (g := gTup K 2 (gCons (gName 3) (gCons (gName 4) gNil))) PassesOwn.never rfl (Enu.pi_enumS (by rfl) ne (pa_cons (pv 2) pa_nil) (pk_cons pe_int pk_nil))
        (pg_tup rfl (pgs_cons (pg_name (i := 3) scDrafted.nd rfl (.inl rfl)) (pgs_cons (pg_name (i := 4) scDrafted.nd rfl (.inl rfl)) pgs_nil)))
        (pss_one (ps_if (pt_not (pt_val (pe_meth (pv 1) dc.cl k1 GT hr b1 .nil pass0 (pa_cons (pv 4) pa_nil)))) (pss_one ps_never) pss_nil)))
      (pss_cons (ps_if (pt_not (pt_val (pe_meth0 (pv 1) dc.cl mL GFl hr1 bL .nil pass0))) (pss_one ps_never) pss_nil)
      (pss_one (ps_ret (pv 1)))))), ?_⟩
    refine ⟨_, rfl, .str x, .ty "str", .type "str", .type "str", _, rfl, .ty _, .base (Bk.tyOf (.str x)), kstr, _, rfl, iteF ?_⟩
    intro d dx nd ndx ndd
    have e0 : Same H (upd (upd H dx (.own d)) d (.ins C dx [])) := (same_upd ndx).trans (same_upd (by rw [upd_ne (Ne.symm ndd)]; exact nd))
    refine ⟨d, dx, rfl, upd_same, fun H1 lp lt ls fr1 hd z1 z2 z3 => ⟨rfl, ?_⟩⟩
    have e01 : Same H H1 := fun b u e => fr1 b u (e0 b u e) (by simpa using ne_of_none e nd)
    have hlp := (none_of (none_of z1).2).2
    have hlt := (none_of (none_of z2).2).2
    have hls := (none_of (none_of z3).2).2
    refine ⟨_, rfl, ⟨_, rfl⟩, _, _, rfl, rfl, by decide +kernel, Nat.le_trans (show x.length + 2 ≤ 100002 by have := td.len; omega) (by decide), fun l nl => ⟨_, _, rfl, ?_⟩⟩
    have e2 := same_upd (o := .lst ((Txt.split x "\n").map V.str)) nl
    have nld : l ≠ d ∧ l ≠ lp ∧ l ≠ lt ∧ l ≠ ls := by
      obtain ⟨dy, ob⟩ := hd.ob
      obtain ⟨_, a1, _⟩ := hd.pl
      obtain ⟨_, a2, _⟩ := hd.pr
      obtain ⟨_, a3, _⟩ := hd.st
      exact ⟨(ne_of_none ob nl).symm, (ne_of_none a1 nl).symm, (ne_of_none a2 nl).symm, (ne_of_none a3 nl).symm⟩
    have qn := td.n
    have qs := td.st
    have ql := td.ls
    generalize hlines : Txt.split x "\n" = lines at e2 qn qs ql ⊢
    refine ⟨_, rfl, l, _, 1, rfl, rfl, by decide, by decide, SqL.of upd_same, for_it (Enu.walk_enumF (xs := lines.map V.str)) (fun i σ H' => ∃ Li s3 s4, σ = [some (.str x), some (.ref d), some (.ref l), s3, s4] ∧ Steps Li (lines.drop i) L ∧ DraftAt C H' d lp lt ls Li ∧ Small Li ∧ Same H H' ∧ H' l = some (.lst (lines.map V.str))) ?_ ?_ ?_ ?_⟩
    · exact ⟨L0, _, _, rfl, qs, hd.same e2, L0_small, e01.trans e2, upd_same⟩
    · rintro i σ H' _ ⟨_, _, _, _, _, _, _, _, h⟩
      exact SqL.of h
    · rintro i v σ H2 H3 hi ⟨Li, s3, s4, rfl, hst, hdi, smi, esi, hli⟩ ⟨T, v1, v2, rfl, nT, rfl, hv1, hv2⟩
      have hi' : i < lines.length := by simpa using hi
      obtain rfl : v2 = .str lines[i] := by
        replace hv2 : (lines.map V.str)[i]? = some v2 := hv2
        rw [List.getElem?_map, List.getElem?_eq_getElem hi'] at hv2
        exact (Option.some.inj hv2).symm
      rw [List.drop_eq_getElem_cons hi'] at hst
      cases hst with
      | @cons _ L1 _ _ _ st1 st2 =>
      have e3 := same_upd (o := .tup [v1, .str lines[i]]) nT
      obtain ⟨dy, ob⟩ := (hdi.same e3).ob
      obtain ⟨m1, m2, m3, m4, m5, m6, m7, m8⟩ := dfs_m Li.days lp lt ls
      refine ⟨T, _, rfl, SqT.of upd_same, rfl, _, _, rfl, _, _, rfl, rfl, ?_⟩
      refine ⟨_, rfl, d, dy, _, rfl, ob, m8, _, rfl, d, lp, lt, ls, Li, L1, lines[i], rfl, hdi.same e3, smi, ql _ (List.getElem_mem hi'), st1, fun H4 fr4 hd4 => ⟨_, rfl, iteF ?_⟩⟩
      refine ⟨L1, _, _, rfl, st2, hd4, st1.small smi, fun b u e => fr4 b u (e3 b u (esi b u e)) ?_, fr4 _ _ (e3 _ _ hli) (by simp [nld.1, nld.2.1, nld.2.2.1, nld.2.2.2])⟩
      have a0 := ne_of_none e nd
      have a1 := ne_of_none e hlp
      have a2 := ne_of_none e hlt
      have a3 := ne_of_none e hls
      simp [a0, a1, a2, a3]
    · rintro σ H2 ⟨Li, s3, s4, rfl, hst, hdi, smi, esi, hli⟩
      rw [show lines.drop (lines.map V.str).length = [] from by rw [List.length_map]; exact List.drop_length] at hst
      cases hst
      obtain ⟨dy, ob⟩ := hdi.ob
      obtain ⟨m1, m2, m3, m4, m5, m6, m7, m8⟩ := dfs_m L.days lp lt ls
      refine ⟨_, rfl, d, dy, _, rfl, ob, m2, d, lp, lt, ls, L, rfl, hdi, smi, fun H3 e3 => ⟨_, rfl, ?_⟩⟩
      rw [td.hf]
      refine iteF ⟨_, rfl, ?_⟩
      exact q _ d lp lt ls (esi.trans e3) (hdi.same e3) nd hlp hlt hls smi
end
end Hs
/-! who lives where, and what a unit costs, day by day -/
namespace Hs
open PySem PySem.Spec PyProof.Rows L2 Am
def tenD (ss : List St) (x : Str) (k : Nat) : Str := ss.foldl (fun acc s => if s.pl = x ∧ (s.a ≤ k ∧ k < s.b) then s.who else acc) "house"
def priD (ps : List (Nat × Nat)) (k : Nat) : Nat := ps.foldl (fun acc p => if p.1 ≤ k then p.2 else acc) 1
def row {α : Type} (n : Nat) (g : α → V) (f : Nat → α) : List V := (List.range n).map fun k => g (f k)
structure Good (L : Lore) : Prop where
  d : L.days ≤ 14
  st : ∀ s ∈ L.stays, s.a < s.b ∧ s.b ≤ L.days
  pr : ∀ p ∈ L.prices, p.1 < L.days
theorem row_len {α : Type} {n : Nat} {g : α → V} {f : Nat → α} : (row n g f).length = n := by unfold row; simp
theorem row_set {α : Type} {n : Nat} {g : α → V} {f f' : Nat → α} {m : Nat} {v : α} (h : ∀ k, f' k = if k = m then v else f k) : (row n g f).set m (g v) = row n g f' := by
  apply List.ext_getElem?
  intro k
  unfold row
  rw [List.getElem?_set, List.getElem?_map, List.getElem?_map, List.length_map, List.length_range]
  by_cases c : m = k
  · subst c
    by_cases z : m < n
    · rw [if_pos rfl, if_pos z, List.getElem?_range z]
      simp [h]
    · rw [if_pos rfl, if_neg z, List.getElem?_eq_none (by simpa using z)]
      rfl
  · rw [if_neg c]
    cases hk : (List.range n)[k]? with
    | none => rfl
    | some j =>
      have e : j = k := by
        rw [List.getElem?_eq_some_iff] at hk
        obtain ⟨z, hz⟩ := hk
        simp at hz
        exact hz.symm
      subst e
      simp [h, Ne.symm c]
theorem rep_row {α : Type} (n : Nat) (g : α → V) (a : α) : (List.replicate n [g a]).flatten = row n g (fun _ => a) := by
  unfold row
  induction n with
  | zero => rfl
  | succ n ih => rw [List.replicate_succ', List.flatten_append, ih, List.range_succ, List.map_append]; rfl
theorem tenD_step {ss : List St} {x : Str} {k i : Nat} {s : St} (h : ss[i]? = some s) : tenD (ss.take (i + 1)) x k = if s.pl = x ∧ (s.a ≤ k ∧ k < s.b) then s.who else tenD (ss.take i) x k := by
  unfold tenD
  rw [List.take_add_one, h, List.foldl_append]
  rfl
theorem priD_step {ss : List (Nat × Nat)} {k i : Nat} {s : Nat × Nat} (h : ss[i]? = some s) : priD (ss.take (i + 1)) k = if s.1 ≤ k then s.2 else priD (ss.take i) k := by
  unfold priD
  rw [List.take_add_one, h, List.foldl_append]
  rfl
theorem ixN_of {n k : Nat} (h : k < n) : ixN n (k : Int) = some k := by
  unfold ixN
  rw [if_pos (by omega), if_pos (by omega)]
  exact congrArg some (by omega)
def spTen (C : Addr) : Sp := fun vs H Q _ => ∃ (d lp lt ls : Addr) (L : Lore) (x : Str), vs = [.str x, .ref d] ∧ DraftAt C H d lp lt ls L ∧ Small L ∧ Good L ∧
  ∀ H' t, Same H H' → H t = none → H' t = some (.tup (row L.days V.str (tenD L.stays x))) → Q (.ref t) H'
def spPri (C : Addr) : Sp := fun vs H Q _ => ∃ (d lp lt ls : Addr) (L : Lore), vs = [.ref d] ∧ DraftAt C H d lp lt ls L ∧ Small L ∧ Good L ∧
  ∀ H' t, Same H H' → H t = none → H' t = some (.tup (row L.days (fun n : Nat => V.int n) (priD L.prices))) → Q (.ref t) H'
section
variable {P : Program} {w : World} {K : PySem.W.Frag} {mg : Str → Option Value} {base : Heap} {C : Addr}
theorem scTenants : FnScope ["name", "draft", "row", "person", "place", "first", "behind", "day"] ["name", "draft"] (defScope sTenants) := ⟨rfl, rfl, rfl, by decide +kernel, rfl, by decide +kernel, by decide +kernel⟩
theorem ok_tenants {f : Addr} {fd : FuncData} (F : Fun K "tenants" "tenants" sTenants f fd) (dc : DC K C) (T : Nm mg) (nt : mg "tuple" = none) (mN : ∃ t, mg "NOBODY" = some (.str "house" t)) : FnOk P w K mg base CX0 1 f fd ["name", "draft"] (spTen C) := by
  obtain ⟨tN, mN⟩ := mN
  refine F.ok scTenants (fun vs H Q E h => ?_) (fun cdv A outer s H vs Q E hr h => ?_)
  · obtain ⟨d, lp, lt, ls, L, x, rfl, _⟩ := h
    rfl
  · obtain ⟨d, lp, lt, ls, L, x, rfl, hd, sm, gd, q⟩ := h
    refine ⟨_, pss_cons (ps_set (i := 2) scTenants.nd rfl (.inl rfl) (pe_op op_rep (pe_lst (pa_cons (pe_glob (v := .str "house") (by rfl) mN ⟨_, rfl⟩) pa_nil)) (pe_fld (pv 1) rfl)))
      (pss_cons (ps_for (g := gTup K 4 (gCons (gName 3) (gCons (gName 4) (gCons (gName 5) (gCons (gName 6) gNil))))) PassesOwn.never rfl (pi_list (pe_fld (pv 1) rfl))
        (pg_tup rfl (pgs_cons (pg_name (i := 3) scTenants.nd rfl (.inl rfl)) (pgs_cons (pg_name (i := 4) scTenants.nd rfl (.inl rfl)) (pgs_cons (pg_name (i := 5) scTenants.nd rfl (.inl rfl)) (pgs_cons (pg_name (i := 6) scTenants.nd rfl (.inl rfl)) pgs_nil)))))
        (pss_one (ps_if (pt_cmpR op_eq (pv 4) (pv 0) (nomark _)) (pss_one (ps_for PassesOwn.never rfl (pi_range2 (by rfl) T.range (pa_cons (pv 5) (pa_cons (pv 6) pa_nil))) (pg_name (i := 7) scTenants.nd rfl (.inl rfl))
          (pss_one (ps_asg (pv 3) (pg_sub (pv 2) (pv 7) set_list))))) pss_nil)))
      (pss_one (ps_ret (pe_tupleOf (by rfl) nt (pv 2))))), ?_⟩
    obtain ⟨dx, ob⟩ := hd.ob
    obtain ⟨rs, hls, hrs⟩ := hd.st
    refine ⟨by decide, fun D nD => ⟨_, rfl, d, C, dx, _, _, rfl, same_upd nD _ _ ob, dc.cl, dc.nD, dfs_days _ _ _ _, ?_⟩⟩
    have e1 := same_upd (o := .lst [V.str "house"]) nD
    refine ⟨D, (L.days : Int), _, rfl, rfl, upd_same, by omega, by have := gd.d; omega, ?_, fun r nr => ?_⟩
    · have := gd.d
      exact Nat.le_trans (show 1 * L.days ≤ 14 by omega) (by decide)
    rw [show ((L.days : Int)).toNat = L.days from rfl, rep_row L.days V.str ("house" : Str)]
    have nrH : H r = none := (none_of nr).2
    have e2 := e1.trans (same_upd (o := .lst (row L.days V.str fun _ => ("house" : Str))) nr)
    refine ⟨_, rfl, d, C, dx, _, _, rfl, e2 _ _ ob, dc.cl, dc.nS, dfs_st _ _ _ _, ls, rfl, ⟨_, SqL.of (e2 _ _ hls)⟩, ?_⟩
    refine for_it (walk_list (xs := rs.map V.ref)) (fun i σ H' => ∃ s3 s4 s5 s6 s7, σ = [some (.str x), some (.ref d), some (.ref r), s3, s4, s5, s6, s7] ∧ Same H H' ∧ H' r = some (.lst (row L.days V.str (tenD (L.stays.take i) x)))) ?_ ?_ ?_ ?_
    · exact ⟨_, _, _, _, _, rfl, e2, upd_same⟩
    · rintro i σ H' _ ⟨_, _, _, _, _, _, es, _⟩
      exact SqL.of (es _ _ hls)
    · rintro i v σ H1 H2 hi ⟨s3, s4, s5, s6, s7, rfl, es, hr⟩ ⟨rfl, hv⟩
      obtain ⟨p, s, rfl, hp', hs, ho⟩ := hrs.at hv
      obtain ⟨g1, g2⟩ := gd.st s (List.mem_of_getElem? hs)
      have gd14 := gd.d
      refine ⟨p, _, rfl, SqT.of (es _ _ ho), rfl, _, _, rfl, _, _, rfl, _, _, rfl, _, _, rfl, rfl, ?_⟩
      refine ⟨_, rfl, _, rfl, rfl, _, rfl, ?_⟩
      rw [str_eq]
      cases c : decide (s.pl = x) with
      | false =>
        refine iteF ⟨_, _, _, _, _, rfl, es, ?_⟩
        have c' := of_decide_eq_false c
        rw [hr]
        congr 2
        unfold row
        apply List.map_congr_left
        intro k _
        rw [tenD_step hs, if_neg (fun z => c' z.1)]
      | true =>
        have c' := of_decide_eq_true c
        refine iteT ⟨_, rfl, _, rfl, (s.a : Int), (s.b : Int), rfl, ⟨by omega, by omega, by omega, by omega⟩, ?_⟩
        refine for_it walk_range (fun j σ H' => ∃ s7, σ = [some (.str x), some (.ref d), some (.ref r), some (.str s.who), some (.str s.pl), some (.int s.a), some (.int s.b), s7] ∧ Same H H' ∧ H' r = some (.lst (row L.days V.str fun k => if s.a ≤ k ∧ k < s.a + j then s.who else tenD (L.stays.take i) x k))) ?_ (fun _ _ _ _ _ => trivial) ?_ ?_
        · refine ⟨_, rfl, es, ?_⟩
          rw [hr]
          congr 2
          unfold row
          apply List.map_congr_left
          intro k _
          show V.str _ = V.str (if s.a ≤ k ∧ k < s.a + 0 then s.who else tenD (List.take i L.stays) x k)
          rw [if_neg (by omega)]
        · rintro j v σ H3 H4 hj ⟨s7, rfl, es3, hr3⟩ ⟨rfl, rfl⟩
          have hj' : s.a + j < L.days := by omega
          refine ⟨_, rfl, _, rfl, _, rfl, r, _, _, s.a + j, rfl, rfl, hr3, ?_, ?_⟩
          · rw [row_len, show (s.a : Int) + (j : Int) = ((s.a + j : Nat) : Int) by omega]
            exact ixN_of hj'
          · refine ⟨_, rfl, fun b u e => ?_, ?_⟩
            · rw [upd_ne (ne_of_none e nrH)]
              exact es3 _ _ e
            · rw [upd_same]
              congr 2
              refine row_set fun k => ?_
              by_cases c1 : k = s.a + j
              · rw [if_pos c1, if_pos (by omega)]
              · rw [if_neg c1]
                by_cases c2 : s.a ≤ k ∧ k < s.a + j
                · rw [if_pos c2, if_pos (by omega)]
                · rw [if_neg c2, if_neg (by omega)]
        · rintro σ H3 ⟨s7, rfl, es3, hr3⟩
          refine ⟨_, _, _, _, _, rfl, es3, ?_⟩
          rw [hr3]
          congr 2
          unfold row
          apply List.map_congr_left
          intro k _
          show V.str (if s.a ≤ k ∧ k < s.a + ((s.b : Int) - (s.a : Int)).toNat then s.who else tenD (List.take i L.stays) x k) = _
          rw [tenD_step hs, show s.a + ((s.b : Int) - (s.a : Int)).toNat = s.b by omega]
          by_cases c2 : s.a ≤ k ∧ k < s.b
          · rw [if_pos c2, if_pos ⟨c', c2⟩]
          · rw [if_neg c2, if_neg (fun z => c2 z.2)]
    · rintro σ H1 ⟨s3, s4, s5, s6, s7, rfl, es, hr⟩
      rw [show L.stays.take (rs.map V.ref).length = L.stays from by rw [List.length_map, hrs.1]; exact List.take_length] at hr
      refine ⟨_, rfl, .inl ⟨r, _, rfl, SqL.of hr, fun t nt => ?_⟩⟩
      refine q _ t (es.trans (same_upd nt)) ?_ upd_same
      cases ht : H t with
      | none => rfl
      | some u => rw [es _ _ ht] at nt; cases nt
end
end Hs
namespace Hs
open PySem PySem.Spec PyProof.Rows L2 Am
section
variable {P : Program} {w : World} {K : PySem.W.Frag} {mg : Str → Option Value} {base : Heap} {C : Addr}
theorem scPrices : FnScope ["draft", "row", "first", "number", "day"] ["draft"] (defScope sPricesOf) := ⟨rfl, rfl, rfl, by decide +kernel, rfl, by decide +kernel, by decide +kernel⟩
theorem ok_prices {f : Addr} {fd : FuncData} (F : Fun K "prices" "prices" sPricesOf f fd) (dc : DC K C) (T : Nm mg) (nt : mg "tuple" = none) (mF : ∃ i t, mg "FIRST_PRICE" = some (.int i t) ∧ i = 1) : FnOk P w K mg base CX0 1 f fd ["draft"] (spPri C) := by
  obtain ⟨_, tF, mF, rfl⟩ := mF
  refine F.ok scPrices (fun vs H Q E h => ?_) (fun cdv A outer s H vs Q E hr h => ?_)
  · obtain ⟨d, lp, lt, ls, L, rfl, _⟩ := h
    rfl
  · obtain ⟨d, lp, lt, ls, L, rfl, hd, sm, gd, q⟩ := h
    refine ⟨_, pss_cons (ps_set (i := 1) scPrices.nd rfl (.inl rfl) (pe_op op_rep (pe_lst (pa_cons (pe_glob (v := .int 1) (by rfl) mF ⟨_, rfl⟩) pa_nil)) (pe_fld (pv 0) rfl)))
      (pss_cons (ps_for (g := gTup K 2 (gCons (gName 2) (gCons (gName 3) gNil))) PassesOwn.never rfl (pi_list (pe_fld (pv 0) rfl))
        (pg_tup rfl (pgs_cons (pg_name (i := 2) scPrices.nd rfl (.inl rfl)) (pgs_cons (pg_name (i := 3) scPrices.nd rfl (.inl rfl)) pgs_nil)))
        (pss_one (ps_for PassesOwn.never rfl (pi_range2 (by rfl) T.range (pa_cons (pv 2) (pa_cons (pe_fld (pv 0) rfl) pa_nil))) (pg_name (i := 4) scPrices.nd rfl (.inl rfl))
          (pss_one (ps_asg (pv 3) (pg_sub (pv 1) (pv 4) set_list))))))
      (pss_one (ps_ret (pe_tupleOf (by rfl) nt (pv 1))))), ?_⟩
    obtain ⟨dx, ob⟩ := hd.ob
    obtain ⟨rs, hls, hrs⟩ := hd.pr
    refine ⟨by decide, fun D nD => ⟨_, rfl, d, C, dx, _, _, rfl, same_upd nD _ _ ob, dc.cl, dc.nD, dfs_days _ _ _ _, ?_⟩⟩
    have e1 := same_upd (o := .lst [V.int 1]) nD
    refine ⟨D, (L.days : Int), _, rfl, rfl, upd_same, by omega, by have := gd.d; omega, ?_, fun r nr => ?_⟩
    · have := gd.d
      exact Nat.le_trans (show 1 * L.days ≤ 14 by omega) (by decide)
    rw [show ((L.days : Int)).toNat = L.days from rfl, show (V.int 1) = (fun n : Nat => V.int n) 1 from rfl, rep_row L.days (fun n : Nat => V.int n) 1]
    have nrH : H r = none := (none_of nr).2
    have e2 := e1.trans (same_upd (o := .lst (row L.days (fun n : Nat => V.int n) fun _ => 1)) nr)
    refine ⟨_, rfl, d, C, dx, _, _, rfl, e2 _ _ ob, dc.cl, dc.nT, dfs_ta _ _ _ _, lt, rfl, ⟨_, SqL.of (e2 _ _ hls)⟩, ?_⟩
    refine for_it (walk_list (xs := rs.map V.ref)) (fun i σ H' => ∃ s3 s4 s5, σ = [some (.ref d), some (.ref r), s3, s4, s5] ∧ Same H H' ∧ H' r = some (.lst (row L.days (fun n : Nat => V.int n) (priD (L.prices.take i))))) ?_ ?_ ?_ ?_
    · exact ⟨_, _, _, rfl, e2, upd_same⟩
    · rintro i σ H' _ ⟨_, _, _, _, es, _⟩
      exact SqL.of (es _ _ hls)
    · rintro i v σ H1 H2 hi ⟨s3, s4, s5, rfl, es, hr⟩ ⟨rfl, hv⟩
      obtain ⟨p, s, rfl, hp', hs, ho⟩ := hrs.at hv
      have g1 := gd.pr s (List.mem_of_getElem? hs)
      have gd14 := gd.d
      refine ⟨p, _, rfl, SqT.of (es _ _ ho), rfl, _, _, rfl, _, _, rfl, rfl, ?_⟩
      refine ⟨_, rfl, _, rfl, d, C, dx, _, _, rfl, es _ _ ob, dc.cl, dc.nD, dfs_days _ _ _ _, (s.1 : Int), (L.days : Int), rfl, ⟨by omega, by omega, by omega, by omega⟩, ?_⟩
      refine for_it walk_range (fun j σ H' => ∃ s5, σ = [some (.ref d), some (.ref r), some (.int s.1), some (.int s.2), s5] ∧ Same H H' ∧ H' r = some (.lst (row L.days (fun n : Nat => V.int n) fun k => if s.1 ≤ k ∧ k < s.1 + j then s.2 else priD (L.prices.take i) k))) ?_ (fun _ _ _ _ _ => trivial) ?_ ?_
      · refine ⟨_, rfl, es, ?_⟩
        rw [hr]
        congr 2
        unfold row
        apply List.map_congr_left
        intro k _
        show V.int _ = V.int ((if s.1 ≤ k ∧ k < s.1 + 0 then s.2 else priD (L.prices.take i) k : Nat) : Int)
        rw [if_neg (by omega)]
      · rintro j v σ H3 H4 hj ⟨s5, rfl, es3, hr3⟩ ⟨rfl, rfl⟩
        have hj' : s.1 + j < L.days := by omega
        refine ⟨_, rfl, _, rfl, _, rfl, r, _, _, s.1 + j, rfl, rfl, hr3, ?_, ?_⟩
        · rw [row_len, show (s.1 : Int) + (j : Int) = ((s.1 + j : Nat) : Int) by omega]
          exact ixN_of hj'
        · refine ⟨_, rfl, fun b u e => ?_, ?_⟩
          · rw [upd_ne (ne_of_none e nrH)]
            exact es3 _ _ e
          · rw [upd_same]
            congr 2
            refine row_set (g := fun n : Nat => V.int n) fun k => ?_
            by_cases c1 : k = s.1 + j
            · rw [if_pos c1, if_pos (by omega)]
            · rw [if_neg c1]
              by_cases c2 : s.1 ≤ k ∧ k < s.1 + j
              · rw [if_pos c2, if_pos (by omega)]
              · rw [if_neg c2, if_neg (by omega)]
      · rintro σ H3 ⟨s5, rfl, es3, hr3⟩
        refine ⟨_, _, _, rfl, es3, ?_⟩
        rw [hr3]
        congr 2
        unfold row
        apply List.map_congr_left
        intro k hk
        have hk' : k < L.days := by simpa using hk
        show V.int ((if s.1 ≤ k ∧ k < s.1 + ((L.days : Int) - (s.1 : Int)).toNat then s.2 else priD (L.prices.take i) k : Nat) : Int) = V.int ((priD (L.prices.take (i + 1)) k : Nat) : Int)
        rw [priD_step hs, show s.1 + ((L.days : Int) - (s.1 : Int)).toNat = L.days by omega]
        by_cases c2 : s.1 ≤ k
        · rw [if_pos ⟨c2, hk'⟩, if_pos c2]
        · rw [if_neg (fun z => c2 z.1), if_neg c2]
    · rintro σ H1 ⟨s3, s4, s5, rfl, es, hr⟩
      rw [show L.prices.take (rs.map V.ref).length = L.prices from by rw [List.length_map, hrs.1]; exact List.take_length] at hr
      refine ⟨_, rfl, .inl ⟨r, _, rfl, SqL.of hr, fun t nt => ?_⟩⟩
      refine q _ t (es.trans (same_upd nt)) ?_ upd_same
      cases ht : H t with
      | none => rfl
      | some u => rw [es _ _ ht] at nt; cases nt
end
end Hs
/-! {k: v for x in ..} by a walk -/
namespace DCi
open PySem PySem.Spec PyProof.Rows L2
theorem dc_it {J : It} {n : Nat} {G : Hp → Prop} {Y : Nat → Hp → V → Hp → Prop} (hw : Walk J n G Y) {g : TG} {tt : TT} {tk tv : TE} {vs : List Nat} {σ : L2.St} {H1 : Hp} {D : Addr} {Qd : Hp → Prop} (Pv : Nat → Hp → Prop)
    (h0 : Pv 0 (upd H1 D (HO.dK []))) (hG : ∀ (i : Nat) (H : Hp), i ≤ n → Pv i H → G H)
    (hs : ∀ (i : Nat) (x : V) (H H' : Hp), i < n → Pv i H → Y i H x H' →
      g x (wipe σ vs) H' fun σ2 H2 => wipe σ2 vs = wipe σ vs ∧ tt σ2 H2 fun b H3 =>
        if b = true then tk σ2 H3 fun y H4 => tv σ2 H4 fun z H5 => ∃ kvs k, y = kV k ∧ H5 D = some (HO.dK kvs) ∧ kvs.length < sizeLine ∧ Pv (i + 1) (upd H5 D (HO.dK (putK kvs k z))) else Pv (i + 1) H3)
    (hq : ∀ (H : Hp), Pv n H → Qd H) :
    ∃ W : Nat → Nat → Hp → Prop, (∃ m, W 0 m (upd H1 D (HO.dK []))) ∧ ∀ (i m : Nat) (H : Hp), W i m H → (J.stop i H ∧ Qd H) ∨ (J.go i H ∧ ∃ Nx : Hp → Prop, (∀ (H' : Hp), Nx H' → ∃ m', m' < m ∧ W (i + 1) m' H') ∧
      ∀ (x : V) (H' : Hp), J.yld i H x H' → g x (wipe σ vs) H' fun σ2 H2 => wipe σ2 vs = wipe σ vs ∧ tt σ2 H2 fun b H3 =>
        if b = true then tk σ2 H3 fun y H4 => tv σ2 H4 fun z H5 => ∃ kvs k, y = kV k ∧ H5 D = some (HO.dK kvs) ∧ kvs.length < sizeLine ∧ Nx (upd H5 D (HO.dK (putK kvs k z))) else Nx H3) := by
  refine ⟨fun i m H => i ≤ n ∧ m = n - i ∧ Pv i H, ⟨_, Nat.zero_le _, rfl, h0⟩, ?_⟩
  rintro i m H ⟨hi, rfl, hp⟩
  by_cases c : i = n
  · subst c
    exact .inl ⟨hw.stops H (hG _ _ hi hp), hq H hp⟩
  · have lt : i < n := by omega
    refine .inr ⟨hw.goes i H lt (hG _ _ hi hp), Pv (i + 1), fun H' h => ⟨_, by omega, by omega, rfl, h⟩, fun x H' hy => hs i x H H' lt hp (hw.yields i H x H' lt (hG _ _ hi hp) hy)⟩
theorem ps_setDc {X : Cx} {i : Nat} {y : Str} {py : Pos} {kx vx tg iter : Expr} {ifs : List Expr} {scope : Scope} {own : List (Str × Nat)} {pos spos : Pos} {wi : TI} {g : TG} {tt : TT} {tk tv : TE}
    (hc : X.calm = true) (hN : X.N.Nodup) (hy : X.N[i]? = some y) (hyl : X.env.scope.names.lookup y = some .local)
    (hsw : swapsWith (kx.DictComp vx [{ target := tg, iter := iter, ifs := ifs, is_async := 0 }] scope pos) (some (Expr.Name y py)) spos.line X.env = pure true)
    (hi : PI X tg iter wi) (ok : BlkOk X.N X.env.scope scope own)
    (hg : ∀ (s : Shared) (H : Hp) (C : Addr) (cl : List (Str × Addr)) (fp : List Addr), PG (X.blk s H scope (compEnvC scope cl C X.env) fp) tg g)
    (ht : ∀ (s : Shared) (H : Hp) (C : Addr) (cl : List (Str × Addr)) (fp : List Addr), PTs (X.blk s H scope (compEnvC scope cl C X.env) fp) ifs tt)
    (hk : ∀ (s : Shared) (H : Hp) (C : Addr) (cl : List (Str × Addr)) (fp : List Addr), PE (X.blk s H scope (compEnvC scope cl C X.env) fp) kx tk)
    (he : ∀ (s : Shared) (H : Hp) (C : Addr) (cl : List (Str × Addr)) (fp : List Addr), PE (X.blk s H scope (compEnvC scope cl C X.env) fp) vx tv)
    (hs : ∀ (x : Value), foldedSetIterable iter X.env x = pure x := by intro _; rfl) :
    PS X (Stmt.Assign [Expr.Name y py] (kx.DictComp vx [{ target := tg, iter := iter, ifs := ifs, is_async := 0 }] scope pos) spos) (tAsg (tDc wi g tt tk tv (List.map (fun x => x.snd) own)) (gName i)) := by
  refine ⟨fun pins s σ H D I h => ?_⟩
  rw [exec_Assign_Name_used y py _ spos hsw]
  refine wpAny_bind (wpAny_standAt (wpAny_bind ?_))
  refine wpAny_bind (thn (dc_core hc hN I hi ok hg ht hk he hs h ?_) fun x s' hq => wpAny_pure (wpAny_pure hq))
  intro L C s' m H' I' q hn f
  show wpAny _ _ _ _ _ _
  refine wpAny_assign_Name (store_ok2 (v := V.ref L) I' hN hy (Or.inl hyl) rfl (fun s2 I2 x => ?_) (Or.inr hyl))
  obtain ⟨a, sb, ha⟩ := x
  obtain ⟨f0, f1, f2, f3, f4, f5⟩ := f
  have haC : C ≠ a := by
    rcases ha with z | z
    · rw [z]; exact f1
    · exact fun e => f4 y a z e.symm
  exact ⟨m, hn.sameBut sb haC, fun h3 sb3 => ⟨List.set σ i (some (V.ref L)), H', I2.turned (fun b o hb e => (sb3.right b hb).trans e) f0 f1 f3 f4 f5, q⟩⟩
end DCi
/-! texts, ascending, each once -/
namespace Hs
open PySem PySem.Spec PyProof.Rows L2 Am
def ltS (a b : Str) : Prop := a.cps.toList < b.cps.toList
theorem ltS_trans {a b c : Str} (h : ltS a b) (k : ltS b c) : ltS a c := List.lt_trans h k
theorem ltS_irrefl (a : Str) : ¬ ltS a a := List.lt_irrefl _
theorem ltS_of {a b : Str} (h : ¬ ltS b a) (n : a ≠ b) : ltS a b := by
  by_cases c : ltS a b
  · exact c
  · exact absurd (SL.ext (List.le_antisymm (List.not_lt.mp h) (List.not_lt.mp c))) n
theorem rising_pw : ∀ (r : List Str) (x : Str), risingS x r = true → (x :: r).Nodup → (x :: r).Pairwise ltS
  | [], x, _, _ => by simp
  | y :: r, x, h, n => by
    have h' : (!(ltCps y.cps.toList x.cps.toList) && risingS y r) = true := h
    rw [Bool.and_eq_true] at h'
    obtain ⟨a, b⟩ := h'
    rw [List.nodup_cons] at n
    have ih := rising_pw r y b n.2
    have lt : ltS x y := by
      refine ltS_of (fun z => ?_) (fun z => n.1 (by rw [z]; simp))
      rw [ltCps_eq] at a
      have : decide (y.cps.toList < x.cps.toList) = true := decide_eq_true z
      rw [this] at a
      cases a
    refine List.pairwise_cons.mpr ⟨fun z hz => ?_, ih⟩
    rcases List.mem_cons.mp hz with rfl | hz
    · exact lt
    · exact ltS_trans lt ((List.pairwise_cons.mp ih).1 z hz)
theorem sorted_pw {ys : List Str} (h : sortedS ys = true) (n : ys.Nodup) : ys.Pairwise ltS := by
  cases ys with
  | nil => simp
  | cons x r => exact rising_pw r x h n
/-- xs, ascending, each once -/
structure AscOf (xs ys : List Str) : Prop where
  pw : ys.Pairwise ltS
  mem : ∀ n, n ∈ ys ↔ n ∈ xs
theorem asc_unique : ∀ {ys zs : List Str}, ys.Pairwise ltS → zs.Pairwise ltS → (∀ n, n ∈ ys ↔ n ∈ zs) → ys = zs
  | [], [], _, _, _ => rfl
  | [], z :: zs, _, _, h => absurd ((h z).mpr (by simp)) (by simp)
  | y :: ys, [], _, _, h => absurd ((h y).mp (by simp)) (by simp)
  | y :: ys, z :: zs, p, q, h => by
    obtain ⟨p1, p2⟩ := List.pairwise_cons.mp p
    obtain ⟨q1, q2⟩ := List.pairwise_cons.mp q
    have e : y = z := by
      rcases List.mem_cons.mp ((h y).mp (by simp)) with a | a
      · exact a
      · rcases List.mem_cons.mp ((h z).mpr (by simp)) with b | b
        · exact b.symm
        · exact absurd (ltS_trans (q1 y a) (p1 z b)) (ltS_irrefl _)
    subst e
    refine congrArg (y :: ·) (asc_unique p2 q2 fun n => ⟨fun hn => ?_, fun hn => ?_⟩)
    · rcases List.mem_cons.mp ((h n).mp (by simp [hn])) with a | a
      · exact absurd (by rw [a] at hn; exact p1 y hn) (ltS_irrefl _)
      · exact a
    · rcases List.mem_cons.mp ((h n).mpr (by simp [hn])) with a | a
      · exact absurd (by rw [a] at hn; exact q1 y hn) (ltS_irrefl _)
      · exact a
theorem AscOf.unique {xs ys zs : List Str} (a : AscOf xs ys) (b : AscOf xs zs) : ys = zs := asc_unique a.pw b.pw fun n => (a.mem n).trans (b.mem n).symm
/-- the keys, in the sequence of their first -/
def keysOf (xs : List Str) : List Str := xs.foldl (fun acc x => if x ∈ acc then acc else acc ++ [x]) []
theorem keys_snoc (xs : List Str) (x : Str) : keysOf (xs ++ [x]) = if x ∈ keysOf xs then keysOf xs else keysOf xs ++ [x] := by
  unfold keysOf
  rw [List.foldl_append]
  rfl
theorem keys_all : ∀ (k : Nat) (xs : List Str), xs.length = k → (keysOf xs).Nodup ∧ (keysOf xs).length ≤ xs.length ∧ ∀ n, n ∈ keysOf xs ↔ n ∈ xs := by
  intro k
  induction k with
  | zero => intro xs h; rw [List.eq_nil_of_length_eq_zero h]; exact ⟨by simp [keysOf], by simp [keysOf], fun n => Iff.rfl⟩
  | succ k ih =>
    intro xs h
    rcases List.eq_nil_or_concat xs with rfl | ⟨ys, y, rfl⟩
    · exact ⟨by simp [keysOf], by simp [keysOf], fun n => Iff.rfl⟩
    rw [List.concat_eq_append] at h ⊢
    have h' : ys.length = k := by simpa using h
    rw [keys_snoc]
    obtain ⟨i1, i2, i3⟩ := ih ys h'
    by_cases c : y ∈ keysOf ys
    · rw [if_pos c]
      refine ⟨i1, by simp; omega, fun n => ?_⟩
      rw [i3, List.mem_append, List.mem_singleton]
      exact ⟨.inl, fun z => z.elim id fun e => by rw [e]; exact (i3 y).mp c⟩
    · rw [if_neg c]
      refine ⟨?_, by simp; omega, fun n => ?_⟩
      · rw [List.nodup_append]
        refine ⟨i1, by simp, fun a ha b hb e => ?_⟩
        rw [List.mem_singleton.mp hb] at e
        exact c (e ▸ ha)
      · rw [List.mem_append, List.mem_append, i3]
def kd (ks : List Str) : List (Key × V) := ks.map fun k => (.inr k, .bl true)
theorem putK_kd (ks : List Str) (x : Str) : putK (kd ks) (.inr x : Key) (.bl true) = kd (if x ∈ ks then ks else ks ++ [x]) := by
  unfold putK
  have e : ((kd ks).any fun kv => decide (kv.1 = (.inr x : Key))) = decide (x ∈ ks) := by
    unfold kd
    rw [List.any_map]
    rw [Bool.eq_iff_iff, List.any_eq_true, decide_eq_true_iff]
    constructor
    · rintro ⟨y, hy, h⟩
      have := of_decide_eq_true h
      cases this
      exact hy
    · intro h
      exact ⟨x, h, decide_eq_true rfl⟩
  rw [e]
  by_cases c : x ∈ ks
  · rw [decide_eq_true c, if_pos rfl, if_pos c]
    unfold kd
    rw [List.map_map]
    apply List.map_congr_left
    intro k _
    show (if (Sum.inr k : Key) = Sum.inr x then _ else _) = _
    by_cases z : (Sum.inr k : Key) = Sum.inr x
    · rw [if_pos z]
    · rw [if_neg z]
  · rw [decide_eq_false c, if_neg (by decide), if_neg c]
    unfold kd
    rw [List.map_append]
    rfl
def spAsc : Sp := fun vs H Q _ => ∃ (a : Addr) (xs : List Str), vs = [.ref a] ∧ H a = some (.lst (xs.map V.str)) ∧ xs.length ≤ 60 ∧
  ∀ H' t ys, Same H H' → H t = none → H' t = some (.tup (ys.map V.str)) → AscOf xs ys → Q (.ref t) H'
section
variable {P : Program} {w : World} {K : PySem.W.Frag} {mg : Str → Option Value} {base : Heap} {C : Addr}
theorem scAsc : FnScope ["words", "kept", "word"] ["words"] (defScope sAsc) := ⟨rfl, rfl, rfl, by decide +kernel, rfl, by decide +kernel, by decide +kernel⟩
theorem ok_asc {f : Addr} {fd : FuncData} (F : Fun K "ascending" "ascending" sAsc f fd) (nt : mg "tuple" = none) (ns : mg "sorted" = none) (nst : mg "str" = none) : FnOk P w K mg base CX0 1 f fd ["words"] spAsc := by
  refine F.ok scAsc (fun vs H Q E h => ?_) (fun cdv A outer s H vs Q E hr h => ?_)
  · obtain ⟨a, xs, rfl, _⟩ := h
    rfl
  · obtain ⟨a, xs, rfl, ha, hl, q⟩ := h
    have b_str : bootBuiltins "str" = some (.type "str") := by decide +kernel
    have b_sorted : bootBuiltins "sorted" = some (.builtin "sorted") := by decide +kernel
    refine ⟨_, pss_cons (DCi.ps_setDc (i := 1) (own := [("word", 2)]) (g := gName 2) (tt := tYes) rfl scAsc.nd rfl rfl rfl (pi_list (pv 0)) (blkOk_by (N := ["words", "kept", "word"]) (sc := defScope sAsc) (by decide +kernel))
        (fun _ _ _ _ _ => pg_name (i := 2) scAsc.nd rfl (Or.inl rfl)) (fun _ _ _ _ _ => pts_nil) (fun _ _ _ _ _ => pv 2) (fun _ _ _ _ _ => pe_bl))
      (pss_one (ps_ret (pe_tupleOf (by rfl) nt (pe_callB cr_sortedS (by rfl) ns b_sorted (pa_cons (pe_lock (pe_lc (own := [("word", 2)]) (g := gName 2) (tt := tYes) rfl scAsc.nd (pi_keys (pv 1)) (blkOk_by (N := ["words", "kept", "word"]) (sc := defScope sAsc) (by decide +kernel))
        (fun _ _ _ _ _ => pg_name (i := 2) scAsc.nd rfl (Or.inl rfl)) (fun _ _ _ _ _ => pts_nil) (fun _ _ _ _ _ => pe_callTy SkE.call_str_str (by rfl) nst b_str (pa_cons (pv 2) pa_nil)))) pa_nil))))), ?_⟩
    refine ⟨_, rfl, a, rfl, ⟨_, SqL.of ha⟩, fun D nD => ?_⟩
    refine DCi.dc_it (walk_list (xs := xs.map V.str)) (fun i H' => Same H H' ∧ H' D = some (.dK (kd (keysOf (xs.take i))))) ?_ (fun i H' _ h => SqL.of (h.1 _ _ ha)) ?_ ?_
    · exact ⟨same_upd nD, by rw [upd_same]; rfl⟩
    · rintro i v H1 H2 hi ⟨es, hD⟩ ⟨rfl, hv⟩
      have hi' : i < xs.length := by simpa using hi
      rw [List.getElem?_map, List.getElem?_eq_getElem hi'] at hv
      obtain rfl : V.str xs[i] = v := Option.some.inj hv
      refine ⟨rfl, ?_⟩
      unfold tYes
      refine iteT ⟨_, rfl, _, .inr xs[i], rfl, hD, ?_, ?_, ?_⟩
      · have := (keys_all _ (xs.take i) rfl).2.1
        rw [List.length_take] at this
        unfold kd
        rw [List.length_map]
        exact Nat.lt_of_le_of_lt (Nat.le_trans this (Nat.le_trans (Nat.min_le_right _ _) hl)) (by decide)
      · intro b u e
        rw [upd_ne (ne_of_none e nD)]
        exact es _ _ e
      · rw [upd_same, putK_kd, List.take_add_one, List.getElem?_eq_getElem hi', show (some xs[i]).toList = [xs[i]] from rfl, keys_snoc]
    · rintro H1 ⟨es, hD⟩
      rw [show xs.take (xs.map V.str).length = xs from by rw [List.length_map]; exact List.take_length] at hD
      obtain ⟨kn, klen, kmem⟩ := keys_all _ xs rfl
      refine ⟨D, _, hD, trivial, fun od => ?_⟩
      have nDH : H D = none := nD
      have e1 : Same H (upd H1 D (.frz od (.dK (kd (keysOf xs))))) := fun b u e => by
        rw [upd_ne (ne_of_none e nDH)]
        exact es _ _ e
      refine ⟨_, rfl, D, od, rfl, .inl ⟨_, upd_same, fun D2 nD2 => ?_⟩⟩
      refine lc_it walk_keys (Pv := Tk (upd H1 D (.frz od (.dK (kd (keysOf xs))))) D2 ((keysOf xs).map V.str)) (Tk.start nD2) (fun i H' _ h => h.1 _ _ upd_same) ?_ ?_
      · rintro i v H2 H3 hi hk ⟨rfl, k, vv, hkv, rfl⟩
        have hi' : i < (keysOf xs).length := by unfold kd at hi; simpa using hi
        unfold kd at hkv
        rw [List.getElem?_map, List.getElem?_eq_getElem hi'] at hkv
        cases hkv
        refine ⟨rfl, ?_⟩
        unfold tYes
        refine iteT ⟨_, rfl, _, rfl, ?_⟩
        exact hk.step nD2 (Same.refl _) (by rw [List.getElem?_map, List.getElem?_eq_getElem hi']; rfl) (by rw [List.length_map]; omega)
      · rintro H2 hk
        have hD2 := hk.done (by unfold kd; rw [List.length_map, List.length_map])
        have nDD : D2 ≠ D := fun z => by rw [z, upd_same] at nD2; cases nD2
        refine ⟨hk.1 _ _ upd_same, D2, keysOf xs, rfl, SqL.of (by rw [upd_ne nDD]; exact hD2), by omega, fun ys p hp hs np => .inl ⟨p, _, rfl, SqL.of upd_same, fun t nt => ?_⟩⟩
        have e2 : Same H (upd H2 D (.dK (kd (keysOf xs)))) := fun b u e => by
          rw [upd_ne (ne_of_none e nDH)]
          exact hk.1 _ _ (e1 _ _ e)
        have e3 := e2.trans (same_upd (o := .lst (ys.map V.str)) np)
        have e4 := e3.trans (same_upd (o := .tup (ys.map V.str)) nt)
        refine q _ t ys e4 ?_ upd_same ⟨sorted_pw hs (hp.nodup_iff.mpr kn), fun n => (hp.mem_iff).trans (kmem n)⟩
        cases ht : H t with
        | none => rfl
        | some u => rw [e3 _ _ ht] at nt; cases nt
end
end Hs
/-! the house -/
namespace Hs
open PySem PySem.Spec PyProof.Rows L2 Am
structure Sound (L : Lore) : Prop where
  z : L.days = 0 → L.places = [] ∧ L.prices = [] ∧ L.stays = []
  g : Good L
  n : (L.places.map (·.name)).Nodup
  s : Small L
theorem hasP_mem {L : Lore} {x : Str} : hasP L x = true ↔ x ∈ L.places.map (·.name) := by
  unfold hasP
  rw [List.any_eq_true, List.mem_map]
  exact ⟨fun ⟨p, a, b⟩ => ⟨p, a, of_decide_eq_true b⟩, fun ⟨p, a, b⟩ => ⟨p, a, decide_eq_true b⟩⟩
theorem hasF_ne {L : Lore} (h : hasF L = true) : L.places ≠ [] := fun z => by
  unfold hasF at h
  rw [z] at h
  cases h
theorem Step.sound {L L' : Lore} {ln : Str} (h : Step L ln L') (s : Sound L) : Sound L' := by
  have sm := h.small s.s
  obtain ⟨z, ⟨g1, g2, g3⟩, n, _⟩ := s
  cases h with
  | days _ h0 _ _ hn =>
    obtain ⟨a, b, c⟩ := z h0
    refine ⟨fun e => ⟨a, b, c⟩, ⟨hn.2, fun s hs => ?_, fun p hp => ?_⟩, n, sm⟩
    · rw [show L.stays = [] from c] at hs; cases hs
    · rw [show L.prices = [] from b] at hp; cases hp
  | @place x r m inner _ h0 p0 s0 _ _ _ hp _ _ _ _ =>
    refine ⟨fun e => absurd e h0, ⟨g1, g2, g3⟩, ?_, sm⟩
    rw [List.map_append, List.nodup_append]
    refine ⟨n, by simp, fun a ha b hb e => ?_⟩
    simp at hb
    rw [← e] at hb
    have : hasP L x = true := hasP_mem.mpr (hb ▸ ha)
    rw [hp] at this
    cases this
  | @price x y a m _ hf s0 _ _ _ _ _ hl ha hn =>
    refine ⟨fun e => absurd (z e).1 (hasF_ne hf), ⟨g1, g2, fun p hp => ?_⟩, n, sm⟩
    rcases List.mem_append.mp hp with hp | hp
    · exact g3 p hp
    · rw [List.mem_singleton.mp hp]
      exact ha
  | @stay x y u v a b _ hf l8 _ _ _ _ _ _ _ _ hab hb _ =>
    refine ⟨fun e => absurd (z e).1 (hasF_ne hf), ⟨g1, fun s hs => ?_, g3⟩, n, sm⟩
    rcases List.mem_append.mp hs with hs | hs
    · exact g2 s hs
    · rw [List.mem_singleton.mp hs]
      exact ⟨hab, hb⟩
theorem L0_sound : Sound L0 := ⟨fun _ => ⟨rfl, rfl, rfl⟩, ⟨by decide, fun _ h => absurd h List.not_mem_nil, fun _ h => absurd h List.not_mem_nil⟩, by decide, L0_small⟩
theorem Steps.sound {L L' : Lore} {ls : List Str} (h : Steps L ls L') : Sound L → Sound L' := by
  induction h with
  | nil => exact id
  | cons s _ ih => exact fun h => ih (s.sound h)
theorem Told.sound {x : Str} {L : Lore} (h : Told x L) : Sound L := h.st.sound L0_sound
def metersOf (L : Lore) : List Str := "main" :: (L.places.filter (·.inner)).map (·.name)
def hfs (x : Str) (n : Nat) (a b c r t p : Addr) : List (Str × V) := putF "_prices" (.ref p) (putF "_tenants" (.ref t) (putF "_rooms" (.ref r) (putF "people" (.ref c) (putF "meters" (.ref b) (putF "flats" (.ref a) (putF "days" (.int n) (putF "_text" (.str x) [])))))))
theorem hfs_none {f : Str} (x : Str) (n : Nat) (a b c r t p : Addr) (h : f ∉ [("_prices" : Str), "_tenants", "_rooms", "people", "meters", "flats", "days", "_text"]) : (hfs x n a b c r t p).lookup f = none := by
  simp only [List.mem_cons, not_or] at h
  obtain ⟨h1, h2, h3, h4, h5, h6, h7, h8, _⟩ := h
  unfold hfs
  simp only [lookup_putF, if_neg h1, if_neg h2, if_neg h3, if_neg h4, if_neg h5, if_neg h6, if_neg h7, if_neg h8]
  rfl
section
variable (x : Str) (n : Nat) (a b c r t p : Addr)
theorem hfs_pr : (hfs x n a b c r t p).lookup ("_prices" : Str) = some (.ref p) := by unfold hfs; rw [lookup_putF, if_pos rfl]
theorem hfs_te : (hfs x n a b c r t p).lookup ("_tenants" : Str) = some (.ref t) := by unfold hfs; rw [lookup_putF, if_neg (by decide +kernel), lookup_putF, if_pos rfl]
theorem hfs_ro : (hfs x n a b c r t p).lookup ("_rooms" : Str) = some (.ref r) := by unfold hfs; rw [lookup_putF, if_neg (by decide +kernel), lookup_putF, if_neg (by decide +kernel), lookup_putF, if_pos rfl]
theorem hfs_pe : (hfs x n a b c r t p).lookup ("people" : Str) = some (.ref c) := by unfold hfs; rw [lookup_putF, if_neg (by decide +kernel), lookup_putF, if_neg (by decide +kernel), lookup_putF, if_neg (by decide +kernel), lookup_putF, if_pos rfl]
theorem hfs_me : (hfs x n a b c r t p).lookup ("meters" : Str) = some (.ref b) := by unfold hfs; rw [lookup_putF, if_neg (by decide +kernel), lookup_putF, if_neg (by decide +kernel), lookup_putF, if_neg (by decide +kernel), lookup_putF, if_neg (by decide +kernel), lookup_putF, if_pos rfl]
theorem hfs_fl : (hfs x n a b c r t p).lookup ("flats" : Str) = some (.ref a) := by unfold hfs; rw [lookup_putF, if_neg (by decide +kernel), lookup_putF, if_neg (by decide +kernel), lookup_putF, if_neg (by decide +kernel), lookup_putF, if_neg (by decide +kernel), lookup_putF, if_neg (by decide +kernel), lookup_putF, if_pos rfl]
theorem hfs_da : (hfs x n a b c r t p).lookup ("days" : Str) = some (.int n) := by unfold hfs; rw [lookup_putF, if_neg (by decide +kernel), lookup_putF, if_neg (by decide +kernel), lookup_putF, if_neg (by decide +kernel), lookup_putF, if_neg (by decide +kernel), lookup_putF, if_neg (by decide +kernel), lookup_putF, if_neg (by decide +kernel), lookup_putF, if_pos rfl]
theorem hfs_tx : (hfs x n a b c r t p).lookup ("_text" : Str) = some (.str x) := by unfold hfs; rw [lookup_putF, if_neg (by decide +kernel), lookup_putF, if_neg (by decide +kernel), lookup_putF, if_neg (by decide +kernel), lookup_putF, if_neg (by decide +kernel), lookup_putF, if_neg (by decide +kernel), lookup_putF, if_neg (by decide +kernel), lookup_putF, if_neg (by decide +kernel), lookup_putF, if_pos rfl]
end
/-- a house, and all that hangs on it -/
def HouseAt (C : Addr) (H : Hp) (h : Addr) (x : Str) (L : Lore) : Prop := ∃ (dx a b c r t p : Addr) (rs ts : List Addr) (ys : List Str), H h = some (.ins C dx (hfs x L.days a b c r t p)) ∧
  H a = some (.tup (rs.map V.ref)) ∧ Refs plO H rs L.places ∧ H b = some (.tup ((metersOf L).map V.str)) ∧ H c = some (.tup (ys.map V.str)) ∧ AscOf ("house" :: L.stays.map (·.who)) ys ∧
  H r = some (.dK (L.places.map fun q => (.inr q.name, .int q.room))) ∧ H t = some (.dK ((L.places.zip ts).map fun q => ((.inr q.1.name : Key), V.ref q.2))) ∧ Refs (fun q : Pl => .tup (row L.days V.str (tenD L.stays q.name))) H ts L.places ∧
  H p = some (.tup (row L.days (fun n : Nat => V.int n) (priD L.prices)))
theorem HouseAt.same {C : Addr} {H H' : Hp} {h : Addr} {x : Str} {L : Lore} (k : HouseAt C H h x L) (e : Same H H') : HouseAt C H' h x L := by
  obtain ⟨dx, a, b, c, r, t, p, rs, ts, ys, h1, h2, h3, h4, h5, h6, h7, h8, h9, h10⟩ := k
  exact ⟨dx, a, b, c, r, t, p, rs, ts, ys, e _ _ h1, e _ _ h2, h3.same e, e _ _ h4, e _ _ h5, h6, e _ _ h7, e _ _ h8, h9.same e, e _ _ h10⟩
/-- what the class House must have -/
structure HoC (K : PySem.W.Frag) (C : Addr) : Prop where
  cl : Cls K C
  n1 : NoAttr K C "_text"
  n2 : NoAttr K C "days"
  n3 : NoAttr K C "flats"
  n4 : NoAttr K C "meters"
  n5 : NoAttr K C "people"
  n6 : NoAttr K C "_rooms"
  n7 : NoAttr K C "_tenants"
  n8 : NoAttr K C "_prices"
end Hs
namespace Hs
open PySem PySem.Spec PyProof.Rows L2 Am
section
variable {P : Program} {w : World} {K : PySem.W.Frag} {mg : Str → Option Value} {base : Heap} {C CD : Addr}
theorem putF_len (k : Str) (v : V) : ∀ fs : List (Str × V), (putF k v fs).length ≤ fs.length + 1
  | [] => by simp [putF]
  | (a, b) :: r => by
    have := putF_len k v r
    simp only [putF]
    by_cases c : a = k
    · rw [if_pos c]; simp
    · rw [if_neg c]; simp; omega
theorem past_ob {H H' : Hp} {h b C dx : Addr} {fs : List (Str × V)} {o : HO} (ob : H h = some (.ins C dx fs)) (fr : Fr [h] H H') (e : H b = some o) (ho : ∀ C dx fs, o ≠ .ins C dx fs) : H' b = some o :=
  fr _ _ e (fun z => by rw [List.mem_singleton.mp z, ob] at e; exact ho _ _ _ (Option.some.inj e).symm)
theorem past_refs {α : Type} {f : α → HO} {H H' : Hp} {h C dx : Addr} {fs : List (Str × V)} {rs : List Addr} {xs : List α} (ob : H h = some (.ins C dx fs)) (fr : Fr [h] H H') (k : Refs f H rs xs) (ho : ∀ x C dx fs, f x ≠ .ins C dx fs) : Refs f H' rs xs :=
  ⟨k.1, fun i r y a b => past_ob ob fr (k.2 i r y a b) (ho y)⟩
theorem past_draft {H H' : Hp} {h C dx d lp lt ls : Addr} {fs : List (Str × V)} {L : Lore} (ob : H h = some (.ins C dx fs)) (fr : Fr [h] H H') (nd : d ≠ h) (k : DraftAt CD H d lp lt ls L) : DraftAt CD H' d lp lt ls L := by
  obtain ⟨⟨dy, a⟩, ⟨r1, b1, b2⟩, ⟨r2, c1, c2⟩, ⟨r3, d1, d2⟩, n1, n2, n3⟩ := k
  refine ⟨⟨dy, fr _ _ a (by simpa using nd)⟩, ⟨r1, past_ob ob fr b1 (fun _ _ _ z => by cases z), past_refs ob fr b2 (fun x _ _ _ z => by unfold plO at z; cases z)⟩,
    ⟨r2, past_ob ob fr c1 (fun _ _ _ z => by cases z), past_refs ob fr c2 (fun x _ _ _ z => by unfold prO at z; cases z)⟩,
    ⟨r3, past_ob ob fr d1 (fun _ _ _ z => by cases z), past_refs ob fr d2 (fun x _ _ _ z => by unfold stO at z; cases z)⟩, n1, n2, n3⟩
theorem Fr.tr {ms : List Addr} {H H1 H2 : Hp} (a : Fr ms H H1) (b : Same H1 H2) : Fr ms H H2 := fun c u e n => b c u (a c u e n)
theorem putK_new {kvs : List (Key × V)} {k : Key} {v : V} (h : ∀ kv ∈ kvs, kv.1 ≠ k) : putK kvs k v = kvs ++ [(k, v)] := by
  unfold putK
  rw [if_neg]
  rw [List.any_eq_true]
  rintro ⟨kv, a, b⟩
  exact h kv a (of_decide_eq_true b)
theorem lock_draft {H H' : Hp} {r d lp lt ls : Addr} {kvs : List (Key × V)} {L : Lore} (hr : H r = some (.dK kvs)) (fr : Fr [r] H H') (k : DraftAt CD H d lp lt ls L) : DraftAt CD H' d lp lt ls L := by
  have no : ∀ {b : Addr} {o : HO}, H b = some o → (∀ kvs, o ≠ .dK kvs) → H' b = some o := fun e ho => fr _ _ e (fun z => by rw [List.mem_singleton.mp z, hr] at e; exact ho _ (Option.some.inj e).symm)
  obtain ⟨⟨dy, a⟩, ⟨r1, b1, b2⟩, ⟨r2, c1, c2⟩, ⟨r3, d1, d2⟩, n1, n2, n3⟩ := k
  exact ⟨⟨dy, no a (fun _ z => by cases z)⟩, ⟨r1, no b1 (fun _ z => by cases z), b2.1, fun i r y u v => no (b2.2 i r y u v) (fun _ z => by unfold plO at z; cases z)⟩,
    ⟨r2, no c1 (fun _ z => by cases z), c2.1, fun i r y u v => no (c2.2 i r y u v) (fun _ z => by unfold prO at z; cases z)⟩,
    ⟨r3, no d1 (fun _ z => by cases z), d2.1, fun i r y u v => no (d2.2 i r y u v) (fun _ z => by unfold stO at z; cases z)⟩, n1, n2, n3⟩
def spHInit (C : Addr) : Sp := fun vs H Q _ => ∃ (h dx : Addr) (x : Str) (L : Lore), vs = [.ref h, .str x] ∧ H h = some (.ins C dx []) ∧ Told x L ∧ ∀ H', Fr [h] H H' → HouseAt C H' h x L → Q .non H'
theorem scHInit : FnScope ["self", "text", "draft", "name", "room", "inner", "person", "place", "first", "behind"] ["self", "text"] (defScope sHInit) := ⟨rfl, rfl, rfl, by decide +kernel, rfl, by decide +kernel, by decide +kernel⟩
theorem ok_hInit {f : Addr} {fd : FuncData} (F : Fun K "__init__" "House.__init__" sHInit f fd) (hc : HoC K C) (dc : DC K CD) (T : Nm mg) (nt : mg "tuple" = none) (mN : ∃ t, mg "NOBODY" = some (.str "house" t))
    (GD : GotF P w K mg base "drafted" 4 ["text"] (spDrafted CD)) (GA : GotF P w K mg base "ascending" 1 ["words"] spAsc) (GT : GotF P w K mg base "tenants" 1 ["name", "draft"] (spTen CD)) (GP : GotF P w K mg base "prices" 1 ["draft"] (spPri CD)) :
    FnOk P w K mg base CX0 5 f fd ["self", "text"] (spHInit C) := by
  obtain ⟨tN, mN⟩ := mN
  obtain ⟨fD, fdD, GD, bD, mD, kD⟩ := GD
  obtain ⟨fA, fdA, GA, bA, mA, kA⟩ := GA
  obtain ⟨fT, fdT, GT, bT, mT, kT⟩ := GT
  obtain ⟨fP, fdP, GP, bP, mP, kP⟩ := GP
  refine F.ok scHInit (fun vs H Q E h => ?_) (fun cdv A outer s H vs Q E hr h => ?_)
  · obtain ⟨h, dx, x, L, rfl, _⟩ := h
    rfl
  · obtain ⟨h, dx, x, L, rfl, ob, td, q⟩ := h
    have hr1 : Room 1 _ := hr.mono (by decide)
    refine ⟨_, pss_cons (ps_set (i := 2) scHInit.nd rfl (.inr rfl) (pe_call GD hr (by rfl) mD kD bD .nil pass0 (pa_cons (pv 1) pa_nil)))
      (pss_cons (ps_fld (pv 0) (pv 1) rfl)
      (pss_cons (ps_fld (pv 0) (pe_fld (pv 2) rfl) rfl)
      (pss_cons (ps_fld (pv 0) (pe_tupleOf (by rfl) nt (pe_fld (pv 2) rfl)) rfl)
      (pss_cons (ps_fld (pv 0) (pe_tupleOf (by rfl) nt (pe_op op_cat (pe_lst (pa_cons pe_str pa_nil)) (pe_lc (own := [("name", 3), ("room", 4), ("inner", 5)]) (g := gTup K 3 (gCons (gName 3) (gCons (gName 4) (gCons (gName 5) gNil)))) rfl scHInit.nd (pi_list (pe_fld (pv 2) rfl))
        (blkOk_by (N := ["self", "text", "draft", "name", "room", "inner", "person", "place", "first", "behind"]) (sc := defScope sHInit) (by decide +kernel))
        (fun _ _ _ _ _ => pg_tup rfl (pgs_cons (pg_name (i := 3) scHInit.nd rfl (.inl rfl)) (pgs_cons (pg_name (i := 4) scHInit.nd rfl (.inl rfl)) (pgs_cons (pg_name (i := 5) scHInit.nd rfl (.inl rfl)) pgs_nil)))) (fun _ _ _ _ _ => pts_one (pt_val (pv 5)))
        (fun _ _ _ _ _ => pv 3)))) rfl)
      (pss_cons (ps_fld (pv 0) (pe_call GA hr1 (by rfl) mA kA bA .nil pass0 (pa_cons (pe_op op_cat (pe_lst (pa_cons (pe_glob (v := .str "house") (by rfl) mN ⟨_, rfl⟩) pa_nil)) (pe_lc (own := [("person", 6), ("place", 7), ("first", 8), ("behind", 9)]) (g := gTup K 4 (gCons (gName 6) (gCons (gName 7) (gCons (gName 8) (gCons (gName 9) gNil))))) (tt := tYes) rfl scHInit.nd (pi_list (pe_fld (pv 2) rfl))
        (blkOk_by (N := ["self", "text", "draft", "name", "room", "inner", "person", "place", "first", "behind"]) (sc := defScope sHInit) (by decide +kernel))
        (fun _ _ _ _ _ => pg_tup rfl (pgs_cons (pg_name (i := 6) scHInit.nd rfl (.inl rfl)) (pgs_cons (pg_name (i := 7) scHInit.nd rfl (.inl rfl)) (pgs_cons (pg_name (i := 8) scHInit.nd rfl (.inl rfl)) (pgs_cons (pg_name (i := 9) scHInit.nd rfl (.inl rfl)) pgs_nil))))) (fun _ _ _ _ _ => pts_nil)
        (fun _ _ _ _ _ => pv 6))) pa_nil)) rfl)
      (pss_cons (ps_fld (pv 0) (pe_dc (own := [("name", 3), ("room", 4), ("inner", 5)]) (g := gTup K 3 (gCons (gName 3) (gCons (gName 4) (gCons (gName 5) gNil)))) (tt := tYes) rfl scHInit.nd (pi_list (pe_fld (pv 2) rfl))
        (blkOk_by (N := ["self", "text", "draft", "name", "room", "inner", "person", "place", "first", "behind"]) (sc := defScope sHInit) (by decide +kernel))
        (fun _ _ _ _ _ => pg_tup rfl (pgs_cons (pg_name (i := 3) scHInit.nd rfl (.inl rfl)) (pgs_cons (pg_name (i := 4) scHInit.nd rfl (.inl rfl)) (pgs_cons (pg_name (i := 5) scHInit.nd rfl (.inl rfl)) pgs_nil)))) (fun _ _ _ _ _ => pts_nil)
        (fun _ _ _ _ _ => pv 3) (fun _ _ _ _ _ => pv 4)) rfl)
      (pss_cons (ps_fld (pv 0) (pe_lock (pe_dc (own := [("name", 3)]) (g := gName 3) (tt := tYes) rfl scHInit.nd (pi_keys (pe_fld (pv 0) rfl))
        (blkOk_by (N := ["self", "text", "draft", "name", "room", "inner", "person", "place", "first", "behind"]) (sc := defScope sHInit) (by decide +kernel))
        (fun _ _ _ _ _ => pg_name (i := 3) scHInit.nd rfl (.inl rfl)) (fun _ _ _ _ _ => pts_nil)
        (fun _ _ _ _ _ => pv 3) (fun _ _ _ _ _ => pe_call GT hr1 (by rfl) mT kT bT .nil pass0 (pa_cons (pv 3) (pa_cons (pv 2) pa_nil))))) rfl)
      (pss_one (ps_fld (pv 0) (pe_call GP hr1 (by rfl) mP kP bP .nil pass0 (pa_cons (pv 2) pa_nil)) rfl))))))))), ?_⟩
    have hs := td.sound
    have sm := hs.s
    refine ⟨_, rfl, x, L, rfl, td, fun H1 d lp lt ls e1 hd nd n1 n2 n3 _ => ?_⟩
    have ndh : d ≠ h := fun z => by rw [z, ob] at nd; cases nd
    have fr1 : Fr [h] H H1 := Fr.same e1
    have ob1 := e1 _ _ ob
    refine ⟨_, rfl, _, rfl, h, C, dx, _, rfl, ob1, hc.cl, hc.n1, by decide, ?_⟩
    generalize hG : upd H1 h (.ins C dx (putF "_text" (.str x) [])) = H2
    have ob2 : H2 h = some (.ins C dx (putF "_text" (.str x) [])) := by rw [← hG]; exact upd_same
    have fr2 : Fr [h] H1 H2 := by rw [← hG]; exact Fr.upd (by simp)
    clear hG
    replace hd := past_draft ob1 fr2 ndh hd
    replace fr2 := fr1.trans fr2
    clear fr1 ob1 e1
    obtain ⟨dy, od⟩ := hd.ob
    refine ⟨_, rfl, d, CD, dy, _, _, rfl, od, dc.cl, dc.nD, dfs_days _ _ _ _, _, rfl, h, C, dx, _, rfl, ob2, hc.cl, hc.n2, Nat.lt_of_le_of_lt (putF_len _ _ _) (by decide), ?_⟩
    generalize hG : upd H2 h (.ins C dx (putF "days" (.int L.days) (putF "_text" (.str x) []))) = H3
    have ob3 : H3 h = some (.ins C dx (putF "days" (.int L.days) (putF "_text" (.str x) []))) := by rw [← hG]; exact upd_same
    have fr3 : Fr [h] H2 H3 := by rw [← hG]; exact Fr.upd (by simp)
    clear hG
    replace hd := past_draft ob2 fr3 ndh hd
    replace fr3 := fr2.trans fr3
    clear fr2 ob2 od
    obtain ⟨dy, od⟩ := hd.ob
    obtain ⟨rs, hlp, hrp⟩ := hd.pl
    refine ⟨_, rfl, d, CD, dy, _, _, rfl, od, dc.cl, dc.nP, dfs_pl _ _ _ _, .inl ⟨lp, _, rfl, SqL.of hlp, fun a na => ?_⟩⟩
    refine ⟨_, rfl, h, C, dx, _, rfl, same_upd na _ _ ob3, hc.cl, hc.n3, Nat.lt_of_le_of_lt (putF_len _ _ _) (Nat.lt_of_le_of_lt (Nat.succ_le_succ (putF_len _ _ _)) (by decide)), ?_⟩
    have eA := same_upd (o := .tup (rs.map V.ref)) na
    replace hd := hd.same eA
    have ra := hrp.same eA
    have fa : upd H3 a (.tup (rs.map V.ref)) a = _ := upd_same
    have obA := eA _ _ ob3
    replace fr3 := fr3.tr eA
    clear hlp hrp od ob3
    generalize upd H3 a (.tup (rs.map V.ref)) = HA at *
    clear eA na
    generalize hf3 : putF "flats" (V.ref a) (putF "days" (.int L.days) (putF "_text" (.str x) [])) = f3
    have lf3 : f3.length ≤ 3 := by
      rw [← hf3]
      exact Nat.le_trans (putF_len _ _ _) (Nat.succ_le_succ (Nat.le_trans (putF_len _ _ _) (Nat.succ_le_succ (putF_len _ _ _))))
    generalize hG : upd HA h (.ins C dx f3) = H4
    have ob4 : H4 h = some (.ins C dx f3) := by rw [← hG]; exact upd_same
    have fr4 : Fr [h] HA H4 := by rw [← hG]; exact Fr.upd (by simp)
    clear hG
    replace hd := past_draft obA fr4 ndh hd
    replace ra := past_refs obA fr4 ra (fun x _ _ _ z => by unfold plO at z; cases z)
    replace fa := past_ob obA fr4 fa (fun _ _ _ z => by cases z)
    replace fr4 := fr3.trans fr4
    clear fr3 obA dy
    obtain ⟨dy, od⟩ := hd.ob
    obtain ⟨rp, hlp, hrp⟩ := hd.pl
    refine ⟨by decide, fun l1 nl1 => ?_⟩
    have e5 := same_upd (o := .lst [V.str "main"]) nl1
    refine ⟨_, rfl, d, CD, dy, _, _, rfl, e5 _ _ od, dc.cl, dc.nP, dfs_pl _ _ _ _, lp, rfl, ⟨_, SqL.of (e5 _ _ hlp)⟩, fun D nD => ?_⟩
    refine lc_it (walk_list (xs := rp.map V.ref)) (Pv := fun i H' => Same (upd H4 l1 (.lst [V.str "main"])) H' ∧ H' D = some (.lst ((((L.places.take i).filter (·.inner)).map (·.name)).map V.str))) ⟨same_upd nD, by rw [upd_same]; rfl⟩ (fun i H' _ hh => SqL.of (hh.1 _ _ (e5 _ _ hlp))) ?_ ?_
    · rintro i v G1 G2 hi ⟨es, hD⟩ ⟨rfl, hv⟩
      obtain ⟨q1, pp, rfl, _, hp, ho⟩ := (hrp.same e5).at hv
      refine ⟨q1, _, rfl, SqT.of (es _ _ ho), rfl, _, _, rfl, _, _, rfl, _, _, rfl, rfl, rfl, ?_⟩
      refine ⟨_, rfl, _, rfl, ?_⟩
      have et : L.places.take (i + 1) = L.places.take i ++ [pp] := by rw [List.take_add_one, hp]; rfl
      cases ci : pp.inner with
      | false =>
        refine iteF ⟨es, ?_⟩
        rw [et, List.filter_append]
        simp only [List.filter_cons, ci, List.filter_nil]
        rw [if_neg (by decide), List.append_nil]
        exact hD
      | true =>
        refine iteT ⟨_, rfl, _, hD, ?_, fun b u e => ?_, ?_⟩
        · rw [List.length_map, List.length_map]
          exact Nat.lt_of_le_of_lt (Nat.le_trans (List.length_filter_le _ _) (Nat.le_trans (by rw [List.length_take]; exact Nat.min_le_right _ _) sm.1)) (show 4 < sizeLine by decide)
        · rw [upd_ne (ne_of_none e nD)]
          exact es _ _ e
        · rw [upd_same, et, List.filter_append]
          simp [ci]
    · rintro G1 ⟨es, hD⟩
      rw [show L.places.take (rp.map V.ref).length = L.places from by rw [List.length_map, hrp.1]; exact List.take_length] at hD
      have e6 := e5.trans es
      refine ⟨l1, D, _, _, rfl, rfl, es _ _ upd_same, hD, ?_, fun l2 nl2 => .inl ⟨l2, _, rfl, SqL.of upd_same, fun b nb => ?_⟩⟩
      · rw [List.length_map, List.length_map]
        exact Nat.le_trans (Nat.add_le_add_left (Nat.le_trans (List.length_filter_le _ _) sm.1) 1) (by decide)
      have e7 := (e6.trans (same_upd (o := .lst ([V.str "main"] ++ ((L.places.filter (·.inner)).map (·.name)).map V.str)) nl2)).trans (same_upd (o := .tup ([V.str "main"] ++ ((L.places.filter (·.inner)).map (·.name)).map V.str)) nb)
      refine ⟨_, rfl, h, C, dx, _, rfl, e7 _ _ ob4, hc.cl, hc.n4, by omega, ?_⟩
      replace hd := hd.same e7
      replace ra := ra.same e7
      replace fa := e7 _ _ fa
      have obB := e7 _ _ ob4
      have fb : upd (upd G1 l2 (.lst ([V.str "main"] ++ ((L.places.filter (·.inner)).map (·.name)).map V.str))) b (.tup ([V.str "main"] ++ ((L.places.filter (·.inner)).map (·.name)).map V.str)) b = some (.tup ((metersOf L).map V.str)) := upd_same
      have fr5 := fr4.tr e7
      generalize upd (upd G1 l2 (.lst ([V.str "main"] ++ ((L.places.filter (·.inner)).map (·.name)).map V.str))) b (.tup ([V.str "main"] ++ ((L.places.filter (·.inner)).map (·.name)).map V.str)) = HB at *
      clear e7 e6 nl2 nb hD es e5 hlp hrp od nl1 nD
      generalize hf4 : putF "meters" (V.ref b) f3 = f4
      have lf4 : f4.length ≤ 4 := by
        rw [← hf4]
        exact Nat.le_trans (putF_len _ _ _) (Nat.succ_le_succ lf3)
      generalize hG : upd HB h (.ins C dx f4) = H5
      have ob5 : H5 h = some (.ins C dx f4) := by rw [← hG]; exact upd_same
      have fr6 : Fr [h] HB H5 := by rw [← hG]; exact Fr.upd (by simp)
      clear hG
      replace hd := past_draft obB fr6 ndh hd
      replace ra := past_refs obB fr6 ra (fun x _ _ _ z => by unfold plO at z; cases z)
      replace fa := past_ob obB fr6 fa (fun _ _ _ z => by cases z)
      replace fb := past_ob obB fr6 fb (fun _ _ _ z => by cases z)
      replace fr6 := fr5.trans fr6
      clear fr5 fr4 obB ob4 dy
      obtain ⟨dy, od⟩ := hd.ob
      obtain ⟨rp, hls, hrs⟩ := hd.st
      refine ⟨by decide, fun l1 nl1 => ?_⟩
      have e5 := same_upd (o := .lst [V.str "house"]) nl1
      refine ⟨_, rfl, d, CD, dy, _, _, rfl, e5 _ _ od, dc.cl, dc.nS, dfs_st _ _ _ _, ls, rfl, ⟨_, SqL.of (e5 _ _ hls)⟩, fun D nD => ?_⟩
      refine lc_it (walk_list (xs := rp.map V.ref)) (Pv := Tk (upd H5 l1 (.lst [V.str "house"])) D (L.stays.map fun s => V.str s.who)) (Tk.start nD) (fun i H' _ hh => SqL.of (hh.1 _ _ (e5 _ _ hls))) ?_ ?_
      · rintro i v G1 G2 hi hk ⟨rfl, hv⟩
        obtain ⟨q1, pp, rfl, _, hp, ho⟩ := (hrs.same e5).at hv
        refine ⟨q1, _, rfl, SqT.of (hk.1 _ _ ho), rfl, _, _, rfl, _, _, rfl, _, _, rfl, _, _, rfl, rfl, rfl, ?_⟩
        unfold tYes
        refine iteT ⟨_, rfl, ?_⟩
        exact hk.step nD (Same.refl _) (by rw [List.getElem?_map, hp]; rfl) (by rw [List.length_map]; have := sm.2.2; omega)
      · rintro G1 hk
        have hD := hk.done (by simp [hrs.1])
        have e6 := e5.trans hk.1
        refine ⟨l1, D, _, _, rfl, rfl, hk.1 _ _ upd_same, hD, ?_, fun l2 nl2 => ?_⟩
        · rw [List.length_map]
          exact Nat.le_trans (Nat.add_le_add_left sm.2.2 1) (by decide)
        have e7 := e6.trans (same_upd (o := .lst ([V.str "house"] ++ (L.stays.map fun s => V.str s.who))) nl2)
        refine ⟨l2, "house" :: L.stays.map (·.who), rfl, ?_, ?_, fun HC c ys ec nc fc asc => ?_⟩
        · rw [upd_same]
          simp
        · have := sm.2.2
          simp
          omega
        replace e7 := e7.trans ec
        refine ⟨_, rfl, h, C, dx, _, rfl, e7 _ _ ob5, hc.cl, hc.n5, by omega, ?_⟩
        replace hd := hd.same e7
        replace ra := ra.same e7
        replace fa := e7 _ _ fa
        replace fb := e7 _ _ fb
        have obC := e7 _ _ ob5
        have fr7 := fr6.tr e7
        clear e7 e6 nl2 hD hk e5 hls hrs od nl1 nD ec nc fr6 ob5 dy
        generalize hf5 : putF "people" (V.ref c) f4 = f5
        have lf5 : f5.length ≤ 5 := by
          rw [← hf5]
          exact Nat.le_trans (putF_len _ _ _) (Nat.succ_le_succ lf4)
        generalize hG : upd HC h (.ins C dx f5) = H6
        have ob6 : H6 h = some (.ins C dx f5) := by rw [← hG]; exact upd_same
        have fr8 : Fr [h] HC H6 := by rw [← hG]; exact Fr.upd (by simp)
        clear hG
        replace hd := past_draft obC fr8 ndh hd
        replace ra := past_refs obC fr8 ra (fun x _ _ _ z => by unfold plO at z; cases z)
        replace fa := past_ob obC fr8 fa (fun _ _ _ z => by cases z)
        replace fb := past_ob obC fr8 fb (fun _ _ _ z => by cases z)
        replace fc := past_ob obC fr8 fc (fun _ _ _ z => by cases z)
        replace fr8 := fr7.trans fr8
        clear fr7 obC
        obtain ⟨dy, od⟩ := hd.ob
        obtain ⟨rp, hlp, hrp⟩ := hd.pl
        refine ⟨_, rfl, d, CD, dy, _, _, rfl, od, dc.cl, dc.nP, dfs_pl _ _ _ _, lp, rfl, ⟨_, SqL.of hlp⟩, fun r nr => ?_⟩
        refine DCi.dc_it (walk_list (xs := rp.map V.ref)) (fun i H' => Same H6 H' ∧ H' r = some (.dK ((L.places.take i).map fun q => (.inr q.name, .int q.room)))) ⟨same_upd nr, by rw [upd_same]; rfl⟩ (fun i H' _ hh => SqL.of (hh.1 _ _ hlp)) ?_ ?_
        · rintro i v G3 G2 hi ⟨es, hD⟩ ⟨rfl, hv⟩
          obtain ⟨q1, pp, rfl, _, hp, ho⟩ := hrp.at hv
          refine ⟨q1, _, rfl, SqT.of (es _ _ ho), rfl, _, _, rfl, _, _, rfl, _, _, rfl, rfl, rfl, ?_⟩
          unfold tYes
          refine iteT ⟨_, rfl, _, rfl, _, .inr pp.name, rfl, hD, ?_, fun b u e => ?_, ?_⟩
          · rw [List.length_map]
            exact Nat.lt_of_le_of_lt (Nat.le_trans (by rw [List.length_take]; exact Nat.min_le_right _ _) sm.1) (show 4 < sizeLine by decide)
          · rw [upd_ne (ne_of_none e nr)]
            exact es _ _ e
          · have et : L.places.take (i + 1) = L.places.take i ++ [pp] := by rw [List.take_add_one, hp]; rfl
            rw [upd_same, et, List.map_append, putK_new]
            · rfl
            · intro kv hkv ek
              obtain ⟨q', hq', rfl⟩ := List.mem_map.mp hkv
              have nn := hs.n
              have e0 := List.take_append_drop (i + 1) L.places
              rw [et] at e0
              rw [← e0, List.map_append, List.map_append, List.nodup_append] at nn
              have nn1 := nn.1
              rw [List.nodup_append] at nn1
              exact nn1.2.2 q'.name (List.mem_map_of_mem hq') pp.name (by simp) (Sum.inr.inj ek)
        · rintro G3 ⟨es, hD⟩
          rw [show L.places.take (rp.map V.ref).length = L.places from by rw [List.length_map, hrp.1]; exact List.take_length] at hD
          refine ⟨_, rfl, h, C, dx, _, rfl, es _ _ ob6, hc.cl, hc.n6, by omega, ?_⟩
          replace hd := hd.same es
          replace ra := ra.same es
          replace fa := es _ _ fa
          replace fb := es _ _ fb
          replace fc := es _ _ fc
          have obD := es _ _ ob6
          have fr9 := fr8.tr es
          clear es hlp hrp od fr8 ob6 dy
          generalize hf6 : putF "_rooms" (V.ref r) f5 = f6
          have lf6 : f6.length ≤ 6 := by
            rw [← hf6]
            exact Nat.le_trans (putF_len _ _ _) (Nat.succ_le_succ lf5)
          have lk6 : f6.lookup ("_rooms" : Str) = some (.ref r) := by rw [← hf6, lookup_putF, if_pos rfl]
          generalize hG : upd G3 h (.ins C dx f6) = H7
          have ob7 : H7 h = some (.ins C dx f6) := by rw [← hG]; exact upd_same
          have fr10 : Fr [h] G3 H7 := by rw [← hG]; exact Fr.upd (by simp)
          clear hG
          replace hd := past_draft obD fr10 ndh hd
          replace ra := past_refs obD fr10 ra (fun x _ _ _ z => by unfold plO at z; cases z)
          replace fa := past_ob obD fr10 fa (fun _ _ _ z => by cases z)
          replace fb := past_ob obD fr10 fb (fun _ _ _ z => by cases z)
          replace fc := past_ob obD fr10 fc (fun _ _ _ z => by cases z)
          have fd' := past_ob obD fr10 hD (fun _ _ _ z => by cases z)
          replace fr10 := fr9.trans fr10
          clear fr9 obD hD
          refine ⟨r, _, fd', trivial, fun ol => ?_⟩
          generalize hrooms : (L.places.map fun q : Pl => ((.inr q.name : Key), V.int q.room)) = rooms at *
          have rlen : rooms.length = L.places.length := by rw [← hrooms, List.length_map]
          have rat : ∀ (i : Nat) (k : Key) (v : V), rooms[i]? = some (k, v) → ∃ q : Pl, L.places[i]? = some q ∧ k = Sum.inr q.name := by
            intro i k v e
            rw [← hrooms, List.getElem?_map] at e
            cases hq : L.places[i]? with
            | none => rw [hq] at e; cases e
            | some q => rw [hq] at e; cases e; exact ⟨q, rfl, rfl⟩
          have frL : Fr [r] H7 (upd H7 r (.frz ol (.dK rooms))) := Fr.upd (by simp)
          have hdL := lock_draft fd' frL hd
          have hL : upd H7 r (.frz ol (.dK rooms)) r = some (.frz ol (.dK rooms)) := upd_same
          have nhr : h ≠ r := ne_of ob7 fd' (by intro z; cases z)
          have obL := frL _ _ ob7 (by simpa using nhr)
          generalize upd H7 r (.frz ol (.dK rooms)) = HL at *
          refine ⟨_, rfl, h, C, dx, _, _, rfl, obL, hc.cl, hc.n6, lk6, r, ol, rfl, .inl ⟨_, hL, fun t nt => ?_⟩⟩
          refine DCi.dc_it walk_keys (fun i H' => Same HL H' ∧ ∃ ts, H' t = some (.dK (((L.places.take i).zip ts).map fun q => ((.inr q.1.name : Key), V.ref q.2))) ∧ Refs (fun q : Pl => .tup (row L.days V.str (tenD L.stays q.name))) H' ts (L.places.take i)) ⟨same_upd nt, [], by rw [upd_same]; rfl, Refs.nil⟩ (fun i H' _ hh => hh.1 _ _ hL) ?_ ?_
          · rintro i v G4 G5 hi ⟨es, ts, hT, hts⟩ ⟨rfl, k, vv, hkv, rfl⟩
            obtain ⟨pp, hp, rfl⟩ := rat i k vv hkv
            refine ⟨rfl, ?_⟩
            unfold tYes
            refine iteT ⟨_, rfl, _, rfl, _, rfl, d, lp, lt, ls, L, pp.name, rfl, hdL.same es, sm, hs.g, fun G6 t1 e6 nt1 ht1 => ?_⟩
            have et : L.places.take (i + 1) = L.places.take i ++ [pp] := by rw [List.take_add_one, hp]; rfl
            have tsl : ts.length = (L.places.take i).length := hts.1
            refine ⟨_, .inr pp.name, rfl, e6 _ _ hT, ?_, fun b u e => ?_, ts ++ [t1], ?_, ?_⟩
            · rw [List.length_map, List.length_zip, tsl, Nat.min_self, List.length_take]
              exact Nat.lt_of_le_of_lt (Nat.le_trans (Nat.min_le_right _ _) sm.1) (show 4 < sizeLine by decide)
            · rw [upd_ne (ne_of_none e nt)]
              exact e6 _ _ (es _ _ e)
            · rw [upd_same, et, putK_new]
              · rw [List.zip_append (by rw [tsl]), List.map_append]
                rfl
              · intro kv hkv ek
                obtain ⟨q', hq', rfl⟩ := List.mem_map.mp hkv
                have nn := hs.n
                have e0 := List.take_append_drop (i + 1) L.places
                rw [et] at e0
                rw [← e0, List.map_append, List.map_append, List.nodup_append] at nn
                have nn1 := nn.1
                rw [List.nodup_append] at nn1
                exact nn1.2.2 q'.1.name (List.mem_map_of_mem (List.of_mem_zip hq').1) pp.name (by simp) (Sum.inr.inj ek)
            · rw [et]
              have nt1t : t1 ≠ t := (ne_of_none hT nt1).symm
              have kp : Refs (fun q : Pl => .tup (row L.days V.str (tenD L.stays q.name))) G6 ts (L.places.take i) := hts.same e6
              refine Refs.snoc ⟨kp.1, fun j r' y u' w' => ?_⟩ ?_
              · have e8 := kp.2 j r' y u' w'
                have e9 := e6 _ _ hT
                rw [upd_ne (ne_of e8 e9 (by intro z; cases z))]
                exact e8
              · rw [upd_ne nt1t]
                exact ht1
          · rintro G4 ⟨es, ts, hT, hts⟩
            rw [rlen, List.take_length] at hT hts
            refine ⟨es _ _ hL, ?_⟩
            have hr4 := es _ _ hL
            have e10 : Same H7 (upd G4 r (.dK rooms)) := fun b u e => by
              by_cases z : b = r
              · rw [z] at e ⊢
                rw [upd_same]
                exact fd'.symm.trans e
              · rw [upd_ne z]
                exact es _ _ (frL _ _ e (by simpa using z))
            have ft : upd G4 r (.dK rooms) t = some (.dK ((L.places.zip ts).map fun q => ((.inr q.1.name : Key), V.ref q.2))) := by
              rw [upd_ne (ne_of_none hL nt).symm]
              exact hT
            have fts : Refs (fun q : Pl => .tup (row L.days V.str (tenD L.stays q.name))) (upd G4 r (.dK rooms)) ts L.places := ⟨hts.1, fun j r' y u' w' => by
              have e8 := hts.2 j r' y u' w'
              rw [upd_ne (ne_of e8 hr4 (by intro z; cases z))]
              exact e8⟩
            replace hd := hd.same e10
            replace ra := ra.same e10
            replace fa := e10 _ _ fa
            replace fb := e10 _ _ fb
            replace fc := e10 _ _ fc
            replace fd' := e10 _ _ fd'
            replace ob7 := e10 _ _ ob7
            replace fr10 := fr10.tr e10
            clear e10 es hT hts hr4 frL hdL hL obL nt
            generalize upd G4 r (.dK rooms) = G7 at *
            refine ⟨_, rfl, h, C, dx, _, rfl, ob7, hc.cl, hc.n7, by omega, ?_⟩
            generalize hf7 : putF "_tenants" (V.ref t) f6 = f7
            have lf7 : f7.length ≤ 7 := by
              rw [← hf7]
              exact Nat.le_trans (putF_len _ _ _) (Nat.succ_le_succ lf6)
            generalize hG : upd G7 h (.ins C dx f7) = H8
            have ob8 : H8 h = some (.ins C dx f7) := by rw [← hG]; exact upd_same
            have fr11 : Fr [h] G7 H8 := by rw [← hG]; exact Fr.upd (by simp)
            clear hG
            replace hd := past_draft ob7 fr11 ndh hd
            replace ra := past_refs ob7 fr11 ra (fun x _ _ _ z => by unfold plO at z; cases z)
            replace fa := past_ob ob7 fr11 fa (fun _ _ _ z => by cases z)
            replace fb := past_ob ob7 fr11 fb (fun _ _ _ z => by cases z)
            replace fc := past_ob ob7 fr11 fc (fun _ _ _ z => by cases z)
            replace fd' := past_ob ob7 fr11 fd' (fun _ _ _ z => by cases z)
            replace ft := past_ob ob7 fr11 ft (fun _ _ _ z => by cases z)
            replace fts := past_refs ob7 fr11 fts (fun x _ _ _ z => by cases z)
            replace fr11 := fr10.trans fr11
            clear fr10 ob7
            refine ⟨_, rfl, d, lp, lt, ls, L, rfl, hd, sm, hs.g, fun H9 p e9 np fp => ?_⟩
            replace ra := ra.same e9
            replace fa := e9 _ _ fa
            replace fb := e9 _ _ fb
            replace fc := e9 _ _ fc
            replace fd' := e9 _ _ fd'
            replace ft := e9 _ _ ft
            replace fts := fts.same e9
            replace fr11 := fr11.tr e9
            have ob9 := e9 _ _ ob8
            refine ⟨_, rfl, h, C, dx, _, rfl, ob9, hc.cl, hc.n8, by omega, ?_⟩
            have fr12 : Fr [h] H9 (upd H9 h (.ins C dx (putF "_prices" (V.ref p) f7))) := Fr.upd (by simp)
            refine q _ (fr11.trans fr12) ⟨dx, a, b, c, r, t, p, rs, ts, ys, ?_, past_ob ob9 fr12 fa (fun _ _ _ z => by cases z), past_refs ob9 fr12 ra (fun x _ _ _ z => by unfold plO at z; cases z), past_ob ob9 fr12 fb (fun _ _ _ z => by cases z), past_ob ob9 fr12 fc (fun _ _ _ z => by cases z), asc, ?_, past_ob ob9 fr12 ft (fun _ _ _ z => by cases z), past_refs ob9 fr12 fts (fun x _ _ _ z => by cases z), past_ob ob9 fr12 fp (fun _ _ _ z => by cases z)⟩
            · rw [upd_same, ← hf7, ← hf6, ← hf5, ← hf4, ← hf3]
              rfl
            · rw [hrooms]
              exact past_ob ob9 fr12 fd' (fun _ _ _ z => by cases z)
end
end Hs
/-! == of houses, their text -/
namespace Hs
open PySem PySem.Spec PyProof.Rows L2 Am
/-- an instance of C, or of D, or a value of a built-in type -/
def OrB2 (C D : Addr) (H : Hp) (y : V) : Prop := OrB C H y ∨ ∃ b dy gs, y = .ref b ∧ H b = some (.ins D dy gs)
def rCmp2 (C D : Addr) (sp : Sp) (E : XK) : R2 := fun x y H Q => (∃ a dx fs, x = .ref a ∧ H a = some (.ins C dx fs)) ∧ OrB2 C D H y ∧ sp [x, y] H Q E
section
variable {X : Cx} {C D g : Addr} {k : Nat} {fd : FuncData} {ps : List Str} {sp : Sp} {CX : CXT} {E : XK}
theorem op_cmpC2 {op : CmpOp} (hop : ∀ a b, compareOp op a b = richCompare op a b) (c : OpC X.K C) (nD : PySem.W.notFirst X.K C (.ref D) = true) (m : Om X C (cmpInfo op).2.1 g) (F : FnOk X.prog X.w X.K X.mg X.base CX k g fd ps sp) (hr : Room k X.A) (hb : Binds X.K fd ps [])
    (hx : Passes CX X E) : OpR X (compareOp op) (rCmp2 C D sp E) := by
  intro pins s σ H x y v u Q I rx ry h
  obtain ⟨⟨a, dx, fs, rfl, ha⟩, hy, q⟩ := h
  cases (show v = Value.ref a from rx)
  obtain ⟨od, J⟩ := inst_of I ha
  have ty : ∃ tb, PySem.W.Looks (model X.prog X.w) s.heap (typeOf u) tb ∧ PySem.W.notFirst X.K C tb = true := by
    rcases hy with hy | ⟨b, dy, gs, rfl, hb⟩
    · exact orB_type c I ry hy
    · cases (show u = Value.ref b from ry)
      obtain ⟨od, J⟩ := inst_of I hb
      exact ⟨.ref D, J.type, nD⟩
  obtain ⟨tb, ht, hn⟩ := ty
  obtain ⟨mm, hF⟩ := I.fr
  rw [hop]
  refine PySem.W.cmp_K (op := op) hr.units0 hF I.ok.mod.kin J ht hn m.hs m.hf ?_
  refine wpAny_mono (run_fn (us := [.ref a, u]) (vs := [.ref a, y]) (dvs := []) F hr hb .nil hx I (.cons rfl (.cons ry .nil)) q) (fun w s' z => ?_) fun _ _ x => x
  obtain ⟨z', H', I', rz, qz⟩ := z
  exact SlX.cmpback rz ⟨z', H', I', rz, qz⟩
end
structure TxH (K : PySem.W.Frag) (mg : Str → Option Value) (C D : Addr) : Prop where
  ho : HoC K C
  op : OpC K C
  ca : PySem.W.findIn K (.ref C) "__class__" = some (some (.builtin "object.__class__"))
  cn : PySem.W.specialIn K (.builtin "object.__class__") "__get__" = some (some (.builtin "getset_descriptor.__get__"))
  ct : PySem.W.takesIn K (.builtin "object.__class__") = some true
  kC : PySem.W.kitOne K (.ref C) (.ref C) = some true
  kD : PySem.W.kitOne K (.ref D) (.ref C) = some false
  k1 : PySem.W.kitOne K (.type "int") (.ref C) = some false
  k2 : PySem.W.kitOne K (.type "bool") (.ref C) = some false
  k3 : PySem.W.kitOne K (.type "NoneType") (.ref C) = some false
  k4 : PySem.W.kitOne K (.type "str") (.ref C) = some false
  k5 : PySem.W.kitOne K (.type "list") (.ref C) = some false
  k6 : PySem.W.kitOne K (.type "tuple") (.ref C) = some false
  k7 : PySem.W.kitOne K (.type "dict") (.ref C) = some false
  mgC : mg "House" = some (.ref C)
theorem TxH.kOf {K : PySem.W.Frag} {mg : Str → Option Value} {C D : Addr} {H : Hp} {x : V} {T : String} (t : TxH K mg C D) (b : Bk H x T) : PySem.W.kitOne K (.type T) (.ref C) = some false := by
  cases b <;> first | exact t.k1 | exact t.k2 | exact t.k3 | exact t.k4 | exact t.k5 | exact t.k6 | exact t.k7
theorem TxH.tyC {K : PySem.W.Frag} {mg : Str → Option Value} {C D a dx : Addr} {H : Hp} {fs : List (Str × V)} (t : TxH K mg C D) (h : H a = some (.ins C dx fs)) : TyX K H (.ref a) (.ref C) :=
  .base (.ins h t.ho.cl t.ca t.cn t.ct t.op.ob)
theorem HouseAt.ins {C : Addr} {H : Hp} {h : Addr} {x : Str} {L : Lore} (k : HouseAt C H h x L) : ∃ dx a b c r t p, H h = some (.ins C dx (hfs x L.days a b c r t p)) := by
  obtain ⟨dx, a, b, c, r, t, p, _, _, _, h1, _⟩ := k
  exact ⟨dx, a, b, c, r, t, p, h1⟩
def spHText (C : Addr) : Sp := fun vs H Q _ => ∃ h x L, vs = [.ref h] ∧ HouseAt C H h x L ∧ Q (.str x) H
def spHEq (C D : Addr) : Sp := fun vs H Q _ => ∃ h x L y, vs = [.ref h, y] ∧ HouseAt C H h x L ∧
  ((∃ g x' L', y = .ref g ∧ HouseAt C H g x' L' ∧ Q (.bl (decide (x = x'))) H) ∨ ((∃ T, Bk H y T) ∧ Q (.bl false) H) ∨ ∃ b dy gs, y = .ref b ∧ H b = some (.ins D dy gs) ∧ Q (.bl false) H)
section
variable {P : Program} {w : World} {K : PySem.W.Frag} {mg : Str → Option Value} {base : Heap} {C D : Addr}
theorem scHText : FnScope ["self"] ["self"] (defScope sHText) := ⟨rfl, rfl, rfl, by decide +kernel, rfl, by decide +kernel, by decide +kernel⟩
theorem ok_hText {f : Addr} {fd : FuncData} (F : Fun K "text" "House.text" sHText f fd) (t : HoC K C) : FnOk P w K mg base CX0 1 f fd ["self"] (spHText C) := by
  refine F.ok scHText (fun vs H Q E h => ?_) (fun cdv A outer s H vs Q E hr h => ?_)
  · obtain ⟨h, x, L, rfl, _⟩ := h
    rfl
  · obtain ⟨h, x, L, rfl, k, q⟩ := h
    obtain ⟨dx, a, b, c, r, tt, p, h1⟩ := k.ins
    refine ⟨_, pss_one (ps_ret (pe_fld (pv 0) rfl)), ?_⟩
    exact ⟨_, rfl, h, C, dx, _, _, rfl, h1, t.cl, t.n1, hfs_tx _ _ _ _ _ _ _ _, q⟩
theorem scHEq : FnScope ["self", "other"] ["self", "other"] (defScope sHEq) := ⟨rfl, rfl, rfl, by decide +kernel, rfl, by decide +kernel, by decide +kernel⟩
theorem ok_hEq {f : Addr} {fd : FuncData} (F : Fun K "__eq__" "House.__eq__" sHEq f fd) (t : TxH K mg C D) (tD : Txt K mg D) (ni : mg "isinstance" = none) : FnOk P w K mg base CX0 1 f fd ["self", "other"] (spHEq C D) := by
  refine F.ok scHEq (fun vs H Q E h => ?_) (fun cdv A outer s H vs Q E hr h => ?_)
  · obtain ⟨h, x, L, y, rfl, _⟩ := h
    rfl
  · obtain ⟨h, x, L, y, rfl, k, hy⟩ := h
    obtain ⟨dx, a, b, c, r, tt, p, h1⟩ := k.ins
    refine ⟨_, pss_one (ps_ret (pe_and (pe_callB call_isi (by rfl) ni b_isi (pa_cons (pv 1) (pa_cons (pe_glob (v := .ref C) (by rfl) t.mgC rfl) pa_nil)))
      (pe_one (pe_cmpR op_eq (pe_fld (pv 0) rfl) (pe_fld (pv 1) rfl) (nomark _))))), ?_⟩
    rcases hy with ⟨g, x', L', rfl, k', q⟩ | ⟨⟨T, bk⟩, q⟩ | ⟨bb, dy, gs, rfl, hb, q⟩
    · obtain ⟨dx', a', b', c', r', t', p', h2⟩ := k'.ins
      refine ⟨_, rfl, .ref g, .ref C, .ref C, .ref C, _, rfl, .own _, t.tyC h2, t.kC, _, rfl, iteT ?_⟩
      refine ⟨_, rfl, h, C, dx, _, _, rfl, h1, t.ho.cl, t.ho.n1, hfs_tx _ _ _ _ _ _ _ _, _, rfl, g, C, dx', _, _, rfl, h2, t.ho.cl, t.ho.n1, hfs_tx _ _ _ _ _ _ _ _, rfl, ?_⟩
      rw [str_eq]
      exact q
    · exact ⟨_, rfl, y, .ref C, .type T, .ref C, _, rfl, .own _, .base bk.tyOf, t.kOf bk, _, rfl, iteF q⟩
    · exact ⟨_, rfl, .ref bb, .ref C, .ref D, .ref C, _, rfl, .own _, tD.tyC hb, t.kD, _, rfl, iteF q⟩
end
end Hs
/-! int op x, x an instance with the turned operator -/
namespace AmL
open PySem PySem.SeqAt PySem.Calls PyProof.Rows
open AutoSeq1 (wpAny_loadPart')
open MeetsSeq
section
variable {prog : Program} {w : World} {A : Around} {E : Value → Shared → Prop} {s : Shared} {K : PySem.W.Frag} {C : Addr}
theorem dec_int_add {a : Addr} (b : Int) (u : Tok) (C : Addr) : Meets (Builtin.«int.__add__» ⟨[.int b u, .ref a], []⟩) (fun _ R s => PlainAt s a C ∧ R (.ok (.ret .notImplemented)) s) :=
  .of_wp fun prog w A R s h => by obtain ⟨hp, g, d, tk, os⟩ := s; obtain ⟨⟨dd, sl, hl⟩, h⟩ := h; wp_walk using wpAny_loadPart' hl, wpAny_load hl; exact ⟨_, rfl, h⟩
theorem dec_int_sub {a : Addr} (b : Int) (u : Tok) (C : Addr) : Meets (Builtin.«int.__sub__» ⟨[.int b u, .ref a], []⟩) (fun _ R s => PlainAt s a C ∧ R (.ok (.ret .notImplemented)) s) :=
  .of_wp fun prog w A R s h => by obtain ⟨hp, g, d, tk, os⟩ := s; obtain ⟨⟨dd, sl, hl⟩, h⟩ := h; wp_walk using wpAny_loadPart' hl, wpAny_load hl; exact ⟨_, rfl, h⟩
theorem dec_int_mul {a : Addr} (b : Int) (u : Tok) (C : Addr) : Meets (Builtin.«int.__mul__» ⟨[.int b u, .ref a], []⟩) (fun _ R s => PlainAt s a C ∧ R (.ok (.ret .notImplemented)) s) :=
  .of_wp fun prog w A R s h => by obtain ⟨hp, g, d, tk, os⟩ := s; obtain ⟨⟨dd, sl, hl⟩, h⟩ := h; wp_walk using wpAny_loadPart' hl, wpAny_load hl; exact ⟨_, rfl, h⟩
theorem dec_int_fdiv {a : Addr} (b : Int) (u : Tok) (C : Addr) : Meets (Builtin.«int.__floordiv__» ⟨[.int b u, .ref a], []⟩) (fun _ R s => PlainAt s a C ∧ R (.ok (.ret .notImplemented)) s) :=
  .of_wp fun prog w A R s h => by obtain ⟨hp, g, d, tk, os⟩ := s; obtain ⟨⟨dd, sl, hl⟩, h⟩ := h; wp_walk using wpAny_loadPart' hl, wpAny_load hl; exact ⟨_, rfl, h⟩

/-- a method of a built-in type that declines -/
theorem tryM_declines {v o : Value} {T : String} {name : Str} {id : String} {Q : Option Value → Shared → Prop} (hT : s.TypeIs v T)
    (slot : Slot T name id) (told : wpAny (model prog w) A (call (.builtin id) [v, o]) (fun r z => r = .notImplemented ∧ Q none z) E s) : wpAny (model prog w) A (tryMethod v name o) Q E s := by
  have asked : wpAny (model prog w) A (callSpecial? v name [o]) (fun r z => r = some .notImplemented ∧ Q none z) E s :=
    wpAny_callSpecial?_slot hT slot (wpAny_mono told (fun _ _ y => ⟨congrArg some y.1, y.2⟩) fun _ _ y => y)
  unfold tryMethod
  refine wpAny_bind (wpAny_mono asked (fun r z y => ?_) fun _ _ y => y)
  obtain ⟨rfl, q⟩ := y
  exact wpAny_pure q
open PySem.W in
/-- v op x: v of a built-in type that declines, x an instance with an own turned operator -/
theorem refl_bin {x f g : Addr} {v : Value} {T id : String} {op : Operator} {ox : Obj} {od : Option Obj} {fo ro : Option Value} {Q : Value → Shared → Prop}
    (X : K.In s.heap) (I : InstAt s.heap x ox C od) (hb : typeOf v = pure (.type T)) (hT : s.TypeIs v T) (hc : selfFirst K C = true)
    (hs : findIn K (.ref C) (PySem.dunder op.info.2) = some (some (.ref f))) (hr : findIn K (.ref C) (dunderR op.info.2) = some (some (.ref g))) (hg : isFn K (.ref g) = true)
    (h1 : findIn K (.type T) (PySem.dunder op.info.2) = some fo) (h2 : findIn K (.type T) (dunderR op.info.2) = some ro) (hsub : subIn K (.ref C) (.type T) = some false)
    (slot : Slot T (PySem.dunder op.info.2) id) (dec : ∀ Q' : Value → Shared → Prop, Q' .notImplemented s → wpAny (model prog w) A (call (.builtin id) [v, .ref x]) Q' E s)
    (h : wpAny (model prog w) A (call (.ref g) [.ref x, v]) (PySem.W.CmpBack Q) E s) : wpAny (model prog w) A (binaryOp op v (.ref x)) Q E s := by
  rcases ksp_first hc with ⟨cd, more, isC, first⟩
  rcases sg : op.info with ⟨sign, word⟩
  simp only [sg] at hs hr h1 h2 slot
  have turned := ksp_try X I hr hg h
  have declined : ∀ {R : Option Value → Shared → Prop}, R none s → wpAny (model prog w) A (tryMethod v (PySem.dunder word) (.ref x)) R E s := fun q => tryM_declines hT slot (dec _ ⟨rfl, q⟩)
  rcases s with ⟨hh, gg, dr, tk, oo⟩
  have typeX := I.type (M := model prog w)
  have typeV : Looks (model prog w) hh (typeOf v) (.type T) := .of_pure hb
  have fillsX := fills_K (M := model prog w) X isC first hs
  have fillsV := ksp_fillsT (M := model prog w) X h1 h2
  have apart := looks_subIn (M := model prog w) X hsub
  have notPy : Looks (model prog w) hh (numberSlotInPython (.type T) word) false := .of_pure rfl
  have differ : (Value.type T == Value.ref C) = false := beq_eq_false_iff_ne.mpr fun q => by cases q
  generalize (fo.isSome && !isSeqSlot fo || ro.isSome && !isSeqSlot ro) = some? at fillsV
  unfold binaryOp binaryOp1
  simp only [sg]
  refine wpAny_holding (wpAny_bind (wpAny_bind (typeV.at (wpAny_bind (typeX.at (wpAny_bind (fillsV.at ?_)))))))
  simp only [differ, Bool.false_eq_true, if_false]
  have fin : ∀ {R : Option Value → Shared → Prop}, (∀ u z, Q u z → R (some u) z) → wpAny (model prog w) A (tryMethod (.ref x) (dunderR word) v) R E ⟨hh, gg, dr, tk, oo⟩ := fun k => wpAny_mono turned (fun r z y => by
    obtain ⟨u, rfl, q⟩ := y
    exact k u z q) fun _ _ y => y
  cases some? with
  | false =>
    ksp_lk
    refine fin fun u z q => ?_
    ksp_lk
    exact q
  | true =>
    ksp_lk
    refine declined ?_
    ksp_lk
    refine fin fun u z q => ?_
    ksp_lk
    exact q
end
end AmL
/-! operators of an own class, turned ones too, that may raise -/
namespace Am
open PySem PySem.Spec PyProof.Rows L2
/-- a two-place operation whose wish may speak of the slots -/
def OpS (X : Cx) (f : Value → Value → Sem Value) (r : L2.St → R2) : Prop :=
  ∀ (pins : List (Addr × Obj)) (s : Shared) (σ : L2.St) (H : Hp) (x y : V) (v u : Value) (Q : VK), Inv X pins σ H s → RelV x v → RelV y u → r σ x y H Q →
    wpAny (model X.prog X.w) X.A (f v u) (EP X pins σ Q) X.xe s
def tOpS (r : L2.St → R2) (ta tb : TE) : TE := fun σ H Q => ta σ H fun x H1 => tb σ H1 fun y H2 => r σ x y H2 Q
section
variable {X : Cx} {a b : Expr} {ta tb : TE} {pos : Pos}
theorem pe_opS {op : Operator} {r : L2.St → R2} (ho : OpS X (binaryOp op) r) (ha : PE X a ta) (hb : PE X b tb) : PE X (.BinOp a op b pos) (tOpS r ta tb) := by
  refine ⟨fun pins s σ H Q I h => ?_⟩
  exact wpAny_BinOp (binT ha hb I h fun v u z x y G J rx ry q => ho pins z σ G x y v u Q J rx ry q)
end
structure DecB (X : Cx) (op : Operator) : Prop where
  run : ∀ (pins : List (Addr × Obj)) (σ : L2.St) (H : Hp) (s : Shared) (C a dx : Addr) (fs : List (Str × V)) (i : Int) (t : Tok), Inv X pins σ H s → H a = some (.ins C dx fs) →
    ∃ id, Slot "int" (PySem.dunder op.info.2) id ∧ ∀ (E : Value → Shared → Prop) (Q' : Value → Shared → Prop), Q' .notImplemented s → wpAny (model X.prog X.w) X.A (call (.builtin id) [.int i t, .ref a]) Q' E s
theorem decB_add {X : Cx} : DecB X .Add := ⟨fun pins σ H s C a dx fs i t I ha => ⟨_, PySem.F.slot_int_add, fun E Q' q => meets_call PySem.F.slot_int_add (typeIs_int s i t) PySem.F.entry_int_add (PySem.F.args_int_add_2 _ _) (AmL.dec_int_add i t C) (plain_of I ha) Q' q⟩⟩
theorem decB_sub {X : Cx} : DecB X .Sub := ⟨fun pins σ H s C a dx fs i t I ha => ⟨_, PySem.F.slot_int_sub, fun E Q' q => meets_call PySem.F.slot_int_sub (typeIs_int s i t) PySem.F.entry_int_sub (PySem.F.args_int_sub_2 _ _) (AmL.dec_int_sub i t C) (plain_of I ha) Q' q⟩⟩
theorem decB_mul {X : Cx} : DecB X .Mult := ⟨fun pins σ H s C a dx fs i t I ha => ⟨_, PySem.F.slot_int_mul, fun E Q' q => meets_call PySem.F.slot_int_mul (typeIs_int s i t) PySem.F.entry_int_mul (PySem.F.args_int_mul_2 _ _) (AmL.dec_int_mul i t C) (plain_of I ha) Q' q⟩⟩
theorem decB_fdiv {X : Cx} : DecB X .FloorDiv := ⟨fun pins σ H s C a dx fs i t I ha => ⟨_, PySem.F.slot_int_floordiv, fun E Q' q => meets_call PySem.F.slot_int_floordiv (typeIs_int s i t) PySem.F.entry_int_floordiv (PySem.F.args_int_floordiv_2 _ _) (AmL.dec_int_fdiv i t C) (plain_of I ha) Q' q⟩⟩
/-- what x op y asks: x an instance (sp), or a whole number and y an instance (spr) -/
def rBinS (C : Addr) (sp spr : Sp) (E : L2.St → XK) : L2.St → R2 := fun σ x y H Q =>
  ((∃ a dx fs, x = .ref a ∧ H a = some (.ins C dx fs)) ∧ OrI C H y ∧ sp [x, y] H Q (E σ)) ∨ ((∃ i, x = .int i) ∧ (∃ a dx fs, y = .ref a ∧ H a = some (.ins C dx fs)) ∧ spr [y, x] H Q (E σ))
/-- the methods behind an operator -/
structure BinM (X : Cx) (C : Addr) (nm : String) (CX : CXT) (k : Nat) (sp spr : Sp) : Prop where
  fo : ∃ (f : Addr) (fd : FuncData) (ps : List Str), Om X C (PySem.dunder nm) f ∧ FnOk X.prog X.w X.K X.mg X.base CX k f fd ps sp ∧ Binds X.K fd ps []
  ba : ∃ (f : Addr) (fd : FuncData) (ps : List Str), Om X C (PySem.dunderR nm) f ∧ FnOk X.prog X.w X.K X.mg X.base CX k f fd ps spr ∧ Binds X.K fd ps []
  h1 : ∃ fo, PySem.W.findIn X.K (.type "int") (PySem.dunder nm) = some fo
  h2 : ∃ ro, PySem.W.findIn X.K (.type "int") (PySem.dunderR nm) = some ro
section
variable {X : Cx} {C : Addr} {k : Nat} {sp spr : Sp} {CX : CXT} {E : L2.St → XK}
theorem opS_bin {op : Operator} (c : OpC X.K C) (d : DecB X op) (m : BinM X C op.info.2 CX k sp spr) (hr : Room k X.A) (hx : ∀ σ, PassesAt CX X σ (E σ)) : OpS X (binaryOp op) (rBinS C sp spr E) := by
  intro pins s σ H x y v u Q I rx ry h
  obtain ⟨f, fd, ps, mf, F, hb⟩ := m.fo
  obtain ⟨g, gd, qs, mg, G, hg⟩ := m.ba
  obtain ⟨fo, h1⟩ := m.h1
  obtain ⟨ro, h2⟩ := m.h2
  obtain ⟨mm, hF⟩ := I.fr
  rcases h with ⟨⟨a, dx, fs, rfl, ha⟩, hy, q⟩ | ⟨⟨i, rfl⟩, ⟨a, dx, fs, rfl, ha⟩, q⟩
  · cases (show v = Value.ref a from rx)
    obtain ⟨od, J⟩ := inst_of I ha
    have fin : wpAny (model X.prog X.w) X.A (call (.ref f) [.ref a, u]) (PySem.W.CmpBack (EP X pins σ Q)) X.xe s := by
      refine wpAny_mono (run_fnS (us := [.ref a, u]) (vs := [.ref a, y]) F hr hb (hx σ) I (.cons rfl (.cons ry .nil)) q) (fun w s' z => ?_) fun _ _ x => x
      obtain ⟨z', H', I', rz, qz⟩ := z
      exact SlX.cmpback rz ⟨z', H', I', rz, qz⟩
    rcases hy with ⟨b, dy, gs, rfl, hb'⟩ | ⟨i, rfl⟩
    · cases (show u = Value.ref b from ry)
      obtain ⟨od', J'⟩ := inst_of I hb'
      exact PySem.W.binop_K hF I.ok.mod.kin J J'.type c.sf mf.hs mf.hf fin
    · obtain ⟨t, rfl⟩ := (show ∃ t, u = Value.int i t from ry)
      exact PySem.W.ksp_binT hF I.ok.mod.kin J rfl c.sf mf.hs mf.hf mg.hs (.inr ⟨g, rfl⟩) h1 h2 c.r1 fin
  · cases (show u = Value.ref a from ry)
    obtain ⟨t, rfl⟩ := (show ∃ t, v = Value.int i t from rx)
    obtain ⟨od, J⟩ := inst_of I ha
    obtain ⟨id, slot, dec⟩ := d.run pins σ H s C a dx fs i t I ha
    refine AmL.refl_bin (op := op) I.kIn J rfl (typeIs_int s i t) c.sf mf.hs mg.hs mg.hf h1 h2 c.s1 slot (fun Q' q' => dec _ Q' q') ?_
    refine wpAny_mono (run_fnS (us := [.ref a, .int i t]) (vs := [.ref a, .int i]) G hr hg (hx σ) I (.cons rfl (.cons rx .nil)) q) (fun w s' z => ?_) fun _ _ x => x
    obtain ⟨z', H', I', rz, qz⟩ := z
    exact SlX.cmpback rz ⟨z', H', I', rz, qz⟩
theorem passS0 : ∀ σ, PassesAt CX0 X σ (E σ) := fun _ _ _ _ _ _ _ h => h.elim
end
end Am
namespace Am
open PySem PySem.Spec PyProof.Rows L2
section
variable {X : Cx} {C g : Addr} {k : Nat} {fd : FuncData} {ps : List Str} {sp : Sp}
/-- abs(x), x an instance with an own __abs__ -/
theorem call_absC (m : Om X C "__abs__" g) (F : FnOk X.prog X.w X.K X.mg X.base CX0 k g fd ps sp) (hr : Room (k + 1) X.A) (hb : Binds X.K fd ps []) :
    CallR X (.builtin "abs") (fun xs H Q => ∃ x, xs = [x] ∧ (∃ a dx fs, x = .ref a ∧ H a = some (.ins C dx fs)) ∧ sp [x] H Q E0) := by
  intro pins s σ H xs us Q I r h
  obtain ⟨x, rfl, ⟨a, dx, fs, rfl, ha⟩, q⟩ := h
  obtain ⟨u, rfl, ru⟩ := vals1 r
  cases (show u = Value.ref a from ru)
  obtain ⟨od, J⟩ := inst_of I ha
  refine Calls.call_function_entry kind_abs plain_abs entry_abs (args_abs _) ?_
  unfold Builtin.«abs»
  refine wpAny_bind (m := oneArg "abs" _) (wpAny_pure ?_)
  refine wpAny_bind (m := callSpecial? (.ref a) (Str.ofString "__abs__")) (PySem.W.special_fn I.kIn J m.hs (beq_iff_eq.mp m.hf) (wpAny_mono (run_in1 (us := [.ref a]) (vs := [.ref a]) F hr hb pass0 I (.cons rfl .nil) q) (fun v s' z => ?_) fun _ _ y => y))
  exact wpAny_pure ⟨_, rfl, z⟩
theorem CallR.either {f : Value} {r r' : List V → Hp → VK → Prop} (h : CallR X f r) (h' : CallR X f r') : CallR X f (fun xs H Q => r xs H Q ∨ r' xs H Q) := by
  intro pins s σ H xs us Q I rr q
  rcases q with q | q
  · exact h pins s σ H xs us Q I rr q
  · exact h' pins s σ H xs us Q I rr q
end
end Am
/-! try .. except X as n: .. kept = n: the caught object stands on behind the suite -/
namespace Kt
open PySem PySem.Spec PyProof.Rows L2
/-- an exception object that was raised and caught: its class, its dict -/
def EO (a : Addr) (cls : Value) (d : Option Addr) : HO := .ext fun h => ∃ (oe : Obj) (vs : Array Value), h.get? a = some oe ∧ Zc cls d oe ∧ oe.data = .fields vs
theorem eo_ok {P : Program} {w : World} {H : Hp} {h : Heap} {a : Addr} {cls : Value} {d : Option Addr} {oe : Obj} {vs : Array Value} (e : h.get? a = some oe) (z : Zc cls d oe) (f : oe.data = .fields vs) : ObjOk P w H h a (EO a cls d) :=
  ⟨⟨oe, vs, e, z, f⟩, ⟨oe, e⟩, fun _ _ ⟨o, v, q, r⟩ k => ⟨o, v, k o q, r⟩⟩
theorem eo_at {P : Program} {w : World} {H : Hp} {h : Heap} {a : Addr} {cls : Value} {d : Option Addr} (ok : HOk P w H h) (e : H a = some (EO a cls d)) : ∃ oe vs, h.get? a = some oe ∧ Zc cls d oe ∧ oe.data = .fields vs := by
  obtain ⟨p, _, _⟩ := ok a _ e
  exact p
section
variable {X : Cx} {pins : List (Addr × Obj)} {τ : L2.St} {G : Hp} {z : Shared} {a : Addr} {o : HO}
/-- an object that is new since the entry becomes known -/
theorem track (I : Inv X pins τ G z) (na : G a = none) (n0 : X.s_0.heap.get? a = none) (nL : a ≠ X.env.locals) (np : ∀ p ∈ X.pn ++ pins, p.1 ≠ a) (nc : ∀ v, ¬ z.heap.IsCell a v)
    (new : ObjOk X.prog X.w (upd G a o) z.heap a o) : Inv X pins τ (upd G a o) z := by
  have elder : ∀ {b u}, X.s_0.heap.get? b = some u → b ≠ a := fun e y => by subst y; rw [n0] at e; cases e
  have same : ∀ {b u}, G b = some u → upd G a o b = some u := fun e => (upd_ne (ne_of_none e na)).trans e
  constructor
  case ok => exact I.ok
  case os => exact I.os
  case bare => exact I.bare
  case loc => exact I.loc
  case cell => exact I.cell
  case len => exact I.len
  case free => exact (upd_ne (Ne.symm nL)).trans I.free
  case freeC =>
    intro y c hc
    refine (upd_ne fun y' => ?_).trans (I.freeC y c hc)
    obtain ⟨v, hv⟩ := I.cell y c hc
    exact nc v (y' ▸ hv)
  case pin =>
    intro p hp
    have q := I.pin p hp
    exact ⟨q.1, (upd_ne (np p hp)).trans q.2.1, q.2.2⟩
  case base =>
    exact { I.base with
      free := fun b u e n x => (upd_ne (elder e)).trans (I.base.free b u e n x)
      tups := fun b xs e => same (I.base.tups b xs e)
      frzs := fun b w u e => same (I.base.frzs b w u e)
      tbls := fun b ps e => (I.base.tbls b ps e).imp fun _ => same }
  case hok =>
    intro b u e
    by_cases c : b = a
    · subst c
      obtain rfl : o = u := Option.some.inj (upd_same.symm.trans e)
      exact new
    · exact (I.hok b u ((upd_ne c).symm.trans e)).stay (fun _ _ _ y => y) (fun _ => same) fun _ _ => same
/-- into an except suite that pins nothing of its own, and out of it -/
theorem toSuite (I : Inv X pins τ G z) (a : Addr) : Inv (X.suite a (X.pn ++ pins)) [] τ G z :=
  { ok := I.ok.suite _ _, os := I.os, bare := I.bare, base := I.base, loc := I.loc, cell := I.cell, free := I.free, freeC := I.freeC, hok := I.hok, len := I.len, pin := fun p hp => I.pin p ((List.append_nil (X.pn ++ pins)) ▸ hp) }
theorem ofSuite {more : List (Addr × Obj)} (I : Inv (X.suite a (X.pn ++ pins)) more τ G z) (ok : X.Ok) : Inv X pins τ G z :=
  { ok := ok, os := I.os, bare := I.bare, base := I.base, loc := I.loc, cell := I.cell, free := I.free, freeC := I.freeC, hok := I.hok, len := I.len, pin := fun p hp => I.pin p (List.mem_append.mpr (.inl hp)) }
end
/-- the wish -/
def wKeep (K : PySem.W.Frag) (c : Value) (i : Nat) (ts : TS) (Wout : WX) (D : Ends) : WX := fun cls d σ H =>
  ∃ b, PySem.W.exmOne K cls c = some b ∧ (b = true → ∀ a, H a = none → ts { nx := fun σ' H' => D.nx (σ'.set i none) H', rt := D.rt, bk := fun σ' H' => D.bk (σ'.set i none) H', ct := fun σ' H' => D.ct (σ'.set i none) H' } (σ.set i (some (.ref a))) (upd H a (EO a cls d))) ∧
    (b = false → Wout cls d σ H)
section
variable {X : Cx} {x n : Str} {c : Value} {i : Nat} {body suite : List Stmt} {b₀ : Stmt} {np pos pos' : Pos} {tb : WX → TS} {ts : TS} {Wout : WX} {pins : List (Addr × Obj)} {τ : L2.St} {G : Hp} {D : Ends}
/-- what is to be done with an exception of a try's body -/
abbrev Fate (X : Cx) (hds : List ExceptHandler) (pins : List (Addr × Obj)) (D : Ends) (e : Value) (z : Shared) : Prop :=
  wpAny (model X.prog X.w) X.A (noteFrame e X.env) (fun _ z1 => wpAny (model X.prog X.w) X.A (setFlight e none) (fun _ z2 => wpAny (model X.prog X.w) X.A (handleBy e X.env hds) (SP X pins D) X.xe z2) X.xe z1) X.xe z
/-- the clause's test names the class c -/
theorem names_eval (hc : Names X x c) {a : Addr} {oe : Obj} {h3 : Heap} {z : Shared} (S : Inv (X.suite a ((a, oe) :: (X.pn ++ pins))) [] τ G { z with heap := h3 }) {Q E : Value → Shared → Prop} (q : Q c { z with heap := h3 }) :
    wpAny (model X.prog X.w) (X.A.mark (some (.ref a))) (eval (.Name x np) X.env) Q E { z with heap := h3 } := by
  rcases hc with ⟨g, nd, own | ⟨no, boot, nn⟩⟩
  · exact L2.ld_glob (X := X.suite a ((a, oe) :: (X.pn ++ pins))) S g own q nd
  · exact L2.ld_blt (X := X.suite a ((a, oe) :: (X.pn ++ pins))) S g no boot q nn nd
/-- the suite, run with the caught object known -/
theorem keep_suite (hN : X.N.Nodup) (hi : X.N[i]? = some n) (hln : X.env.kindOf n = some .local) (hsu : ∀ (a : Addr) (pn : List (Addr × Obj)), PSs (X.suite a pn) (b₀ :: suite) ts) {a : Addr} {z : Shared}
    (I : Inv X pins τ G z) (want : ts { nx := fun σ' H' => D.nx (σ'.set i none) H', rt := D.rt, bk := fun σ' H' => D.bk (σ'.set i none) H', ct := fun σ' H' => D.ct (σ'.set i none) H' } (τ.set i (some (.ref a))) G) {E1 E2 : Value → Shared → Prop} :
    wpAny (model X.prog X.w) (X.A.mark (some (.ref a))) (storeName X.env n (.ref a)) (fun _ z1 => wpAny (model X.prog X.w) (X.A.mark (some (.ref a))) (execs (b₀ :: suite) X.env) (fun fl z2 => wpAny (model X.prog X.w) X.A (do bindName X.env n .none; unbindBehindTheSuite X.env n pos') (fun _ z3 => SP X pins D fl z3) X.xe z2) E1 z1) E2 z := by
  refine L2.store_ok (X := X.suite a (X.pn ++ pins)) (v := .ref a) (toSuite I a) hN hi (.inl hln) rfl (fun z1 J => ?_) (.inr hln)
  have run := (hsu a (X.pn ++ pins)).run [] z1 _ _ _ J want
  have behind : ∀ {τ2 : L2.St} {G2 : Hp} {z2 : Shared} {Q : Shared → Prop}, Inv (X.suite a (X.pn ++ pins)) [] τ2 G2 z2 → (∀ z3, Inv X pins (τ2.set i none) G2 z3 → Q z3) →
      wpAny (model X.prog X.w) X.A (do bindName X.env n .none; unbindBehindTheSuite X.env n pos') (fun _ z3 => Q z3) X.xe z2 := fun J2 k => L2.gone_ok (ofSuite J2 I.ok) hN hi hln k
  refine wpAny_mono run (fun fl z2 r => ?_) fun _ _ no => no.elim
  match fl, r with
  | .next, ⟨_, _, J2, q⟩ => exact behind J2 fun _ J3 => ⟨_, _, J3, q⟩
  | .brk, ⟨_, _, J2, q⟩ => exact behind J2 fun _ J3 => ⟨_, _, J3, q⟩
  | .cont, ⟨_, _, J2, q⟩ => exact behind J2 fun _ J3 => ⟨_, _, J3, q⟩
  | .ret _, ⟨_, _, _, J2, rel, q⟩ => exact behind J2 fun _ J3 => ⟨_, _, _, J3, rel, q⟩
/-- an exception of the body meets the clause -/
theorem keep_fate (hx : X.ex = []) (hs : X.stack = X.env :: X.outer) (hf : X.env.frame = some X.env.locals) (hN : X.N.Nodup) (hi : X.N[i]? = some n) (hln : X.env.kindOf n = some .local) (hc : Names X x c) (tk : Takes X Wout) (ok : X.Ok)
    (hsu : ∀ (a : Addr) (pn : List (Addr × Obj)), PSs (X.suite a pn) (b₀ :: suite) ts) {u : Value} {z : Shared} {xe : Value → Shared → Prop} (air : XE (X.tr (X.pn ++ pins) xe) (wKeep X.K c i ts Wout D) u z) :
    Fate X [.ExceptHandler (some (.Name x np)) (some n) (b₀ :: suite) pos'] pins D u z := by
  obtain ⟨a, B, g, pins', τ, G, cls, d, rfl, J0, ground, up, sky, na, os, ag, b, meets, yes, no⟩ := air
  have J : Inv X pins τ G g := L2.Inv.ofTry J0 ok
  have sky1 : Sky B (X.env :: X.outer) a (Zc cls d) X.env.locals z.heap := hs ▸ sky
  refine Sky.land Zc.steady (ok.frames.trans (congrArg some hs)) hf sky1 fun k fl upk => ?_
  obtain ⟨oe, vs, at_, zc, rec⟩ := fl.there
  -- the object is no frame's, and new since the entry
  have noframe : a ∉ frs (X.env :: X.outer) := fun m => by
    obtain ⟨_, o', e', nr⟩ := fl.2.2.1.mem m
    obtain rfl : oe = o' := Option.some.inj (at_.symm.trans e')
    exact nr _ rec
  have nL : a ≠ X.env.locals := fun y => noframe (List.mem_filterMap.mpr ⟨_, .head _, hf.trans (congrArg some y.symm)⟩)
  have nF : a ∉ X.fs := fun m => noframe (by
    obtain ⟨e, me, q⟩ := List.mem_filterMap.mp m
    exact List.mem_filterMap.mpr ⟨e, .tail _ me, q⟩)
  have nG : g.heap.get? a = none := Option.eq_none_iff_forall_ne_some.mpr fun o e => by
    have q := ground a o e (hs ▸ noframe)
    rw [fl.2.1] at q
    cases q
  have n0 : X.s_0.heap.get? a = none := Option.eq_none_iff_forall_ne_some.mpr fun o e => by
    obtain ⟨o', q⟩ := J.base.there a o e (hx ▸ List.not_mem_nil)
    exact Option.some_ne_none _ (q.symm.trans nG)
  have npin : ∀ p ∈ X.pn ++ pins, p.1 ≠ a := fun p hp y => Option.some_ne_none _ ((J.pin p hp).1.symm.trans ((congrArg g.heap.get? y).trans nG))
  have K1 : Inv X pins τ G { z with heap := k } := L2.Inv.landed J ground fl.1 (up.trans upk) os ag
  have S1 := L2.Inv.suite K1 at_ rec na nL nF
  have isCls : PySem.W.Looks (model X.prog X.w) k (typeOf (.ref a)) cls := fun _ _ _ _ keep q => wpAny_typeOf_ref (keep _ _ at_) (zc.1.symm ▸ q)
  refine wpAny_handleBy_cons (codeAny_handlers_test (names_eval hc S1 ((PySem.W.exm_one (M := model X.prog X.w) K1.kIn isCls meets).here ?_))) (fun q => nomatch q)
  cases b with
  | true =>
    refine codeAny_handlers_suite_as (HandSPX.lands_againZ fl fun k2 fl2 up2 => ?_)
    obtain ⟨oe2, vs2, at2, zc2, rec2⟩ := fl2.there
    have K2 : Inv X pins τ G { z with heap := k2 } := L2.Inv.landed J ground fl2.1 ((up.trans upk).trans up2) os ag
    have K3 : Inv X pins τ (upd G a (EO a cls d)) { z with heap := k2 } := track K2 na n0 nL npin (fun v ⟨o, e, dv⟩ => by
      obtain rfl : oe2 = o := Option.some.inj (at2.symm.trans e)
      exact Data.noConfusion (rec2.symm.trans dv)) (eo_ok at2 zc2 rec2)
    exact keep_suite hN hi hln hsu K3 (yes rfl a na)
  | false =>
    refine wpAny_handleBy_nil ?_
    obtain ⟨_, _, _, oe', vs', T, _, _, e1, _, e2, e3, _⟩ := id fl
    have on : wpAny (model X.prog X.w) X.A (setFlight (.ref a) X.env.frame) (fun _ z1 => wpAny (model X.prog X.w) X.A (throw (.ref a) : Sem Flow) (SP X pins D) X.xe z1) X.xe { z with heap := k } := by
      rw [hf]
      refine HandSPX.setFlight_upZ fl fun k2 held up2 => wpAny_throw (tk _ _ ?_)
      refine ⟨a, B, g, pins, τ, G, cls, d, rfl, J, ground, (up.trans upk).trans up2, ?_, na, os, ag, no rfl⟩
      exact .inr (.inr (hs.symm ▸ held))
    unfold PySem.passOn
    refine wpAny_bind (wpAny_field e1 e2 e3 ?_)
    rw [if_neg (fun y => by simp at y)]
    first | exact wpAny_bind on | exact wpAny_bind (wpAny_pure (wpAny_bind on))
/-- try: body / except x as n: suite, the caught object known from then on -/
theorem ps_try_keep (hx : X.ex = []) (hs : X.stack = X.env :: X.outer) (hf : X.env.frame = some X.env.locals) (hN : X.N.Nodup) (hi : X.N[i]? = some n) (hln : X.env.kindOf n = some .local) (hc : Names X x c) (tk : Takes X Wout)
    (hb : ∀ (W : WX) (pn : List (Addr × Obj)) (xe : Value → Shared → Prop), Takes (X.tr pn xe) W → PassesOwn (model X.prog X.w) X.A X.env xe → PSs (X.tr pn xe) body (tb W))
    (hsu : ∀ (a : Addr) (pn : List (Addr × Obj)), PSs (X.suite a pn) (b₀ :: suite) ts) :
    PS X (.Try body [.ExceptHandler (some (.Name x np)) (some n) (b₀ :: suite) pos'] [] [] pos) (fun D σ H => tb (wKeep X.K c i ts Wout D) D σ H) := by
  constructor
  intro pins z τ G D I want
  have inner := hb (wKeep X.K c i ts Wout D) (X.pn ++ pins) (Fate X [.ExceptHandler (some (.Name x np)) (some n) (b₀ :: suite) pos'] pins D)
    (fun _ _ air => keep_fate hx hs hf hN hi hln hc tk I.ok hsu air) PassesOwn.looking
  refine wpAny_Try_except (wpAny_mono (inner.run [] z τ G D (L2.Inv.toTry I _) want) (fun fl z1 r => ?_) fun _ _ y => y)
  match fl, r with
  | .next, ⟨_, _, J, q⟩ => exact wpAny_execs_nil ⟨_, _, L2.Inv.ofTry J I.ok, q⟩
  | .brk, ⟨_, _, J, q⟩ => exact ⟨_, _, L2.Inv.ofTry J I.ok, q⟩
  | .cont, ⟨_, _, J, q⟩ => exact ⟨_, _, L2.Inv.ofTry J I.ok, q⟩
  | .ret _, ⟨_, _, _, J, rel, q⟩ => exact ⟨_, _, _, L2.Inv.ofTry J I.ok, rel, q⟩
/-- kept.f, kept a caught exception with an own dict -/
def tEf (C : Addr) (f : Str) (te : TE) : TE := fun σ H Q => te σ H fun x H1 => ∃ (a dd : Addr) (fs : List (Str × V)) (v : V), x = .ref a ∧ H1 a = some (EO a (.ref C) (some dd)) ∧ H1 dd = some (.xd fs) ∧ fs.lookup f = some v ∧ Q v H1
theorem pe_ef {C : Addr} {e : Expr} {te : TE} {pos : Pos} {n : Str} (T : XfC X.K C) (hno : PySem.W.findIn X.K (.ref C) n = some none)
    (he : PE X e te) (hb : attributeBase e n X.env (eval e X.env) = eval e X.env := by rfl) : PE X (.Attribute e n pos) (tEf C n te) := by
  refine ⟨fun pins z τ G Q I want => attr_of hb (thn (he.run pins z τ G _ I want) fun u z1 got => ?_)⟩
  obtain ⟨_, G1, J, rel, a, dd, fs, v, rfl, ea, ed, look, q⟩ := got
  cases (show u = Value.ref a from rel)
  obtain ⟨oe, vs, at_, zc, rec⟩ := eo_at J.hok ea
  obtain ⟨m, space, fits⟩ := (show ObjOk X.prog X.w G1 z1.heap dd (.xd fs) from J.hok dd _ ed)
  obtain ⟨od, od_at, od_look⟩ := lookIn_ns space
  have fit := fits n
  rw [look] at fit
  obtain ⟨w, w_is, w_rel⟩ := RelO.some_of fit
  have inst : PySem.W.InstAt z1.heap a oe C (some od) := by
    refine ⟨at_, zc.1, ?_, ?_⟩
    · unfold PySem.W.notCls
      rw [rec] <;> rfl
    · rw [zc.2]
      exact od_at
  have found := PySem.W.findObj_own (K := X.K) (C := C) (name := n) T.hdC hno rfl ((od_look n).trans (congrArg some w_is))
  exact HandSPX.exc_get J.kIn inst T.ga T.gg T.exC found (handed_of w_rel) ⟨v, G1, J.tok _, w_rel, q⟩
end
end Kt
namespace Am
open PySem PySem.Spec PyProof.Rows L2
def B4 (n u n' u' : Int) : Prop := Bd 4000 n ∧ Bd 4000 u ∧ Bd 4000 n' ∧ Bd 4000 u'
def spAbs (C : Addr) : Sp := fun vs H Q _ => ∃ a n u, vs = [a] ∧ AmAt C H a n u ∧ Bd 8900 n ∧ Bd 8900 u ∧ ∀ v H', Same H H' → AmAt C H' v (if n < 0 then -n else n) u → Q v H'
def spMul (C : Addr) : Sp := fun vs H Q _ => ∃ a y n u n' u', vs = [a, y] ∧ AmAt C H a n u ∧ AmV C H y n' u' ∧ B4 n u n' u' ∧
  ∀ v H', Same H H' → AmAt C H' v (fr (n * n') (u * u')).1 (fr (n * n') (u * u')).2 → Q v H'
def spRsub (C : Addr) : Sp := fun vs H Q _ => ∃ a y n u n' u', vs = [a, y] ∧ AmAt C H a n u ∧ AmV C H y n' u' ∧ B4 n u n' u' ∧
  ∀ v H', Same H H' → AmAt C H' v (fr (-n * u' + n' * u) (u * u')).1 (fr (-n * u' + n' * u) (u * u')).2 → Q v H'
/-- one // other -/
def Qt (C D : Addr) (x : V) (n u n' u' : Int) (H : Hp) (Q : VK) (E : XK) : Prop :=
  (n' ≠ 0 → ∀ v H', Same H H' → AmAt C H' v (fr (n * u') (u * n')).1 (fr (n * u') (u * n')).2 → Q v H') ∧ (n' = 0 → ∀ d H', Same H H' → H' d = some (.xd [("value", x)]) → E (.ref D) (some d) H')
theorem Qt.same {C D : Addr} {x : V} {n u n' u' : Int} {H H1 : Hp} {Q : VK} {E : XK} (h : Qt C D x n u n' u' H Q E) (e : Same H H1) : Qt C D x n u n' u' H1 Q E :=
  ⟨fun z v H' e' q => h.1 z v H' (e.trans e') q, fun z d H' e' q => h.2 z d H' (e.trans e') q⟩
def spQuot (C D : Addr) : Sp := fun vs H Q E => ∃ x y n u n' u', vs = [x, y] ∧ AmV C H x n u ∧ AmV C H y n' u' ∧ B4 n u n' u' ∧ Qt C D x n u n' u' H Q E
def spFdiv (C D : Addr) : Sp := fun vs H Q E => ∃ x y n u n' u', vs = [x, y] ∧ AmAt C H x n u ∧ AmV C H y n' u' ∧ B4 n u n' u' ∧ Qt C D x n u n' u' H Q E
def spRfdiv (C D : Addr) : Sp := fun vs H Q E => ∃ x y n u n' u', vs = [y, x] ∧ AmV C H x n u ∧ AmAt C H y n' u' ∧ B4 n u n' u' ∧ Qt C D x n u n' u' H Q E
def spInitE (K : PySem.W.Frag) : Sp := fun vs H Q _ => ∃ (a D : Addr) (v : V), vs = [.ref a, v] ∧ OexC K D ∧ PySem.W.findIn K (.ref D) "value" = some none ∧ H a = some (exo a D none) ∧ ∀ dx, H dx = none → dx ≠ a → Q .non (upd (upd H dx (exd dx [("value", v)])) a (exo a D (some dx)))
/-- an error class of the text -/
structure Err (K : PySem.W.Frag) (mg : Str → Option Value) (x : Str) (D fI : Addr) : Prop where
  oex : OexC K D
  iC : PySem.W.findIn K (.ref D) "__init__" = some (some (.ref fI))
  tI : PySem.W.typeIn K (.ref fI) = some (.type "function")
  gD : mg x = some (.ref D)
  nv : PySem.W.findIn K (.ref D) "value" = some none
  xf : XfC K D
  te : PySem.W.exmOne K (.ref D) (.ref D) = some true
def GotX (P : Program) (w : World) (K : PySem.W.Frag) (mg : Str → Option Value) (base : Heap) (x : Str) (k : Nat) (ps : List Str) (sp : Sp) : Prop :=
  ∃ (f : Addr) (fd : FuncData), FnOk P w K mg base (L2.CX P w) k f fd ps sp ∧ Binds K fd ps [] ∧ mg x = some (.ref f) ∧ PySem.W.keepIn K (.ref f) = true
section
variable {P : Program} {w : World} {K : PySem.W.Frag} {mg : Str → Option Value} {base : Heap} {C D : Addr}
theorem scInitE : FnScope ["self", "value"] ["self", "value"] (defScope sInitE) := ⟨rfl, rfl, rfl, by decide +kernel, rfl, by decide +kernel, by decide +kernel⟩
theorem ok_initE {f : Addr} {fd : FuncData} (F : Fun K "__init__" "MeterError.__init__" sInitE f fd) : FnOk P w K mg base CX0 1 f fd ["self", "value"] (spInitE K) := by
  refine F.ok scInitE (fun vs H Q E h => ?_) (fun cdv A outer s H vs Q E hr h => ?_)
  · obtain ⟨a, D, v, rfl, _⟩ := h
    rfl
  · obtain ⟨a, D, v, rfl, T, nv, ha, q⟩ := h
    exact ⟨_, pss_one (ps_ost (pv 0) (pv 1)), _, rfl, _, rfl, a, D, rfl, T, nv, .inl ⟨ha, fun dx hd ne => q dx hd ne⟩⟩
/-- a made error, told -/
theorem err_read {fI : Addr} {x : Str} (T : Err K mg x D fI) {H : Hp} {v : V} {Q : XK} (q : ∀ d H', Same H H' → H' d = some (.xd [("value", v)]) → Q (.ref D) (some d) H') :
    ∀ a, H a = none → spInitE K (.ref a :: ([v] ++ [])) (upd H a (exo a D none)) (fun r H2 => r = .non ∧ ∃ (d : Addr) (fs : List (Str × V)), H2 a = some (exo a D (some d)) ∧ H2 d = some (exd d fs) ∧ H d = none ∧ Q (.ref D) (some d) (upd (del H2 a) d (.xd fs))) (fun _ _ _ => False) := by
  intro a na
  refine ⟨a, D, v, rfl, T.oex, T.nv, upd_same, fun dx nd ne => ⟨rfl, dx, [("value", v)], upd_same, ?_, ?_, ?_⟩⟩
  · rw [upd_ne ne]; exact upd_same
  · rw [upd_ne ne] at nd; exact nd
  · refine q dx _ (fun b o e => ?_) upd_same
    have hd : H dx = none := by rw [upd_ne ne] at nd; exact nd
    have n1 : b ≠ dx := ne_of_none e hd
    have n2 : b ≠ a := ne_of_none e na
    rw [upd_ne n1, del_ne n2, upd_ne n2, upd_ne n1, upd_ne n2]
    exact e
theorem scAbs : FnScope ["self"] ["self"] (defScope sAbs) := ⟨rfl, rfl, rfl, by decide +kernel, rfl, by decide +kernel, by decide +kernel⟩
theorem ok_abs {f : Addr} {fd : FuncData} (F : Fun K "__abs__" "Amount.__abs__" sAbs f fd) (T : Txt K mg C) (na : mg "abs" = none) (GI : GotI P w K mg base C) : FnOk P w K mg base CX0 4 f fd ["self"] (spAbs C) := by
  obtain ⟨fI, fdI, GI, bI, _, M⟩ := GI
  refine F.ok scAbs (fun vs H Q E h => ?_) (fun cdv A outer s H vs Q E hr h => ?_)
  · obtain ⟨a, n, u, rfl, _⟩ := h
    rfl
  · obtain ⟨a, n, u, rfl, ⟨l, x, dx, rfl, hx⟩, bn, bu, q⟩ := h
    refine ⟨_, pss_one (ps_ret (pe_make M GI hr (by rfl) T.mgC bI .nil pass0 (pa_cons (pe_callB call_abs (by rfl) na boot_abs (pa_cons (pe_fld (pv 0) rfl) pa_nil)) (pa_cons (pe_fld (pv 0) rfl) pa_nil)))), ?_⟩
    refine ⟨_, rfl, x, C, dx, _, _, rfl, hx, T.cl, T.nN, pf_number _ _, _, rfl, _, rfl, x, C, dx, _, _, rfl, hx, T.cl, T.nU, pf_under _ _, ?_⟩
    have bn' : Bd 8900 (if n < 0 then -n else n) := by split <;> first | exact bn.neg | exact bn
    have l' : Low (if n < 0 then -n else n) u := by split <;> first | exact l.neg | exact l
    refine make_read l.ne bn' bu fun v H' e h => q v H' e ?_
    rw [fr_of_low l'] at h
    exact h
theorem scMul : FnScope ["self", "other", "number", "under"] ["self", "other"] (defScope sMul) := ⟨rfl, rfl, rfl, by decide +kernel, rfl, by decide +kernel, by decide +kernel⟩
theorem ok_mul {f : Addr} {fd : FuncData} (F : Fun K "__mul__" "Amount.__mul__" sMul f fd) (T : Txt K mg C) (GI : GotI P w K mg base C) (GA : GotF P w K mg base "is_amount" 2 ["value"] (spIsAm C)) (GP : GotF P w K mg base "parts" 1 ["amount"] (spParts C)) :
    FnOk P w K mg base CX0 4 f fd ["self", "other"] (spMul C) := by
  obtain ⟨fI, fdI, GI, bI, _, M⟩ := GI
  obtain ⟨fA, fdA, GA, bA, mA, kA⟩ := GA
  obtain ⟨fP, fdP, GP, bP, mP, kP⟩ := GP
  refine F.ok scMul (fun vs H Q E h => ?_) (fun cdv A outer s H vs Q E hr h => ?_)
  · obtain ⟨a, y, n, u, n', u', rfl, _⟩ := h
    rfl
  · obtain ⟨a, y, n, u, n', u', rfl, ⟨l, x, dx, rfl, hx⟩, hy, ⟨b1, b2, b3, b4⟩, q⟩ := h
    have hr1 : Room 1 _ := hr.mono (by decide)
    have hr2 : Room 2 _ := hr.mono (by decide)
    refine ⟨_, pss_cons (ps_if (pt_not (pt_val (pe_call GA hr2 (by rfl) mA kA bA .nil pass0 (pa_cons (pv 1) pa_nil)))) (pss_one ps_never) pss_nil)
      (pss_cons (ps_asg (pe_call GP hr1 (by rfl) mP kP bP .nil pass0 (pa_cons (pv 1) pa_nil)) (pg_tup rfl (pgs_cons (pg_name (i := 2) scMul.nd rfl (.inl rfl)) (pgs_cons (pg_name (i := 3) scMul.nd rfl (.inl rfl)) pgs_nil))))
      (pss_one (ps_ret (pe_make M GI hr (by rfl) T.mgC bI .nil pass0 (pa_cons (pe_op op_mulW (pe_fld (pv 0) rfl) (pv 2)) (pa_cons (pe_op op_mulW (pe_fld (pv 0) rfl) (pv 3)) pa_nil)))))), ?_⟩
    refine ⟨_, rfl, _, true, rfl, hy.isAm, _, rfl, iteF ?_⟩
    refine ⟨_, rfl, y, n', u', rfl, hy, fun p np => ⟨p, _, rfl, SqT.of upd_same, rfl, _, _, rfl, _, _, rfl, rfl, ?_⟩⟩
    have hx1 : (upd H p (.tup [V.int n', V.int u'])) x = some (.ins C dx (pf n u)) := by rw [upd_ne (ne_of_none hx np)]; exact hx
    refine ⟨_, rfl, x, C, dx, _, _, rfl, hx1, T.cl, T.nN, pf_number _ _, _, rfl, _, _, rfl, rfl, b1.cmul b3 (by decide) (by decide), ?_⟩
    refine ⟨_, rfl, x, C, dx, _, _, rfl, hx1, T.cl, T.nU, pf_under _ _, _, rfl, _, _, rfl, rfl, b2.cmul b4 (by decide) (by decide), ?_⟩
    have hu : u * u' ≠ 0 := Int.mul_ne_zero l.ne hy.low.ne
    refine make_read hu ((b1.mul b3).mono (by decide)) ((b2.mul b4).mono (by decide)) fun v H' e h => q v H' ((same_upd np).trans e) h
theorem scRadd : FnScope ["self", "other"] ["self", "other"] (defScope sRadd) := ⟨rfl, rfl, rfl, by decide +kernel, rfl, by decide +kernel, by decide +kernel⟩
theorem ok_radd {f : Addr} {fd : FuncData} (F : Fun K "__radd__" "Amount.__radd__" sRadd f fd) (T : Txt K mg C) (GA : GotF P w K mg base "is_amount" 2 ["value"] (spIsAm C)) (GD : GotM P w K mg base C "__add__" 4 ["self", "other"] (spAdd C)) (cA : OpIK K C "add") :
    FnOk P w K mg base CX0 5 f fd ["self", "other"] (spAdd C) := by
  obtain ⟨fA, fdA, GA, bA, mA, kA⟩ := GA
  obtain ⟨fD, fdD, GD, bD, hD, iD⟩ := GD
  refine F.ok scRadd (fun vs H Q E h => ?_) (fun cdv A outer s H vs Q E hr h => ?_)
  · obtain ⟨a, y, n, u, n', u', rfl, _⟩ := h
    rfl
  · obtain ⟨a, y, n, u, n', u', rfl, ha, hy, bb, q⟩ := h
    have hr2 : Room 2 _ := hr.mono (by decide)
    have hr4 : Room 4 _ := hr.mono (by decide)
    refine ⟨_, pss_cons (ps_if (pt_not (pt_val (pe_call GA hr2 (by rfl) mA kA bA .nil pass0 (pa_cons (pv 1) pa_nil)))) (pss_one ps_never) pss_nil)
      (pss_one (ps_ret (pe_op (op_binC (op := .Add) T.op ⟨cA.h1, cA.h2, cA.hr⟩ ⟨hD, iD⟩ GD hr4 bD pass0) (pv 0) (pv 1)))), ?_⟩
    exact ⟨_, rfl, _, true, rfl, hy.isAm, _, rfl, iteF ⟨_, rfl, _, rfl, ha.inst, hy.orI, a, y, n, u, n', u', rfl, ha, hy, bb, q⟩⟩
theorem scRmul : FnScope ["self", "other"] ["self", "other"] (defScope sRmul) := ⟨rfl, rfl, rfl, by decide +kernel, rfl, by decide +kernel, by decide +kernel⟩
theorem ok_rmul {f : Addr} {fd : FuncData} (F : Fun K "__rmul__" "Amount.__rmul__" sRmul f fd) (T : Txt K mg C) (GA : GotF P w K mg base "is_amount" 2 ["value"] (spIsAm C)) (GD : GotM P w K mg base C "__mul__" 4 ["self", "other"] (spMul C)) (cA : OpIK K C "mul") :
    FnOk P w K mg base CX0 5 f fd ["self", "other"] (spMul C) := by
  obtain ⟨fA, fdA, GA, bA, mA, kA⟩ := GA
  obtain ⟨fD, fdD, GD, bD, hD, iD⟩ := GD
  refine F.ok scRmul (fun vs H Q E h => ?_) (fun cdv A outer s H vs Q E hr h => ?_)
  · obtain ⟨a, y, n, u, n', u', rfl, _⟩ := h
    rfl
  · obtain ⟨a, y, n, u, n', u', rfl, ha, hy, bb, q⟩ := h
    have hr2 : Room 2 _ := hr.mono (by decide)
    have hr4 : Room 4 _ := hr.mono (by decide)
    refine ⟨_, pss_cons (ps_if (pt_not (pt_val (pe_call GA hr2 (by rfl) mA kA bA .nil pass0 (pa_cons (pv 1) pa_nil)))) (pss_one ps_never) pss_nil)
      (pss_one (ps_ret (pe_op (op_binC (op := .Mult) T.op ⟨cA.h1, cA.h2, cA.hr⟩ ⟨hD, iD⟩ GD hr4 bD pass0) (pv 0) (pv 1)))), ?_⟩
    exact ⟨_, rfl, _, true, rfl, hy.isAm, _, rfl, iteF ⟨_, rfl, _, rfl, ha.inst, hy.orI, a, y, n, u, n', u', rfl, ha, hy, bb, q⟩⟩
theorem scRsub : FnScope ["self", "other"] ["self", "other"] (defScope sRsub) := ⟨rfl, rfl, rfl, by decide +kernel, rfl, by decide +kernel, by decide +kernel⟩
theorem ok_rsub {f : Addr} {fd : FuncData} (F : Fun K "__rsub__" "Amount.__rsub__" sRsub f fd) (T : Txt K mg C) (GA : GotF P w K mg base "is_amount" 2 ["value"] (spIsAm C)) (GN : GotM P w K mg base C "__neg__" 4 ["self"] (spNeg C)) (GD : GotM P w K mg base C "__add__" 4 ["self", "other"] (spAdd C)) (cA : OpIK K C "add") :
    FnOk P w K mg base CX0 5 f fd ["self", "other"] (spRsub C) := by
  obtain ⟨fN, fdN, GN, bN, hN, iN⟩ := GN
  obtain ⟨fA, fdA, GA, bA, mA, kA⟩ := GA
  obtain ⟨fD, fdD, GD, bD, hD, iD⟩ := GD
  refine F.ok scRsub (fun vs H Q E h => ?_) (fun cdv A outer s H vs Q E hr h => ?_)
  · obtain ⟨a, y, n, u, n', u', rfl, _⟩ := h
    rfl
  · obtain ⟨a, y, n, u, n', u', rfl, ha, hy, ⟨b1, b2, b3, b4⟩, q⟩ := h
    have hr2 : Room 2 _ := hr.mono (by decide)
    have hr4 : Room 4 _ := hr.mono (by decide)
    refine ⟨_, pss_cons (ps_if (pt_not (pt_val (pe_call GA hr2 (by rfl) mA kA bA .nil pass0 (pa_cons (pv 1) pa_nil)))) (pss_one ps_never) pss_nil)
      (pss_one (ps_ret (pe_op (op_binC (op := .Add) T.op ⟨cA.h1, cA.h2, cA.hr⟩ ⟨hD, iD⟩ GD hr4 bD pass0) (pe_un (un_negC ⟨hN, iN⟩ GN hr4 bN pass0) (pv 0)) (pv 1)))), ?_⟩
    refine ⟨_, rfl, _, true, rfl, hy.isAm, _, rfl, iteF ?_⟩
    refine ⟨_, rfl, ha.inst, a, n, u, rfl, ha, b1.mono (by decide), b2.mono (by decide), fun v1 H1 e h1 => ?_⟩
    have hy1 := hy.same e
    exact ⟨_, rfl, h1.inst, hy1.orI, v1, y, -n, u, n', u', rfl, h1, hy1, ⟨b1.neg, b2, b3, b4⟩, fun v H' e' h => q v H' (e.trans e') h⟩
theorem scQuot : FnScope ["one", "other", "number", "under", "top", "bottom"] ["one", "other"] (defScope sQuot) := ⟨rfl, rfl, rfl, by decide +kernel, rfl, by decide +kernel, by decide +kernel⟩
theorem ok_quot {f fE : Addr} {fd fdE : FuncData} (F : Fun K "quotient" "quotient" sQuot f fd) (T : Txt K mg C) (GI : GotI P w K mg base C) (GP : GotF P w K mg base "parts" 1 ["amount"] (spParts C)) (TE : Err K mg "NoQuotient" D fE)
    (GE : FnOk P w K mg base CX0 1 fE fdE ["self", "value"] (spInitE K)) (bE : Binds K fdE ["self", "value"] []) :
    FnOk P w K mg base (L2.CX P w) 4 f fd ["one", "other"] (spQuot C D) := by
  obtain ⟨fI, fdI, GI, bI, _, M⟩ := GI
  obtain ⟨fP, fdP, GP, bP, mP, kP⟩ := GP
  refine F.okX scQuot (fun vs H Q E h => ?_) (fun cdv A outer s H vs Q E hr h => ?_)
  · obtain ⟨a, y, n, u, n', u', rfl, _⟩ := h
    rfl
  · obtain ⟨x, y, n, u, n', u', rfl, hx, hy, ⟨b1, b2, b3, b4⟩, q1, q2⟩ := h
    have hr1 : Room 1 _ := hr.mono (by decide)
    have hr2 : Room 2 _ := hr.mono (by decide)
    refine ⟨_, pss_cons (ps_asg (pe_call GP hr1 (by rfl) mP kP bP .nil pass0 (pa_cons (pv 1) pa_nil)) (pg_tup rfl (pgs_cons (pg_name (i := 2) scQuot.nd rfl (.inl rfl)) (pgs_cons (pg_name (i := 3) scQuot.nd rfl (.inl rfl)) pgs_nil))))
      (pss_cons (ps_if (pt_cmpR op_eq (pv 2) pe_int (nomark _)) (pss_one (ps_raise rfl (takes_of rfl rfl rfl rfl) (pmk_oex TE.oex TE.iC TE.tI GE hr2 bE .nil pass0 (by rfl) TE.gD (pa_cons (pv 0) pa_nil)))) pss_nil)
      (pss_cons (ps_asg (pe_call GP hr1 (by rfl) mP kP bP .nil pass0 (pa_cons (pv 0) pa_nil)) (pg_tup rfl (pgs_cons (pg_name (i := 4) scQuot.nd rfl (.inl rfl)) (pgs_cons (pg_name (i := 5) scQuot.nd rfl (.inl rfl)) pgs_nil))))
      (pss_one (ps_ret (pe_make M GI hr (by rfl) T.mgC bI .nil pass0 (pa_cons (pe_op op_mulW (pv 4) (pv 3)) (pa_cons (pe_op op_mulW (pv 5) (pv 2)) pa_nil))))))), ?_⟩
    refine ⟨_, rfl, y, n', u', rfl, hy, fun p np => ⟨p, _, rfl, SqT.of upd_same, rfl, _, _, rfl, _, _, rfl, rfl, ?_⟩⟩
    have s1 := same_upd (o := .tup [V.int n', V.int u']) np
    refine ⟨_, rfl, rfl, _, rfl, ite2 (fun c => ?_) (fun c => ?_)⟩
    · have z : n' = 0 := V.int.inj (of_decide_eq_true c)
      exact ⟨_, rfl, (by show 1 ≤ 1000; decide), err_read TE fun d H' e h => q2 z d H' (s1.trans e) h⟩
    · have z : n' ≠ 0 := fun z => c (decide_eq_true (by rw [z]))
      refine ⟨_, rfl, x, n, u, rfl, hx.same s1, fun p' np' => ⟨p', _, rfl, SqT.of upd_same, rfl, _, _, rfl, _, _, rfl, rfl, ?_⟩⟩
      have s2 := same_upd (o := .tup [V.int n, V.int u]) np'
      refine ⟨_, rfl, _, rfl, _, _, rfl, rfl, b1.cmul b4 (by decide) (by decide), _, rfl, _, rfl, _, _, rfl, rfl, b2.cmul b3 (by decide) (by decide), ?_⟩
      have hu : u * n' ≠ 0 := Int.mul_ne_zero hx.low.ne z
      exact make_read hu ((b1.mul b4).mono (by decide)) ((b2.mul b3).mono (by decide)) fun v H' e h => q1 z v H' ((s1.trans s2).trans e) h
theorem scFdiv : FnScope ["self", "other"] ["self", "other"] (defScope sFdiv) := ⟨rfl, rfl, rfl, by decide +kernel, rfl, by decide +kernel, by decide +kernel⟩
theorem ok_fdiv {f : Addr} {fd : FuncData} (F : Fun K "__floordiv__" "Amount.__floordiv__" sFdiv f fd) (T : Txt K mg C) (GA : GotF P w K mg base "is_amount" 2 ["value"] (spIsAm C)) (GQ : GotX P w K mg base "quotient" 4 ["one", "other"] (spQuot C D)) :
    FnOk P w K mg base (L2.CX P w) 5 f fd ["self", "other"] (spFdiv C D) := by
  obtain ⟨fA, fdA, GA, bA, mA, kA⟩ := GA
  obtain ⟨fQ, fdQ, GQ, bQ, mQ, kQ⟩ := GQ
  refine F.okX scFdiv (fun vs H Q E h => ?_) (fun cdv A outer s H vs Q E hr h => ?_)
  · obtain ⟨a, y, n, u, n', u', rfl, _⟩ := h
    rfl
  · obtain ⟨x, y, n, u, n', u', rfl, hx, hy, bb, q⟩ := h
    have hr2 : Room 2 _ := hr.mono (by decide)
    have hr4 : Room 4 _ := hr.mono (by decide)
    refine ⟨_, pss_cons (ps_if (pt_not (pt_val (pe_call GA hr2 (by rfl) mA kA bA .nil pass0 (pa_cons (pv 1) pa_nil)))) (pss_one ps_never) pss_nil)
      (pss_one (ps_ret (pe_call GQ hr4 (by rfl) mQ kQ bQ .nil (passes_call (takes_of rfl rfl rfl rfl) (fun _ _ _ _ h => h)) (pa_cons (pv 0) (pa_cons (pv 1) pa_nil))))), ?_⟩
    exact ⟨_, rfl, _, true, rfl, hy.isAm, _, rfl, iteF ⟨_, rfl, _, rfl, x, y, n, u, n', u', rfl, .inl hx, hy, bb, q⟩⟩
theorem scRfdiv : FnScope ["self", "other"] ["self", "other"] (defScope sRfdiv) := ⟨rfl, rfl, rfl, by decide +kernel, rfl, by decide +kernel, by decide +kernel⟩
theorem ok_rfdiv {f : Addr} {fd : FuncData} (F : Fun K "__rfloordiv__" "Amount.__rfloordiv__" sRfdiv f fd) (T : Txt K mg C) (GA : GotF P w K mg base "is_amount" 2 ["value"] (spIsAm C)) (GQ : GotX P w K mg base "quotient" 4 ["one", "other"] (spQuot C D)) :
    FnOk P w K mg base (L2.CX P w) 5 f fd ["self", "other"] (spRfdiv C D) := by
  obtain ⟨fA, fdA, GA, bA, mA, kA⟩ := GA
  obtain ⟨fQ, fdQ, GQ, bQ, mQ, kQ⟩ := GQ
  refine F.okX scRfdiv (fun vs H Q E h => ?_) (fun cdv A outer s H vs Q E hr h => ?_)
  · obtain ⟨a, y, n, u, n', u', rfl, _⟩ := h
    rfl
  · obtain ⟨x, y, n, u, n', u', rfl, hx, hy, bb, q⟩ := h
    have hr2 : Room 2 _ := hr.mono (by decide)
    have hr4 : Room 4 _ := hr.mono (by decide)
    refine ⟨_, pss_cons (ps_if (pt_not (pt_val (pe_call GA hr2 (by rfl) mA kA bA .nil pass0 (pa_cons (pv 1) pa_nil)))) (pss_one ps_never) pss_nil)
      (pss_one (ps_ret (pe_call GQ hr4 (by rfl) mQ kQ bQ .nil (passes_call (takes_of rfl rfl rfl rfl) (fun _ _ _ _ h => h)) (pa_cons (pv 1) (pa_cons (pv 0) pa_nil))))), ?_⟩
    exact ⟨_, rfl, _, true, rfl, hx.isAm, _, rfl, iteF ⟨_, rfl, _, rfl, x, y, n, u, n', u', rfl, hx, .inl hy, bb, q⟩⟩
end
end Am
/-! repr of tuples whose items are whole numbers or instances with an own __repr__ -/
namespace Rt
open PySem PySem.Spec PyProof.Rows L2
section
variable {prog : Program} {w : World} {A : Around} {E : Value → Shared → Prop} {s : Shared} {K : PySem.W.Frag} {x C f : Addr} {ox : Obj} {od : Option Obj}
/-- the text of an instance with an own __repr__, within another repr -/
theorem under_own {b : Nat} {Q : Str → Shared → Prop} (hb : b ≤ sizeLine) (hu : A.units < cLine) (X : K.In s.heap) (I : PySem.W.InstAt s.heap x ox C od) (hs : PySem.W.findIn K (.ref C) "__repr__" = some (some (.ref f))) (hf : PySem.W.isFn K (.ref f) = true)
    (h : wpAny (model prog w) A (call (.ref f) [.ref x]) (fun v s' => ∃ y t, v = .str y t ∧ Q y s') E s) : wpAny (model prog w) A (pyReprUnder b (.ref x)) Q E s := by
  have has : PySem.W.Looks (model prog w) s.heap (typeLookup (.ref C) "__repr__") (some (.ref f)) := PySem.W.looks_findIn X hs
  have bound : ∀ v, PySem.W.Looks (model prog w) s.heap (bindSpecial (.ref f) v) (.ref f, [v]) := fun v => PySem.W.bind_fn X v (beq_iff_eq.mp hf)
  -- the own method, bound or not, is what is asked
  have asked : ∀ {R : Option Value → Shared → Prop}, wpAny (model prog w) A (call (.ref f) [.ref x]) (fun v => R (some v)) E s →
      wpAny (model prog w) A (callSpecialIfBoundBy? (fun g first => match reprUnder? g, first with | some twin, [self] => call twin [self, rawInt b] | _, _ => call g (first ++ [])) (.ref x) (Str.ofString "__repr__")) R E s := by
    intro R told
    have run : wpAny (model prog w) A (call (.ref f) ([.ref x] ++ []) >>= fun v => pure (some v)) R E s := wpAny_bind (wpAny_mono told (fun _ _ y => wpAny_pure y) fun _ _ y => y)
    unfold callSpecialIfBoundBy? bindSpecialIfBound?
    refine wpAny_holding (wpAny_bind (wpAny_bind (wpAny_bind (I.type.here (has.here (wpAny_bind (wpAny_askSetting (wpAny_ite ?_))))))))
    split
    · exact wpAny_bind ((bound _).here (wpAny_pure run))
    · exact wpAny_tryCatch (wpAny_bind ((bound _).here (wpAny_pure run)))
  refine wpAny_pyReprUnder_ref hb ?_
  unfold pyReprObjUnder
  unfold pyReprObjBy
  refine wpAny_bind (wpAny_cRoomFor hu (wpAny_bind (wpAny_bind (I.type.here (has.here ?_)))))
  refine wpAny_bind (asked (wpAny_mono h (fun v z y => ?_) fun _ _ y => y))
  rcases y with ⟨y, t, rfl, q⟩
  exact wpAny_bind (wpAny_isInstance (typeIs_str z y t) isSubtype_str_str (wpAny_pure ⟨y, t, rfl, q⟩))
/-- the items one by one, J what holds between them -/
theorem tupFold {J : Nat → Shared → Prop} : ∀ (l : List Value) (ts : List Str) (i : Nat) (acc : Array Str) (n : Nat) (s : Shared) (Q : (Array Str × Nat) → Shared → Prop), l.length = ts.length → n + piled ts ≤ sizeLine → J i s →
    (∀ (j : Nat) (x : Value) (t : Str), l[j]? = some x → ts[j]? = some t → ∀ b, b + t.length ≤ sizeLine → ∀ s, J (i + j) s → wpAny (model prog w) A (pyReprUnder b x) (fun r s' => r = t ∧ J (i + j + 1) s') E s) →
    (∀ s', J (i + l.length) s' → Q ⟨acc ++ ts.toArray, n + piled ts⟩ s') → wpAny (model prog w) A (forIn l (⟨acc, n⟩ : (Array Str × Nat)) tupBody) Q E s := by
  intro l
  induction l with
  | nil =>
    intro ts i acc n s Q hl _ hj _ h
    obtain rfl := List.length_eq_zero_iff.mp hl.symm
    have h0 := h s hj
    simp only [List.forIn_nil]
    refine wpAny_pure ?_
    simpa [piled] using h0
  | cons x l ih =>
    intro ts i acc n s Q hl hn hj hx h
    cases ts with
    | nil => cases hl
    | cons t ts =>
      rw [piled_cons] at hn
      rw [List.forIn_cons]
      refine wpAny_bind (wpAny_bind (wpAny_mono (hx 0 x t rfl rfl (n + 1) (by omega) s hj) (fun r s1 hr => ?_) fun _ _ e => e))
      obtain ⟨rfl, hj1⟩ := hr
      refine wpAny_pure ?_
      refine ih ts (i + 1) (acc.push r) (n + (r.length + 2)) s1 Q (by simpa using hl) (by omega) hj1 (fun j x t e1 e2 b hb s hs => ?_) fun s' hs => ?_
      · have e : i + 1 + j = i + (j + 1) := by omega
        rw [e] at hs
        have q := hx (j + 1) x t (by simpa using e1) (by simpa using e2) b hb s hs
        rw [e]
        exact q
      · have e : i + 1 + l.length = i + (x :: l).length := by simp; omega
        rw [e] at hs
        have h1 := h s' hs
        have e : n + piled (r :: ts) = n + (r.length + 2) + piled ts := by rw [piled_cons]; omega
        rw [e] at h1
        simpa using h1
/-- repr(t), t a tuple, where nothing is guarded -/
theorem call_repr_tup {a : Addr} {o : Obj} {items : Array Value} {n : Nat} {ts : List Str} {J : Nat → Shared → Prop} {Q : Value → Shared → Prop} (hg : A.guards = some []) (hu : A.units + 1 < cLine)
    (ha : s.heap.get? a = some o) (hc : o.cls = .type "tuple") (hd : o.data = .seq items n) (hlen : items.toList.length = ts.length) (hj : J 0 s)
    (hx : ∀ (j : Nat) (x : Value) (t : Str), items.toList[j]? = some x → ts[j]? = some t → ∀ b, b + t.length ≤ sizeLine → ∀ s, J j s → wpAny (model prog w) (A.in1.under (.builtin "tuple.__repr__" ⟨[.ref a], []⟩)) (pyReprUnder b x) (fun r s' => r = t ∧ J (j + 1) s') E s)
    (hQ : ∀ s' u tk, J ts.length s' → Q (.str (tupleText ts) u) { s' with toks := tk }) (hsz : (tupleText ts).length ≤ sizeLine) :
    wpAny (model prog w) A (call (.builtin "repr") [.ref a]) Q E s := by
  refine call_repr_slot hu ⟨o, ha, hc⟩ F.slot_tuple_repr ?_
  refine wpAny_call (codeAny_call_builtin_own (Code.quiet_builtin _ (by decide +kernel)) F.entry_tuple_repr (F.slot_tuple_repr.check _ _ _ _ _ _ _ _ ⟨o, ha, hc⟩ (F.args_tuple_repr_1 _) ?_))
  have fits := piled_le_tupleText ts
  show wpOwn _ _ _ (Builtin.tupleReprAt 0 ⟨[.ref a], []⟩) _ _ s
  rw [tuple_repr_tree]
  rw [tupleReprUnderWay_eq]
  refine wpOwn_bind (wpOwn_stackTailAny (show A.in1.guards = some [] from hg) (tupGuardF_off _) (tupGuardF_pos _) ?_)
  refine wpOwn_of_wpAny ?_
  show wpAny _ _ (tupleReprRest 0 (.ref a)) _ _ s
  unfold tupleReprRest
  unfold Builtin.Tuple.tupleItemsOf
  refine wpAny_bind (wpAny_bind (wpAny_seqItems (items := items) ha hd (wpAny_pure ?_)))
  rw [← Array.forIn_toList]
  refine wpAny_bind (tupFold (J := J) _ ts 0 _ _ _ _ hlen (by omega) hj (fun j x t e1 e2 b hb s hs => ?_) fun s' hs => ?_)
  · rw [Nat.zero_add] at hs ⊢
    exact hx j x t e1 e2 b hb s hs
  · rw [Nat.zero_add, hlen] at hs
    have hl' : ts.length = items.size := by simpa using hlen.symm
    refine wpAny_bind (wpAny_mkStr (wpAny_pure ?_) (by simpa [tupleText, hl'] using hsz))
    refine ⟨_, _, rfl, ?_⟩
    have h1 := hQ s' s'.toks (s'.toks + 1) hs
    simpa [tupleText, hl'] using h1
end
end Rt
namespace Rt
open PySem PySem.Spec PyProof.Rows L2
theorem tr_depth {A : Around} {C : Addr} {us : List Value} {kw : List (Str × Value)} : (A.under (.builtin "tuple.__repr__" ⟨.ref C :: us, kw⟩)).depth ≤ A.depth + 1 := by
  first | exact Nat.le_of_eq (by first | rfl | simp [Around.under, Code.weight, Code.isCreation, Code.isGuard, Code.isCaller, Code.frames, Code.isFrame, guardIds]) | (simp [Around.under, Code.weight, Code.isCreation, Code.isGuard, Code.isCaller, Code.frames, Code.isFrame, guardIds])
theorem Room.tr {k : Nat} {A : Around} (r : Room (k + 1) A) (C : Addr) (us : List Value) (kw : List (Str × Value)) : Room k (A.under (.builtin "tuple.__repr__" ⟨.ref C :: us, kw⟩)) :=
  ⟨r.hd, by have := r.dp; have := @tr_depth A C us kw; omega, by have := r.un; rw [units_under_tuple_repr]; omega⟩
theorem Env0.tr {P : Program} {w : World} {K : PySem.W.Frag} {mg : Str → Option Value} {base : Heap} {A : Around} {outer : List Env} {s : Shared} {H : Hp} (e : Env0 P w K mg base A outer s H) (C : Addr) (us : List Value) (kw : List (Str × Value)) :
    Env0 P w K mg base (A.under (.builtin "tuple.__repr__" ⟨.ref C :: us, kw⟩)) outer s H := ⟨by first | exact e.frames | (simpa [Around.under, Code.envs, Code.isFrame, pushEnvs] using e.frames), e.mod, e.bs, e.bsz, e.funs, e.frf, e.hok, e.bare⟩
/-- the promise of an own __repr__ that leaves all as it was: R tells the text -/
def spRep (R : Hp → V → Str → Prop) : Sp := fun vs H Q _ => ∃ v t, vs = [v] ∧ R H v t ∧ Q (.str t) H
/-- an own class with an own __repr__ -/
structure OwnR (X : Cx) (C : Addr) (R : Hp → V → Str → Prop) (k : Nat) : Prop where
  ins : ∀ H v t, R H v t → ∃ a dx fs, v = .ref a ∧ H a = some (.ins C dx fs)
  ex : ∃ f fd, FnOk X.prog X.w X.K X.mg X.base CX0 k f fd ["self"] (spRep R) ∧ Binds X.K fd ["self"] [] ∧ PySem.W.findIn X.K (.ref C) "__repr__" = some (some (.ref f)) ∧ PySem.W.isFn X.K (.ref f) = true
def Item (R : Hp → V → Str → Prop) (H : Hp) (v : V) (t : Str) : Prop := (∃ i : Int, v = .int i ∧ i.natAbs.log2 < 1920 ∧ t = Str.ofString (toString i)) ∨ R H v t
def rRepT (R : Hp → V → Str → Prop) : List V → Hp → VK → Prop := fun xs H Q => ∃ (a : Addr) (v0 v1 : V) (t0 t1 : Str), xs = [.ref a] ∧ H a = some (.tup [v0, v1]) ∧ Item R H v0 t0 ∧ Item R H v1 t1 ∧ (tupleText [t0, t1]).length ≤ sizeLine ∧ Q (.str (tupleText [t0, t1])) H
def rRepI (R : Hp → V → Str → Prop) : List V → Hp → VK → Prop := fun xs H Q => ∃ v t, xs = [v] ∧ Item R H v t ∧ Q (.str t) H
section
variable {X : Cx} {pins : List (Addr × Obj)} {σ : L2.St} {H : Hp} {s : Shared} {C : Addr} {R : Hp → V → Str → Prop} {k : Nat}
/-- the own __repr__, run under A -/
theorem run_rep {A : Around} {v : V} {t : Str} {a f : Addr} {fd : FuncData} (F : FnOk X.prog X.w X.K X.mg X.base CX0 k f fd ["self"] (spRep R)) (hb : Binds X.K fd ["self"] []) (hr : Room k A) (he : Env0 X.prog X.w X.K X.mg X.base A X.stack s H) (I : Inv X pins σ H s) (hR : R H (.ref a) t)
    {E : Value → Shared → Prop} : wpAny (model X.prog X.w) A (call (.ref f) [.ref a]) (fun v s' => ∃ u, v = .str t u ∧ Inv X pins σ H s') E s := by
  refine wpAny_call (codeAny_mono (F.run A X.stack s H ⟨[.ref a], []⟩ [.ref a] [.ref a] (fun v H' => v = .str t ∧ H' = H) E0 hr he (by
    have := hb s [.ref a] I.kIn rfl
    simpa using this) (.cons rfl .nil) ⟨.ref a, t, rfl, hR, rfl, rfl⟩) fun r s' hq => ?_)
  cases r with
  | error e => exact False.elim hq
  | ok fl =>
    cases fl with
    | ret u =>
      obtain ⟨v, H', I', rv, rfl, rfl⟩ := I.after hq
      obtain ⟨tk, rfl⟩ := (show ∃ tk, u = Value.str t tk from rv)
      exact ⟨tk, rfl, I'⟩
    | next => exact False.elim hq
    | brk => exact False.elim hq
    | cont => exact False.elim hq
theorem call_repT (O : OwnR X C R k) (free : X.A.guards = some []) (hr : Room (k + 2) X.A) : CallR X (.builtin "repr") (rRepT R) := by
  intro pins s σ H xs us Q I rel want
  obtain ⟨a, v0, v1, t0, t1, rfl, ha, h0, h1, sz, q⟩ := want
  obtain ⟨u, rfl, ru⟩ := vals1 rel
  cases (show u = Value.ref a from ru)
  obtain ⟨f, fd, F, hb, hs, hf⟩ := O.ex
  obtain ⟨_, its, rv, ob, hob, hcl, nn, hdat⟩ := I.hok a _ ha
  obtain ⟨z0, z1, rfl, r0, r1⟩ : ∃ z0 z1, its = [z0, z1] ∧ RelV v0 z0 ∧ RelV v1 z1 := by
    cases rv with
    | cons r0 rv => cases rv with
      | cons r1 rv => cases rv; exact ⟨_, _, rfl, r0, r1⟩
  have one : ∀ {v : V} {z : Value} {t : Str}, RelV v z → Item R H v t → ∀ b, b + t.length ≤ sizeLine → ∀ s, Inv X pins σ H s →
      wpAny (model X.prog X.w) (X.A.in1.under (.builtin "tuple.__repr__" ⟨[.ref a], []⟩)) (pyReprUnder b z) (fun r s' => r = t ∧ Inv X pins σ H s') X.xe s := by
    intro v z t rz hi b hb' s I
    rcases hi with ⟨i, rfl, hl, rfl⟩ | hR
    · obtain ⟨tk, rfl⟩ := (show ∃ tk, z = Value.int i tk from rz)
      exact wpAny_mono (ReprIs.int tk hl b hb' _ X.xe s (fun r s' => r = Str.ofString (toString i) ∧ Inv X pins σ H s') (fun tk' => ⟨rfl, I.tok tk'⟩)) (fun _ _ z => z) fun _ _ e => e
    · obtain ⟨x, dx, fs, rfl, hx⟩ := O.ins H v t hR
      cases (show z = Value.ref x from rz)
      obtain ⟨od, J⟩ := Am.inst_of I hx
      refine under_own (by omega) (by rw [units_under_tuple_repr]; have := hr.units; show X.A.units + 1 + 1 < _; omega) I.kIn J hs hf ?_
      refine wpAny_mono (run_rep (v := .ref x) F hb (Room.tr (Room.in1 hr) a [] []) (Env0.tr I.env0.in1 a [] []) I hR) (fun v s' hv => ?_) fun _ _ e => e
      obtain ⟨u, rfl, I'⟩ := hv
      exact ⟨t, u, rfl, rfl, I'⟩
  refine call_repr_tup (J := fun _ s => Inv X pins σ H s) (ts := [t0, t1]) free (by have := hr.units; omega) hob hcl hdat (by simp) I (fun j x t e1 e2 b hb s hs => ?_) (fun s' u tk hs => ⟨.str (tupleText [t0, t1]), H, hs.tok tk, ⟨u, rfl⟩, q⟩) sz
  match j, e1, e2 with
  | 0, e1, e2 => cases (show some z0 = some x from e1); cases (show some t0 = some t from e2); exact one r0 h0 b hb s hs
  | 1, e1, e2 => cases (show some z1 = some x from e1); cases (show some t1 = some t from e2); exact one r1 h1 b hb s hs
  | j + 2, e1, e2 => simp at e1
theorem call_repI (O : OwnR X C R k) (hr : Room (k + 1) X.A) : CallR X (.builtin "repr") (rRepI R) := by
  intro pins s σ H xs us Q I rel want
  obtain ⟨v, t, rfl, hi, q⟩ := want
  obtain ⟨f, fd, F, hb, hs, hf⟩ := O.ex
  rcases hi with ⟨i, rfl, hl, rfl⟩ | hR
  · exact SkE.call_repr_int pins s σ H _ us Q I rel ⟨i, rfl, hl, q⟩
  · obtain ⟨x, dx, fs, rfl, hx⟩ := O.ins H v t hR
    obtain ⟨u, rfl, ru⟩ := vals1 rel
    cases (show u = Value.ref x from ru)
    obtain ⟨od, J⟩ := Am.inst_of I hx
    obtain ⟨mm, hF⟩ := I.fr
    refine PySem.W.repr_K (by have := hr.units; show X.A.units + 1 < _; omega) hF I.ok.mod.kin J hs hf ?_
    refine wpAny_mono (run_rep (v := .ref x) F hb (Room.in1 hr) I.env0.in1 I hR) (fun v s' hv => ?_) fun _ _ e => e
    obtain ⟨u, rfl, I'⟩ := hv
    exact ⟨.str t, H, I', ⟨u, rfl⟩, q⟩
end
end Rt
namespace Am
open PySem PySem.Spec PyProof.Rows L2
def figT (n : Int) : Str := ((Str.empty ++ (if n < 0 then ("-" : Str) else "")) ++ Str.ofString (toString (if n < 0 then -n else n))) ++ ("" : Str)
def repT (n u : Int) : Str := if u = 1 then ((Str.empty ++ ("Amount(" : Str)) ++ figT n) ++ (")" : Str) else ((((Str.empty ++ ("Amount(" : Str)) ++ figT n) ++ (", " : Str)) ++ figT u) ++ (")" : Str)
def itT (v : V) (n u : Int) : Str := match v with
  | .int _ => Str.ofString (toString n)
  | _ => repT n u
theorem dig_len {n : Int} (h : Bd 190 n) : (Str.ofString (toString n)).length ≤ 61 := by
  have h' : n.natAbs < 10 ^ 60 := Nat.lt_of_lt_of_le h (by decide)
  have := int_text_length_le10 (k := 60) (by decide) h'
  rw [ofString_len]
  exact this
theorem abs_bd {k : Nat} {n : Int} (h : Bd k n) : Bd k (if n < 0 then -n else n) := by split <;> first | exact h.neg | exact h
theorem fig_len {n : Int} (h : Bd 190 n) : (figT n).length ≤ 62 := by
  have := dig_len (abs_bd h)
  unfold figT
  rw [strLen_append, strLen_append, strLen_append]
  have e0 : (Str.empty).length = 0 := rfl
  have e1 : (if n < 0 then ("-" : Str) else "").length ≤ 1 := by split <;> decide
  have e2 : ("" : Str).length = 0 := rfl
  omega
theorem rep_len {n u : Int} (h : Bd 190 n) (h' : Bd 190 u) : (repT n u).length ≤ 150 := by
  have := fig_len h
  have := fig_len h'
  unfold repT
  have e0 : (Str.empty).length = 0 := rfl
  have e1 : ("Amount(" : Str).length = 7 := rfl
  have e2 : (")" : Str).length = 1 := rfl
  have e3 : (", " : Str).length = 2 := rfl
  split <;> simp only [strLen_append] <;> omega
theorem it_len {v : V} {n u : Int} (h : Bd 190 n) (h' : Bd 190 u) : (itT v n u).length ≤ 150 := by
  unfold itT
  split
  · exact Nat.le_trans (dig_len h) (by decide)
  · exact rep_len h h'
theorem two_len {a b : Str} (h : a.length ≤ 150) (h' : b.length ≤ 150) : (tupleText [a, b]).length ≤ 400 := by
  have e : tupleText [a, b] = ("(" : Str) ++ (a ++ ", " ++ b) ++ (")" : Str) := rfl
  have e1 : ("(" : Str).length = 1 := rfl
  have e2 : (")" : Str).length = 1 := rfl
  have e3 : (", " : Str).length = 2 := rfl
  rw [e]
  simp only [strLen_append]
  omega
theorem fits400 {k : Nat} (h : k ≤ 400) : k ≤ sizeLine := Nat.le_trans h (by decide)
theorem log_bd {n : Int} (h : Bd 190 n) : n.natAbs.log2 < 1920 := Nat.lt_trans (log2_lt (by decide) h) (by decide)
def spFig : Sp := fun vs H Q _ => ∃ n, vs = [.int n] ∧ Bd 190 n ∧ Q (.str (figT n)) H
/-- what the own repr tells of an Amount -/
def RA (C : Addr) (H : Hp) (v : V) (t : Str) : Prop := ∃ n u, AmAt C H v n u ∧ Bd 190 n ∧ Bd 190 u ∧ t = repT n u
theorem item_of {C : Addr} {H : Hp} {v : V} {n u : Int} (h : AmV C H v n u) (b : Bd 190 n) (b' : Bd 190 u) : Rt.Item (RA C) H v (itT v n u) := by
  rcases h with h | ⟨rfl, rfl⟩
  · obtain ⟨a, dx, fs, rfl, ha⟩ := h.inst
    exact .inr ⟨n, u, h, b, b', rfl⟩
  · exact .inl ⟨n, rfl, log_bd b, rfl⟩
theorem ra_ins {C : Addr} (H : Hp) (v : V) (t : Str) (h : RA C H v t) : ∃ a dx fs, v = .ref a ∧ H a = some (.ins C dx fs) := by
  obtain ⟨n, u, h, _⟩ := h
  exact h.inst
section
variable {P : Program} {w : World} {K : PySem.W.Frag} {mg : Str → Option Value} {base : Heap} {C D : Addr}
theorem scFig : FnScope ["number", "left", "tail", "block", "sign"] ["number"] (defScope sFig) := ⟨rfl, rfl, rfl, by decide +kernel, rfl, by decide +kernel, by decide +kernel⟩
theorem ok_fig {f : Addr} {fd : FuncData} (F : Fun K "figures" "figures" sFig f fd) (na : mg "abs" = none) (mB : ∃ t, mg "BLOCK" = some (.int (10 ^ 60) t)) : FnOk P w K mg base CX0 1 f fd ["number"] spFig := by
  obtain ⟨tb, mB⟩ := mB
  refine F.ok scFig (fun vs H Q E h => ?_) (fun cdv A outer s H vs Q E hr h => ?_)
  · obtain ⟨n, rfl, _⟩ := h
    rfl
  · obtain ⟨n, rfl, bn, q⟩ := h
    refine ⟨_, pss_cons (ps_par (by rfl) scFig.nd (i := 1) (j := 2) rfl rfl (by decide) rfl rfl (pa_cons (pe_callB call_abs (by rfl) na boot_abs (pa_cons (pv 0) pa_nil)) (pa_cons pe_str pa_nil)) (by rfl))
      (pss_cons (ps_while PassesOwn.never (pt_cmpR op_ge (pv 1) (pe_glob (v := .int (10 ^ 60)) (by rfl) mB ⟨_, rfl⟩) (nomark _)) (pss_cons ps_never (pss_one ps_never)))
      (pss_cons (ps_set (i := 4) scFig.nd rfl (.inl rfl) (pe_ifExp (pt_cmpR op_lt (pv 0) pe_int (nomark _)) pe_str pe_str))
      (pss_one (ps_ret (pe_joined (.cons (pe_fmt (pv 4)) (.cons (pe_fmt (pv 1)) (.cons (pe_fmt (pv 2)) .nil)))))))), ?_⟩
    have ab := abs_bd bn
    refine ⟨_, rfl, _, rfl, _, _, rfl, ?_⟩
    refine while_by (fun σ H' => σ = [some (.int n), some (.int (if n < 0 then -n else n)), some (.str ""), none, none] ∧ H' = H) (fun _ _ => 0) ⟨rfl, rfl⟩ ?_ ?_
    · rintro σ H' ⟨rfl, rfl⟩
      have lt : ¬ (10 ^ 60 : Int) ≤ (if n < 0 then -n else n) := by
        have z : (if n < 0 then -n else n).natAbs < 10 ^ 60 := Nat.lt_of_lt_of_le ab (by decide)
        omega
      refine ⟨_, rfl, _, _, rfl, rfl, _, rfl, ?_⟩
      rw [show decide ((10 ^ 60 : Int) ≤ (if n < 0 then -n else n)) = false from decide_eq_false lt]
      refine iteF ?_
      refine ⟨_, rfl, _, _, rfl, rfl, _, rfl, ?_⟩
      have fin : ∀ sg : Str, sg = (if n < 0 then ("-" : Str) else "") → tRet (fun σ H Q => tJs [tFmt (tVar 4), tFmt (tVar 1), tFmt (tVar 2)] Str.empty σ H fun out H1 => Q (.str out) H1) { nx := fun _ H' => Q .non H', rt := Q } [some (.int n), some (.int (if n < 0 then -n else n)), some (.str ""), none, some (.str sg)] H' := by
        rintro sg rfl
        have d := dig_len ab
        have e0 : (Str.empty).length = 0 := rfl
        have e1 : (if n < 0 then ("-" : Str) else "").length ≤ 1 := by split <;> decide
        have e2 : ("" : Str).length = 0 := rfl
        refine ⟨_, rfl, .inl ⟨_, rfl, fits400 (by omega), _, rfl, fits400 (by rw [strLen_append]; omega), ?_⟩⟩
        refine ⟨_, rfl, .inr ⟨_, rfl, log_bd ab, _, rfl, fits400 (by rw [strLen_append, strLen_append]; omega), ?_⟩⟩
        refine ⟨_, rfl, .inl ⟨_, rfl, fits400 (by omega), _, rfl, fits400 (by rw [strLen_append, strLen_append, strLen_append]; omega), ?_⟩⟩
        exact q
      refine ite2 (fun c => ?_) (fun c => ?_)
      · exact fin _ (if_pos (of_decide_eq_true c)).symm
      · exact fin _ (if_neg (fun z => c (decide_eq_true z))).symm
    · rintro σ H' Q1 Q2 hQ ⟨v, hv, i, j, e1, e2, k, e3, z⟩
      exact ⟨v, hv, i, j, e1, e2, k, e3, hQ _ _ z⟩
theorem scRep : FnScope ["self"] ["self"] (defScope sRep) := ⟨rfl, rfl, rfl, by decide +kernel, rfl, by decide +kernel, by decide +kernel⟩
theorem ok_rep {f : Addr} {fd : FuncData} (F : Fun K "__repr__" "Amount.__repr__" sRep f fd) (T : Txt K mg C) (GF : GotF P w K mg base "figures" 1 ["number"] spFig) : FnOk P w K mg base CX0 2 f fd ["self"] (Rt.spRep (RA C)) := by
  obtain ⟨fF, fdF, GF, bF, mF, kF⟩ := GF
  refine F.ok scRep (fun vs H Q E h => ?_) (fun cdv A outer s H vs Q E hr h => ?_)
  · obtain ⟨a, t, rfl, _⟩ := h
    rfl
  · obtain ⟨a, t, rfl, ⟨n, u, ⟨l, x, dx, rfl, hx⟩, bn, bu, rfl⟩, q⟩ := h
    refine ⟨_, pss_cons (ps_if (pt_cmpR op_eq (pe_fld (pv 0) rfl) pe_int (nomark _))
        (pss_one (ps_ret (pe_joined (.cons pe_str (.cons (pe_fmt (pe_call GF hr (by rfl) mF kF bF .nil pass0 (pa_cons (pe_fld (pv 0) rfl) pa_nil))) (.cons pe_str .nil)))))) pss_nil)
      (pss_one (ps_ret (pe_joined (.cons pe_str (.cons (pe_fmt (pe_call GF hr (by rfl) mF kF bF .nil pass0 (pa_cons (pe_fld (pv 0) rfl) pa_nil))) (.cons pe_str (.cons (pe_fmt (pe_call GF hr (by rfl) mF kF bF .nil pass0 (pa_cons (pe_fld (pv 0) rfl) pa_nil))) (.cons pe_str .nil)))))))), ?_⟩
    have f1 := fig_len bn
    have f2 := fig_len bu
    have e0 : (Str.empty).length = 0 := rfl
    have e1 : ("Amount(" : Str).length = 7 := rfl
    have e2 : (")" : Str).length = 1 := rfl
    have e3 : (", " : Str).length = 2 := rfl
    refine ⟨_, rfl, x, C, dx, _, _, rfl, hx, T.cl, T.nU, pf_under _ _, rfl, _, rfl, ite2 (fun c => ?_) (fun c => ?_)⟩
    · have z : u = 1 := V.int.inj (of_decide_eq_true c)
      refine ⟨_, rfl, fits400 (by simp only [strLen_append]; omega), ?_⟩
      refine ⟨_, rfl, x, C, dx, _, _, rfl, hx, T.cl, T.nN, pf_number _ _, n, rfl, bn, .inl ⟨_, rfl, fits400 (by omega), _, rfl, fits400 (by simp only [strLen_append]; omega), ?_⟩⟩
      refine ⟨_, rfl, fits400 (by simp only [strLen_append]; omega), ?_⟩
      have e : repT n u = ((Str.empty ++ ("Amount(" : Str)) ++ figT n) ++ (")" : Str) := if_pos z
      rw [e] at q
      exact q
    · have z : ¬ u = 1 := fun z => c (decide_eq_true (by rw [z]))
      refine ⟨_, rfl, fits400 (by simp only [strLen_append]; omega), ?_⟩
      refine ⟨_, rfl, x, C, dx, _, _, rfl, hx, T.cl, T.nN, pf_number _ _, n, rfl, bn, .inl ⟨_, rfl, fits400 (by omega), _, rfl, fits400 (by simp only [strLen_append]; omega), ?_⟩⟩
      refine ⟨_, rfl, fits400 (by simp only [strLen_append]; omega), ?_⟩
      refine ⟨_, rfl, x, C, dx, _, _, rfl, hx, T.cl, T.nU, pf_under _ _, u, rfl, bu, .inl ⟨_, rfl, fits400 (by omega), _, rfl, fits400 (by simp only [strLen_append]; omega), ?_⟩⟩
      refine ⟨_, rfl, fits400 (by simp only [strLen_append]; omega), ?_⟩
      have e : repT n u = ((((Str.empty ++ ("Amount(" : Str)) ++ figT n) ++ (", " : Str)) ++ figT u) ++ (")" : Str) := if_neg z
      rw [e] at q
      exact q
end
end Am
/-! values as trees -/
namespace Hs
end Hs
namespace Us
open PySem PySem.Spec PyProof.Rows L2 Am Hs
inductive Tr
  | non
  | bl (b : Bool)
  | int (i : Int)
  | str (s : Str)
  | tup (ts : List Tr)
  | lst
  | dic
  | am (n u : Int)
mutual
/-- the value v is of this form; C is Amount, p the jar -/
inductive At (C p : Addr) (H : Hp) : V → Tr → Prop
  | non : At C p H .non .non
  | bl (b : Bool) : At C p H (.bl b) (.bl b)
  | int (i : Int) : At C p H (.int i) (.int i)
  | str (z : Str) : At C p H (.str z) (.str z)
  | tup {a : Addr} {xs : List V} {ts : List Tr} (h : H a = some (.tup xs)) (all : AtAll C p H xs ts) : At C p H (.ref a) (.tup ts)
  | lst {a : Addr} {xs : List V} (h : H a = some (.lst xs)) (n : a ≠ p) : At C p H (.ref a) .lst
  | dic {a : Addr} {kvs : List (Key × V)} (h : H a = some (.dK kvs)) : At C p H (.ref a) .dic
  | am {v : V} {n u : Int} (h : AmAt C H v n u) : At C p H v (.am n u)
inductive AtAll (C p : Addr) (H : Hp) : List V → List Tr → Prop
  | nil : AtAll C p H [] []
  | cons {x : V} {t : Tr} {xs : List V} {ts : List Tr} (h : At C p H x t) (all : AtAll C p H xs ts) : AtAll C p H (x :: xs) (t :: ts)
end
section
variable {C p : Addr} {H H' : Hp}
theorem am_of (f : ∀ (b : Addr) (dx : Addr) (fs : List (Str × V)), H b = some (.ins C dx fs) → H' b = some (.ins C dx fs)) {v : V} {n u : Int} (h : AmAt C H v n u) : AmAt C H' v n u := by
  obtain ⟨l, x, dx, rfl, z⟩ := h
  exact ⟨l, x, dx, rfl, f _ _ _ z⟩
mutual
theorem At.keep (f : ∀ b o, H b = some o → b ≠ p → H' b = some o) (np : ∀ xs, H p = some (.lst xs) ∨ H p = none → True) (hp : ∀ o, H p = some o → ∃ xs, o = .lst xs) : ∀ {v : V} {t : Tr}, At C p H v t → At C p H' v t
  | _, _, .non => .non
  | _, _, .bl b => .bl b
  | _, _, .int i => .int i
  | _, _, .str z => .str z
  | _, _, .tup h all => .tup (f _ _ h (fun e => by obtain ⟨_, z⟩ := hp _ (e ▸ h); cases z)) (AtAll.keep f np hp all)
  | _, _, .lst h n => .lst (f _ _ h n) n
  | _, _, .dic h => .dic (f _ _ h (fun e => by obtain ⟨_, z⟩ := hp _ (e ▸ h); cases z))
  | _, _, .am h => .am (am_of (fun b dx fs z => f _ _ z (fun e => by obtain ⟨_, z⟩ := hp _ (e ▸ z); cases z)) h)
theorem AtAll.keep (f : ∀ b o, H b = some o → b ≠ p → H' b = some o) (np : ∀ xs, H p = some (.lst xs) ∨ H p = none → True) (hp : ∀ o, H p = some o → ∃ xs, o = .lst xs) : ∀ {xs : List V} {ts : List Tr}, AtAll C p H xs ts → AtAll C p H' xs ts
  | _, _, .nil => .nil
  | _, _, .cons h all => .cons (At.keep f np hp h) (AtAll.keep f np hp all)
end
theorem jar_lst {N : Int} (j : JarAt H p N) : ∀ o, H p = some o → ∃ xs, o = .lst xs := fun o h => by
  obtain ⟨_, _, _, hp, _⟩ := j
  rw [hp] at h
  cases h
  exact ⟨_, rfl⟩
theorem At.chg {N : Int} {v : V} {t : Tr} (h : At C p H v t) (j : JarAt H p N) (c : Chg p H H') : At C p H' v t := h.keep c (fun _ _ => trivial) (jar_lst j)
theorem AtAll.chg {N : Int} {xs : List V} {ts : List Tr} (h : AtAll C p H xs ts) (j : JarAt H p N) (c : Chg p H H') : AtAll C p H' xs ts := AtAll.keep c (fun _ _ => trivial) (jar_lst j) h
theorem At.same {N : Int} {v : V} {t : Tr} (h : At C p H v t) (j : JarAt H p N) (e : Same H H') : At C p H' v t := h.chg j (Chg.of e)
theorem AtAll.same {N : Int} {xs : List V} {ts : List Tr} (h : AtAll C p H xs ts) (j : JarAt H p N) (e : Same H H') : AtAll C p H' xs ts := h.chg j (Chg.of e)
theorem At.ne {N : Int} {v : V} {t : Tr} (h : At C p H v t) (j : JarAt H p N) : v ≠ .ref p := by
  obtain ⟨_, _, _, hp, _⟩ := j
  cases h with
  | tup h _ => intro z; cases z; rw [hp] at h; cases h
  | lst h n => intro z; cases z; exact n rfl
  | dic h => intro z; cases z; rw [hp] at h; cases h
  | am h =>
    obtain ⟨_, x, dx, rfl, h⟩ := h
    intro z; cases z; rw [hp] at h; cases h
  | _ => intro z; cases z
theorem AtAll.length : ∀ {xs : List V} {ts : List Tr}, AtAll C p H xs ts → xs.length = ts.length
  | _, _, .nil => rfl
  | _, _, .cons _ all => congrArg (· + 1) (AtAll.length all)
theorem AtAll.get : ∀ {xs : List V} {ts : List Tr}, AtAll C p H xs ts → ∀ (i : Nat) (h1 : i < xs.length) (h2 : i < ts.length), At C p H xs[i] ts[i]
  | _, _, .cons h _, 0, _, _ => h
  | _, _, .cons _ all, i + 1, h1, h2 => AtAll.get all i (Nat.lt_of_succ_lt_succ h1) (Nat.lt_of_succ_lt_succ h2)
theorem AtAll.app : ∀ {xs ys : List V} {ts us : List Tr}, AtAll C p H xs ts → AtAll C p H ys us → AtAll C p H (xs ++ ys) (ts ++ us)
  | _, _, _, _, .nil, b => b
  | _, _, _, _, .cons h all, b => .cons h (AtAll.app all b)
theorem AtAll.take : ∀ {xs : List V} {ts : List Tr} (k : Nat), AtAll C p H xs ts → AtAll C p H (xs.take k) (ts.take k)
  | _, _, 0, _ => by rw [List.take_zero, List.take_zero]; exact .nil
  | _, _, _ + 1, .nil => .nil
  | _, _, k + 1, .cons h all => .cons h (AtAll.take k all)
theorem AtAll.drop : ∀ {xs : List V} {ts : List Tr} (k : Nat), AtAll C p H xs ts → AtAll C p H (xs.drop k) (ts.drop k)
  | _, _, 0, h => h
  | _, _, _ + 1, .nil => .nil
  | _, _, k + 1, .cons _ all => AtAll.drop k all
theorem AtAll.rev : ∀ {xs : List V} {ts : List Tr}, AtAll C p H xs ts → AtAll C p H xs.reverse ts.reverse
  | _, _, .nil => .nil
  | _, _, .cons h all => by
    rw [List.reverse_cons, List.reverse_cons]
    exact (AtAll.rev all).app (.cons h .nil)
end
/-- bounds of a value that is no tuple -/
def Leaf (g : Nat) : Tr → Prop
  | .int i => Bd (20 + 8 * g) i
  | .str z => z.length ≤ 100 + g ∧ ∀ c ∈ z.cps.toList, c < 128
  | .am n u => Bd (20 + 8 * g) n ∧ Bd (20 + 8 * g) u
  | .tup _ => False
  | _ => True
/-- bounds of a value nested so deep at most -/
def Fits (g : Nat) : Nat → Tr → Prop
  | 0, .tup ts => ts = []
  | d + 1, .tup ts => ts.length ≤ 15 + g ∧ ∀ t ∈ ts, Fits g d t
  | _, t => Leaf g t
theorem Leaf.mono {g h : Nat} {t : Tr} (e : g ≤ h) (l : Leaf g t) : Leaf h t := by
  cases t with
  | int i => exact Bd.mono l (by omega)
  | str z => exact ⟨Nat.le_trans l.1 (by omega), l.2⟩
  | am n u => exact ⟨l.1.mono (by omega), l.2.mono (by omega)⟩
  | tup ts => exact l.elim
  | _ => trivial
theorem Fits.mono {g h : Nat} (eg : g ≤ h) : ∀ {d e : Nat} {t : Tr}, d ≤ e → Fits g d t → Fits h e t := by
  intro d
  induction d with
  | zero =>
    intro e t _ f
    cases t with
    | tup ts =>
      cases e with
      | zero => exact f
      | succ e =>
        have f2 : ts = [] := f
        subst f2
        exact ⟨Nat.zero_le _, fun t h => absurd h List.not_mem_nil⟩
    | _ => cases e <;> exact Leaf.mono eg f
  | succ d ih =>
    intro e t he f
    cases e with
    | zero => omega
    | succ e =>
      cases t with
      | tup ts => exact ⟨Nat.le_trans f.1 (by omega), fun t h => ih (by omega) (f.2 t h)⟩
      | _ => exact Leaf.mono eg f
theorem Fits.leaf {g d : Nat} {t : Tr} (l : Leaf g t) : Fits g d t := by
  cases t with
  | tup ts => exact l.elim
  | _ => cases d <;> exact l
theorem Fits.of {g d : Nat} {t : Tr} (f : Fits g d t) (n : ∀ ts, t ≠ .tup ts) : Leaf g t := by
  cases t with
  | tup ts => exact absurd rfl (n ts)
  | _ => cases d <;> exact f
end Us
/-! the law: odd values -/
namespace Us
open PySem PySem.Spec PyProof.Rows L2 Am Hs
theorem ne_jar {H : Hp} {p b : Addr} {N : Int} (j : JarAt H p N) (n : H b = none) : b ≠ p := fun z => by
  obtain ⟨_, _, _, hp, _⟩ := j
  rw [z, hp] at n
  cases n
theorem frBd {k : Nat} {n u : Int} (hu : u ≠ 0) (h : Bd k n) (h' : Bd k u) : Bd k (fr n u).1 ∧ Bd k (fr n u).2 :=
  ⟨Nat.lt_of_le_of_lt (fr_le1 hu) h, Nat.lt_of_le_of_lt (fr_le2 hu) h'⟩
theorem fb12 : Bd 3 (fr 1 2).1 ∧ Bd 3 (fr 1 2).2 := frBd (by decide) (by unfold Bd; decide) (by unfold Bd; decide)
def spOddU (C : Addr) : Sp := fun vs H Q _ => ∃ (p : Addr) (N : Int), vs = [.ref p] ∧ JarAt H p N ∧ N ≤ 9900 ∧ ∀ (H' : Hp) (v : V) (t : Tr), Chg p H H' → JarAt H' p (N + 1) → At C p H' v t → Fits 0 1 t → Q v H'
section
variable {P : Program} {w : World} {K : PySem.W.Frag} {mg : Str → Option Value} {base : Heap} {C : Addr}
theorem scOdd : FnScope ["_law_jar_here"] ["_law_jar_here"] (defScope sL_odd) := ⟨rfl, rfl, rfl, by decide +kernel, rfl, by decide +kernel, by decide +kernel⟩
theorem ok_odd {f : Addr} {fd : FuncData} (F : Fun K "_law_odd" "_law_odd" sL_odd f fd) (mA : mg "Amount" = some (.ref C)) (GI : GotI P w K mg base C) (GO : GotF P w K mg base "_law_of" 2 ["_law_jar_here", "_law_some"] spOf) : FnOk P w K mg base CX0 4 f fd ["_law_jar_here"] (spOddU C) := by
  obtain ⟨fI, fdI, GI, bI, ⟨ds, v2, b2⟩, MkI⟩ := GI
  obtain ⟨fO, fdO, GO, bO, mO, kO⟩ := GO
  refine F.ok scOdd (fun vs H Q E h => ?_) (fun cdv A outer s H vs Q E hr h => ?_)
  · obtain ⟨p, N, rfl, _⟩ := h
    rfl
  · obtain ⟨p, N, rfl, hj, hN, q⟩ := h
    have hr2 : Room 2 _ := hr.mono (by decide)
    refine ⟨_, (pss_one (ps_ret (pe_call GO hr2 (by rfl) mO kO bO .nil pass0 (pa_cons (pv 0) (pa_cons (pe_lst (pa_cons pe_non (pa_cons pe_bl (pa_cons pe_bl (pa_cons pe_int (pa_cons pe_int (pa_cons (pe_un un_neg pe_int) (pa_cons pe_str (pa_cons pe_str (pa_cons pe_str (pa_cons pe_str (pa_cons (pe_tup pa_nil) (pa_cons (pe_lst pa_nil) (pa_cons pe_dnewK (pa_cons (pe_tup (pa_cons (pe_tup pa_nil) pa_nil)) (pa_cons (pe_tup (pa_cons pe_int pa_nil)) (pa_cons (pe_make MkI GI hr (by rfl) mA bI .nil pass0 (pa_cons pe_int (pa_cons pe_int pa_nil))) (pa_cons pe_int pa_nil)))))))))))))))))) pa_nil))))), ?_⟩
    have es : Same H H := Same.refl H
    refine ⟨_, rfl, _, rfl, (show 0 ≤ sizeLine by decide), fun t0 nt0 => ?_⟩
    have e := same_upd (o := .tup []) nt0
    have ot0 := upd_same (H := H) (a := t0) (o := .tup [])
    have mt0 : t0 ≠ p := ne_jar hj nt0
    replace es := es.trans e; replace hj := hj.same e
    clear e nt0
    generalize upd H t0 (.tup []) = A1 at *
    refine ⟨(show 0 ≤ sizeLine by decide), fun l0 nl0 => ?_⟩
    have e := same_upd (o := .lst []) nl0
    have ol0 := upd_same (H := A1) (a := l0) (o := .lst [])
    have ml0 : l0 ≠ p := ne_jar hj nl0
    replace es := es.trans e; replace hj := hj.same e
    replace ot0 := e _ _ ot0
    clear e nl0
    generalize upd A1 l0 (.lst []) = A2 at *
    refine fun d0 nd0 => ?_
    have e := same_upd (o := .dK []) nd0
    have od0 := upd_same (H := A2) (a := d0) (o := .dK [])
    have md0 : d0 ≠ p := ne_jar hj nd0
    replace es := es.trans e; replace hj := hj.same e
    replace ot0 := e _ _ ot0
    replace ol0 := e _ _ ol0
    clear e nd0
    generalize upd A2 d0 (.dK []) = A3 at *
    refine ⟨(show 0 ≤ sizeLine by decide), fun t1 nt1 => ?_⟩
    have e := same_upd (o := .tup []) nt1
    have ot1 := upd_same (H := A3) (a := t1) (o := .tup [])
    have mt1 : t1 ≠ p := ne_jar hj nt1
    replace es := es.trans e; replace hj := hj.same e
    replace ot0 := e _ _ ot0
    replace ol0 := e _ _ ol0
    replace od0 := e _ _ od0
    clear e nt1
    generalize upd A3 t1 (.tup []) = A4 at *
    refine ⟨(show 1 ≤ sizeLine by decide), fun t2 nt2 => ?_⟩
    have e := same_upd (o := .tup [V.ref t1]) nt2
    have ot2 := upd_same (H := A4) (a := t2) (o := .tup [V.ref t1])
    have mt2 : t2 ≠ p := ne_jar hj nt2
    replace es := es.trans e; replace hj := hj.same e
    replace ot0 := e _ _ ot0
    replace ol0 := e _ _ ol0
    replace od0 := e _ _ od0
    replace ot1 := e _ _ ot1
    clear e nt2
    generalize upd A4 t2 (.tup [V.ref t1]) = A5 at *
    refine ⟨(show 1 ≤ sizeLine by decide), fun t3 nt3 => ?_⟩
    have e := same_upd (o := .tup [V.int 0]) nt3
    have ot3 := upd_same (H := A5) (a := t3) (o := .tup [V.int 0])
    have mt3 : t3 ≠ p := ne_jar hj nt3
    replace es := es.trans e; replace hj := hj.same e
    replace ot0 := e _ _ ot0
    replace ol0 := e _ _ ol0
    replace od0 := e _ _ od0
    replace ot1 := e _ _ ot1
    replace ot2 := e _ _ ot2
    clear e nt3
    generalize upd A5 t3 (.tup [V.int 0]) = A6 at *
    intro x1 dx1 nx1 ndx1 ne1
    refine ⟨x1, dx1, 1, 2, rfl, upd_same, by decide, (show Bd 3 1 by unfold Bd; decide).mono (by decide), (show Bd 3 2 by unfold Bd; decide).mono (by decide), fun C1 ox1 hk1 => ⟨rfl, ?_⟩⟩
    have e : Same A6 C1 := Same.made nx1 ndx1 hk1
    replace es := es.trans e; replace hj := hj.same e
    replace ot0 := e _ _ ot0
    replace ol0 := e _ _ ol0
    replace od0 := e _ _ od0
    replace ot1 := e _ _ ot1
    replace ot2 := e _ _ ot2
    replace ot3 := e _ _ ot3
    clear e hk1 nx1 ndx1 ne1
    refine ⟨(show 17 ≤ sizeLine by decide), fun lq nlq => ?_⟩
    have e := same_upd (o := .lst [V.non, .bl true, .bl false, .int 0, .int 1, .int (-1), .str "", .str "a", .str "main", .str "Zz", .ref t0, .ref l0, .ref d0, .ref t2, .ref t3, .ref x1, .int 7]) nlq
    have olq := upd_same (H := C1) (a := lq) (o := .lst [V.non, .bl true, .bl false, .int 0, .int 1, .int (-1), .str "", .str "a", .str "main", .str "Zz", .ref t0, .ref l0, .ref d0, .ref t2, .ref t3, .ref x1, .int 7])
    have mlq : lq ≠ p := ne_jar hj nlq
    replace es := es.trans e; replace hj := hj.same e
    replace ot0 := e _ _ ot0
    replace ol0 := e _ _ ol0
    replace od0 := e _ _ od0
    replace ot1 := e _ _ ot1
    replace ot2 := e _ _ ot2
    replace ot3 := e _ _ ot3
    replace ox1 := e _ _ ox1
    clear e nlq
    generalize upd C1 lq (.lst [V.non, .bl true, .bl false, .int 0, .int 1, .int (-1), .str "", .str "a", .str "main", .str "Zz", .ref t0, .ref l0, .ref d0, .ref t2, .ref t3, .ref x1, .int 7]) = A7 at *
    have hh : ∀ v ∈ [V.non, .bl true, .bl false, .int 0, .int 1, .int (-1), .str "", .str "a", .str "main", .str "Zz", .ref t0, .ref l0, .ref d0, .ref t2, .ref t3, .ref x1, .int 7], ∃ t, At C p A7 v t ∧ Fits 0 1 t := by
      intro v hv
      simp only [List.mem_cons, List.not_mem_nil, or_false] at hv
      rcases hv with rfl | rfl | rfl | rfl | rfl | rfl | rfl | rfl | rfl | rfl | rfl | rfl | rfl | rfl | rfl | rfl | rfl
      · exact ⟨_, .non, trivial⟩
      · exact ⟨_, .bl _, trivial⟩
      · exact ⟨_, .bl _, trivial⟩
      · exact ⟨_, .int _, (show Bd 20 (0) by unfold Bd; decide)⟩
      · exact ⟨_, .int _, (show Bd 20 (1) by unfold Bd; decide)⟩
      · exact ⟨_, .int _, (show Bd 20 (-1) by unfold Bd; decide)⟩
      · exact ⟨_, .str _, ⟨by decide +kernel, by decide +kernel⟩⟩
      · exact ⟨_, .str _, ⟨by decide +kernel, by decide +kernel⟩⟩
      · exact ⟨_, .str _, ⟨by decide +kernel, by decide +kernel⟩⟩
      · exact ⟨_, .str _, ⟨by decide +kernel, by decide +kernel⟩⟩
      · exact ⟨_, .tup ot0 .nil, ⟨Nat.zero_le _, fun t h => absurd h List.not_mem_nil⟩⟩
      · exact ⟨_, .lst ol0 ml0, trivial⟩
      · exact ⟨_, .dic od0, trivial⟩
      · exact ⟨_, .tup ot2 (.cons (.tup ot1 .nil) .nil), ⟨(show 1 ≤ 15 + 0 by decide), fun t h => by rw [List.mem_singleton.mp h]; exact rfl⟩⟩
      · exact ⟨_, .tup ot3 (.cons (.int 0) .nil), ⟨(show 1 ≤ 15 + 0 by decide), fun t h => by rw [List.mem_singleton.mp h]; exact (show Bd 20 (0) by unfold Bd; decide)⟩⟩
      · exact ⟨_, .am ⟨fr_low (by decide), x1, dx1, rfl, ox1⟩, ⟨fb12.1.mono (by decide), fb12.2.mono (by decide)⟩⟩
      · exact ⟨_, .int _, (show Bd 20 (7) by unfold Bd; decide)⟩
    refine ⟨p, lq, _, N, rfl, olq, mlq, ⟨show 0 < 17 by decide, show 17 ≤ 1000 by decide⟩, hj, by omega, fun v H9 hv c9 j9 => ?_⟩
    obtain ⟨t, ht, ft⟩ := hh v hv
    exact q H9 v t ((Chg.of es).trans c9) j9 (ht.chg hj c9) ft
end
end Us
/-! exceptions as values: made by a call of their class, asked for their class, for a field -/
namespace Ev
open PySem PySem.Spec PyProof.Rows L2
/-- C(e, ..) as a value, C's own __init__ keeping sp -/
def tMkV (C : Addr) (sp : Sp) (dvs : List V) (ta : TA) : TE := fun σ H Q => ta σ H fun vs H1 => vs.length ≤ 1000 ∧ ∀ a, H1 a = none → sp (.ref a :: (vs ++ dvs)) (upd H1 a (exo a C none))
  (fun v H2 => v = .non ∧ Q (.ref a) H2) (fun _ _ _ => False)
section
variable {X : Cx} {e : Expr} {es : List Expr} {ta : TA} {p pos : Pos}
theorem pe_mkV {CX : CXT} {x : Str} {C fI : Addr} {k : Nat} {fd : FuncData} {ps : List Str} {sp : Sp} {ds : List Value} {dvs : List V} (T : OexC X.K C) (iC : PySem.W.findIn X.K (.ref C) "__init__" = some (some (.ref fI))) (tI : PySem.W.typeIn X.K (.ref fI) = some (.type "function"))
    (F1 : FnOk X.prog X.w X.K X.mg X.base CX k fI fd ps sp) (hr : Room (k + 1) X.A) (hb : Binds X.K fd ps ds) (hd : Vals dvs ds) (hx : Passes CX X (fun _ _ _ => False)) (hg : Gl X x) (hm : X.mg x = some (.ref C)) (ha : PA X (e :: es) ta)
    (hdb : (x == ("__debug__" : Str)) = false := by decide) (he : starEach (e :: es) X.env = (false, eval e X.env) :: starEach es X.env := by rfl) (hpl : (backTo pos (starEach es X.env)).any (·.1) = false := by rfl) :
    PE X (.Call (.Name x p) (e :: es) [] pos) (tMkV C sp dvs ta) := by
  refine ⟨fun pins s σ H Q I h => ?_⟩
  obtain ⟨nm, q, N, bs, bm, sn, sub, ab, col, dd, k0, k1, k2, k3, k5, hC, hbm⟩ := T.cls
  refine wpAny_Call_Name_kw (ld_glob I hg hm ?_ hdb)
  refine PySem.W.callWith_K (h₀ := X.base) I.ok.mod.kin T.kC (thn (ha.run pos pins s σ H _ I h) fun us s1 ⟨vs, H1, I1, r1, hz, q1⟩ => ⟨I1.kIn, ?_⟩) he hpl
  show wpAny _ _ (call (.ref C) us) _ _ _
  obtain ⟨hp, g, dr, tk, os⟩ := s1
  have hsz : hp.objs.size ≤ hp.objs.size + 1 := Nat.le_succ _
  have hn : H1 (hp.objs.size + 1) = none := I1.hok.fresh hsz
  have hq := q1 (hp.objs.size + 1) hn
  have kk : ∀ b o, hp.get? b = some o → ((hp.push (PySem.W.kdv_tup us)).push (PySem.HandSPX.excO C hp.objs.size)).get? b = some o := fun b o e => Heap.get?_push_of_some _ (Heap.get?_push_of_some _ e)
  have hget : ((hp.push (PySem.W.kdv_tup us)).push (PySem.HandSPX.excO C hp.objs.size)).get? (hp.objs.size + 1) = some (PySem.HandSPX.excO C hp.objs.size) := by heap_get
  have I2 : Inv X pins σ (upd H1 (hp.objs.size + 1) (exo (hp.objs.size + 1) C none)) ⟨(hp.push (PySem.W.kdv_tup us)).push (PySem.HandSPX.excO C hp.objs.size), g, dr, tk, os⟩ :=
    I1.laid (t' := tk) (a := hp.objs.size + 1) (o := exo (hp.objs.size + 1) C none) (h' := (hp.push (PySem.W.kdv_tup us)).push (PySem.HandSPX.excO C hp.objs.size)) kk hsz (exo_ok hget)
  have r2 : Vals (V.ref (hp.objs.size + 1) :: (vs ++ dvs)) (Value.ref (hp.objs.size + 1) :: (us ++ ds)) := .cons rfl (r1.append hd)
  have hl : (Value.ref (hp.objs.size + 1) :: us ++ ds).length = ps.length := by
    have e := r2.length
    rw [F1.len _ _ _ _ hq] at e
    exact e.symm
  have hus : us.length ≤ sizeLine := by
    rw [← Paired.length r1, sizeLine_eq]
    omega
  refine wpAny_call (PySem.HandSPX.call_own F.excBase_ValueError (fun Y => PySem.HandSPX.refsVE_contains Y bm hbm) (I1.kIn _ _ hC) (PySem.W.looks_findIn I1.kIn iC) (fun self => PySem.W.bind_fn I1.kIn self tI) hus
    (codeAny_mono (F1.run _ X.stack _ _ ⟨Value.ref (hp.objs.size + 1) :: us, []⟩ (Value.ref (hp.objs.size + 1) :: (us ++ ds)) _ _ (fun _ _ _ => False) (hr.make C us []) (I2.env0.make C us []) (hb _ (Value.ref (hp.objs.size + 1) :: us) I2.kIn hl) r2 hq) fun r s' hq' => ?_))
  cases r with
  | error er => exact hx pins σ _ _ er s' I2 hq'
  | ok fl =>
    cases fl with
    | ret u =>
      obtain ⟨v, H2, I3, rv, ev, q2⟩ := I2.after hq'
      subst ev
      exact ⟨rv, V.ref (hp.objs.size + 1), H2, I3, rfl, q2⟩
    | next => exact False.elim hq'
    | brk => exact False.elim hq'
    | cont => exact False.elim hq'
/-- such an exception with its dict, of a heap -/
def ExAt (H : Hp) (e D : Addr) (fs : List (Str × V)) : Prop := ∃ dd, H e = some (exo e D (some dd)) ∧ H dd = some (exd dd fs)
/-- error.f -/
def tXo (K : PySem.W.Frag) (f : Str) (te : TE) : TE := fun σ H Q => te σ H fun x H1 => ∃ (a C : Addr) (fs : List (Str × V)) (v : V), x = .ref a ∧ XfC K C ∧ PySem.W.findIn K (.ref C) f = some none ∧ ExAt H1 a C fs ∧ fs.lookup f = some v ∧ Q v H1
theorem pe_xo {te : TE} {n : Str} (he : PE X e te) (hb : attributeBase e n X.env (eval e X.env) = eval e X.env := by rfl) : PE X (.Attribute e n pos) (tXo X.K n te) := by
  refine ⟨fun pins z τ G Q I want => attr_of hb (thn (he.run pins z τ G _ I want) fun u z1 got => ?_)⟩
  obtain ⟨_, G1, J, rel, a, C, fs, v, rfl, T, hno, ⟨dd, ea, ed⟩, look, q⟩ := got
  cases (show u = Value.ref a from rel)
  obtain ⟨t1, at_⟩ := exo_at J.hok ea
  obtain ⟨m, space, fits⟩ := exd_at J.hok ed
  obtain ⟨od, od_at, od_look⟩ := lookIn_ns space
  have fit := fits n
  rw [look] at fit
  obtain ⟨w, w_is, w_rel⟩ := RelO.some_of fit
  obtain ⟨ox, inst⟩ : ∃ ox, PySem.W.InstAt z1.heap a ox C (some od) := ⟨_, at_, rfl, rfl, od_at⟩
  have found := PySem.W.findObj_own (K := X.K) (C := C) (name := n) T.hdC hno rfl ((od_look n).trans (congrArg some w_is))
  exact HandSPX.exc_get J.kIn inst T.ga T.gg T.exC found (handed_of w_rel) ⟨v, G1, J.tok _, w_rel, q⟩
structure ErrV (K : PySem.W.Frag) (D : Addr) : Prop where
  ic : PySem.W.isClsIn K D = true
  ca : PySem.W.findIn K (.ref D) "__class__" = some (some (.builtin "object.__class__"))
  cn : PySem.W.specialIn K (.builtin "object.__class__") "__get__" = some (some (.builtin "getset_descriptor.__get__"))
  ct : PySem.W.takesIn K (.builtin "object.__class__") = some true
  ob : PySem.W.mroIn K D (.type "object") = some true
/-- isinstance of such an exception -/
def rIsiV (K : PySem.W.Frag) : List V → Hp → VK → Prop := fun xs H Q => ∃ (e D : Addr) (fs : List (Str × V)) (c : V) (cv : Value) (b : Bool), xs = [.ref e, c] ∧ XfC K D ∧ ErrV K D ∧ ExAt H e D fs ∧ ClsV c cv ∧ PySem.W.kitOne K (.ref D) cv = some b ∧ Q (.bl b) H
theorem call_isiV {X : Cx} : CallR X (.builtin "isinstance") (rIsiV X.K) := by
  intro pins z τ G xs us Q I rel want
  obtain ⟨e, D, fs, c, cv, b, rfl, T, E, ⟨dd, he, hd⟩, cls, kit, q⟩ := want
  obtain ⟨u1, u2, rfl, r1, r2⟩ := vals2 rel
  cases (show u1 = Value.ref e from r1)
  obtain rfl := cls.eq r2
  obtain ⟨t1, at_⟩ := exo_at I.hok he
  obtain ⟨m, space, _⟩ := exd_at I.hok hd
  obtain ⟨od, od_at, _⟩ := lookIn_ns space
  obtain ⟨ox, inst⟩ : ∃ ox, PySem.W.InstAt z.heap e ox D (some od) := ⟨_, at_, rfl, rfl, od_at⟩
  exact PySem.W.kia_one (PySem.W.kitx_exc (od := some od) E.ic T.ga T.gg T.exC E.ca E.cn E.ct E.ob) I.kIn inst kit (fun y => nomatch y) fun tk => ⟨.bl b, G, I.tok tk, rfl, q⟩
/-- isinstance of an exception that was raised and kept -/
def rIsiK (K : PySem.W.Frag) (D : Addr) : List V → Hp → VK → Prop := fun xs H Q => ∃ (e dd : Addr) (fs : List (Str × V)) (c : V) (cv : Value) (b : Bool), xs = [.ref e, c] ∧ H e = some (Kt.EO e (.ref D) (some dd)) ∧ H dd = some (.xd fs) ∧ ClsV c cv ∧ PySem.W.kitOne K (.ref D) cv = some b ∧ Q (.bl b) H
theorem call_isiK {X : Cx} {D : Addr} (T : XfC X.K D) (E : ErrV X.K D) : CallR X (.builtin "isinstance") (rIsiK X.K D) := by
  intro pins z τ G xs us Q I rel want
  obtain ⟨e, dd, fs, c, cv, b, rfl, he, hd, cls, kit, q⟩ := want
  obtain ⟨u1, u2, rfl, r1, r2⟩ := vals2 rel
  cases (show u1 = Value.ref e from r1)
  obtain rfl := cls.eq r2
  obtain ⟨oe, vs, at_, zc, rec⟩ := Kt.eo_at I.hok he
  obtain ⟨m, space, _⟩ := (show ObjOk X.prog X.w G z.heap dd (.xd fs) from I.hok dd _ hd)
  obtain ⟨od, od_at, _⟩ := lookIn_ns space
  have inst : PySem.W.InstAt z.heap e oe D (some od) := by
    refine ⟨at_, zc.1, ?_, ?_⟩
    · unfold PySem.W.notCls
      rw [rec] <;> rfl
    · rw [zc.2]
      exact od_at
  exact PySem.W.kia_one (PySem.W.kitx_exc (od := some od) E.ic T.ga T.gg T.exC E.ca E.cn E.ct E.ob) I.kIn inst kit (fun y => nomatch y) fun tk => ⟨.bl b, G, I.tok tk, rfl, q⟩
end
end Ev
/-! repr of pairs whose items are data (nested too) or instances with an own __repr__ -/
namespace Rt
open PySem PySem.Spec PyProof.Rows L2
/-- data without an address -/
inductive Leaf : V → Str → Prop
  | non : Leaf .non ("None" : Str)
  | bl (b : Bool) : Leaf (.bl b) (if b then ("True" : Str) else "False")
  | int (i : Int) (h : i.natAbs.log2 < 1920) : Leaf (.int i) (Str.ofString (toString i))
  | str (x : Str) (h : (reprText x).length ≤ sizeLine) : Leaf (.str x) (reprText x)
/-- data at an address: plain data, or an empty dict -/
def Known (K : PySem.W.Frag) (H : Hp) (b : Addr) (d : PyData) : Prop := (Dp K H (.ref b) d ∧ d.hasDict = false) ∨ (H b = some (.dK []) ∧ d = .dict [])
def ItemD (K : PySem.W.Frag) (R : Hp → V → Str → Prop) (H : Hp) (v : V) (t : Str) : Prop :=
  Leaf v t ∨ (∃ b d, v = .ref b ∧ Known K H b d ∧ d.showable = true ∧ d.depth ≤ 40 ∧ d.shown.length ≤ sizeLine ∧ t = d.shown) ∨ R H v t
def rRepTD (K : PySem.W.Frag) (R : Hp → V → Str → Prop) : List V → Hp → VK → Prop := fun xs H Q => ∃ (a : Addr) (v0 v1 : V) (t0 t1 : Str), xs = [.ref a] ∧ H a = some (.tup [v0, v1]) ∧
  ItemD K R H v0 t0 ∧ ItemD K R H v1 t1 ∧ (tupleText [t0, t1]).length ≤ sizeLine ∧ Q (.str (tupleText [t0, t1])) H
/-- a pair is no part of its item's data -/
theorem not_within {h : Heap} {a b : Addr} {o : Obj} {z0 z1 : Value} {nn : Nat} {d : PyData} {as bs : List Addr} (at_ : h.get? a = some o) (cl : o.cls = .type "tuple") (dt : o.data = .seq [z0, z1].toArray nn) (hb : Value.ref b = z0 ∨ Value.ref b = z1)
    (r : Reads h (.ref b) d as) (most : ReadAtMost h d.depth bs) : a ∉ bs := by
  intro hm
  obtain ⟨e, cs, re, le⟩ := most a hm
  cases re with
  | list g c _ _ => rw [at_] at g; cases g; rw [cl] at c; exact absurd (Value.type.inj c) (by decide)
  | dict g c _ _ _ => rw [at_] at g; cases g; rw [cl] at c; exact absurd (Value.type.inj c) (by decide)
  | tuple g c f all =>
    rw [at_] at g
    cases g
    rw [dt] at f
    cases f
    cases all with
    | cons r0 all => cases all with
      | cons r1 all =>
        cases all
        have deep : ∀ {x y : PyData}, d = x ∨ d = y → (PyData.tuple [x, y]).depth ≤ d.depth → False := by
          rintro x y (rfl | rfl) le
          · simp only [PyData.depth, PyData.depthAll] at le; omega
          · simp only [PyData.depth, PyData.depthAll] at le; omega
        rcases hb with rfl | rfl
        · exact deep (.inl (reads_det (fun _ _ e _ => e) r0 r).1) le
        · exact deep (.inr (reads_det (fun _ _ e _ => e) r1 r).1) le
section
variable {X : Cx} {pins : List (Addr × Obj)} {σ : L2.St} {H : Hp} {s : Shared} {C : Addr} {R : Hp → V → Str → Prop} {k : Nat}
theorem leaf_is {prog : Program} {w : World} {v : V} {z : Value} {t : Str} (rz : RelV v z) (l : Leaf v t) : ReprIs prog w z t := by
  cases l with
  | non => cases (show z = Value.none from rz); exact ReprIs.none
  | bl b => cases (show z = Value.bool b from rz); exact ReprIs.bool b
  | int i h => obtain ⟨tk, rfl⟩ := (show ∃ tk, z = Value.int i tk from rz); exact ReprIs.int tk h
  | str x h => obtain ⟨tk, rfl⟩ := (show ∃ tk, z = Value.str x tk from rz); exact ReprIs.str x tk h
theorem known_reads {b : Addr} {d : PyData} (I : Inv X pins σ H s) (h : Known X.K H b d) : ∃ as, Reads s.heap (.ref b) d as ∧ (d.hasDict = true → sysModules ∉ as) := by
  rcases h with ⟨hd, nd⟩ | ⟨hb, rfl⟩
  · obtain ⟨as, r⟩ := Dp.reads I d (.ref b) _ hd rfl
    exact ⟨as, r, fun y => by rw [nd] at y; cases y⟩
  · obtain ⟨_, ns, vs, kv, o, es, ep, h1, h2, h3, _, ps, _⟩ := (show ObjOk X.prog X.w H s.heap b (.dK []) from I.hok b _ hb)
    cases kv
    have e : es.toList = [] := by
      cases q : es.toList with
      | nil => rfl
      | cons y ys => rw [q] at ps; cases ps
    refine ⟨_, .dict h1 h2.1 h3 (kvs := []) (by rw [e]; exact .nil) (by rw [e]; exact .nil), fun _ => ?_⟩
    simp only [List.append_nil, List.mem_cons, List.not_mem_nil, or_false]
    rintro rfl
    simp at ns
theorem call_repTD (O : OwnR X C R k) (free : X.A.guards = some []) (hr : Room (k + 2) X.A) : CallR X (.builtin "repr") (rRepTD X.K R) := by
  intro pins s σ H xs us Q I rel want
  obtain ⟨a, v0, v1, t0, t1, rfl, ha, h0, h1, sz, q⟩ := want
  obtain ⟨u, rfl, ru⟩ := vals1 rel
  cases (show u = Value.ref a from ru)
  obtain ⟨f, fd, F, hb, hs, hf⟩ := O.ex
  have open_ : ∀ {s : Shared}, Inv X pins σ H s → ∃ (ob : Obj) (nn : Nat) (z0 z1 : Value), s.heap.get? a = some ob ∧ ob.cls = .type "tuple" ∧ ob.data = .seq [z0, z1].toArray nn ∧ RelV v0 z0 ∧ RelV v1 z1 := by
    intro s I
    obtain ⟨_, its, rv, ob, hob, hcl, nn, hdat⟩ := I.hok a _ ha
    cases rv with
    | cons r0 rv => cases rv with
      | cons r1 rv => cases rv; exact ⟨ob, nn, _, _, hob, hcl, hdat, r0, r1⟩
  obtain ⟨ob, nn, z0, z1, hob, hcl, hdat, r0, r1⟩ := open_ I
  have one : ∀ {v : V} {z : Value} {t : Str}, RelV v z → (v = v0 ∨ v = v1) → ItemD X.K R H v t → ∀ b, b + t.length ≤ sizeLine → ∀ s, Inv X pins σ H s →
      wpAny (model X.prog X.w) (X.A.in1.under (.builtin "tuple.__repr__" ⟨[.ref a], []⟩)) (pyReprUnder b z) (fun r s' => r = t ∧ Inv X pins σ H s') X.xe s := by
    intro v z t rz hv hi b hb' s I
    rcases hi with l | ⟨c, d, rfl, hd, sh, dp, fits, rfl⟩ | hR
    · exact wpAny_mono (leaf_is rz l b hb' _ X.xe s (fun r s' => r = t ∧ Inv X pins σ H s') (fun tk' => ⟨rfl, I.tok tk'⟩)) (fun _ _ z => z) fun _ _ e => e
    · cases (show z = Value.ref c from rz)
      obtain ⟨as, rd, nd⟩ := known_reads I hd
      obtain ⟨bs, most, K⟩ := ReprK.of_reads (prog := X.prog) (w := X.w) rd sh nd fits
      obtain ⟨ob', nn', y0, y1, e1, e2, e3, e4, e5⟩ := open_ I
      have out : a ∉ bs := not_within e1 e2 e3 (by
        rcases hv with rfl | rfl
        · exact .inl (show y0 = Value.ref c from e4).symm
        · exact .inr (show y1 = Value.ref c from e5).symm) rd most
      refine K b hb' _ [.builtin "tuple.__repr__" ⟨[.ref a], []⟩] _ s _ ?_ ?_ ?_ (fun _ _ e => e) fun h' tk keep => ⟨rfl, I.kept (t' := tk) keep⟩
      · exact guards_under_guard (isGuard_tuple_repr _) (show X.A.in1.guards = some [] from free)
      · exact fun y hy => (Clear.nil y).cons fun e => out (e ▸ hy)
      · rw [units_under_tuple_repr]
        have := hr.units
        show X.A.units + 1 + 1 + d.depth < cLine
        omega
    · obtain ⟨x, dx, fs, rfl, hx⟩ := O.ins H v t hR
      cases (show z = Value.ref x from rz)
      obtain ⟨od, J⟩ := Am.inst_of I hx
      refine under_own (by omega) (by rw [units_under_tuple_repr]; have := hr.units; show X.A.units + 1 + 1 < _; omega) I.kIn J hs hf ?_
      refine wpAny_mono (run_rep (v := .ref x) F hb (Room.tr (Room.in1 hr) a [] []) (Env0.tr I.env0.in1 a [] []) I hR) (fun v s' hv => ?_) fun _ _ e => e
      obtain ⟨u, rfl, I'⟩ := hv
      exact ⟨t, u, rfl, rfl, I'⟩
  refine call_repr_tup (J := fun _ s => Inv X pins σ H s) (ts := [t0, t1]) free (by have := hr.units; omega) hob hcl hdat (by simp) I (fun j x t e1 e2 b hb s hs => ?_) (fun s' u tk hs => ⟨.str (tupleText [t0, t1]), H, hs.tok tk, ⟨u, rfl⟩, q⟩) sz
  match j, e1, e2 with
  | 0, e1, e2 => cases (show some z0 = some x from e1); cases (show some t0 = some t from e2); exact one r0 (.inl rfl) h0 b hb s hs
  | 1, e1, e2 => cases (show some z1 = some x from e1); cases (show some t1 = some t from e2); exact one r1 (.inr rfl) h1 b hb s hs
  | j + 2, e1, e2 => simp at e1
end
end Rt
/-! repr of one value: a leaf, known data, or an instance with an own __repr__ -/
namespace Rt
open PySem PySem.Spec PyProof.Rows L2
def rRepD (K : PySem.W.Frag) (R : Hp → V → Str → Prop) : List V → Hp → VK → Prop := fun xs H Q => ∃ v t, xs = [v] ∧ ItemD K R H v t ∧ Q (.str t) H
section
variable {X : Cx} {C : Addr} {R : Hp → V → Str → Prop} {k : Nat}
theorem call_repD (O : OwnR X C R k) (free : X.A.guards = some []) (hr : Room (k + 2) X.A) : CallR X (.builtin "repr") (rRepD X.K R) := by
  intro pins s σ H xs us Q I rel want
  obtain ⟨v, t, ex, it, q⟩ := want
  subst ex
  rcases it with l | ⟨b, d, rfl, kn, sh, dp, sz, rfl⟩ | hR
  · obtain ⟨u, rfl, ru⟩ := vals1 rel
    cases l with
    | non => cases (show u = Value.none from ru); exact PySem.P.repr_of_none ⟨.str _, H, I.tok _, ⟨_, rfl⟩, q⟩
    | bl b => cases (show u = Value.bool b from ru); exact PySem.P.repr_of_bool ⟨.str _, H, I.tok _, ⟨_, by cases b <;> rfl⟩, q⟩
    | int i h => obtain ⟨tk, rfl⟩ := (show ∃ tk, u = Value.int i tk from ru); exact PySem.P.repr_of_int h ⟨.str _, H, I.tok _, ⟨_, rfl⟩, q⟩
    | str x h => obtain ⟨tk, rfl⟩ := (show ∃ tk, u = Value.str x tk from ru); exact PySem.P.repr_of_str ⟨.str _, H, I.tok _, ⟨_, rfl⟩, q⟩ h
  · obtain ⟨u, rfl, ru⟩ := vals1 rel
    cases (show u = Value.ref b from ru)
    obtain ⟨as, r, hsm⟩ := known_reads I kn
    refine repr_of_reads' r sh hsm free (by have := hr.units; omega) (fun _ _ z => z) ?_ sz
    intro h' t tk kp
    exact ⟨.str d.shown, H, I.kept kp, ⟨t, rfl⟩, q⟩
  · exact call_repI O (hr.mono (by omega)) pins s σ H _ us Q I rel ⟨v, t, rfl, .inr hR, q⟩
end
end Rt
/-! repr of nested values whose leaves may be instances with an own __repr__ -/
namespace Rt
open PySem PySem.Spec PyProof.Rows L2
open Builtin Builtin.List
theorem ll_depth {A : Around} {C : Addr} {us : List Value} {kw : List (Str × Value)} : (A.under (.builtin "list.__repr__.loop" ⟨.ref C :: us, kw⟩)).depth ≤ A.depth + 1 := by
  first | exact Nat.le_of_eq (by first | rfl | simp [Around.under, Code.weight, Code.isCreation, Code.isGuard, Code.isCaller, Code.frames, Code.isFrame, guardIds]) | (simp [Around.under, Code.weight, Code.isCreation, Code.isGuard, Code.isCaller, Code.frames, Code.isFrame, guardIds])
theorem Room.ll {k : Nat} {A : Around} (r : Room (k + 1) A) (C : Addr) (us : List Value) (kw : List (Str × Value)) : Room k (A.under (.builtin "list.__repr__.loop" ⟨.ref C :: us, kw⟩)) :=
  ⟨r.hd, by have := r.dp; have := @ll_depth A C us kw; omega, by have := r.un; rw [units_under_list_loop]; omega⟩
theorem Env0.ll {P : Program} {w : World} {K : PySem.W.Frag} {mg : Str → Option Value} {base : Heap} {A : Around} {outer : List Env} {s : Shared} {H : Hp} (e : Env0 P w K mg base A outer s H) (C : Addr) (us : List Value) (kw : List (Str × Value)) :
    Env0 P w K mg base (A.under (.builtin "list.__repr__.loop" ⟨.ref C :: us, kw⟩)) outer s H := ⟨by first | exact e.frames | (simpa [Around.under, Code.envs, Code.isFrame, pushEnvs] using e.frames), e.mod, e.bs, e.bsz, e.funs, e.frf, e.hok, e.bare⟩
theorem tu_depth {A : Around} {C : Addr} {us : List Value} {kw : List (Str × Value)} : (A.under (.builtin "tuple.__repr__.under" ⟨.ref C :: us, kw⟩)).depth ≤ A.depth + 1 := by
  first | exact Nat.le_of_eq (by first | rfl | simp [Around.under, Code.weight, Code.isCreation, Code.isGuard, Code.isCaller, Code.frames, Code.isFrame, guardIds]) | (simp [Around.under, Code.weight, Code.isCreation, Code.isGuard, Code.isCaller, Code.frames, Code.isFrame, guardIds])
theorem Room.tu {k : Nat} {A : Around} (r : Room (k + 1) A) (C : Addr) (us : List Value) (kw : List (Str × Value)) : Room k (A.under (.builtin "tuple.__repr__.under" ⟨.ref C :: us, kw⟩)) :=
  ⟨r.hd, by have := r.dp; have := @tu_depth A C us kw; omega, by have := r.un; rw [units_under_tuple_repr_under]; omega⟩
theorem Env0.tu {P : Program} {w : World} {K : PySem.W.Frag} {mg : Str → Option Value} {base : Heap} {A : Around} {outer : List Env} {s : Shared} {H : Hp} (e : Env0 P w K mg base A outer s H) (C : Addr) (us : List Value) (kw : List (Str × Value)) :
    Env0 P w K mg base (A.under (.builtin "tuple.__repr__.under" ⟨.ref C :: us, kw⟩)) outer s H := ⟨by first | exact e.frames | (simpa [Around.under, Code.envs, Code.isFrame, pushEnvs] using e.frames), e.mod, e.bs, e.bsz, e.funs, e.frf, e.hok, e.bare⟩
section
variable {X : Cx} {pins : List (Addr × Obj)} {σ : L2.St} {H : Hp} {s : Shared} {C : Addr} {R : Hp → V → Str → Prop} {k : Nat}
/-- the environment of A is known wherever the invariant holds -/
def EnvA (X : Cx) (H : Hp) (A : Around) : Prop := ∀ (pins : List (Addr × Obj)) (σ : L2.St) s, Inv X pins σ H s → Env0 X.prog X.w X.K X.mg X.base A X.stack s H
/-- an instance with an own __repr__, within another repr -/
theorem own_item (O : OwnR X C R k) {A : Around} (he : EnvA X H A) (hr : Room (k + 1) A) {v : V} {z : Value} {t : Str} (rz : RelV v z) (hR : R H v t) {b : Nat} (hb' : b + t.length ≤ sizeLine) (I : Inv X pins σ H s) {E : Value → Shared → Prop} :
    wpAny (model X.prog X.w) A (pyReprUnder b z) (fun r s' => r = t ∧ Inv X pins σ H s') E s := by
  obtain ⟨f, fd, F, hb, hs, hf⟩ := O.ex
  obtain ⟨x, dx, fs, rfl, hx⟩ := O.ins H v t hR
  cases (show z = Value.ref x from rz)
  obtain ⟨od, J⟩ := Am.inst_of I hx
  refine under_own (by omega) (by have := hr.units; omega) I.kIn J hs hf ?_
  refine wpAny_mono (run_rep (v := .ref x) F hb (hr.mono (by omega)) (he _ _ _ I) I hR) (fun v s' hv => ?_) fun _ _ e => e
  obtain ⟨u, rfl, I'⟩ := hv
  exact ⟨t, u, rfl, rfl, I'⟩
theorem listText1 (t : Str) : textFrom 0 "[" [t] ++ "]" = listText [t] := rfl
/-- v shows as t within another repr, where no repr of as is under way -/
def Und (X : Cx) (H : Hp) (k : Nat) (as : List Addr) (v : V) (t : Str) : Prop := ∀ ⦃pins : List (Addr × Obj)⦄ ⦃σ : L2.St⦄ ⦃s : Shared⦄ ⦃A : Around⦄ ⦃g : List Code⦄ ⦃z : Value⦄ ⦃b : Nat⦄ ⦃E : Value → Shared → Prop⦄, EnvA X H A → Room k A → A.guards = some g → (∀ c ∈ as, Clear g c) → RelV v z → b + t.length ≤ sizeLine → Inv X pins σ H s →
  wpAny (model X.prog X.w) A (pyReprUnder b z) (fun r s' => r = t ∧ Inv X pins σ H s') E s
theorem Und.mono {as : List Addr} {v : V} {t : Str} {j : Nat} (u : Und X H j as v t) (h : j ≤ k) : Und X H k as v t := fun pins σ s A g z b E he hr hg hc rz hb I => u he (hr.mono h) hg hc rz hb I
theorem und_own (O : OwnR X C R k) {v : V} {t : Str} (hR : R H v t) : Und X H (k + 1) [] v t := fun pins σ s A g z b E he hr hg hc rz hb I => own_item O he hr rz hR hb I
theorem und_leaf {v : V} {t : Str} (l : Leaf v t) : Und X H 0 [] v t := fun pins σ s A g z b E he hr hg hc rz hb I =>
  wpAny_mono (leaf_is rz l b hb _ E s (fun r s' => r = t ∧ Inv X pins σ H s') (fun tk' => ⟨rfl, I.tok tk'⟩)) (fun _ _ z => z) fun _ _ e => e
/-- the loop over a list of one -/
theorem loop1 {as : List Addr} {A : Around} (he : EnvA X H A) (hr : Room (k + 1) A) {a P : Addr} {v0 : V} {t0 : Str} (ha : H a = some (.lst [v0])) (U : Und X H k as v0 t0) (hna : a ∉ as) {g : List Code} (hg : A.guards = some g) (hcl : ∀ c ∈ as, Clear g c) (I : Inv X pins σ H s) (fp : FpOk X pins H P)
    {c : Nat} (hP : s.heap.get? P = some { cls := .type "list", dict := none, data := .seq #[] c, slots := #[] }) {base : Nat} (hsz : base + (listText [t0]).length ≤ sizeLine) {W : Result → Shared → Prop}
    (hW : ∀ u s', Inv X pins σ H s' → W (.ok (.ret (.str (listText [t0]) u))) s') :
    codeAny (model X.prog X.w) A (.builtin "list.__repr__.loop" ⟨[.ref a, rawInt 0, .ref P, rawInt base], []⟩) W s := by
  have hp3 := piled_le_listText [t0]
  have hpl : piled [t0] = t0.length + 2 := by simp [piled]
  obtain ⟨its, r, ⟨oa, na, hoa, hca, _, hda⟩, _⟩ := I.list (SqL.of ha)
  obtain ⟨z0, rfl, r0⟩ : ∃ z0, its = [z0] ∧ RelV v0 z0 := by
    cases r with
    | cons r0 r => cases r; exact ⟨_, rfl, r0⟩
  refine codeAny_builtin F.entry_list_repr_loop ?_
  show wpAny _ _ («list.__repr__.loop» ⟨[.ref a, .int 0 0, .ref P, .int (base : Int) 0], []⟩) _ _ s
  rw [repr_loop_tree]
  refine wpAny_bind (wpAny_listItems hoa hda ?_)
  have hsome : [z0].toArray[(0 : Int).toNat]? = some z0 := by simp
  simp only [hsome]
  rw [Int.toNat_natCast]
  -- the item, the parts pinned
  have Ip : Inv X (pins ++ [(P, { cls := .type "list", dict := none, data := .seq #[] c, slots := #[] })]) σ H s := I.pins_of fun p hp => by
    rcases List.mem_append.mp hp with hp | hp
    · exact I.pin p (List.mem_append_right _ hp)
    · obtain rfl := List.mem_singleton.mp hp
      exact ⟨hP, fp.1, fp.2.1, fp.2.2.1, fun v z => by cases z⟩
  refine wpAny_bind (wpAny_holding (wpAny_mono (U (A := A.under (.builtin "list.__repr__.loop" ⟨[.ref a, .int 0 0, .ref P, .int (base : Int) 0], []⟩)) (fun pins σ s I => Env0.ll (he pins σ s I) a _ []) (Room.ll hr a _ []) (guards_under_guard (isGuard_list_loop _) hg) (fun c hc => (hcl c hc).cons (a := a) fun e => hna (e ▸ hc)) r0 (b := base + 1) (by omega) Ip) (fun r s1 hr1 => ?_) fun _ _ e => e))
  obtain ⟨rfl, I1⟩ := hr1
  obtain ⟨g1, g2, _⟩ := I1.pin (P, ({ cls := .type "list", dict := none, data := .seq #[] c, slots := #[] } : Obj)) (by simp)
  have I1' : Inv X pins σ H s1 := I1.pins_of fun p hp => I1.pin p (by simp [hp])
  refine wpAny_bind (wpAny_mkStr ?_ (by omega))
  refine wpAny_bind ?_
  show wpAny _ _ (updateSeq P _) _ _ _
  replace g1 : s1.heap.get? P = some ({ cls := .type "list", dict := none, data := .seq #[] c, slots := #[] } : Obj) := g1
  refine wpAny_updateSeq (xs := #[]) (n := c) (f := fun x => x.push (Value.str r s1.toks)) g1 rfl (wpAny_pure ⟨F.quiet_list_repr_loop _, ?_⟩) (Nat.zero_le _) (_hz' := by show 1 ≤ sizeLine + 1; rw [sizeLine_eq]; decide)
  obtain ⟨f1, f2, f3, f4, f5, f6⟩ := fp
  generalize hw : s1.heap.update P _ = h2
  have up : ∀ b o, b ≠ P → s1.heap.get? b = some o → h2.get? b = some o := fun b o hb e => by rw [← hw]; exact (Heap.get?_update_other _ _ (fun h : P = b => hb h.symm)).trans e
  have I2 : ∀ tk, Inv X pins σ H { s1 with heap := h2, toks := tk } := fun tk => I1'.turned up f1 f2 f4 f5 f6
  obtain ⟨cn, gP⟩ : ∃ cn, h2.get? P = some ({ cls := .type "list", dict := none, data := .seq #[Value.str r s1.toks] cn, slots := #[] } : Obj) := by
    rw [← hw]
    exact ⟨_, Heap.get?_update_self (Obj.mapSeq fun x => x.push (Value.str r s1.toks)) g1 rfl⟩
  obtain ⟨its, rr, ⟨ob, nb, hob, hcb, _, hdb⟩, _⟩ := I1'.list (SqL.of ha)
  obtain ⟨z1, rfl, r1⟩ : ∃ z0, its = [z0] ∧ RelV v0 z0 := by
    cases rr with
    | cons r0 r => cases r; exact ⟨_, rfl, r0⟩
  have naP : a ≠ P := fun e => by rw [e, f1] at ha; cases ha
  refine codeAny_builtin F.entry_list_repr_loop ?_
  show wpAny _ _ («list.__repr__.loop» ⟨[.ref a, .int 1 0, .ref P, .int ((base + (r.length + 2) : Nat) : Int) 0], []⟩) _ _ _
  rw [repr_loop_tree]
  refine wpAny_bind (wpAny_listItems (up _ _ naP hob) hdb ?_)
  have hnone : [z1].toArray[(1 : Int).toNat]? = none := by simp
  simp only [hnone]
  unfold reprEnd
  refine wpAny_bind (wpAny_listItems gP rfl ?_)
  have e1 : #[Value.str r s1.toks].toList = strValues [(r, s1.toks)] := rfl
  rw [e1, repr_fold]
  refine wpAny_bind (wpAny_pure ?_)
  refine wpAny_bind (wpAny_mkStr (wpAny_pure ?_) (show (listText [r]).length ≤ sizeLine by omega))
  exact hW _ _ (I2 _)
theorem list1At {as : List Addr} {A : Around} (he : EnvA X H A) (hr : Room (k + 1) A) {g : List Code} (hg : A.guards = some g) {a : Addr} (hcl : ∀ c ∈ a :: as, Clear g c) {v0 : V} {t0 : Str} (ha : H a = some (.lst [v0])) (U : Und X H k as v0 t0) (hna : a ∉ as) (I : Inv X pins σ H s)
    {base : Nat} (hsz : base + (listText [t0]).length ≤ sizeLine) {W : Result → Shared → Prop} (hW : ∀ u s', Inv X pins σ H s' → W (.ok (.ret (.str (listText [t0]) u))) s') :
    wpAny (model X.prog X.w) A.in1 (Builtin.listReprAt base ⟨[.ref a], []⟩) (fun fin s' => match fin with | .done f => W (.ok f) s' | .again c' => c'.quiet = true ∧ codeAny (model X.prog X.w) A c' W s') (fun e s' => W (.error e) s') s := by
  obtain ⟨its, r, ⟨oa, na, hoa, hca, _, hda⟩, _⟩ := I.list (SqL.of ha)
  obtain ⟨z0, rfl, r0⟩ : ∃ z0, its = [z0] ∧ RelV v0 z0 := by
    cases r with
    | cons r0 r => cases r; exact ⟨_, rfl, r0⟩
  have fp := I.fpOk (Nat.le_refl s.heap.objs.size) (I.hok.fresh (Nat.le_refl _))
  refine wpAny_list_repr_head (A := A.in1) hg (fun v rest kw hm => listSameRef_of_ne (hcl a (.head _) _ _ _ _ hm)) hoa hda ?_
  refine wpAny_bind (m := newList []) (wpAny_newObj_type ?_)
  refine wpAny_pure ⟨F.quiet_list_repr_loop _, ?_⟩
  exact loop1 he hr ha U hna hg (fun c hc => hcl c (.tail _ hc)) (I.kept (t' := s.toks) fun b o e => Heap.get?_push_of_some _ e) fp (Heap.get?_push_size _ rfl) hsz hW
theorem tup_own {prog : Program} {w : World} {A : Around} {a : Addr} {o : Obj} {items : Array Value} {n : Nat} {ts : List Str} {J : Nat → Shared → Prop} {id : String} {rest : List Value} {g : List Code} {W : Result → Shared → Prop} {base : Nat} (hg : A.guards = some g) (hno : Clear g a)
    (ha : s.heap.get? a = some o) (hd : o.data = .seq items n) (hlen : items.toList.length = ts.length) (hj : J 0 s)
    (hx : ∀ (j : Nat) (x : Value) (t : Str), items.toList[j]? = some x → ts[j]? = some t → ∀ b, b + t.length ≤ sizeLine → ∀ s, J j s → wpAny (model prog w) (A.under (.builtin id ⟨.ref a :: rest, []⟩)) (pyReprUnder b x) (fun r s' => r = t ∧ J (j + 1) s') (fun e s' => W (.error e) s') s)
    (hQ : ∀ s' u tk, J ts.length s' → W (.ok (.ret (.str (tupleText ts) u))) { s' with toks := tk }) (hsz : base + (tupleText ts).length ≤ sizeLine) :
    wpOwn (model prog w) A (.builtin id ⟨.ref a :: rest, []⟩) (Builtin.tupleReprAt base ⟨[.ref a], []⟩) (fun fin s' => match fin with | .done f => W (.ok f) s' | .again c' => c'.quiet = true ∧ codeAny (model prog w) A c' W s') (fun e s' => W (.error e) s') s := by
  have fits := piled_le_tupleText ts
  rw [tuple_repr_tree, tupleReprUnderWay_eq]
  refine wpOwn_bind (wpOwn_stackTailAny hg (tupGuardF_off _) (tupGuardF_pos _) ?_)
  have hn : (g.any fun c => tupGuardF (.ref a) (c, default)) = false := by
    rw [List.any_eq_false]
    intro c hcm
    rw [tupGuardF_of_clear hno c hcm]
    exact Bool.false_ne_true
  rw [hn]
  refine wpOwn_of_wpAny ?_
  show wpAny _ _ (tupleReprRest base (.ref a)) _ _ s
  unfold tupleReprRest
  unfold Builtin.Tuple.tupleItemsOf
  refine wpAny_bind (wpAny_bind (wpAny_seqItems (items := items) ha hd (wpAny_pure ?_)))
  rw [← Array.forIn_toList]
  refine wpAny_bind (tupFold (J := J) _ ts 0 _ _ _ _ hlen (by omega) hj (fun j x t e1 e2 b hb s hs => ?_) fun s' hs => ?_)
  · rw [Nat.zero_add] at hs ⊢
    exact hx j x t e1 e2 b hb s hs
  · rw [Nat.zero_add, hlen] at hs
    have hl' : ts.length = items.size := by simpa using hlen.symm
    refine wpAny_bind (wpAny_mkStr (wpAny_pure ?_) (by simpa [tupleText, hl'] using (show (tupleText ts).length ≤ sizeLine by omega)))
    have h1 := hQ s' s'.toks (s'.toks + 1) hs
    simpa [tupleText, hl'] using h1
/-! ### the kinds -/
theorem sys_ne {a : Addr} (h : (a == sysModules) = false) : (a == sysModules) = false := h
theorem und_list1 {as : List Addr} {a : Addr} {v0 : V} {t0 : Str} (ha : H a = some (.lst [v0])) (U : Und X H k as v0 t0) (hna : a ∉ as) : Und X H (k + 2) (a :: as) (.ref a) (listText [t0]) := by
  intro pins σ s A g z b E he hr hg hcl rz hb I
  cases (show z = Value.ref a from rz)
  obtain ⟨its, r, ⟨oa, na, hoa, hca, _, hda⟩, _⟩ := I.list (SqL.of ha)
  refine wpAny_pyReprUnder_ref (by omega) (wpAny_pyReprObjUnder_twin (twin := "list.__repr__.under") ⟨oa, hoa, hca⟩ F.slot_list_repr.toG rfl (by have := hr.units; omega) ?_)
  refine call_twin_plain F.plain_list_repr_under F.entry_list_repr_under F.check_list_repr_under ⟨oa, hoa, hca⟩ F.slot_list_repr.toG (F.args_list_repr_1 _) ?_
  exact list1At (W := callEnd _ E) he (hr.mono (by omega)) hg hcl ha U hna I hb (fun u s' I' => ⟨⟨_, u, rfl⟩, _, u, rfl, rfl, I'⟩)
theorem und_list0 {a : Addr} (ha : H a = some (.lst [])) : Und X H 0 [a] (.ref a) ("[]" : Str) := by
  intro pins σ s A g z b E he hr hg hcl rz hb I
  cases (show z = Value.ref a from rz)
  obtain ⟨its, r, ⟨oa, na, hoa, hca, _, hda⟩, _⟩ := I.list (SqL.of ha)
  cases r
  exact wpAny_pyReprUnder_ref (by omega) (wpAny_pyReprObjUnder_list_empty ⟨oa, hoa, hca⟩ (by have := hr.units; omega) hoa hda ⟨_, _, rfl, rfl, I.tok _⟩)
inductive UndAll (X : Cx) (H : Hp) (k : Nat) (as : List Addr) : List V → List Str → Prop
  | nil : UndAll X H k as [] []
  | cons {v : V} {t : Str} {vs : List V} {ts : List Str} (h : Und X H k as v t) (all : UndAll X H k as vs ts) : UndAll X H k as (v :: vs) (t :: ts)
theorem UndAll.get {as : List Addr} : ∀ {vs : List V} {ts : List Str} {zs : List Value}, UndAll X H k as vs ts → Vals vs zs → ∀ (j : Nat) (x : Value) (t : Str), zs[j]? = some x → ts[j]? = some t → ∃ v, RelV v x ∧ Und X H k as v t
  | _, _, _, .nil, r, j, x, t, e1, e2 => by simp at e2
  | _, _, _, .cons h all, .cons r0 r, 0, x, t, e1, e2 => by cases e1; cases e2; exact ⟨_, r0, h⟩
  | _, _, _, .cons h all, .cons r0 r, j + 1, x, t, e1, e2 => UndAll.get all r j x t (by simpa using e1) (by simpa using e2)
theorem UndAll.length {as : List Addr} : ∀ {vs : List V} {ts : List Str}, UndAll X H k as vs ts → vs.length = ts.length
  | _, _, .nil => rfl
  | _, _, .cons _ all => by simp [UndAll.length all]
theorem und_tup {as : List Addr} {a : Addr} {vs : List V} {ts : List Str} (ha : H a = some (.tup vs)) (U : UndAll X H k as vs ts) (hna : a ∉ as) : Und X H (k + 1) (a :: as) (.ref a) (tupleText ts) := by
  intro pins σ s A g z b E he hr hg hcl rz hb I
  cases (show z = Value.ref a from rz)
  obtain ⟨_, its, rv, ob, hob, hcl', nn, hdat⟩ := I.hok a _ ha
  refine wpAny_pyReprUnder_ref (by omega) (wpAny_pyReprObjUnder_twin (twin := "tuple.__repr__.under") ⟨ob, hob, hcl'⟩ F.slot_tuple_repr rfl (by have := hr.units; omega) ?_)
  refine call_twin_own (F.quiet_tuple_repr_under _) F.entry_tuple_repr_under F.check_tuple_repr_under ⟨ob, hob, hcl'⟩ F.slot_tuple_repr (F.args_tuple_repr_1 _) ?_
  refine tup_own (W := callEnd _ E) (J := fun _ s => Inv X pins σ H s) (ts := ts) hg (hcl a (.head _)) hob hdat (by rw [← U.length]; simpa using rv.length.symm) I (fun j x t e1 e2 b hb s hs => ?_) (fun s' u tk hs => ⟨⟨_, u, rfl⟩, _, u, rfl, rfl, hs.tok tk⟩) hb
  obtain ⟨v, r0, u0⟩ := U.get rv j x t (by simpa using e1) e2
  exact u0 (fun pins σ s I => Env0.tu (he pins σ s I) a _ []) (Room.tu hr a _ []) (guards_under_guard (isGuard_tuple_repr_under _) hg) (fun c hc => (hcl c (.tail _ hc)).cons (a := a) fun e => hna (e ▸ hc)) r0 hb hs
/-! ### repr at the top -/
def rRepU (X : Cx) (k : Nat) : List V → Hp → VK → Prop := fun xs H Q => ∃ v t, xs = [v] ∧ t.length ≤ sizeLine ∧ Q (.str t) H ∧
  (Leaf v t ∨ (∃ a as v0 t0, v = .ref a ∧ H a = some (.lst [v0]) ∧ Und X H k as v0 t0 ∧ a ∉ as ∧ t = listText [t0]) ∨ (∃ a, v = .ref a ∧ H a = some (.lst []) ∧ t = "[]") ∨ (∃ a as vs ts, v = .ref a ∧ H a = some (.tup vs) ∧ UndAll X H k as vs ts ∧ a ∉ as ∧ t = tupleText ts))
theorem call_repU (free : X.A.guards = some []) (hr : Room (k + 3) X.A) : CallR X (.builtin "repr") (rRepU X k) := by
  intro pins s σ H xs us Q I rel want
  obtain ⟨v, t, rfl, sz, q, want⟩ := want
  obtain ⟨u, rfl, ru⟩ := vals1 rel
  rcases want with l | ⟨a, as, v0, t0, rfl, ha, U, hna, rfl⟩ | ⟨a, rfl, ha, rfl⟩ | ⟨a, as, vs, ts, rfl, ha, U, hna, rfl⟩
  · cases l with
    | non => cases (show u = Value.none from ru); exact PySem.P.repr_of_none ⟨.str _, H, I.tok _, ⟨_, rfl⟩, q⟩
    | bl b => cases (show u = Value.bool b from ru); exact PySem.P.repr_of_bool ⟨.str _, H, I.tok _, ⟨_, by cases b <;> rfl⟩, q⟩
    | int i h => obtain ⟨tk, rfl⟩ := (show ∃ tk, u = Value.int i tk from ru); exact PySem.P.repr_of_int h ⟨.str _, H, I.tok _, ⟨_, rfl⟩, q⟩
    | str x h => obtain ⟨tk, rfl⟩ := (show ∃ tk, u = Value.str x tk from ru); exact PySem.P.repr_of_str ⟨.str _, H, I.tok _, ⟨_, rfl⟩, q⟩ h
  · cases (show u = Value.ref a from ru)
    obtain ⟨its, r, ⟨oa, na, hoa, hca, _, hda⟩, _⟩ := I.list (SqL.of ha)
    refine call_repr_slot (by have := hr.units; omega) ⟨oa, hoa, hca⟩ F.slot_list_repr.toG ?_
    refine wpAny_call (codeAny_call_builtin F.slot_list_repr.plain F.entry_list_repr (F.slot_list_repr.check _ _ _ _ _ _ _ _ ⟨oa, hoa, hca⟩ (F.args_list_repr_1 _) ?_))
    show wpAny _ _ (Builtin.listReprAt 0 ⟨[.ref a], []⟩) _ _ _
    refine list1At (base := 0) (W := callEnd (fun v s' => ∃ x t, v = .str x t ∧ EP X pins σ Q v s') X.xe) (A := X.A.in1) (fun pins σ s I => I.env0.in1) (Room.in1 (k := k + 1) (hr.mono (by omega))) (show X.A.in1.guards = some [] from free) (fun c _ => Clear.nil c) ha U hna I (by omega) (fun u s' I' => ?_)
    exact ⟨_, _, rfl, .str _, H, I', ⟨u, rfl⟩, q⟩
  · cases (show u = Value.ref a from ru)
    obtain ⟨its, r, ⟨oa, na, hoa, hca, _, hda⟩, _⟩ := I.list (SqL.of ha)
    cases r
    refine call_repr_slot (by have := hr.units; omega) ⟨oa, hoa, hca⟩ F.slot_list_repr.toG ?_
    exact call_list_repr_empty ⟨oa, hoa, hca⟩ hoa hda ⟨_, _, rfl, .str _, H, I.tok _, ⟨_, rfl⟩, q⟩
  · cases (show u = Value.ref a from ru)
    obtain ⟨_, its, rv, ob, hob, hcl, nn, hdat⟩ := I.hok a _ ha
    refine call_repr_slot (by have := hr.units; omega) ⟨ob, hob, hcl⟩ F.slot_tuple_repr ?_
    refine wpAny_call (codeAny_call_builtin_own (Code.quiet_builtin _ (by decide +kernel)) F.entry_tuple_repr (F.slot_tuple_repr.check _ _ _ _ _ _ _ _ ⟨ob, hob, hcl⟩ (F.args_tuple_repr_1 _) ?_))
    show wpOwn _ _ _ (Builtin.tupleReprAt 0 ⟨[.ref a], []⟩) _ _ s
    refine tup_own (base := 0) (W := callEnd (fun v s' => ∃ x t, v = .str x t ∧ EP X pins σ Q v s') X.xe) (J := fun _ s => Inv X pins σ H s) (ts := ts) (show X.A.in1.guards = some [] from free) (Clear.nil a) hob hdat (by rw [← U.length]; simpa using rv.length.symm) I (fun j x t e1 e2 b hb s hs => ?_) (fun s' u tk hs => ⟨_, u, rfl, .str _, H, hs.tok tk, ⟨u, rfl⟩, q⟩) (by omega)
    obtain ⟨v, r0, u0⟩ := U.get rv j x t (by simpa using e1) e2
    exact u0 (fun pins σ s I => Env0.tr I.env0.in1 a _ []) (Room.tr (k := k) (Room.in1 (hr.mono (by omega))) a _ []) (guards_under_guard (isGuard_tuple_repr _) (show X.A.in1.guards = some [] from free)) (fun c hc => (Clear.nil c).cons (a := a) fun e => hna (e ▸ hc)) r0 hb hs
end
end Rt
/-! repr of dicts: none, or one text's key with a tuple of ints -/
namespace Rt
open PySem PySem.Spec PyProof.Rows L2
open Builtin
section
variable {X : Cx} {pins : List (Addr × Obj)} {σ : L2.St} {H : Hp} {s : Shared} {k : Nat}
/-- the dict at a: no entry, or one text with a tuple of ints -/
inductive DicAt (H : Hp) (a : Addr) : List Addr → Str → Prop
  | none (h : H a = some (.dK [])) : DicAt H a [a] (dictText [])
  | one {z : Str} {b : Addr} {i : Int} (h : H a = some (.dK [(.inr z, .ref b)])) (hb : H b = some (.tup [.int i])) (hz : (reprText z).length ≤ sizeLine) (hi : i.natAbs.log2 < 1920) : DicAt H a [a, b] (dictText [reprText z ++ ": " ++ tupleText [Str.ofString (toString i)]])
theorem dic_reads (I : Inv X pins σ H s) {a : Addr} {as : List Addr} {t : Str} (h : DicAt H a as t) : ∃ (o : Obj) (es : Array DictEntry) (n : Nat) (bs : List Addr) (ps : List Str), s.heap.get? a = some o ∧ o.cls = .type "dict" ∧ o.data = .dict es n ∧ (a == sysModules) = false ∧
    as = a :: bs ∧ a ∉ bs ∧ t = dictText ps ∧ ReprEntriesK X.prog X.w bs s.heap 1 es.toList ps := by
  cases h with
  | none h =>
    obtain ⟨_, hs, vs, kv, o, es, ep, h1, h2, h3, h4, h5, h6⟩ := I.hok _ _ h
    have e0 : vs = [] := by cases kv; rfl
    subst e0
    refine ⟨o, es, ep, [], [], h1, h2.1, h3, hs, rfl, by simp, rfl, ?_⟩
    generalize es.toList = l at h5
    cases h5
    exact .nil
  | @one z b i h hb hz hi =>
    obtain ⟨_, hs, vs, kv, o, es, ep, h1, h2, h3, h4, h5, h6⟩ := I.hok _ _ h
    obtain ⟨_, its, rv, ob, hob, hcl, nn, hdat⟩ := I.hok b _ hb
    have nab : a ≠ b := fun e => by rw [e, hb] at h; cases h
    obtain ⟨u, rfl⟩ : ∃ u, its = [u] := by
      cases rv with
      | cons r0 r => cases r; exact ⟨_, rfl⟩
    obtain ⟨tk, rfl⟩ : ∃ tk, u = Value.int i tk := by
      cases rv with
      | cons r0 r => exact r0
    refine ⟨o, es, ep, [b], [_], h1, h2.1, h3, hs, rfl, by simpa using nab, rfl, ?_⟩
    obtain ⟨q, rfl, q1, q2⟩ : ∃ q : Key × Value, vs = [q] ∧ Sum.inr z = q.1 ∧ RelV (.ref b) q.2 := by
      cases kv with
      | cons r0 r => cases r; exact ⟨_, rfl, r0.1, r0.2⟩
    obtain ⟨q1', q2'⟩ := q
    cases q1
    cases (show q2' = Value.ref b from q2)
    generalize es.toList = l at h5
    cases h5 with
    | @cons e _ es' _ hk hv hr =>
      cases hr
      rcases keyIs_shape (show keyIs (.inr z) e.key = true from hk) with ⟨_, _, z1, _⟩ | ⟨x, t, z1, z2⟩
      · cases z1
      · cases z1
        refine .cons ?_ ?_ .nil
        · rw [z2]
          exact ReprK.of_is (ReprIs.str z t hz) _ _ _
        · rw [show e.val = Value.ref b from hv]
          exact ReprK.tuple (as := []) (d := 0) (ts := [Str.ofString (toString i)]) hob hcl hdat (by simp) (.cons (ReprK.of_is (ReprIs.int tk hi) _ _ _) .nil)
theorem und_dic {a : Addr} {as : List Addr} {t : Str} (h : DicAt H a as t) : Und X H k as (.ref a) t := by
  intro pins σ s A g z b E he hr hg hcl rz hb I
  cases (show z = Value.ref a from rz)
  obtain ⟨o, es, n, bs, ps, h1, h2, h3, hs, rfl, hn, rfl, hE⟩ := dic_reads I h
  exact ReprK.dict h1 h2 h3 hs hn hE b hb A g E s _ hg hcl (by have := hr.units; omega) (fun _ _ e => e) fun h' tk keep => ⟨rfl, I.kept (t' := tk) keep⟩
def rRepDi : List V → Hp → VK → Prop := fun xs H Q => ∃ a as t, xs = [.ref a] ∧ DicAt H a as t ∧ t.length ≤ sizeLine ∧ Q (.str t) H
theorem call_repDi (free : X.A.guards = some []) (hr : Room k X.A) : CallR X (.builtin "repr") rRepDi := by
  intro pins s σ H xs us Q I rel want
  obtain ⟨a, as, t, rfl, h, sz, q⟩ := want
  obtain ⟨u, rfl, ru⟩ := vals1 rel
  cases (show u = Value.ref a from ru)
  obtain ⟨o, es, n, bs, ps, h1, h2, h3, hs, rfl, hn, rfl, hE⟩ := dic_reads I h
  refine call_repr_slot (by have := hr.units; omega) ⟨o, h1, h2⟩ F.slot_dict_repr ?_
  exact call_dict_reprK h1 h2 h3 hs hn hE (show X.A.in1.guards = some [] from free) (fun c _ => Clear.nil c) (by have := hr.units; show X.A.units + 1 + 2 < _; omega) (fun _ _ e => e)
    (fun h' u tk keep => ⟨_, u, rfl, .str _, H, I.kept (t' := tk) keep, ⟨u, rfl⟩, q⟩) sz
end
/-! ### values of any kind, their texts and the addresses they reach -/
mutual
inductive Sv (p : Addr) (R : Hp → V → Str → Prop) (H : Hp) : Nat → V → Str → List Addr → Prop
  | leaf {n : Nat} {v : V} {t : Str} (l : Leaf v t) : Sv p R H n v t []
  | own {n : Nat} {v : V} {t : Str} (h : R H v t) : Sv p R H n v t []
  | lst0 {n : Nat} {a : Addr} (h : H a = some (.lst [])) (np : a ≠ p) : Sv p R H n (.ref a) ("[]" : Str) [a]
  | lst1 {n : Nat} {a : Addr} {v : V} {t : Str} {as : List Addr} (h : H a = some (.lst [v])) (np : a ≠ p) (s : Sv p R H n v t as) (na : a ∉ as) : Sv p R H (n + 1) (.ref a) (listText [t]) (a :: as)
  | tup {n : Nat} {a : Addr} {vs : List V} {ts : List Str} {as : List Addr} (h : H a = some (.tup vs)) (s : SvAll p R H n vs ts as) (na : a ∉ as) : Sv p R H (n + 1) (.ref a) (tupleText ts) (a :: as)
  | dic {n : Nat} {a : Addr} {as : List Addr} {t : Str} (h : DicAt H a as t) : Sv p R H n (.ref a) t as
inductive SvAll (p : Addr) (R : Hp → V → Str → Prop) (H : Hp) : Nat → List V → List Str → List Addr → Prop
  | nil {n : Nat} : SvAll p R H n [] [] []
  | cons {n : Nat} {v : V} {t : Str} {as : List Addr} {vs : List V} {ts : List Str} {bs : List Addr} (h : Sv p R H n v t as) (all : SvAll p R H n vs ts bs) : SvAll p R H n (v :: vs) (t :: ts) (as ++ bs)
end
theorem Und.wide {X : Cx} {H : Hp} {k : Nat} {as bs : List Addr} {v : V} {t : Str} (u : Und X H k as v t) (h : ∀ c ∈ as, c ∈ bs) : Und X H k bs v t := fun pins σ s A g z b E he hr hg hc rz hb I => u he hr hg (fun c m => hc c (h c m)) rz hb I
theorem UndAll.mono {X : Cx} {H : Hp} {j k : Nat} {as : List Addr} (h : j ≤ k) : ∀ {vs : List V} {ts : List Str}, UndAll X H j as vs ts → UndAll X H k as vs ts
  | _, _, .nil => .nil
  | _, _, .cons u all => .cons (u.mono h) (UndAll.mono h all)
theorem UndAll.wide {X : Cx} {H : Hp} {k : Nat} {as bs : List Addr} (h : ∀ c ∈ as, c ∈ bs) : ∀ {vs : List V} {ts : List Str}, UndAll X H k as vs ts → UndAll X H k bs vs ts
  | _, _, .nil => .nil
  | _, _, .cons u all => .cons (u.wide h) (UndAll.wide h all)
section
variable {X : Cx} {H H' : Hp} {C p : Addr} {R : Hp → V → Str → Prop} {k : Nat}
mutual
theorem Sv.und (O : OwnR X C R k) : ∀ {n : Nat} {v : V} {t : Str} {as : List Addr}, Sv p R H n v t as → Und X H (k + 1 + 2 * n) as v t
  | n, _, _, _, .leaf l => (und_leaf l).mono (Nat.zero_le _)
  | n, _, _, _, .own h => (und_own O h).mono (by omega)
  | n, _, _, _, .lst0 h np => (und_list0 h).mono (Nat.zero_le _)
  | n + 1, _, _, _, .lst1 h np s na => (und_list1 h (Sv.und O s) na).mono (by omega)
  | n + 1, _, _, _, .tup h s na => (und_tup h (SvAll.und O s) na).mono (by omega)
  | n, _, _, _, .dic h => und_dic h
theorem SvAll.und (O : OwnR X C R k) : ∀ {n : Nat} {vs : List V} {ts : List Str} {as : List Addr}, SvAll p R H n vs ts as → UndAll X H (k + 1 + 2 * n) as vs ts
  | n, _, _, _, .nil => .nil
  | n, _, _, _, .cons h all => .cons ((Sv.und O h).wide fun c m => List.mem_append_left _ m) (UndAll.wide (fun c m => List.mem_append_right _ m) (SvAll.und O all))
end
theorem DicAt.known {a : Addr} {as : List Addr} {t : Str} (h : DicAt H a as t) : ∀ b ∈ as, ∃ o, H b = some o := by
  intro b hb
  cases h with
  | none h => exact ⟨_, (List.mem_singleton.mp hb) ▸ h⟩
  | one h h2 _ _ =>
    rcases List.mem_cons.mp hb with rfl | hb
    · exact ⟨_, h⟩
    · exact ⟨_, (List.mem_singleton.mp hb) ▸ h2⟩
mutual
theorem Sv.known : ∀ {n : Nat} {v : V} {t : Str} {as : List Addr}, Sv p R H n v t as → ∀ b ∈ as, ∃ o, H b = some o
  | _, _, _, _, .leaf l => fun b hb => absurd hb List.not_mem_nil
  | _, _, _, _, .own h => fun b hb => absurd hb List.not_mem_nil
  | _, _, _, _, .lst0 h np => fun b hb => ⟨_, (List.mem_singleton.mp hb) ▸ h⟩
  | _, _, _, _, .lst1 h np s na => fun b hb => (List.mem_cons.mp hb).elim (fun e => ⟨_, e ▸ h⟩) (Sv.known s b)
  | _, _, _, _, .tup h s na => fun b hb => (List.mem_cons.mp hb).elim (fun e => ⟨_, e ▸ h⟩) (SvAll.known s b)
  | _, _, _, _, .dic h => h.known
theorem SvAll.known : ∀ {n : Nat} {vs : List V} {ts : List Str} {as : List Addr}, SvAll p R H n vs ts as → ∀ b ∈ as, ∃ o, H b = some o
  | _, _, _, _, .nil => fun b hb => absurd hb List.not_mem_nil
  | _, _, _, _, .cons h all => fun b hb => (List.mem_append.mp hb).elim (Sv.known h b) (SvAll.known all b)
end
theorem DicAt.keep (f : ∀ b o, H b = some o → b ≠ p → H' b = some o) (hp : ∀ o, H p = some o → ∃ xs, o = .lst xs) {a : Addr} {as : List Addr} {t : Str} (h : DicAt H a as t) : DicAt H' a as t := by
  cases h with
  | none h => exact .none (f _ _ h (fun e => by obtain ⟨_, z⟩ := hp _ (e ▸ h); cases z))
  | one h h2 a1 a2 => exact .one (f _ _ h (fun e => by obtain ⟨_, z⟩ := hp _ (e ▸ h); cases z)) (f _ _ h2 (fun e => by obtain ⟨_, z⟩ := hp _ (e ▸ h2); cases z)) a1 a2
mutual
theorem Sv.keep (f : ∀ b o, H b = some o → b ≠ p → H' b = some o) (hp : ∀ o, H p = some o → ∃ xs, o = .lst xs) (hR : ∀ v t, R H v t → R H' v t) : ∀ {n : Nat} {v : V} {t : Str} {as : List Addr}, Sv p R H n v t as → Sv p R H' n v t as
  | _, _, _, _, .leaf l => .leaf l
  | _, _, _, _, .own h => .own (hR _ _ h)
  | _, _, _, _, .lst0 h np => .lst0 (f _ _ h np) np
  | _, _, _, _, .lst1 h np s na => .lst1 (f _ _ h np) np (Sv.keep f hp hR s) na
  | _, _, _, _, .tup h s na => .tup (f _ _ h (fun e => by obtain ⟨_, z⟩ := hp _ (e ▸ h); cases z)) (SvAll.keep f hp hR s) na
  | _, _, _, _, .dic h => .dic (h.keep f hp)
theorem SvAll.keep (f : ∀ b o, H b = some o → b ≠ p → H' b = some o) (hp : ∀ o, H p = some o → ∃ xs, o = .lst xs) (hR : ∀ v t, R H v t → R H' v t) : ∀ {n : Nat} {vs : List V} {ts : List Str} {as : List Addr}, SvAll p R H n vs ts as → SvAll p R H' n vs ts as
  | _, _, _, _, .nil => .nil
  | _, _, _, _, .cons h all => .cons (Sv.keep f hp hR h) (SvAll.keep f hp hR all)
end
mutual
theorem Sv.up (m : Nat) : ∀ {n : Nat} {v : V} {t : Str} {as : List Addr}, Sv p R H n v t as → Sv p R H (m + n) v t as
  | _, _, _, _, .leaf l => .leaf l
  | _, _, _, _, .own h => .own h
  | _, _, _, _, .lst0 h np => .lst0 h np
  | _, _, _, _, .lst1 h np s na => .lst1 h np (Sv.up m s) na
  | _, _, _, _, .tup h s na => .tup h (SvAll.up m s) na
  | _, _, _, _, .dic h => .dic h
theorem SvAll.up (m : Nat) : ∀ {n : Nat} {vs : List V} {ts : List Str} {as : List Addr}, SvAll p R H n vs ts as → SvAll p R H (m + n) vs ts as
  | _, _, _, _, .nil => .nil
  | _, _, _, _, .cons h all => .cons (Sv.up m h) (SvAll.up m all)
end
/-- repr of such a value -/
def rRepSv (p : Addr) (R : Hp → V → Str → Prop) (n : Nat) : List V → Hp → VK → Prop := fun xs H Q => ∃ v t as, xs = [v] ∧ Sv p R H n v t as ∧ t.length ≤ sizeLine ∧ Q (.str t) H
theorem call_repSv (O : OwnR X C R k) (free : X.A.guards = some []) {n : Nat} (hr : Room (k + 4 + 2 * n) X.A) : CallR X (.builtin "repr") (rRepSv p R n) := by
  intro pins s σ H xs us Q I rel want
  obtain ⟨v, t, as, ex, h, sz, q⟩ := want
  subst ex
  have U : ∀ {want : Prop}, rRepU X (k + 1 + 2 * n) [v] H Q → wpAny (model X.prog X.w) X.A (call (.builtin "repr") us) (fun u s' => EP X pins σ Q u s') X.xe s := fun {_} w => call_repU free (hr.mono (by omega)) pins s σ H _ us Q I rel w
  cases h with
  | leaf l => exact U (want := True) ⟨v, t, rfl, sz, q, .inl l⟩
  | own h => exact call_repI O (hr.mono (by omega)) pins s σ H _ us Q I rel ⟨v, t, rfl, .inr h, q⟩
  | lst0 h np => exact U (want := True) ⟨_, _, rfl, sz, q, .inr (.inr (.inl ⟨_, rfl, h, rfl⟩))⟩
  | lst1 h np s na => exact U (want := True) ⟨_, _, rfl, sz, q, .inr (.inl ⟨_, _, _, _, rfl, h, (s.und O).mono (by omega), na, rfl⟩)⟩
  | @tup m a vs ts as h s na => exact U (want := True) ⟨_, _, rfl, sz, q, .inr (.inr (.inr ⟨a, as, vs, ts, rfl, h, UndAll.mono (by omega) (s.und O), na, rfl⟩))⟩
  | dic h => exact call_repDi free hr pins s σ H _ us Q I rel ⟨_, _, _, rfl, h, sz, q⟩
end
end Rt
/-! the law: errors of each class -/
namespace Er
open PySem PySem.Spec PyProof.Rows L2 Am Hs Ev
/-- an error of class D that keeps v -/
abbrev Ke (H : Hp) (a D : Addr) (v : V) : Prop := ExAt H a D [("value", v)]
theorem Ke.same {H H' : Hp} {a D : Addr} {v : V} (h : Ke H a D v) (e : Same H H') : Ke H' a D v := by
  obtain ⟨dd, h1, h2⟩ := h
  exact ⟨dd, e _ _ h1, e _ _ h2⟩
theorem mk_step {K : PySem.W.Frag} {mg : Str → Option Value} {x : Str} {D fI : Addr} (T : Err K mg x D fI) {H1 : Hp} {a : Addr} {v : V} {Q : VK} (na : H1 a = none) (q : ∀ H2, Same H1 H2 → Ke H2 a D v → Q (.ref a) H2) :
    spInitE K (.ref a :: ([v] ++ [])) (upd H1 a (exo a D none)) (fun r H2 => r = .non ∧ Q (.ref a) H2) (fun _ _ _ => False) := by
  refine ⟨a, D, v, rfl, T.oex, T.nv, upd_same, fun dx nd ne => ⟨rfl, q _ (fun b o e => ?_) ⟨dx, upd_same, ?_⟩⟩⟩
  · rw [upd_ne ne] at nd
    have n1 : b ≠ dx := ne_of_none e nd
    have n2 : b ≠ a := ne_of_none e na
    rw [upd_ne n2, upd_ne n1, upd_ne n2]
    exact e
  · rw [upd_ne ne]; exact upd_same
inductive MkL : List Expr → List (Str × Addr) → Prop
  | nil : MkL [] []
  | cons {x : Str} {D : Addr} {p p' pos : Pos} {es : List Expr} {ns : List (Str × Addr)} (h : MkL es ns) : MkL (.Call (.Name x p) [.Name "_law_value" p'] [] pos :: es) ((x, D) :: ns)
def tMks (K : PySem.W.Frag) (i : Nat) : List (Str × Addr) → TA
  | [] => tNil
  | (_, D) :: ns => tCons (tMkV D (spInitE K) [] (tCons (tVar i) tNil)) (tMks K i ns)
section
variable {X : Cx} {fI : Addr} {fd : FuncData}
theorem pa_mks {i : Nat} (F1 : FnOk X.prog X.w X.K X.mg X.base CX0 1 fI fd ["self", "value"] (spInitE X.K)) (hr : Room 2 X.A) (hb : Binds X.K fd ["self", "value"] []) (hv : ∀ p, PE X (.Name "_law_value" p) (tVar i)) :
    ∀ {es : List Expr} {ns : List (Str × Addr)}, MkL es ns → (∀ n ∈ ns, Err X.K X.mg n.1 n.2 fI ∧ Gl X n.1 ∧ (n.1 == ("__debug__" : Str)) = false) → PA X es (tMks X.K i ns)
  | _, _, .nil, _ => pa_nil
  | _, _, .cons (x := x) (D := D) h, all => by
    obtain ⟨T, g, nd⟩ := all _ (.head _)
    exact pa_cons (pe_mkV T.oex T.iC T.tI F1 hr hb .nil pass0 g T.gD (pa_cons (hv _) pa_nil) nd) (pa_mks F1 hr hb hv h fun n m => all n (.tail _ m))
end
/-- the values of such a list are errors, each of its class -/
def Errs (H : Hp) (v : V) : List V → List (Str × Addr) → Prop
  | [], [] => True
  | e :: es, n :: ns => (∃ a, e = .ref a ∧ Ke H a n.2 v) ∧ Errs H v es ns
  | _, _ => False
theorem Errs.same {H H' : Hp} {v : V} (e : Same H H') : ∀ {es : List V} {ns : List (Str × Addr)}, Errs H v es ns → Errs H' v es ns
  | [], [], _ => trivial
  | _ :: _, _ :: _, ⟨⟨a, h1, h2⟩, r⟩ => ⟨⟨a, h1, h2.same e⟩, Errs.same e r⟩
  | [], _ :: _, h => h.elim
  | _ :: _, [], h => h.elim
theorem Errs.length {H : Hp} {v : V} : ∀ {es : List V} {ns : List (Str × Addr)}, Errs H v es ns → es.length = ns.length
  | [], [], _ => rfl
  | _ :: _, _ :: _, ⟨_, r⟩ => congrArg (· + 1) (Errs.length r)
  | [], _ :: _, h => h.elim
  | _ :: _, [], h => h.elim
theorem Errs.app {H : Hp} {v : V} : ∀ {es es' : List V} {ns ns' : List (Str × Addr)}, Errs H v es ns → Errs H v es' ns' → Errs H v (es ++ es') (ns ++ ns')
  | [], _, [], _, _, h => h
  | _ :: _, _, _ :: _, _, ⟨a, r⟩, h => ⟨a, Errs.app r h⟩
  | [], _, _ :: _, _, h, _ => h.elim
  | _ :: _, _, [], _, h, _ => h.elim
theorem Errs.get {H : Hp} {v : V} : ∀ {es : List V} {ns : List (Str × Addr)}, Errs H v es ns → ∀ (i : Nat) (h1 : i < es.length) (h2 : i < ns.length), ∃ a, es[i] = .ref a ∧ Ke H a ns[i].2 v
  | _ :: _, _ :: _, ⟨a, _⟩, 0, _, _ => a
  | _ :: _, _ :: _, ⟨_, r⟩, i + 1, h1, h2 => Errs.get r i (Nat.lt_of_succ_lt_succ h1) (Nat.lt_of_succ_lt_succ h2)
  | [], [], _, _, h1, _ => absurd h1 (Nat.not_lt_zero _)
  | [], _ :: _, h, _, _, _ => h.elim
  | _ :: _, [], h, _, _, _ => h.elim
theorem mks_read {K : PySem.W.Frag} {mg : Str → Option Value} {fI : Addr} {i : Nat} {v : V} {σ : L2.St} (hσ : σ[i]? = some (some v)) : ∀ {ns : List (Str × Addr)} {H : Hp} {Q : List V → Hp → Prop}, (∀ n ∈ ns, Err K mg n.1 n.2 fI) →
    (∀ H' es, Same H H' → Errs H' v es ns → Q es H') → tMks K i ns σ H Q
  | [], H, Q, _, q => q H [] (Same.refl H) trivial
  | n :: ns, H, Q, all, q => by
    refine ⟨v, hσ, (show 1 ≤ 1000 by decide), fun a na => mk_step (Q := fun x H1 => tMks K i ns σ H1 fun xs H2 => Q (x :: xs) H2) (all n (.head _)) na fun H2 e2 k2 => ?_⟩
    exact mks_read hσ (fun n m => all n (.tail _ m)) fun H' es e h => q H' _ (e2.trans e) ⟨⟨a, rfl, k2.same e⟩, h⟩
end Er
/-! the law: the errors created -/
namespace Er
open PySem PySem.Spec PyProof.Rows L2 Am Hs Ev
def errN : List Str := ["BadAmount", "NoQuotient", "BadText", "BadHouse", "NoFlat", "BadDay", "BadWeighing", "OtherHouse", "NoCell", "BadUse", "NoPerson", "NoMeter", "BadMorning", "BadNumbers", "NoNumber", "BadNumber", "BadPlaces", "BadPaper", "Contrary", "TooMany", "Back", "NotYet", "Past", "Expected", "NothingToUndo", "NothingToRedo", "BadJournal", "BadRule", "BadRun", "BadReadings", "BadOffers", "BadLine"]
theorem errN_ok : ∀ x ∈ errN, (x == ("__debug__" : Str)) = false := by decide +kernel
/-- the classes of the errors: names and addresses -/
def nsE (cl : Nat → Addr) : List (Str × Addr) := [("BadAmount", cl 0), ("NoQuotient", cl 1), ("BadText", cl 2), ("BadHouse", cl 3), ("NoFlat", cl 4), ("BadDay", cl 5), ("BadWeighing", cl 6), ("OtherHouse", cl 7), ("NoCell", cl 8), ("BadUse", cl 9), ("NoPerson", cl 10), ("NoMeter", cl 11), ("BadMorning", cl 12), ("BadNumbers", cl 13), ("NoNumber", cl 14), ("BadNumber", cl 15), ("BadPlaces", cl 16), ("BadPaper", cl 17), ("Contrary", cl 18), ("TooMany", cl 19), ("Back", cl 20), ("NotYet", cl 21), ("Past", cl 22), ("Expected", cl 23), ("NothingToUndo", cl 24), ("NothingToRedo", cl 25), ("BadJournal", cl 26), ("BadRule", cl 27), ("BadRun", cl 28), ("BadReadings", cl 29), ("BadOffers", cl 30), ("BadLine", cl 31)]
theorem nsE_names (cl : Nat → Addr) : (nsE cl).map (·.1) = errN := rfl
theorem nsE_at (cl : Nat → Addr) : ∀ i, (h : i < 32) → ((nsE cl)[i]'h).2 = cl i := by
  intro i h
  match i, h with
  | 0, _ => rfl
  | 1, _ => rfl
  | 2, _ => rfl
  | 3, _ => rfl
  | 4, _ => rfl
  | 5, _ => rfl
  | 6, _ => rfl
  | 7, _ => rfl
  | 8, _ => rfl
  | 9, _ => rfl
  | 10, _ => rfl
  | 11, _ => rfl
  | 12, _ => rfl
  | 13, _ => rfl
  | 14, _ => rfl
  | 15, _ => rfl
  | 16, _ => rfl
  | 17, _ => rfl
  | 18, _ => rfl
  | 19, _ => rfl
  | 20, _ => rfl
  | 21, _ => rfl
  | 22, _ => rfl
  | 23, _ => rfl
  | 24, _ => rfl
  | 25, _ => rfl
  | 26, _ => rfl
  | 27, _ => rfl
  | 28, _ => rfl
  | 29, _ => rfl
  | 30, _ => rfl
  | 31, _ => rfl
  | n + 32, h => omega
structure Ecl (K : PySem.W.Frag) (mg : Str → Option Value) (cl : Nat → Addr) (cM fI : Addr) : Prop where
  er : ∀ n ∈ nsE cl, Err K mg n.1 n.2 fI
  ev : ∀ i, i < 32 → ErrV K (cl i)
  kk : ∀ i, i < 32 → ∀ j, j < 32 → PySem.W.kitOne K (.ref (cl i)) (.ref (cl j)) = some (decide (j = i))
  km : ∀ i, i < 32 → PySem.W.kitOne K (.ref (cl i)) (.ref cM) = some true
  kv : ∀ i, i < 32 → PySem.W.kitOne K (.ref (cl i)) (.type "ValueError") = some true
  ex : ∀ i, i < 32 → PySem.W.exmOne K (.ref (cl i)) (.ref cM) = some true
  erM : Err K mg "MeterError" cM fI
  evM : ErrV K cM
  kM : ∀ j, j < 32 → PySem.W.kitOne K (.ref cM) (.ref (cl j)) = some false
theorem Ecl.at {K : PySem.W.Frag} {mg : Str → Option Value} {cl : Nat → Addr} {cM fI : Addr} (E : Ecl K mg cl cM fI) (i : Nat) (h : i < 32) : Err K mg (errN[i]'h) (cl i) fI := by
  have e := E.er _ (List.getElem_mem (l := nsE cl) (n := i) h)
  rw [nsE_at cl i h] at e
  have e2 : ((nsE cl)[i]'h).1 = errN[i]'h := by
    have q : ((nsE cl).map (·.1))[i]? = errN[i]? := by rw [nsE_names]
    rw [List.getElem?_map, List.getElem?_eq_getElem (l := nsE cl) (i := i) h, List.getElem?_eq_getElem (l := errN) (i := i) h] at q
    exact Option.some.inj q
  rw [e2] at e
  exact e
theorem lenle {H : Hp} {v : V} {es : List V} {ns : List (Str × Addr)} {n : Nat} (k : Errs H v es ns) (h : ns.length ≤ n) : es.length ≤ n := by rw [k.length]; exact h
theorem same_none {H H' : Hp} {b : Addr} (e : Same H H') (n : H' b = none) : H b = none := by
  cases h : H b with
  | none => rfl
  | some o => rw [e _ _ h] at n; cases n
theorem same_put {H H' : Hp} {l : Addr} {o : HO} (e : Same H H') (n : H l = none) : Same H (upd H' l o) := fun b u h => by
  rw [upd_ne (ne_of_none h n)]
  exact e _ _ h
theorem Errs.put {H : Hp} {v : V} {l : Addr} {o : HO} {xs : List V} (hl : H l = some (.lst xs)) : ∀ {es : List V} {ns : List (Str × Addr)}, Errs H v es ns → Errs (upd H l o) v es ns
  | [], [], _ => trivial
  | _ :: _, _ :: _, ⟨⟨a, h1, ⟨dd, h2, h3⟩⟩, r⟩ => ⟨⟨a, h1, ⟨dd, (upd_ne (fun z => by rw [z, hl] at h2; cases h2)).trans h2, (upd_ne (fun z => by rw [z, hl] at h3; cases h3)).trans h3⟩⟩, Errs.put hl r⟩
  | [], _ :: _, h => h.elim
  | _ :: _, [], h => h.elim
def spCreated (cl : Nat → Addr) : Sp := fun vs H Q _ => ∃ v, vs = [v] ∧ ∀ H' l es, Same H H' → H l = none → H' l = some (.lst es) → Errs H' v es (nsE cl) → Q (.ref l) H'
section
variable {P : Program} {w : World} {K : PySem.W.Frag} {mg : Str → Option Value} {base : Heap} {cl : Nat → Addr} {cM fI : Addr}
theorem scCr : FnScope ["_law_value", "_law_found"] ["_law_value"] (defScope sL_created) := ⟨rfl, rfl, rfl, by decide +kernel, rfl, by decide +kernel, by decide +kernel⟩
theorem ok_created {f : Addr} {fd fdI : FuncData} (F : Fun K "_law_created" "_law_created" sL_created f fd) (T : Ecl K mg cl cM fI) (F1 : FnOk P w K mg base CX0 1 fI fdI ["self", "value"] (spInitE K)) (hb : Binds K fdI ["self", "value"] []) :
    FnOk P w K mg base CX0 3 f fd ["_law_value"] (spCreated cl) := by
  refine F.ok scCr (fun vs H Q E h => ?_) (fun cdv A outer s H vs Q E hr h => ?_)
  · obtain ⟨v, rfl, _⟩ := h
    rfl
  · obtain ⟨v, rfl, q⟩ := h
    have hr2 : Room 2 _ := hr.mono (by decide)
    have sub : ∀ a n, ∀ x ∈ ((nsE cl).drop a).take n, x ∈ nsE cl := fun a n x h => List.mem_of_mem_drop (List.mem_of_mem_take h)
    have erg : ∀ a n, ∀ x ∈ ((nsE cl).drop a).take n, Err K mg x.1 x.2 fI := fun a n x h => T.er x (sub a n x h)
    have glob : ∀ x ∈ errN, Gl (cxOf CX0 P w K mg base ["_law_value", "_law_found"] "_law_created" (defScope sL_created) f cdv A outer s H E) x := by
      have : ∀ x ∈ errN, (defScope sL_created).names.lookup x = some .globalImplicit := by decide +kernel
      exact this
    have good : ∀ a n, ∀ x ∈ ((nsE cl).drop a).take n, Err K mg x.1 x.2 fI ∧ Gl (cxOf CX0 P w K mg base ["_law_value", "_law_found"] "_law_created" (defScope sL_created) f cdv A outer s H E) x.1 ∧ (x.1 == ("__debug__" : Str)) = false := fun a n x h =>
      ⟨erg a n x h, glob _ ((nsE_names cl) ▸ List.mem_map_of_mem (sub a n x h)), errN_ok _ ((nsE_names cl) ▸ List.mem_map_of_mem (sub a n x h))⟩
    refine ⟨_, (pss_cons (ps_set (i := 1) scCr.nd rfl (.inl rfl) (pe_lst (pa_mks F1 hr2 hb (fun _ => pv 0) (.cons (.cons (.cons (.cons (.cons (.cons .nil)))))) (good 0 6))))
      (pss_cons (ps_expr (pe_bm PySem.F.plainAttrs_list PySem.F.slot_list_extend PySem.F.type_list_extend mt_extend (pv 1) (pa_cons (pe_lst (pa_mks F1 hr2 hb (fun _ => pv 0) (.cons (.cons (.cons (.cons (.cons .nil))))) (good 6 5))) pa_nil)))
      (pss_cons (ps_expr (pe_bm PySem.F.plainAttrs_list PySem.F.slot_list_extend PySem.F.type_list_extend mt_extend (pv 1) (pa_cons (pe_lst (pa_mks F1 hr2 hb (fun _ => pv 0) (.cons (.cons (.cons (.cons (.cons .nil))))) (good 11 5))) pa_nil)))
      (pss_cons (ps_expr (pe_bm PySem.F.plainAttrs_list PySem.F.slot_list_extend PySem.F.type_list_extend mt_extend (pv 1) (pa_cons (pe_lst (pa_mks F1 hr2 hb (fun _ => pv 0) (.cons (.cons (.cons (.cons (.cons (.cons .nil)))))) (good 16 6))) pa_nil)))
      (pss_cons (ps_expr (pe_bm PySem.F.plainAttrs_list PySem.F.slot_list_extend PySem.F.type_list_extend mt_extend (pv 1) (pa_cons (pe_lst (pa_mks F1 hr2 hb (fun _ => pv 0) (.cons (.cons (.cons (.cons (.cons .nil))))) (good 22 5))) pa_nil)))
      (pss_one (ps_ret (pe_op op_cat (pv 1) (pe_lst (pa_mks F1 hr2 hb (fun _ => pv 0) (.cons (.cons (.cons (.cons (.cons .nil))))) (good 27 5))))))))))), ?_⟩
    refine mks_read rfl (erg 0 6) fun H1 es1 e1 k1 => ⟨lenle k1 (show 6 ≤ sizeLine by decide), fun l nl => ?_⟩
    have el := same_upd (o := .lst es1) nl
    have ol := upd_same (H := H1) (a := l) (o := .lst es1)
    have Hl : H l = none := same_none e1 nl
    replace e1 := e1.trans el
    replace k1 := k1.same el
    clear el nl
    generalize upd H1 l (.lst es1) = B1 at *
    refine ⟨.ref l, rfl, .inl ⟨rfl, _, SqL.of ol⟩, mks_read rfl (erg 6 5) fun G2 fs e2 k2 => ⟨lenle k2 (show 5 ≤ sizeLine by decide), fun m nm => ?_⟩⟩
    refine ⟨l, m, _, fs, rfl, rfl, (e2.trans (same_upd nm)) _ _ ol, upd_same, by rw [k1.length, k2.length]; exact (show 6 + 5 ≤ sizeLine by decide), ?_⟩
    have k3 := (Errs.app ((k1.same e2).same (same_upd (o := .lst fs) nm)) (k2.same (same_upd (o := .lst fs) nm))).put ((e2.trans (same_upd (o := .lst fs) nm)) _ _ ol) (o := .lst (es1 ++ fs))
    have e3 := same_put (o := .lst (es1 ++ fs)) ((e1.trans e2).trans (same_upd (o := .lst fs) nm)) Hl
    have ol3 := upd_same (H := upd G2 m (.lst fs)) (a := l) (o := .lst (es1 ++ fs))
    clear k1 k2 e1 e2 ol nm
    generalize upd (upd G2 m (.lst fs)) l (.lst (es1 ++ fs)) = B2 at *
    generalize es1 ++ fs = es2 at *
    have k1 := k3; have e1 := e3; have ol := ol3
    clear k3 e3 ol3 G2 fs m
    refine ⟨.ref l, rfl, .inl ⟨rfl, _, SqL.of ol⟩, mks_read rfl (erg 11 5) fun G2 fs e2 k2 => ⟨lenle k2 (show 5 ≤ sizeLine by decide), fun m nm => ?_⟩⟩
    refine ⟨l, m, _, fs, rfl, rfl, (e2.trans (same_upd nm)) _ _ ol, upd_same, by rw [k1.length, k2.length]; exact (show 11 + 5 ≤ sizeLine by decide), ?_⟩
    have k3 := (Errs.app ((k1.same e2).same (same_upd (o := .lst fs) nm)) (k2.same (same_upd (o := .lst fs) nm))).put ((e2.trans (same_upd (o := .lst fs) nm)) _ _ ol) (o := .lst (es2 ++ fs))
    have e3 := same_put (o := .lst (es2 ++ fs)) ((e1.trans e2).trans (same_upd (o := .lst fs) nm)) Hl
    have ol3 := upd_same (H := upd G2 m (.lst fs)) (a := l) (o := .lst (es2 ++ fs))
    clear k1 k2 e1 e2 ol nm
    generalize upd (upd G2 m (.lst fs)) l (.lst (es2 ++ fs)) = B3 at *
    generalize es2 ++ fs = es3 at *
    have k1 := k3; have e1 := e3; have ol := ol3
    clear k3 e3 ol3 G2 fs m
    refine ⟨.ref l, rfl, .inl ⟨rfl, _, SqL.of ol⟩, mks_read rfl (erg 16 6) fun G2 fs e2 k2 => ⟨lenle k2 (show 6 ≤ sizeLine by decide), fun m nm => ?_⟩⟩
    refine ⟨l, m, _, fs, rfl, rfl, (e2.trans (same_upd nm)) _ _ ol, upd_same, by rw [k1.length, k2.length]; exact (show 16 + 6 ≤ sizeLine by decide), ?_⟩
    have k3 := (Errs.app ((k1.same e2).same (same_upd (o := .lst fs) nm)) (k2.same (same_upd (o := .lst fs) nm))).put ((e2.trans (same_upd (o := .lst fs) nm)) _ _ ol) (o := .lst (es3 ++ fs))
    have e3 := same_put (o := .lst (es3 ++ fs)) ((e1.trans e2).trans (same_upd (o := .lst fs) nm)) Hl
    have ol3 := upd_same (H := upd G2 m (.lst fs)) (a := l) (o := .lst (es3 ++ fs))
    clear k1 k2 e1 e2 ol nm
    generalize upd (upd G2 m (.lst fs)) l (.lst (es3 ++ fs)) = B4 at *
    generalize es3 ++ fs = es4 at *
    have k1 := k3; have e1 := e3; have ol := ol3
    clear k3 e3 ol3 G2 fs m
    refine ⟨.ref l, rfl, .inl ⟨rfl, _, SqL.of ol⟩, mks_read rfl (erg 22 5) fun G2 fs e2 k2 => ⟨lenle k2 (show 5 ≤ sizeLine by decide), fun m nm => ?_⟩⟩
    refine ⟨l, m, _, fs, rfl, rfl, (e2.trans (same_upd nm)) _ _ ol, upd_same, by rw [k1.length, k2.length]; exact (show 22 + 5 ≤ sizeLine by decide), ?_⟩
    have k3 := (Errs.app ((k1.same e2).same (same_upd (o := .lst fs) nm)) (k2.same (same_upd (o := .lst fs) nm))).put ((e2.trans (same_upd (o := .lst fs) nm)) _ _ ol) (o := .lst (es4 ++ fs))
    have e3 := same_put (o := .lst (es4 ++ fs)) ((e1.trans e2).trans (same_upd (o := .lst fs) nm)) Hl
    have ol3 := upd_same (H := upd G2 m (.lst fs)) (a := l) (o := .lst (es4 ++ fs))
    clear k1 k2 e1 e2 ol nm
    generalize upd (upd G2 m (.lst fs)) l (.lst (es4 ++ fs)) = B5 at *
    generalize es4 ++ fs = es5 at *
    have k1 := k3; have e1 := e3; have ol := ol3
    clear k3 e3 ol3 G2 fs m
    refine ⟨.ref l, rfl, mks_read rfl (erg 27 5) fun G2 fs e2 k2 => ⟨lenle k2 (show 5 ≤ sizeLine by decide), fun m nm => ?_⟩⟩
    refine ⟨l, m, _, fs, rfl, rfl, (e2.trans (same_upd nm)) _ _ ol, upd_same, by rw [k1.length, k2.length]; exact (show 27 + 5 ≤ sizeLine by decide), fun r nr => ?_⟩
    have er := same_upd (o := .lst (es5 ++ fs)) nr
    have e3 := ((e1.trans e2).trans (same_upd (o := .lst fs) nm))
    exact q _ r _ (e3.trans er) (same_none e3 nr) upd_same (((Errs.app ((k1.same e2).same (same_upd (o := .lst fs) nm)) (k2.same (same_upd (o := .lst fs) nm)))).same er)
end
end Er
/-! the law: what kinds an error is of -/
namespace Er
open PySem PySem.Spec PyProof.Rows L2 Am Hs Ev
theorem ExAt.same {H H' : Hp} {a D : Addr} {fs : List (Str × V)} (h : ExAt H a D fs) (e : Same H H') : ExAt H' a D fs := by
  obtain ⟨dd, h1, h2⟩ := h
  exact ⟨dd, e _ _ h1, e _ _ h2⟩
inductive KdL : List Expr → List (Str × Addr) → Prop
  | nil : KdL [] []
  | cons {x : Str} {D : Addr} {p p1 p2 pos : Pos} {es : List Expr} {ns : List (Str × Addr)} (h : KdL es ns) : KdL (.Call (.Name "isinstance" p) [.Name "_law_error" p1, .Name x p2] [] pos :: es) ((x, D) :: ns)
def tKds (K : PySem.W.Frag) (i : Nat) : List (Str × Addr) → TA
  | [] => tNil
  | (_, D) :: ns => tCons (tCB (rIsiV K) (tCons (tVar i) (tCons (tC (.ref D)) tNil))) (tKds K i ns)
def kindB (K : PySem.W.Frag) (D D' : Addr) : Bool := PySem.W.kitOne K (.ref D) (.ref D') == some true
def rowK (K : PySem.W.Frag) (D : Addr) (ns : List (Str × Addr)) : List V := ns.map fun n => .bl (kindB K D n.2)
section
variable {X : Cx}
theorem pa_kds {i : Nat} (gi : Gl X "isinstance") (ni : X.mg "isinstance" = none) (hv : ∀ p, PE X (.Name "_law_error" p) (tVar i)) :
    ∀ {es : List Expr} {ns : List (Str × Addr)}, KdL es ns → (∀ n ∈ ns, X.mg n.1 = some (.ref n.2) ∧ Gl X n.1 ∧ (n.1 == ("__debug__" : Str)) = false) → PA X es (tKds X.K i ns)
  | _, _, .nil, _ => pa_nil
  | _, _, .cons (x := x) (D := D) h, all => by
    obtain ⟨m, g, nd⟩ := all _ (.head _)
    exact pa_cons (pe_callB call_isiV gi ni b_isi (pa_cons (hv _) (pa_cons (pe_glob (v := .ref D) g m rfl nd) pa_nil))) (pa_kds gi ni hv h fun n m => all n (.tail _ m))
end
theorem kds_read {K : PySem.W.Frag} {i : Nat} {σ : L2.St} {e D : Addr} {fs : List (Str × V)} (hσ : σ[i]? = some (some (.ref e))) : ∀ {ns : List (Str × Addr)} {H : Hp} {Q : List V → Hp → Prop}, ExAt H e D fs → XfC K D → ErrV K D → (∀ n ∈ ns, ∃ b, PySem.W.kitOne K (.ref D) (.ref n.2) = some b) →
    (∀ row, row = rowK K D ns → Q row H) → tKds K i ns σ H Q
  | [], H, Q, _, _, _, _, q => q _ rfl
  | n :: ns, H, Q, x1, x2, x3, all, q => by
    obtain ⟨b, hb⟩ := all n (.head _)
    refine ⟨_, hσ, e, D, fs, .ref n.2, .ref n.2, b, rfl, x2, x3, x1, .own _, hb, ?_⟩
    refine kds_read hσ x1 x2 x3 (fun n m => all n (.tail _ m)) fun row hr => q _ ?_
    have : kindB K D n.2 = b := by unfold kindB; rw [hb]; cases b <;> rfl
    rw [hr, ← this]
    rfl
def spKinds (K : PySem.W.Frag) (cl : Nat → Addr) : Sp := fun vs H Q _ => ∃ (e D : Addr) (fs : List (Str × V)), vs = [.ref e] ∧ ExAt H e D fs ∧ XfC K D ∧ ErrV K D ∧ (∀ n ∈ nsE cl, ∃ b, PySem.W.kitOne K (.ref D) (.ref n.2) = some b) ∧
  ∀ H' l, Same H H' → H l = none → H' l = some (.lst (rowK K D (nsE cl))) → Q (.ref l) H'
section
variable {P : Program} {w : World} {K : PySem.W.Frag} {mg : Str → Option Value} {base : Heap} {cl : Nat → Addr} {cM fI : Addr}
theorem scKi : FnScope ["_law_error", "_law_found"] ["_law_error"] (defScope sL_kinds_of) := ⟨rfl, rfl, rfl, by decide +kernel, rfl, by decide +kernel, by decide +kernel⟩
theorem ok_kinds {f : Addr} {fd : FuncData} (F : Fun K "_law_kinds_of" "_law_kinds_of" sL_kinds_of f fd) (T : Ecl K mg cl cM fI) (ni : mg "isinstance" = none) :
    FnOk P w K mg base CX0 1 f fd ["_law_error"] (spKinds K cl) := by
  refine F.ok scKi (fun vs H Q E h => ?_) (fun cdv A outer s H vs Q E hr h => ?_)
  · obtain ⟨e, D, fs, rfl, _⟩ := h
    rfl
  · obtain ⟨e, D, fs, rfl, x1, x2, x3, x4, q⟩ := h
    have sub : ∀ a n, ∀ x ∈ ((nsE cl).drop a).take n, x ∈ nsE cl := fun a n x h => List.mem_of_mem_drop (List.mem_of_mem_take h)
    have erg : ∀ a n, ∀ x ∈ ((nsE cl).drop a).take n, ∃ b, PySem.W.kitOne K (.ref D) (.ref x.2) = some b := fun a n x h => x4 x (sub a n x h)
    have glob : ∀ x ∈ errN, Gl (cxOf CX0 P w K mg base ["_law_error", "_law_found"] "_law_kinds_of" (defScope sL_kinds_of) f cdv A outer s H E) x := by
      have : ∀ x ∈ errN, (defScope sL_kinds_of).names.lookup x = some .globalImplicit := by decide +kernel
      exact this
    have gi : Gl (cxOf CX0 P w K mg base ["_law_error", "_law_found"] "_law_kinds_of" (defScope sL_kinds_of) f cdv A outer s H E).nox "isinstance" := by rfl
    have good : ∀ a n, ∀ x ∈ ((nsE cl).drop a).take n, mg x.1 = some (.ref x.2) ∧ Gl (cxOf CX0 P w K mg base ["_law_error", "_law_found"] "_law_kinds_of" (defScope sL_kinds_of) f cdv A outer s H E) x.1 ∧ (x.1 == ("__debug__" : Str)) = false := fun a n x h =>
      ⟨(T.er x (sub a n x h)).gD, glob _ ((nsE_names cl) ▸ List.mem_map_of_mem (sub a n x h)), errN_ok _ ((nsE_names cl) ▸ List.mem_map_of_mem (sub a n x h))⟩
    refine ⟨_, (pss_cons (ps_set (i := 1) scKi.nd rfl (.inl rfl) (pe_lst (pa_kds gi ni (fun _ => pv 0) (.cons (.cons (.cons .nil))) (good 0 3))))
      (pss_cons (ps_expr (pe_bm PySem.F.plainAttrs_list PySem.F.slot_list_extend PySem.F.type_list_extend mt_extend (pv 1) (pa_cons (pe_lst (pa_kds gi ni (fun _ => pv 0) (.cons (.cons (.cons .nil))) (good 3 3))) pa_nil)))
      (pss_cons (ps_expr (pe_bm PySem.F.plainAttrs_list PySem.F.slot_list_extend PySem.F.type_list_extend mt_extend (pv 1) (pa_cons (pe_lst (pa_kds gi ni (fun _ => pv 0) (.cons (.cons (.cons .nil))) (good 6 3))) pa_nil)))
      (pss_cons (ps_expr (pe_bm PySem.F.plainAttrs_list PySem.F.slot_list_extend PySem.F.type_list_extend mt_extend (pv 1) (pa_cons (pe_lst (pa_kds gi ni (fun _ => pv 0) (.cons (.cons (.cons .nil))) (good 9 3))) pa_nil)))
      (pss_cons (ps_expr (pe_bm PySem.F.plainAttrs_list PySem.F.slot_list_extend PySem.F.type_list_extend mt_extend (pv 1) (pa_cons (pe_lst (pa_kds gi ni (fun _ => pv 0) (.cons (.cons (.cons .nil))) (good 12 3))) pa_nil)))
      (pss_cons (ps_expr (pe_bm PySem.F.plainAttrs_list PySem.F.slot_list_extend PySem.F.type_list_extend mt_extend (pv 1) (pa_cons (pe_lst (pa_kds gi ni (fun _ => pv 0) (.cons (.cons (.cons .nil))) (good 15 3))) pa_nil)))
      (pss_cons (ps_expr (pe_bm PySem.F.plainAttrs_list PySem.F.slot_list_extend PySem.F.type_list_extend mt_extend (pv 1) (pa_cons (pe_lst (pa_kds gi ni (fun _ => pv 0) (.cons (.cons (.cons .nil))) (good 18 3))) pa_nil)))
      (pss_cons (ps_expr (pe_bm PySem.F.plainAttrs_list PySem.F.slot_list_extend PySem.F.type_list_extend mt_extend (pv 1) (pa_cons (pe_lst (pa_kds gi ni (fun _ => pv 0) (.cons (.cons (.cons .nil))) (good 21 3))) pa_nil)))
      (pss_cons (ps_expr (pe_bm PySem.F.plainAttrs_list PySem.F.slot_list_extend PySem.F.type_list_extend mt_extend (pv 1) (pa_cons (pe_lst (pa_kds gi ni (fun _ => pv 0) (.cons (.cons (.cons .nil))) (good 24 3))) pa_nil)))
      (pss_cons (ps_expr (pe_bm PySem.F.plainAttrs_list PySem.F.slot_list_extend PySem.F.type_list_extend mt_extend (pv 1) (pa_cons (pe_lst (pa_kds gi ni (fun _ => pv 0) (.cons (.cons (.cons .nil))) (good 27 3))) pa_nil)))
      (pss_one (ps_ret (pe_op op_cat (pv 1) (pe_lst (pa_kds gi ni (fun _ => pv 0) (.cons (.cons .nil)) (good 30 2)))))))))))))))), ?_⟩
    refine kds_read rfl x1 x2 x3 (erg 0 3) fun r0 h0 => ⟨(by rw [h0]; exact (show 3 ≤ sizeLine by decide)), fun l nl => ?_⟩
    have ol := upd_same (H := H) (a := l) (o := .lst r0)
    have e1 := same_upd (o := .lst r0) nl
    have Hl := nl
    have s0 : r0 = rowK K D ((nsE cl).take 3) := h0
    clear nl h0
    generalize upd H l (.lst r0) = B1 at *
    refine ⟨.ref l, rfl, .inl ⟨rfl, _, SqL.of ol⟩, kds_read rfl (ExAt.same x1 e1) x2 x3 (erg 3 3) fun t ht => ⟨(by rw [ht]; exact (show 3 ≤ sizeLine by decide)), fun m nm => ?_⟩⟩
    refine ⟨l, m, r0, t, rfl, rfl, (same_upd nm) _ _ ol, upd_same, (by rw [s0, ht]; exact (show 3 + 3 ≤ sizeLine by decide)), ?_⟩
    have e3 := same_put (o := .lst (r0 ++ t)) (e1.trans (same_upd (o := .lst t) nm)) Hl
    have ol3 := upd_same (H := upd B1 m (.lst t)) (a := l) (o := .lst (r0 ++ t))
    have s1 : r0 ++ t = rowK K D ((nsE cl).take 6) := by rw [s0, ht]; rfl
    clear e1 ol nm
    generalize upd (upd B1 m (.lst t)) l (.lst (r0 ++ t)) = B2 at *
    generalize r0 ++ t = r1 at *
    have e1 := e3; have ol := ol3
    clear e3 ol3 m ht t
    refine ⟨.ref l, rfl, .inl ⟨rfl, _, SqL.of ol⟩, kds_read rfl (ExAt.same x1 e1) x2 x3 (erg 6 3) fun t ht => ⟨(by rw [ht]; exact (show 3 ≤ sizeLine by decide)), fun m nm => ?_⟩⟩
    refine ⟨l, m, r1, t, rfl, rfl, (same_upd nm) _ _ ol, upd_same, (by rw [s1, ht]; exact (show 6 + 3 ≤ sizeLine by decide)), ?_⟩
    have e3 := same_put (o := .lst (r1 ++ t)) (e1.trans (same_upd (o := .lst t) nm)) Hl
    have ol3 := upd_same (H := upd B2 m (.lst t)) (a := l) (o := .lst (r1 ++ t))
    have s2 : r1 ++ t = rowK K D ((nsE cl).take 9) := by rw [s1, ht]; rfl
    clear e1 ol nm
    generalize upd (upd B2 m (.lst t)) l (.lst (r1 ++ t)) = B3 at *
    generalize r1 ++ t = r2 at *
    have e1 := e3; have ol := ol3
    clear e3 ol3 m ht t
    refine ⟨.ref l, rfl, .inl ⟨rfl, _, SqL.of ol⟩, kds_read rfl (ExAt.same x1 e1) x2 x3 (erg 9 3) fun t ht => ⟨(by rw [ht]; exact (show 3 ≤ sizeLine by decide)), fun m nm => ?_⟩⟩
    refine ⟨l, m, r2, t, rfl, rfl, (same_upd nm) _ _ ol, upd_same, (by rw [s2, ht]; exact (show 9 + 3 ≤ sizeLine by decide)), ?_⟩
    have e3 := same_put (o := .lst (r2 ++ t)) (e1.trans (same_upd (o := .lst t) nm)) Hl
    have ol3 := upd_same (H := upd B3 m (.lst t)) (a := l) (o := .lst (r2 ++ t))
    have s3 : r2 ++ t = rowK K D ((nsE cl).take 12) := by rw [s2, ht]; rfl
    clear e1 ol nm
    generalize upd (upd B3 m (.lst t)) l (.lst (r2 ++ t)) = B4 at *
    generalize r2 ++ t = r3 at *
    have e1 := e3; have ol := ol3
    clear e3 ol3 m ht t
    refine ⟨.ref l, rfl, .inl ⟨rfl, _, SqL.of ol⟩, kds_read rfl (ExAt.same x1 e1) x2 x3 (erg 12 3) fun t ht => ⟨(by rw [ht]; exact (show 3 ≤ sizeLine by decide)), fun m nm => ?_⟩⟩
    refine ⟨l, m, r3, t, rfl, rfl, (same_upd nm) _ _ ol, upd_same, (by rw [s3, ht]; exact (show 12 + 3 ≤ sizeLine by decide)), ?_⟩
    have e3 := same_put (o := .lst (r3 ++ t)) (e1.trans (same_upd (o := .lst t) nm)) Hl
    have ol3 := upd_same (H := upd B4 m (.lst t)) (a := l) (o := .lst (r3 ++ t))
    have s4 : r3 ++ t = rowK K D ((nsE cl).take 15) := by rw [s3, ht]; rfl
    clear e1 ol nm
    generalize upd (upd B4 m (.lst t)) l (.lst (r3 ++ t)) = B5 at *
    generalize r3 ++ t = r4 at *
    have e1 := e3; have ol := ol3
    clear e3 ol3 m ht t
    refine ⟨.ref l, rfl, .inl ⟨rfl, _, SqL.of ol⟩, kds_read rfl (ExAt.same x1 e1) x2 x3 (erg 15 3) fun t ht => ⟨(by rw [ht]; exact (show 3 ≤ sizeLine by decide)), fun m nm => ?_⟩⟩
    refine ⟨l, m, r4, t, rfl, rfl, (same_upd nm) _ _ ol, upd_same, (by rw [s4, ht]; exact (show 15 + 3 ≤ sizeLine by decide)), ?_⟩
    have e3 := same_put (o := .lst (r4 ++ t)) (e1.trans (same_upd (o := .lst t) nm)) Hl
    have ol3 := upd_same (H := upd B5 m (.lst t)) (a := l) (o := .lst (r4 ++ t))
    have s5 : r4 ++ t = rowK K D ((nsE cl).take 18) := by rw [s4, ht]; rfl
    clear e1 ol nm
    generalize upd (upd B5 m (.lst t)) l (.lst (r4 ++ t)) = B6 at *
    generalize r4 ++ t = r5 at *
    have e1 := e3; have ol := ol3
    clear e3 ol3 m ht t
    refine ⟨.ref l, rfl, .inl ⟨rfl, _, SqL.of ol⟩, kds_read rfl (ExAt.same x1 e1) x2 x3 (erg 18 3) fun t ht => ⟨(by rw [ht]; exact (show 3 ≤ sizeLine by decide)), fun m nm => ?_⟩⟩
    refine ⟨l, m, r5, t, rfl, rfl, (same_upd nm) _ _ ol, upd_same, (by rw [s5, ht]; exact (show 18 + 3 ≤ sizeLine by decide)), ?_⟩
    have e3 := same_put (o := .lst (r5 ++ t)) (e1.trans (same_upd (o := .lst t) nm)) Hl
    have ol3 := upd_same (H := upd B6 m (.lst t)) (a := l) (o := .lst (r5 ++ t))
    have s6 : r5 ++ t = rowK K D ((nsE cl).take 21) := by rw [s5, ht]; rfl
    clear e1 ol nm
    generalize upd (upd B6 m (.lst t)) l (.lst (r5 ++ t)) = B7 at *
    generalize r5 ++ t = r6 at *
    have e1 := e3; have ol := ol3
    clear e3 ol3 m ht t
    refine ⟨.ref l, rfl, .inl ⟨rfl, _, SqL.of ol⟩, kds_read rfl (ExAt.same x1 e1) x2 x3 (erg 21 3) fun t ht => ⟨(by rw [ht]; exact (show 3 ≤ sizeLine by decide)), fun m nm => ?_⟩⟩
    refine ⟨l, m, r6, t, rfl, rfl, (same_upd nm) _ _ ol, upd_same, (by rw [s6, ht]; exact (show 21 + 3 ≤ sizeLine by decide)), ?_⟩
    have e3 := same_put (o := .lst (r6 ++ t)) (e1.trans (same_upd (o := .lst t) nm)) Hl
    have ol3 := upd_same (H := upd B7 m (.lst t)) (a := l) (o := .lst (r6 ++ t))
    have s7 : r6 ++ t = rowK K D ((nsE cl).take 24) := by rw [s6, ht]; rfl
    clear e1 ol nm
    generalize upd (upd B7 m (.lst t)) l (.lst (r6 ++ t)) = B8 at *
    generalize r6 ++ t = r7 at *
    have e1 := e3; have ol := ol3
    clear e3 ol3 m ht t
    refine ⟨.ref l, rfl, .inl ⟨rfl, _, SqL.of ol⟩, kds_read rfl (ExAt.same x1 e1) x2 x3 (erg 24 3) fun t ht => ⟨(by rw [ht]; exact (show 3 ≤ sizeLine by decide)), fun m nm => ?_⟩⟩
    refine ⟨l, m, r7, t, rfl, rfl, (same_upd nm) _ _ ol, upd_same, (by rw [s7, ht]; exact (show 24 + 3 ≤ sizeLine by decide)), ?_⟩
    have e3 := same_put (o := .lst (r7 ++ t)) (e1.trans (same_upd (o := .lst t) nm)) Hl
    have ol3 := upd_same (H := upd B8 m (.lst t)) (a := l) (o := .lst (r7 ++ t))
    have s8 : r7 ++ t = rowK K D ((nsE cl).take 27) := by rw [s7, ht]; rfl
    clear e1 ol nm
    generalize upd (upd B8 m (.lst t)) l (.lst (r7 ++ t)) = B9 at *
    generalize r7 ++ t = r8 at *
    have e1 := e3; have ol := ol3
    clear e3 ol3 m ht t
    refine ⟨.ref l, rfl, .inl ⟨rfl, _, SqL.of ol⟩, kds_read rfl (ExAt.same x1 e1) x2 x3 (erg 27 3) fun t ht => ⟨(by rw [ht]; exact (show 3 ≤ sizeLine by decide)), fun m nm => ?_⟩⟩
    refine ⟨l, m, r8, t, rfl, rfl, (same_upd nm) _ _ ol, upd_same, (by rw [s8, ht]; exact (show 27 + 3 ≤ sizeLine by decide)), ?_⟩
    have e3 := same_put (o := .lst (r8 ++ t)) (e1.trans (same_upd (o := .lst t) nm)) Hl
    have ol3 := upd_same (H := upd B9 m (.lst t)) (a := l) (o := .lst (r8 ++ t))
    have s9 : r8 ++ t = rowK K D ((nsE cl).take 30) := by rw [s8, ht]; rfl
    clear e1 ol nm
    generalize upd (upd B9 m (.lst t)) l (.lst (r8 ++ t)) = B10 at *
    generalize r8 ++ t = r9 at *
    have e1 := e3; have ol := ol3
    clear e3 ol3 m ht t
    refine ⟨.ref l, rfl, kds_read rfl (ExAt.same x1 e1) x2 x3 (erg 30 2) fun t ht => ⟨(by rw [ht]; exact (show 2 ≤ sizeLine by decide)), fun m nm => ?_⟩⟩
    refine ⟨l, m, r9, t, rfl, rfl, (same_upd nm) _ _ ol, upd_same, (by rw [s9, ht]; exact (show 30 + 2 ≤ sizeLine by decide)), fun r nr => ?_⟩
    have er := same_upd (o := .lst (r9 ++ t)) nr
    have e3 := (e1.trans (same_upd (o := .lst t) nm))
    refine q _ r (e3.trans er) (same_none e3 nr) ?_
    rw [upd_same, s9, ht]
    rfl
end
end Er
/-! the law: errors raised and caught -/
namespace Er
open PySem PySem.Spec PyProof.Rows L2 Am Hs Ev Rt
/-- v is a value that can be told in a text -/
def Told5 (C p : Addr) (H : Hp) (v : V) : Prop := (∃ xs, H p = some (.lst xs)) ∧ ∃ t as, Sv p (RA C) H 3 v t as ∧ t.length ≤ 1000
def spRaised (C : Addr) : Sp := fun vs H Q _ => ∃ p v, vs = [v] ∧ Told5 C p H v ∧ ∀ H', Same H H' → Q (.bl true) H'
theorem ra_same {C : Addr} {H H' : Hp} (e : Same H H') (v : V) (t : Str) (h : RA C H v t) : RA C H' v t := by
  obtain ⟨n, u, a, r⟩ := h
  exact ⟨n, u, a.same e, r⟩
theorem sv_same {C p : Addr} {H H' : Hp} {n : Nat} {v : V} {t : Str} {as : List Addr} (h : Sv p (RA C) H n v t as) (hp : ∃ xs, H p = some (.lst xs)) (e : Same H H') : Sv p (RA C) H' n v t as :=
  h.keep (fun b o z _ => e _ _ z) (fun o z => by obtain ⟨xs, y⟩ := hp; rw [y] at z; cases z; exact ⟨_, rfl⟩) (ra_same e)
theorem same_lst {p : Addr} {H H' : Hp} (hp : ∃ xs, H p = some (.lst xs)) (e : Same H H') : ∃ xs, H' p = some (.lst xs) := by
  obtain ⟨xs, h⟩ := hp
  exact ⟨xs, e _ _ h⟩
theorem len_tup2 (a b : Str) : (tupleText [a, b]).length = a.length + b.length + 4 := by
  have e : tupleText [a, b] = ("(" : Str) ++ (a ++ ", " ++ b) ++ (")" : Str) := rfl
  have l1 : ("(" : Str).length = 1 := rfl
  have l2 : (", " : Str).length = 2 := rfl
  have l3 : (")" : Str).length = 1 := rfl
  rw [e, strLen_append, strLen_append, strLen_append, strLen_append, l1, l2, l3]
  omega
theorem mko_read {K : PySem.W.Frag} {mg : Str → Option Value} {x : Str} {D fI : Addr} (T : Err K mg x D fI) {i : Nat} {v : V} {σ : L2.St} {H : Hp} {Q : XK} (hσ : σ[i]? = some (some v)) (q : ∀ d H', Same H H' → H' d = some (.xd [("value", v)]) → Q (.ref D) (some d) H') :
    tMkO D (spInitE K) [] (tCons (tVar i) tNil) σ H Q := ⟨v, hσ, (show 1 ≤ 1000 by decide), err_read T q⟩
section
variable {P : Program} {w : World} {K : PySem.W.Frag} {mg : Str → Option Value} {base : Heap} {cl : Nat → Addr} {C cM fI : Addr}
theorem scIr : FnScope ["_law_value", "_law_caught", "_law_other", "_law_error"] ["_law_value"] (defScope sL_is_raised) := ⟨rfl, rfl, rfl, by decide +kernel, rfl, by decide +kernel, by decide +kernel⟩
theorem ok_raised {f : Addr} {fd fdI : FuncData} (F : Fun K "_law_is_raised" "_law_is_raised" sL_is_raised f fd) (T : Ecl K mg cl cM fI) (F1 : FnOk P w K mg base CX0 1 fI fdI ["self", "value"] (spInitE K)) (hb : Binds K fdI ["self", "value"] [])
    (ni : mg "isinstance" = none) (nr : mg "repr" = none) (GR : GotM P w K mg base C "__repr__" 2 ["self"] (Rt.spRep (RA C))) : Gu.FnG P w K mg base CX0 15 f fd ["_law_value"] (spRaised C) := by
  obtain ⟨fR, dR, GR, bR, hR, iR⟩ := GR
  refine Gu.okG0 F scIr (fun vs H Q E h => ?_) (fun cdv A outer s H vs Q E free hr h => ?_)
  · obtain ⟨p, v, rfl, _⟩ := h
    rfl
  · obtain ⟨p, v, rfl, ⟨hp, t, as, sv, tl⟩, q⟩ := h
    have hr2 : Room 2 _ := hr.mono (by decide)
    have hr14 : Room (2 + 4 + 2 * 4) _ := hr.mono (by decide)
    have own : Rt.OwnR (cxOf CX0 P w K mg base ["_law_value", "_law_caught", "_law_other", "_law_error"] "_law_is_raised" (defScope sL_is_raised) f cdv A outer s H E).nox C (RA C) 2 := ⟨ra_ins, fR, dR, GR, bR, hR, iR⟩
    refine ⟨_, (pss_cons (ps_asg (pe_tup (pa_cons pe_non (pa_cons pe_non pa_nil))) (pg_tup rfl (pgs_cons (pg_name (i := 1) scIr.nd rfl (.inl rfl)) (pgs_cons (pg_name (i := 2) scIr.nd rfl (.inl rfl)) pgs_nil))))
      (pss_cons (Kt.ps_try_keep (i := 3) (c := .ref cM) (Wout := fun _ _ _ _ => False) rfl rfl rfl scIr.nd rfl rfl ⟨by rfl, by decide, .inl T.erM.gD⟩ takes0 (fun W pn xe tk _ => (pss_one (ps_raise rfl tk (pmk_oex (T.at 4 (by decide)).oex (T.at 4 (by decide)).iC (T.at 4 (by decide)).tI F1 hr2 hb .nil pass0 (by rfl) (T.at 4 (by decide)).gD (pa_cons (pv 0) pa_nil))))) (fun a pn => (pss_one (ps_set (i := 1) scIr.nd rfl (.inl rfl) (pv 3)))))
      (pss_cons (Kt.ps_try_keep (i := 3) (c := .ref (cl 18)) (Wout := fun _ _ _ _ => False) rfl rfl rfl scIr.nd rfl rfl ⟨by rfl, by decide, .inl (T.at 18 (by decide)).gD⟩ takes0 (fun W pn xe tk _ => (pss_one (ps_raise rfl tk (pmk_oex (T.at 18 (by decide)).oex (T.at 18 (by decide)).iC (T.at 18 (by decide)).tI F1 hr2 hb .nil pass0 (by rfl) (T.at 18 (by decide)).gD (pa_cons (pv 0) pa_nil))))) (fun a pn => (pss_one (ps_set (i := 2) scIr.nd rfl (.inl rfl) (pv 3)))))
      (pss_cons (ps_if (PW.pt (pw_or (pt_not (pt_val (pe_callB (call_isiK (T.at 4 (by decide)).xf (T.ev 4 (by decide))) (by rfl) ni b_isi (pa_cons (pv 1) (pa_cons (pe_glob (v := .ref (cl 4)) (by rfl) (T.at 4 (by decide)).gD rfl) pa_nil))))) (pw_or1 (pt_not (pt_val (pe_callB (call_isiK (T.at 18 (by decide)).xf (T.ev 18 (by decide))) (by rfl) ni b_isi (pa_cons (pv 2) (pa_cons (pe_glob (v := .ref (cl 18)) (by rfl) (T.at 18 (by decide)).gD rfl) pa_nil)))))))) (pss_one (ps_ret pe_bl)) pss_nil)
      (pss_one (ps_ret (pe_cmpR op_eq (pe_callB (Rt.call_repSv (p := p) (n := 4) own free hr14) (by rfl) nr b_repr (pa_cons (pe_tup (pa_cons (Kt.pe_ef (T.at 4 (by decide)).xf (T.at 4 (by decide)).nv (pv 1)) (pa_cons (Kt.pe_ef (T.at 18 (by decide)).xf (T.at 18 (by decide)).nv (pv 2)) pa_nil))) pa_nil)) (pe_callB (Rt.call_repSv (p := p) (n := 4) own free hr14) (by rfl) nr b_repr (pa_cons (pe_tup (pa_cons (pv 0) (pa_cons (pv 0) pa_nil))) pa_nil)) (nomark _)))))))), ?_⟩
    refine ⟨(show 2 ≤ sizeLine by decide), fun t0 n0 => ⟨t0, _, rfl, SqT.of upd_same, rfl, _, _, rfl, _, _, rfl, rfl, ?_⟩⟩
    have e0 := same_upd (o := .tup [V.non, V.non]) n0
    generalize upd H t0 (.tup [V.non, V.non]) = B0 at *
    have T4 := T.at 4 (by decide)
    have T18 := T.at 18 (by decide)
    dsimp only [tSeq]
    show tMkO (cl 4) (spInitE K) [] (tCons (tVar 0) tNil) _ _ _
    refine mko_read T4 rfl fun d1 B1 e1 x1 => ?_
    refine ⟨true, (show PySem.W.exmOne K (.ref (cl 4)) (.ref cM) = some true from T.ex 4 (by decide)), fun _ c1 nc1 => ?_, fun z => nomatch z⟩
    have f1 := same_upd (o := Kt.EO c1 (.ref (cl 4)) (some d1)) nc1
    have oc1 := upd_same (H := B1) (a := c1) (o := Kt.EO c1 (.ref (cl 4)) (some d1))
    replace x1 := f1 _ _ x1
    have g1 := (e0.trans e1).trans f1
    clear e0 e1 f1 nc1
    generalize upd B1 c1 (Kt.EO c1 (.ref (cl 4)) (some d1)) = B2 at *
    refine ⟨_, rfl, ?_⟩
    dsimp only [tSeq, gName]
    show tMkO (cl 18) (spInitE K) [] (tCons (tVar 0) tNil) _ _ _
    refine mko_read T18 rfl fun d2 B3 e2 x2 => ?_
    refine ⟨true, T18.te, fun _ c2 nc2 => ?_, fun z => nomatch z⟩
    have f2 := same_upd (o := Kt.EO c2 (.ref (cl 18)) (some d2)) nc2
    have oc2 := upd_same (H := B3) (a := c2) (o := Kt.EO c2 (.ref (cl 18)) (some d2))
    replace x2 := f2 _ _ x2
    replace oc1 := f2 _ _ (e2 _ _ oc1)
    replace x1 := f2 _ _ (e2 _ _ x1)
    have g2 := (g1.trans e2).trans f2
    clear e2 f2 nc2 g1 n0
    generalize upd B3 c2 (Kt.EO c2 (.ref (cl 18)) (some d2)) = B4 at *
    refine ⟨_, rfl, ?_⟩
    dsimp only [gName]
    have k4 : PySem.W.kitOne K (.ref (cl 4)) (.ref (cl 4)) = some true := (T.kk 4 (by decide) 4 (by decide)).trans (by simp)
    have k18 : PySem.W.kitOne K (.ref (cl 18)) (.ref (cl 18)) = some true := (T.kk 18 (by decide) 18 (by decide)).trans (by simp)
    refine ⟨_, rfl, c1, d1, _, .ref (cl 4), .ref (cl 4), true, rfl, oc1, x1, .own _, k4, _, rfl, iteF ⟨_, rfl, c2, d2, _, .ref (cl 18), .ref (cl 18), true, rfl, oc2, x2, .own _, k18, _, rfl, iteF ?_⟩⟩
    have sz : (tupleText [t, t]).length ≤ sizeLine := by rw [len_tup2, sizeLine_eq]; omega
    have s4 := sv_same sv hp g2
    refine ⟨_, rfl, c1, d1, _, v, rfl, oc1, x1, by simp, _, rfl, c2, d2, _, v, rfl, oc2, x2, by simp, (show 2 ≤ sizeLine by decide), fun p1 np1 => ?_⟩
    have h1 := same_upd (o := .tup [v, v]) np1
    have kn := s4.known
    have s5 := sv_same s4 (same_lst hp g2) h1
    refine ⟨.ref p1, _, _, rfl, .tup upd_same (.cons s5 (.cons s5 .nil)) (fun hb => ?_), sz, ?_⟩
    · have hb' : ∃ o, B4 p1 = some o := by
        rcases List.mem_append.mp hb with hb | hb
        · exact kn _ hb
        · rw [List.append_nil] at hb; exact kn _ hb
      obtain ⟨o, e⟩ := hb'
      rw [np1] at e
      cases e
    generalize upd B4 p1 (.tup [v, v]) = B5 at *
    refine ⟨_, rfl, _, rfl, (show 2 ≤ sizeLine by decide), fun p2 np2 => ?_⟩
    have h2 := same_upd (o := .tup [v, v]) np2
    have kn2 := s5.known
    have s6 := sv_same s5 (same_lst hp (g2.trans h1)) h2
    refine ⟨.ref p2, _, _, rfl, .tup upd_same (.cons s6 (.cons s6 .nil)) (fun hb => ?_), sz, ?_⟩
    · have hb' : ∃ o, B5 p2 = some o := by
        rcases List.mem_append.mp hb with hb | hb
        · exact kn2 _ hb
        · rw [List.append_nil] at hb; exact kn2 _ hb
      obtain ⟨o, e⟩ := hb'
      rw [np2] at e
      cases e
    have ee : decide (V.str (tupleText [t, t]) = V.str (tupleText [t, t])) = true := by simp
    refine ⟨rfl, ?_⟩
    rw [ee]
    exact q _ ((g2.trans h1).trans h2)
end
end Er
/-! the law: odd values, as what can be told -/
namespace Er
open PySem PySem.Spec PyProof.Rows L2 Am Hs Ev Us
theorem ra_chg {C p : Addr} {H H' : Hp} {N : Int} (j : JarAt H p N) (c : Chg p H H') (v : V) (t : Str) (h : RA C H v t) : RA C H' v t := by
  obtain ⟨n, u, a, r⟩ := h
  exact ⟨n, u, am_of (fun b dx fs z => c _ _ z (fun e => by obtain ⟨_, y⟩ := jar_lst j _ (e ▸ z); cases y)) a, r⟩
theorem sv_chg {C p : Addr} {H H' : Hp} {N : Int} {n : Nat} {v : V} {t : Str} {as : List Addr} (h : Rt.Sv p (RA C) H n v t as) (j : JarAt H p N) (c : Chg p H H') : Rt.Sv p (RA C) H' n v t as :=
  h.keep c (jar_lst j) (ra_chg j c)
def spOddV (C : Addr) : Sp := fun vs H Q _ => ∃ (p : Addr) (N : Int), vs = [.ref p] ∧ JarAt H p N ∧ N ≤ 9900 ∧ ∀ (H' : Hp) (v : V) (t : Str) (as : List Addr), Chg p H H' → JarAt H' p (N + 1) → Rt.Sv p (RA C) H' 2 v t as → t.length ≤ 200 → Q v H'
section
variable {P : Program} {w : World} {K : PySem.W.Frag} {mg : Str → Option Value} {base : Heap} {C : Addr}
theorem ok_oddV {f : Addr} {fd : FuncData} (F : Fun K "_law_odd" "_law_odd" sL_odd f fd) (mA : mg "Amount" = some (.ref C)) (GI : GotI P w K mg base C) (GO : GotF P w K mg base "_law_of" 2 ["_law_jar_here", "_law_some"] spOf) : FnOk P w K mg base CX0 4 f fd ["_law_jar_here"] (spOddV C) := by
  obtain ⟨fI, fdI, GI, bI, ⟨ds, v2, b2⟩, MkI⟩ := GI
  obtain ⟨fO, fdO, GO, bO, mO, kO⟩ := GO
  refine F.ok scOdd (fun vs H Q E h => ?_) (fun cdv A outer s H vs Q E hr h => ?_)
  · obtain ⟨p, N, rfl, _⟩ := h
    rfl
  · obtain ⟨p, N, rfl, hj, hN, q⟩ := h
    have hr2 : Room 2 _ := hr.mono (by decide)
    refine ⟨_, (pss_one (ps_ret (pe_call GO hr2 (by rfl) mO kO bO .nil pass0 (pa_cons (pv 0) (pa_cons (pe_lst (pa_cons pe_non (pa_cons pe_bl (pa_cons pe_bl (pa_cons pe_int (pa_cons pe_int (pa_cons (pe_un un_neg pe_int) (pa_cons pe_str (pa_cons pe_str (pa_cons pe_str (pa_cons pe_str (pa_cons (pe_tup pa_nil) (pa_cons (pe_lst pa_nil) (pa_cons pe_dnewK (pa_cons (pe_tup (pa_cons (pe_tup pa_nil) pa_nil)) (pa_cons (pe_tup (pa_cons pe_int pa_nil)) (pa_cons (pe_make MkI GI hr (by rfl) mA bI .nil pass0 (pa_cons pe_int (pa_cons pe_int pa_nil))) (pa_cons pe_int pa_nil)))))))))))))))))) pa_nil))))), ?_⟩
    have es : Same H H := Same.refl H
    refine ⟨_, rfl, _, rfl, (show 0 ≤ sizeLine by decide), fun t0 nt0 => ?_⟩
    have e := same_upd (o := .tup []) nt0
    have ot0 := upd_same (H := H) (a := t0) (o := .tup [])
    have mt0 : t0 ≠ p := ne_jar hj nt0
    replace es := es.trans e; replace hj := hj.same e
    clear e nt0
    generalize upd H t0 (.tup []) = A1 at *
    refine ⟨(show 0 ≤ sizeLine by decide), fun l0 nl0 => ?_⟩
    have e := same_upd (o := .lst []) nl0
    have ol0 := upd_same (H := A1) (a := l0) (o := .lst [])
    have ml0 : l0 ≠ p := ne_jar hj nl0
    replace es := es.trans e; replace hj := hj.same e
    replace ot0 := e _ _ ot0
    clear e nl0
    generalize upd A1 l0 (.lst []) = A2 at *
    refine fun d0 nd0 => ?_
    have e := same_upd (o := .dK []) nd0
    have od0 := upd_same (H := A2) (a := d0) (o := .dK [])
    have md0 : d0 ≠ p := ne_jar hj nd0
    replace es := es.trans e; replace hj := hj.same e
    replace ot0 := e _ _ ot0
    replace ol0 := e _ _ ol0
    clear e nd0
    generalize upd A2 d0 (.dK []) = A3 at *
    refine ⟨(show 0 ≤ sizeLine by decide), fun t1 nt1 => ?_⟩
    have e := same_upd (o := .tup []) nt1
    have ot1 := upd_same (H := A3) (a := t1) (o := .tup [])
    have mt1 : t1 ≠ p := ne_jar hj nt1
    replace es := es.trans e; replace hj := hj.same e
    replace ot0 := e _ _ ot0
    replace ol0 := e _ _ ol0
    replace od0 := e _ _ od0
    clear e nt1
    generalize upd A3 t1 (.tup []) = A4 at *
    refine ⟨(show 1 ≤ sizeLine by decide), fun t2 nt2 => ?_⟩
    have e := same_upd (o := .tup [V.ref t1]) nt2
    have ot2 := upd_same (H := A4) (a := t2) (o := .tup [V.ref t1])
    have mt2 : t2 ≠ p := ne_jar hj nt2
    replace es := es.trans e; replace hj := hj.same e
    replace ot0 := e _ _ ot0
    replace ol0 := e _ _ ol0
    replace od0 := e _ _ od0
    replace ot1 := e _ _ ot1
    clear e nt2
    generalize upd A4 t2 (.tup [V.ref t1]) = A5 at *
    refine ⟨(show 1 ≤ sizeLine by decide), fun t3 nt3 => ?_⟩
    have e := same_upd (o := .tup [V.int 0]) nt3
    have ot3 := upd_same (H := A5) (a := t3) (o := .tup [V.int 0])
    have mt3 : t3 ≠ p := ne_jar hj nt3
    replace es := es.trans e; replace hj := hj.same e
    replace ot0 := e _ _ ot0
    replace ol0 := e _ _ ol0
    replace od0 := e _ _ od0
    replace ot1 := e _ _ ot1
    replace ot2 := e _ _ ot2
    clear e nt3
    generalize upd A5 t3 (.tup [V.int 0]) = A6 at *
    intro x1 dx1 nx1 ndx1 ne1
    refine ⟨x1, dx1, 1, 2, rfl, upd_same, by decide, (show Bd 3 1 by unfold Bd; decide).mono (by decide), (show Bd 3 2 by unfold Bd; decide).mono (by decide), fun C1 ox1 hk1 => ⟨rfl, ?_⟩⟩
    have e : Same A6 C1 := Same.made nx1 ndx1 hk1
    replace es := es.trans e; replace hj := hj.same e
    replace ot0 := e _ _ ot0
    replace ol0 := e _ _ ol0
    replace od0 := e _ _ od0
    replace ot1 := e _ _ ot1
    replace ot2 := e _ _ ot2
    replace ot3 := e _ _ ot3
    clear e hk1 nx1 ndx1 ne1
    refine ⟨(show 17 ≤ sizeLine by decide), fun lq nlq => ?_⟩
    have e := same_upd (o := .lst [V.non, .bl true, .bl false, .int 0, .int 1, .int (-1), .str "", .str "a", .str "main", .str "Zz", .ref t0, .ref l0, .ref d0, .ref t2, .ref t3, .ref x1, .int 7]) nlq
    have olq := upd_same (H := C1) (a := lq) (o := .lst [V.non, .bl true, .bl false, .int 0, .int 1, .int (-1), .str "", .str "a", .str "main", .str "Zz", .ref t0, .ref l0, .ref d0, .ref t2, .ref t3, .ref x1, .int 7])
    have mlq : lq ≠ p := ne_jar hj nlq
    replace es := es.trans e; replace hj := hj.same e
    replace ot0 := e _ _ ot0
    replace ol0 := e _ _ ol0
    replace od0 := e _ _ od0
    replace ot1 := e _ _ ot1
    replace ot2 := e _ _ ot2
    replace ot3 := e _ _ ot3
    replace ox1 := e _ _ ox1
    clear e nlq
    generalize upd C1 lq (.lst [V.non, .bl true, .bl false, .int 0, .int 1, .int (-1), .str "", .str "a", .str "main", .str "Zz", .ref t0, .ref l0, .ref d0, .ref t2, .ref t3, .ref x1, .int 7]) = A7 at *
    have n21 : t2 ≠ t1 := fun z => by rw [z, ot1] at ot2; cases ot2
    have hh : ∀ v ∈ [V.non, .bl true, .bl false, .int 0, .int 1, .int (-1), .str "", .str "a", .str "main", .str "Zz", .ref t0, .ref l0, .ref d0, .ref t2, .ref t3, .ref x1, .int 7], ∃ t as, Rt.Sv p (RA C) A7 2 v t as ∧ t.length ≤ 200 := by
      intro v hv
      simp only [List.mem_cons, List.not_mem_nil, or_false] at hv
      rcases hv with rfl | rfl | rfl | rfl | rfl | rfl | rfl | rfl | rfl | rfl | rfl | rfl | rfl | rfl | rfl | rfl | rfl
      · exact ⟨_, _, .leaf .non, by decide +kernel⟩
      · exact ⟨_, _, .leaf (.bl _), by decide +kernel⟩
      · exact ⟨_, _, .leaf (.bl _), by decide +kernel⟩
      · exact ⟨_, _, .leaf (.int _ (by decide +kernel)), by decide +kernel⟩
      · exact ⟨_, _, .leaf (.int _ (by decide +kernel)), by decide +kernel⟩
      · exact ⟨_, _, .leaf (.int _ (by decide +kernel)), by decide +kernel⟩
      · exact ⟨_, _, .leaf (.str _ (by decide +kernel)), by decide +kernel⟩
      · exact ⟨_, _, .leaf (.str _ (by decide +kernel)), by decide +kernel⟩
      · exact ⟨_, _, .leaf (.str _ (by decide +kernel)), by decide +kernel⟩
      · exact ⟨_, _, .leaf (.str _ (by decide +kernel)), by decide +kernel⟩
      · exact ⟨_, _, .tup ot0 .nil List.not_mem_nil, by decide +kernel⟩
      · exact ⟨_, _, .lst0 ol0 ml0, by decide +kernel⟩
      · exact ⟨_, _, .dic (.none od0), by decide +kernel⟩
      · exact ⟨_, _, .tup ot2 (.cons (.tup ot1 .nil List.not_mem_nil) .nil) (by simpa using n21), by decide +kernel⟩
      · exact ⟨_, _, .tup ot3 (.cons (.leaf (.int _ (by decide +kernel))) .nil) (by simp), by decide +kernel⟩
      · exact ⟨_, _, .own ⟨_, _, ⟨fr_low (by decide), x1, dx1, rfl, ox1⟩, fb12.1.mono (by decide), fb12.2.mono (by decide), rfl⟩, by decide +kernel⟩
      · exact ⟨_, _, .leaf (.int _ (by decide +kernel)), by decide +kernel⟩
    refine ⟨p, lq, _, N, rfl, olq, mlq, ⟨show 0 < 17 by decide, show 17 ≤ 1000 by decide⟩, hj, by omega, fun v H9 hv c9 j9 => ?_⟩
    obtain ⟨t, as, ht, ft⟩ := hh v hv
    exact q H9 v t as ((Chg.of es).trans c9) j9 (sv_chg ht hj c9) ft
end
end Er
/-! a house of one day and one flat -/
namespace Hs
open PySem PySem.Spec PyProof.Rows L2 Am
def page1 : Str := "days 1\nflat a 1"
def lore1 : Lore := ⟨1, [⟨"a", 1, true⟩], [], []⟩
theorem split1 : Txt.split page1 "\n" = [("days 1" : Str), "flat a 1"] := by decide +kernel
theorem told1 : Told page1 lore1 := by
  refine ⟨?_, rfl, ?_, ?_, by decide +kernel⟩
  · rw [split1]
    refine .cons (.days (x := "1") (n := 1) (by decide +kernel) rfl (by decide +kernel) (by decide +kernel) (by decide)) (.cons ?_ .nil)
    exact .place (x := "a") (r := "1") (n := 1) (inner := true) (by decide +kernel) (by decide) rfl rfl (by decide +kernel) (by decide +kernel) (by decide +kernel) rfl (by decide +kernel) (by decide) (by decide) (fun h => by cases h)
  · rw [split1]
    decide +kernel
  · rw [split1]
    decide
end Hs
/-! the law: a cell -/
namespace Er
open PySem PySem.Spec PyProof.Rows L2 Am Hs Ev Us
theorem b_VE : bootBuiltins "ValueError" = some (.type "ValueError") := by decide +kernel
def GotG (P : Program) (w : World) (K : PySem.W.Frag) (mg : Str → Option Value) (base : Heap) (x : Str) (k : Nat) (ps : List Str) (sp : Sp) : Prop :=
  ∃ (f : Addr) (fd : FuncData), Gu.FnG P w K mg base CX0 k f fd ps sp ∧ Binds K fd ps [] ∧ mg x = some (.ref f) ∧ PySem.W.keepIn K (.ref f) = true
theorem fb31 : Bd 3 (fr (-3) 1).1 ∧ Bd 3 (fr (-3) 1).2 := frBd (by decide) (by unfold Bd; decide) (by unfold Bd; decide)
theorem len_list1 (a : Str) : (listText [a]).length = a.length + 2 := by
  have e : listText [a] = ("[" : Str) ++ a ++ ("]" : Str) := rfl
  have l1 : ("[" : Str).length = 1 := rfl
  have l3 : ("]" : Str).length = 1 := rfl
  rw [e, strLen_append, strLen_append, l1, l3]
  omega
theorem dps_row {K : PySem.W.Frag} {H : Hp} : ∀ (bs : List Bool), DpAll K H (bs.map V.bl) (bs.map PyData.bool)
  | [] => .nil
  | b :: bs => .cons (.bl b) (dps_row bs)
def rowD (bs : List Bool) : PyData := .list (bs.map PyData.bool)
theorem dp_row {K : PySem.W.Frag} {H : Hp} {a : Addr} {bs : List Bool} (h : H a = some (.lst (bs.map V.bl))) : Dp K H (.ref a) (rowD bs) := .lst (SqL.of h) (dps_row bs)
theorem row_can : ∀ bs : List Bool, PyData.canLayAll0 (bs.map PyData.bool) = true
  | [] => rfl
  | b :: bs => by
    have := row_can bs
    simpa [PyData.canLayAll0, PyData.canLay0] using this
theorem row_depth : ∀ bs : List Bool, PyData.depthAll (bs.map PyData.bool) = 0
  | [] => rfl
  | b :: bs => by
    have := row_depth bs
    simp [PyData.depthAll, PyData.depth, this]
theorem row_eqv (bs : List Bool) : PyData.eqv (rowD bs) (rowD bs) = true := SeqAt.eqv_refl _ (by show PyData.canLayAll0 _ = true; exact row_can bs)
theorem row_shaped (bs : List Bool) : SeqAt.shaped (rowD bs) = true := by
  unfold SeqAt.shaped
  rw [show (rowD bs).canLay0 = true from row_can bs, Bool.true_and]
  refine decide_eq_true ?_
  show PyData.depthAll (bs.map PyData.bool) + 1 ≤ 64
  rw [row_depth]
  decide
theorem walk_range0 {n : Nat} : Walk (Itr 0 n) n (fun _ => True) (YFn fun i => V.int (i : Int)) := by
  have e : (fun i : Nat => V.int (i : Int)) = fun i : Nat => V.int (0 + (i : Int)) := funext fun i => by rw [Int.zero_add]
  rw [e]
  exact walk_range
theorem int_eqN (j i : Nat) : decide (V.int (j : Int) = V.int (i : Int)) = decide (j = i) := by
  by_cases h : j = i
  · subst h; simp
  · rw [decide_eq_false h]
    refine decide_eq_false fun z => h ?_
    have := V.int.inj z
    omega
def rowI (i : Nat) : List Bool := (List.range 32).map fun j => decide (j = i)
def rowF : List Bool := List.replicate 32 false
theorem rowK_rng (K : PySem.W.Frag) (cl : Nat → Addr) (D : Addr) : rowK K D (nsE cl) = ((List.range 32).map fun j => kindB K D (cl j)).map V.bl := rfl
theorem rowK_is {K : PySem.W.Frag} {mg : Str → Option Value} {cl : Nat → Addr} {cM fI : Addr} (T : Ecl K mg cl cM fI) {i : Nat} (hi : i < 32) : rowK K (cl i) (nsE cl) = (rowI i).map V.bl := by
  rw [rowK_rng]
  refine congrArg _ (List.map_congr_left fun j hj => ?_)
  have hj' : j < 32 := List.mem_range.mp hj
  unfold kindB
  rw [T.kk i hi j hj']
  cases decide (j = i) <;> rfl
theorem rowK_no {K : PySem.W.Frag} {mg : Str → Option Value} {cl : Nat → Addr} {cM fI : Addr} (T : Ecl K mg cl cM fI) : rowK K cM (nsE cl) = rowF.map V.bl := by
  rw [rowK_rng, show rowF = (List.range 32).map fun _ => false from rfl]
  refine congrArg _ (List.map_congr_left fun j hj => ?_)
  have hj' : j < 32 := List.mem_range.mp hj
  unfold kindB
  rw [T.kM j hj']
  rfl
theorem mk_same {H H' : Hp} {C h dx : Addr} (nh : H h = none) (nd : H dx = none) (ne : dx ≠ h) (f : Fr [h] (upd (upd H dx (.own h)) h (.ins C dx [])) H') : Same H H' := fun b u e =>
  f _ _ (((same_upd nd).trans (same_upd (by rw [upd_ne (Ne.symm ne)]; exact nh))) _ _ e) (by simpa using ne_of_none e nh)
theorem mkv_read {K : PySem.W.Frag} {mg : Str → Option Value} {x : Str} {D fI : Addr} (T : Err K mg x D fI) {i : Nat} {v : V} {σ : L2.St} {H : Hp} {Q : VK} (hσ : σ[i]? = some (some v)) (q : ∀ a H', Same H H' → Ke H' a D v → Q (.ref a) H') :
    tMkV D (spInitE K) [] (tCons (tVar i) tNil) σ H Q := ⟨v, hσ, (show 1 ≤ 1000 by decide), fun a na => mk_step T na (q a)⟩
theorem consv_read {K : PySem.W.Frag} {mg : Str → Option Value} {x : Str} {D fI : Addr} (T : Err K mg x D fI) {i : Nat} {v : V} {rest : TA} {σ : L2.St} {H : Hp} {Q : List V → Hp → Prop} (hσ : σ[i]? = some (some v)) (q : ∀ a H', Same H H' → Ke H' a D v → rest σ H' fun vs H3 => Q (.ref a :: vs) H3) :
    tCons (tMkV D (spInitE K) [] (tCons (tVar i) tNil)) rest σ H Q := mkv_read T hσ (Q := fun y H1 => rest σ H1 fun vs H3 => Q (y :: vs) H3) q
def spFine : Sp := fun vs H Q _ => ∃ (p : Addr), vs = [.ref p] ∧ JarAt H p 0 ∧ ∀ H', Chg p H H' → Q (.bl true) H'
section
variable {P : Program} {w : World} {K : PySem.W.Frag} {mg : Str → Option Value} {base : Heap} {cl : Nat → Addr} {C CH cM fI0 : Addr}
theorem scFine : FnScope ["_law_jar_here", "_law_some", "_law_value", "_law_errors", "_law_at", "_law_error", "_law_k", "_law_bare", "_law_house"] ["_law_jar_here"] (defScope sL_fine) := ⟨rfl, rfl, rfl, by decide +kernel, rfl, by decide +kernel, by decide +kernel⟩
theorem ok_fine {f : Addr} {fd fd0 : FuncData} (F : Fun K "_law_fine" "_law_fine" sL_fine f fd) (T : Nm mg) (TE : Ecl K mg cl cM fI0) (F1 : FnOk P w K mg base CX0 1 fI0 fd0 ["self", "value"] (spInitE K)) (hb : Binds K fd0 ["self", "value"] [])
    (nenum : mg "enumerate" = none) (nVE : mg "ValueError" = none) (mA : mg "Amount" = some (.ref C)) (mH : mg "House" = some (.ref CH)) (opH : OpC K CH)
    (GI : GotI P w K mg base C) (GH : ∃ (f : Addr) (fd : FuncData), FnOk P w K mg base CX0 5 f fd ["self", "text"] (spHInit CH) ∧ L2.Binds K fd ["self", "text"] [] ∧ Mk K CH f) (GE : GotM P w K mg base CH "__eq__" 1 ["self", "other"] (spHEq CH C))
    (GRp : GotM P w K mg base C "__repr__" 2 ["self"] (Rt.spRep (RA C)))
    (GD : GotF P w K mg base "_law_odd" 4 ["_law_jar_here"] (spOddV C)) (GO : GotF P w K mg base "_law_of" 2 ["_law_jar_here", "_law_some"] spOf)
    (GK : GotF P w K mg base "_law_kinds_of" 1 ["_law_error"] (spKinds K cl)) (GC : GotF P w K mg base "_law_created" 3 ["_law_value"] (spCreated cl)) (GR : GotG P w K mg base "_law_is_raised" 15 ["_law_value"] (spRaised C)) :
    Gu.FnG P w K mg base CX0 16 f fd ["_law_jar_here"] spFine := by
  obtain ⟨fI, fdI, GI, bI, ⟨ds, v2, b2⟩, MkI⟩ := GI
  obtain ⟨fH, dH, GH, bH, MkH⟩ := GH
  obtain ⟨fE, dE, GE, bE, hE, iE⟩ := GE
  obtain ⟨fRp, dRp, GRp, bRp, hRp, iRp⟩ := GRp
  obtain ⟨fD, dD, GD, bD, mD, kD⟩ := GD
  obtain ⟨fO, dO, GO, bO, mO, kO⟩ := GO
  obtain ⟨fK, dK, GK, bK, mK, kK⟩ := GK
  obtain ⟨fC, dC, GC, bC, mC, kC⟩ := GC
  obtain ⟨fR, dR, GR, bR, mR, kR⟩ := GR
  refine Gu.okG0 F scFine (fun vs H Q E h => ?_) (fun cdv A outer s H vs Q E free hr h => ?_)
  · obtain ⟨p, rfl, _⟩ := h
    rfl
  · obtain ⟨p, rfl, hj, q⟩ := h
    have hr1 : Room 1 _ := hr.mono (by decide)
    have hr2 : Room 2 _ := hr.mono (by decide)
    have hr3 : Room 3 _ := hr.mono (by decide)
    have hr4 : Room 4 _ := hr.mono (by decide)
    have hr6 : Room 6 _ := hr.mono (by decide)
    have hr12 : Room (2 + 4 + 2 * 3) _ := hr.mono (by decide)
    have hr15 : Room 15 _ := hr.mono (by decide)
    have hu := hr.units
    have own : Rt.OwnR (cxOf CX0 P w K mg base ["_law_jar_here", "_law_some", "_law_value", "_law_errors", "_law_at", "_law_error", "_law_k", "_law_bare", "_law_house"] "_law_fine" (defScope sL_fine) f cdv A outer s H E).nox C (RA C) 2 := ⟨ra_ins, fRp, dRp, GRp, bRp, hRp, iRp⟩
    refine ⟨_, (pss_cons (ps_set (i := 1) scFine.nd rfl (.inl rfl) (pe_lst (pa_cons (pe_call GD hr4 (by rfl) mD kD bD .nil pass0 (pa_cons (pv 0) pa_nil)) (pa_cons (pe_un un_neg pe_int) (pa_cons pe_int (pa_cons pe_str (pa_cons (pe_tup (pa_cons (pe_tup (pa_cons pe_str (pa_cons pe_int pa_nil))) pa_nil)) (pa_cons (pe_lst (pa_cons (pe_call GD hr4 (by rfl) mD kD bD .nil pass0 (pa_cons (pv 0) pa_nil)) pa_nil)) (pa_cons (pe_make MkI GI hr3 (by rfl) mA bI .nil pass0 (pa_cons pe_int (pa_cons pe_int pa_nil))) (pa_cons (pe_tup (pa_cons (pe_make MkI GI hr3 (by rfl) mA b2 v2 pass0 (pa_cons (pe_un un_neg pe_int) pa_nil)) (pa_cons pe_non pa_nil))) (pa_cons (pe_disp (pps_cons pe_str (pe_tup (pa_cons pe_int pa_nil)) pps_nil) (by rfl) (by rfl) (by simp) (by decide)) pa_nil)))))))))))
      (pss_cons (ps_set (i := 2) scFine.nd rfl (.inl rfl) (pe_call GO hr2 (by rfl) mO kO bO .nil pass0 (pa_cons (pv 0) (pa_cons (pv 1) pa_nil))))
      (pss_cons (ps_set (i := 3) scFine.nd rfl (.inl rfl) (pe_call GC hr3 (by rfl) mC kC bC .nil pass0 (pa_cons (pv 2) pa_nil)))
      (pss_cons (ps_for PassesOwn.never rfl (pi_enum (by rfl) nenum (pa_cons (pv 3) pa_nil)) (pg_tup rfl (pgs_cons (pg_name (i := 4) scFine.nd rfl (.inr rfl)) (pgs_cons (pg_name (i := 5) scFine.nd rfl (.inl rfl)) pgs_nil))) (pss_cons (ps_if (PW.pt (pw_or (pt_cmpR (op_neD hu) (pe_call GK hr1 (by rfl) mK kK bK .nil pass0 (pa_cons (pv 5) pa_nil)) (pe_lc (own := [("_law_k", 6)]) (g := gName 6) (tt := tYes) rfl scFine.nd (pi_range1 (by rfl) T.range (pa_cons (pe_callB call_len_seq (by rfl) T.len PySem.boot_len (pa_cons (pv 3) pa_nil)) pa_nil))
          (blkOk_by (N := ["_law_jar_here", "_law_some", "_law_value", "_law_errors", "_law_at", "_law_error", "_law_k", "_law_bare", "_law_house"]) (sc := defScope sL_fine) (by decide +kernel)) (fun _ _ _ _ _ => (pg_name (i := 6) scFine.nd rfl (.inl rfl))) (fun _ _ _ _ _ => pts_nil) (fun _ _ _ _ _ => (pe_cmpR op_eq (pv 6) (pv 4) (nomark _)))) (nomark _)) (pw_or1 (pt_cmpR op_ne (pe_callB (Rt.call_repSv (p := p) (n := 3) own free hr12) (by rfl) T.repr b_repr (pa_cons (pe_xo (pv 5)) pa_nil)) (pe_callB (Rt.call_repSv (p := p) (n := 3) own free hr12) (by rfl) T.repr b_repr (pa_cons (pv 2) pa_nil)) (nomark _))))) (pss_one (ps_ret pe_bl)) pss_nil)
      (pss_one (ps_if (PW.pt (pw_or (pt_not (pt_val (pe_callB call_isiV (by rfl) T.isi b_isi (pa_cons (pv 5) (pa_cons (pe_glob (v := .ref cM) (by rfl) TE.erM.gD rfl) pa_nil))))) (pw_or1 (pt_not (pt_val (pe_callB call_isiV (by rfl) T.isi b_isi (pa_cons (pv 5) (pa_cons (pe_bltn (v := .ty "ValueError") (by rfl) nVE b_VE rfl) pa_nil)))))))) (pss_one (ps_ret pe_bl)) pss_nil))))
      (pss_cons (ps_par (by rfl) scFine.nd (i := 7) (j := 8) rfl rfl (by decide) rfl rfl (pa_cons (pe_mkV (dvs := []) TE.erM.oex TE.erM.iC TE.erM.tI F1 hr2 hb .nil pass0 (by rfl) TE.erM.gD (pa_cons (pv 2) pa_nil)) (pa_cons (pe_make MkH GH hr6 (by rfl) mH bH .nil pass0 (pa_cons pe_str pa_nil)) pa_nil)) (by rfl))
      (pss_cons (ps_if (PW.pt (pw_or (pt_cmpR (op_neD hu) (pe_call GK hr1 (by rfl) mK kK bK .nil pass0 (pa_cons (pv 7) pa_nil)) (pe_op op_rep (pe_lst (pa_cons pe_bl pa_nil)) (pe_callB call_len_seq (by rfl) T.len PySem.boot_len (pa_cons (pv 3) pa_nil))) (nomark _)) (pw_or1 (pt_cmpR op_ne (pe_callB (Rt.call_repSv (p := p) (n := 3) own free hr12) (by rfl) T.repr b_repr (pa_cons (pe_xo (pv 7)) pa_nil)) (pe_callB (Rt.call_repSv (p := p) (n := 3) own free hr12) (by rfl) T.repr b_repr (pa_cons (pv 2) pa_nil)) (nomark _))))) (pss_one (ps_ret pe_bl)) pss_nil)
      (pss_one (ps_ret (pe_and (pe_cmpR (op_cmpC (op := .Eq) (fun _ _ => rfl) opH ⟨hE, iE⟩ GE hr1 bE pass0) (pe_xo (pe_mkV (dvs := []) (TE.at 9 (by decide)).oex (TE.at 9 (by decide)).iC (TE.at 9 (by decide)).tI F1 hr2 hb .nil pass0 (by rfl) (TE.at 9 (by decide)).gD (pa_cons (pv 8) pa_nil))) (pv 8) (nomark _)) (pe_one (Gu.pe_callG GR free hr15 (by rfl) mR kR bR pass0 (pa_cons (pv 2) pa_nil)))))))))))), ?_⟩
    have cc : Chg p H H := Chg.refl p H
    refine ⟨_, rfl, p, 0, rfl, hj, by decide, fun B1 w1 t1 as1 cx jx s1 l1 => ?_⟩
    replace cc := cc.trans cx; replace hj := jx; clear cx jx
    refine ⟨_, rfl, (show 2 ≤ sizeLine by decide), fun ta nta => ?_⟩
    have e := same_upd (o := .tup [V.str "a", V.int 1]) nta
    have ota := upd_same (H := B1) (a := ta) (o := .tup [V.str "a", V.int 1])
    have mta : ta ≠ p := ne_jar hj nta
    replace s1 := sv_chg s1 hj (Chg.of e)
    replace cc := cc.trans (Chg.of e); replace hj := hj.same e
    clear e nta
    generalize upd B1 ta (.tup [V.str "a", V.int 1]) = A1 at *
    refine ⟨(show 1 ≤ sizeLine by decide), fun tb ntb => ?_⟩
    have e := same_upd (o := .tup [V.ref ta]) ntb
    have otb := upd_same (H := A1) (a := tb) (o := .tup [V.ref ta])
    have mtb : tb ≠ p := ne_jar hj ntb
    replace ota := e _ _ ota
    replace s1 := sv_chg s1 hj (Chg.of e)
    replace cc := cc.trans (Chg.of e); replace hj := hj.same e
    clear e ntb
    generalize upd A1 tb (.tup [V.ref ta]) = A2 at *
    refine ⟨_, rfl, p, (0 + 1), rfl, hj, by decide, fun B2 w2 t2 as2 cx jx s2 l2 => ?_⟩
    replace ota := cx _ _ ota mta
    replace otb := cx _ _ otb mtb
    replace s1 := sv_chg s1 hj cx
    replace cc := cc.trans cx; replace hj := jx; clear cx jx
    refine ⟨(show 1 ≤ sizeLine by decide), fun lb nlb => ?_⟩
    have fb : lb ∉ as2 := fun z => by
      obtain ⟨o, y⟩ := s2.known _ z
      rw [nlb] at y
      cases y
    have e := same_upd (o := .lst [w2]) nlb
    have olb := upd_same (H := B2) (a := lb) (o := .lst [w2])
    have mlb : lb ≠ p := ne_jar hj nlb
    replace ota := e _ _ ota
    replace otb := e _ _ otb
    replace s1 := sv_chg s1 hj (Chg.of e)
    replace s2 := sv_chg s2 hj (Chg.of e)
    replace cc := cc.trans (Chg.of e); replace hj := hj.same e
    clear e nlb
    generalize upd B2 lb (.lst [w2]) = A3 at *
    intro x1 dx1 nx ndx ne
    refine ⟨x1, dx1, 1, 2, rfl, upd_same, by decide, (show Bd 3 1 by unfold Bd; decide).mono (by decide), (show Bd 3 2 by unfold Bd; decide).mono (by decide), fun C1 ox1 hk => ⟨rfl, ?_⟩⟩
    have e : Same A3 C1 := Same.made nx ndx hk
    replace ota := e _ _ ota
    replace otb := e _ _ otb
    replace olb := e _ _ olb
    replace s1 := sv_chg s1 hj (Chg.of e)
    replace s2 := sv_chg s2 hj (Chg.of e)
    replace cc := cc.trans (Chg.of e); replace hj := hj.same e; clear e hk nx ndx ne
    have mx1 : x1 ≠ p := fun z => by
      obtain ⟨_, y⟩ := jar_lst hj _ (z ▸ ox1)
      cases y
    refine ⟨_, rfl, ?_⟩
    intro x2 dx2 nx ndx ne
    refine ⟨x2, dx2, (-3), 1, rfl, upd_same, by decide, (show Bd 3 (-3) by unfold Bd; decide).mono (by decide), (show Bd 3 1 by unfold Bd; decide).mono (by decide), fun C2 ox2 hk => ⟨rfl, ?_⟩⟩
    have e : Same C1 C2 := Same.made nx ndx hk
    replace ota := e _ _ ota
    replace otb := e _ _ otb
    replace olb := e _ _ olb
    replace ox1 := e _ _ ox1
    replace s1 := sv_chg s1 hj (Chg.of e)
    replace s2 := sv_chg s2 hj (Chg.of e)
    replace cc := cc.trans (Chg.of e); replace hj := hj.same e; clear e hk nx ndx ne
    refine ⟨(show 2 ≤ sizeLine by decide), fun tp ntp => ?_⟩
    have e := same_upd (o := .tup [V.ref x2, V.non]) ntp
    have otp := upd_same (H := C2) (a := tp) (o := .tup [V.ref x2, V.non])
    have mtp : tp ≠ p := ne_jar hj ntp
    replace ota := e _ _ ota
    replace otb := e _ _ otb
    replace olb := e _ _ olb
    replace ox1 := e _ _ ox1
    replace ox2 := e _ _ ox2
    replace s1 := sv_chg s1 hj (Chg.of e)
    replace s2 := sv_chg s2 hj (Chg.of e)
    replace cc := cc.trans (Chg.of e); replace hj := hj.same e
    clear e ntp
    generalize upd C2 tp (.tup [V.ref x2, V.non]) = A4 at *
    refine fun dd ndd => ⟨(show 1 ≤ sizeLine by decide), fun tc ntc => ?_⟩
    have ndc : tc ≠ dd := fun z => by rw [z, upd_same] at ntc; cases ntc
    refine ⟨(upd_ne (Ne.symm ndc)).trans upd_same, [(.inr "a", .ref tc)], rfl, (show 1 ≤ 15 by decide), ?_⟩
    rw [show mergeK [] [((.inr "a" : Key), V.ref tc)] = [((.inr "a" : Key), V.ref tc)] from rfl]
    have ntc' : A4 tc = none := by rw [upd_ne ndc] at ntc; exact ntc
    have e : Same A4 (upd (upd (upd A4 dd (.dK [])) tc (.tup [V.int 1])) dd (.dK [((.inr "a" : Key), V.ref tc)])) := fun b u z => by
      rw [upd_ne (ne_of_none z ndd), upd_ne (ne_of_none z ntc'), upd_ne (ne_of_none z ndd)]; exact z
    have odd_ := upd_same (H := upd (upd A4 dd (.dK [])) tc (.tup [V.int 1])) (a := dd) (o := (.dK [((.inr "a" : Key), V.ref tc)]))
    have otc : (upd (upd (upd A4 dd (.dK [])) tc (.tup [V.int 1])) dd (.dK [((.inr "a" : Key), V.ref tc)])) tc = some (.tup [V.int 1]) := (upd_ne ndc).trans upd_same
    replace ota := e _ _ ota
    replace otb := e _ _ otb
    replace olb := e _ _ olb
    replace ox1 := e _ _ ox1
    replace ox2 := e _ _ ox2
    replace otp := e _ _ otp
    replace s1 := sv_chg s1 hj (Chg.of e)
    replace s2 := sv_chg s2 hj (Chg.of e)
    replace cc := cc.trans (Chg.of e); replace hj := hj.same e
    clear e ntc ntc' ndd
    generalize upd (upd (upd A4 dd (.dK [])) tc (.tup [V.int 1])) dd (.dK [((.inr "a" : Key), V.ref tc)]) = A5 at *
    refine ⟨(show 9 ≤ sizeLine by decide), fun lq nlq => ?_⟩
    have e := same_upd (o := .lst [w1, .int (-1), .int 16, .str "x", .ref tb, .ref lb, .ref x1, .ref tp, .ref dd]) nlq
    have olq := upd_same (H := A5) (a := lq) (o := .lst [w1, .int (-1), .int 16, .str "x", .ref tb, .ref lb, .ref x1, .ref tp, .ref dd])
    have mlq : lq ≠ p := ne_jar hj nlq
    replace ota := e _ _ ota
    replace otb := e _ _ otb
    replace olb := e _ _ olb
    replace ox1 := e _ _ ox1
    replace ox2 := e _ _ ox2
    replace otp := e _ _ otp
    replace s1 := sv_chg s1 hj (Chg.of e)
    replace s2 := sv_chg s2 hj (Chg.of e)
    replace cc := cc.trans (Chg.of e); replace hj := hj.same e
    replace odd_ := e _ _ odd_; replace otc := e _ _ otc
    clear e nlq
    generalize upd A5 lq (.lst [w1, .int (-1), .int 16, .str "x", .ref tb, .ref lb, .ref x1, .ref tp, .ref dd]) = A6 at *
    have hh : ∀ v ∈ [w1, .int (-1), .int 16, .str "x", .ref tb, .ref lb, .ref x1, .ref tp, .ref dd], ∃ t as, Rt.Sv p (RA C) A6 3 v t as ∧ t.length ≤ 1000 := by
      intro v hv
      simp only [List.mem_cons, List.not_mem_nil, or_false] at hv
      have big : ∀ {k : Nat}, k ≤ 200 → k ≤ 1000 := fun h => Nat.le_trans h (by decide)
      have nba : tb ≠ ta := fun z => by rw [z, ota] at otb; cases otb
      rcases hv with rfl | rfl | rfl | rfl | rfl | rfl | rfl | rfl | rfl
      · exact ⟨_, _, s1.up 1, big l1⟩
      · exact ⟨_, _, .leaf (.int _ (by decide +kernel)), by decide +kernel⟩
      · exact ⟨_, _, .leaf (.int _ (by decide +kernel)), by decide +kernel⟩
      · exact ⟨_, _, .leaf (.str _ (by decide +kernel)), by decide +kernel⟩
      · exact ⟨_, _, .tup otb (.cons (.tup ota (.cons (.leaf (.str _ (by decide +kernel))) (.cons (.leaf (.int _ (by decide +kernel))) .nil)) (by simp)) .nil) (by simpa using nba), by decide +kernel⟩
      · exact ⟨_, _, .lst1 olb mlb s2 fb, by rw [len_list1]; omega⟩
      · exact ⟨_, _, .own ⟨_, _, ⟨fr_low (by decide), x1, dx1, rfl, ox1⟩, fb12.1.mono (by decide), fb12.2.mono (by decide), rfl⟩, by decide +kernel⟩
      · exact ⟨_, _, .tup otp (.cons (.own ⟨_, _, ⟨fr_low (by decide), x2, dx2, rfl, ox2⟩, fb31.1.mono (by decide), fb31.2.mono (by decide), rfl⟩) (.cons (.leaf .non) .nil)) (by simp), by decide +kernel⟩
      · exact ⟨_, _, .dic (.one odd_ otc (by decide +kernel) (by decide +kernel)), by decide +kernel⟩
    refine ⟨_, rfl, _, rfl, p, lq, _, _, rfl, olq, mlq, ⟨show 0 < 9 by decide, show 9 ≤ 1000 by decide⟩, hj, by decide, fun v H9 hv c9 j9 => ?_⟩
    obtain ⟨t, as, sv, tl⟩ := hh v hv
    replace sv := sv_chg sv hj c9
    replace cc := cc.trans c9
    clear hh hj c9 hv
    clear ota mta
    clear otb mtb
    clear olb mlb
    clear otp mtp
    clear olq mlq
    clear odd_ otc ox1 ox2 mx1 s1 s2 l1 l2 fb
    have hp : ∃ xs, H9 p = some (.lst xs) := by
      obtain ⟨o, m, c, hp, _⟩ := j9
      exact ⟨_, hp⟩
    refine ⟨_, rfl, v, rfl, fun Hc l es e1 nl hl ke => ?_⟩
    have sv1 := sv_same sv hp e1
    have hp1 := same_lst hp e1
    have cc1 := cc.trans (Chg.of e1)
    have len32 : es.length = 32 := ke.length
    have kinds32 : ∀ i, i < 32 → ∀ n ∈ nsE cl, ∃ b, PySem.W.kitOne K (.ref (cl i)) (.ref n.2) = some b := fun i hi n hn => by
      obtain ⟨j, hj, e⟩ := List.mem_iff_getElem.mp hn
      have hj' : j < 32 := hj
      have z : ((nsE cl)[j]'hj).2 = cl j := nsE_at cl j hj'
      rw [← e, z]
      exact ⟨_, TE.kk i hi j hj'⟩
    clear sv hp cc e1 nl
    refine ⟨_, rfl, l, _, rfl, SqL.of hl, ?_⟩
    refine for_it (walk_enum (xs := es)) (fun i σ H' => ∃ (s4 s5 s6 : Option V), σ = [some (.ref p), some (.ref lq), some v, some (.ref l), s4, s5, s6, none, none] ∧ Same Hc H') ?_ ?_ ?_ ?_
    · exact ⟨_, _, _, rfl, Same.refl _⟩
    · rintro i σ H' _ ⟨_, _, _, _, e⟩
      exact SqL.of (e _ _ hl)
    · rintro i v' σ G1 G2 hi ⟨s4, s5, s6, rfl, e2⟩ ⟨T1, v1, v2', rfl, nT, rfl, hv1, hv2⟩
      have hi' : i < 32 := by rw [← len32]; exact hi
      obtain rfl : V.int (i : Int) = v1 := Option.some.inj hv1
      obtain ⟨a, ea, ka⟩ := ke.get i hi hi'
      rw [nsE_at cl i hi'] at ka
      obtain rfl : V.ref a = v2' := by
        have z : some es[i] = some v2' := (List.getElem?_eq_getElem hi).symm.trans hv2
        rw [ea] at z
        exact Option.some.inj z
      have eT := same_upd (o := .tup [V.int (i : Int), .ref a]) nT
      refine ⟨T1, _, rfl, SqT.of upd_same, rfl, _, _, rfl, _, _, rfl, rfl, ?_⟩
      have e3 := e2.trans eT
      clear nT eT e2 hv1 hv2
      generalize upd G1 T1 (.tup [V.int (i : Int), .ref a]) = G3 at *
      refine ⟨_, rfl, a, cl i, _, rfl, ka.same e3, (TE.at i hi').xf, TE.ev i hi', kinds32 i hi', fun G4 l1 f1 n1 h1 => ?_⟩
      have e4 := e3.trans f1
      refine ⟨_, rfl, l, _, rfl, .inl (SqL.of (e4 _ _ hl)), ?_⟩
      rw [len32]
      refine ⟨_, rfl, by decide, by decide, fun D nD => ?_⟩
      refine lc_it (walk_range0 (n := ((32 : Nat) : Int).toNat)) (Pv := Tk G4 D ((rowI i).map V.bl)) (Tk.start nD) (fun _ _ _ _ => trivial) ?_ ?_
      · rintro j v G5 G6 hj hk ⟨rfl, rfl⟩
        have hj' : j < 32 := hj
        refine ⟨rfl, ?_⟩
        unfold tYes
        refine iteT ⟨_, rfl, _, rfl, ?_⟩
        refine ⟨rfl, ?_⟩
        refine hk.step nD (Same.refl _) ?_ (by unfold rowI; rw [List.length_map, List.length_map, List.length_range]; decide)
        unfold rowI
        rw [List.getElem?_map, List.getElem?_map, List.getElem?_range hj', int_eqN]
        rfl
      · rintro G5 hk
        have hD := hk.done (by unfold rowI; simp)
        have e5 := e4.trans hk.1
        have hl1 := hk.1 _ _ h1
        rw [rowK_is TE hi'] at hl1
        have sv5 := sv_same sv1 hp1 e5
        have ka5 := ka.same e5
        have tz : t.length ≤ sizeLine := Nat.le_trans tl (by decide)
        refine ⟨_, _, dp_row hl1, dp_row hD, row_shaped _, row_shaped _, ?_⟩
        rw [row_eqv]
        refine ⟨_, rfl, iteF ⟨_, rfl, a, cl i, _, v, rfl, (TE.at i hi').xf, (TE.at i hi').nv, ka5, by simp, v, t, as, rfl, sv5, tz, _, rfl, v, t, as, rfl, sv5, tz, rfl, ?_⟩⟩
        have ee : (!decide (V.str t = V.str t)) = false := by simp
        rw [ee]
        refine ⟨_, rfl, iteF ?_⟩
        refine ⟨_, rfl, a, cl i, _, .ref cM, .ref cM, true, rfl, (TE.at i hi').xf, TE.ev i hi', ka5, .own _, TE.km i hi', _, rfl, iteF ⟨_, rfl, a, cl i, _, .ty "ValueError", .type "ValueError", true, rfl, (TE.at i hi').xf, TE.ev i hi', ka5, .ty _, TE.kv i hi', _, rfl, iteF ?_⟩⟩
        exact ⟨_, _, _, rfl, e5⟩
    · rintro σ G1 ⟨s4, s5, s6, rfl, e2⟩
      dsimp only [tSeq, tPar]
      refine consv_read TE.erM rfl fun b G2 f2 kb => ?_
      intro h dh nh ndh nhd
      refine ⟨h, dh, page1, lore1, rfl, upd_same, told1, fun G3 f3 hh3 => ⟨rfl, _, _, rfl, ?_⟩⟩
      have e3 := mk_same nh ndh nhd f3
      have e4 := (e2.trans f2).trans e3
      replace kb := kb.same e3
      clear f3 nh ndh nhd e3 f2 e2
      refine ⟨_, rfl, b, cM, _, rfl, kb, TE.erM.xf, TE.evM, (fun n hn => ?_), fun G4 l1 f1 n1 h1 => ?_⟩
      · obtain ⟨j, hj, e⟩ := List.mem_iff_getElem.mp hn
        have hj' : j < 32 := hj
        have z : ((nsE cl)[j]'hj).2 = cl j := nsE_at cl j hj'
        rw [← e, z]
        exact ⟨_, TE.kM j hj'⟩
      have e5 := e4.trans f1
      refine ⟨(show 1 ≤ sizeLine by decide), fun q1 nq1 => ?_⟩
      have f6 := same_upd (o := .lst [V.bl false]) nq1
      have hq1 := upd_same (H := G4) (a := q1) (o := .lst [V.bl false])
      have e6 := e5.trans f6
      replace h1 := f6 _ _ h1
      have kb6 := (kb.same f1).same f6
      have hh6 := (hh3.same f1).same f6
      clear kb hh3 f1 f6 nq1 e4 e5 n1
      generalize upd G4 q1 (.lst [V.bl false]) = G6 at *
      refine ⟨_, rfl, l, _, rfl, .inl (SqL.of (e6 _ _ hl)), ?_⟩
      rw [len32]
      refine ⟨q1, _, _, rfl, rfl, hq1, by decide, by decide, by decide, fun r1 nr1 => ?_⟩
      have f7 := same_upd (o := .lst (List.replicate ((32 : Nat) : Int).toNat [V.bl false]).flatten) nr1
      have hr1' := upd_same (H := G6) (a := r1) (o := .lst (List.replicate ((32 : Nat) : Int).toNat [V.bl false]).flatten)
      have e7 := e6.trans f7
      replace h1 := f7 _ _ h1
      have kb7 := kb6.same f7
      have hh7 := hh6.same f7
      clear kb6 hh6 f7 nr1 e6 hq1
      generalize upd G6 r1 (.lst (List.replicate ((32 : Nat) : Int).toNat [V.bl false]).flatten) = G7 at *
      rw [show (List.replicate ((32 : Nat) : Int).toNat [V.bl false]).flatten = rowF.map V.bl from rfl] at hr1'
      rw [rowK_no TE] at h1
      have sv7 := sv_same sv1 hp1 e7
      have hp7 := same_lst hp1 e7
      have tz : t.length ≤ sizeLine := Nat.le_trans tl (by decide)
      refine ⟨_, _, dp_row h1, dp_row hr1', row_shaped _, row_shaped _, ?_⟩
      rw [row_eqv]
      refine ⟨_, rfl, iteF ⟨_, rfl, b, cM, _, v, rfl, TE.erM.xf, TE.erM.nv, kb7, by simp, v, t, as, rfl, sv7, tz, _, rfl, v, t, as, rfl, sv7, tz, rfl, ?_⟩⟩
      have ee : (!decide (V.str t = V.str t)) = false := by simp
      rw [ee]
      refine ⟨_, rfl, iteF ?_⟩
      dsimp only [tNext, tRet, tAndV, tOp, tXo]
      refine mkv_read (TE.at 9 (by decide)) rfl fun a2 G8 f8 k8 => ?_
      have hh8 := hh7.same f8
      obtain ⟨dh8, q1', q2', q3', q4', q5', q6', hins⟩ := hh8.ins
      refine ⟨a2, cl 9, _, .ref h, rfl, (TE.at 9 (by decide)).xf, (TE.at 9 (by decide)).nv, k8, by simp, ?_⟩
      refine ⟨_, rfl, ⟨h, dh8, _, rfl, hins⟩, .inl ⟨h, dh8, _, rfl, hins⟩, h, page1, lore1, .ref h, rfl, hh8, .inl ⟨h, page1, lore1, rfl, hh8, ?_⟩⟩
      have ep : decide (page1 = page1) = true := decide_eq_true rfl
      rw [ep]
      refine ⟨_, rfl, iteT ⟨v, rfl, p, v, rfl, ⟨same_lst hp7 f8, t, as, sv_same sv7 hp7 f8, tl⟩, fun H' e => ?_⟩⟩
      exact q _ (cc1.trans (Chg.of ((e7.trans f8).trans e)))

end
end Er
namespace Er
open PySem PySem.Spec PyProof.Rows L2 Am Hs
def spLaw (K : PySem.W.Frag) : Sp := fun vs H Q _ => ∃ (a : Addr) (ns : List Int), vs = [.ref a] ∧ SqL K H a (ns.map V.int) ∧ ns.length ≤ 63 ∧ ∀ H', Q (.bl true) H'
section
variable {P : Program} {w : World} {K : PySem.W.Frag} {mg : Str → Option Value} {base : Heap} {C : Addr}
theorem scLaw : FnScope ["_law_script", "_law_k"] ["_law_script"] (defScope sLaw) := ⟨rfl, rfl, rfl, by decide +kernel, rfl, by decide +kernel, by decide +kernel⟩
theorem ok_law {f : Addr} {fd : FuncData} (F : Fun K "law" "law" sLaw f fd) (T : Nm mg) (GJ : GotF P w K mg base "_law_jar" 1 ["_law_script", "_law_k"] (spJar K))
    (GF : ∃ f fd, Gu.FnG P w K mg base CX0 16 f fd ["_law_jar_here"] spFine ∧ Binds K fd ["_law_jar_here"] [] ∧ mg "_law_fine" = some (.ref f) ∧ PySem.W.keepIn K (.ref f) = true) : Gu.FnG P w K mg base CX0 17 f fd ["_law_script"] (spLaw K) := by
  obtain ⟨fJ, dJ, GJ, bJ, mJ, kJ⟩ := GJ
  obtain ⟨fF, dF, GF, bF, mF, kF⟩ := GF
  refine Gu.okG0 F scLaw (fun vs H Q E h => ?_) (fun cdv A outer s H vs Q E free hr h => ?_)
  · obtain ⟨a, ns, rfl, _⟩ := h
    rfl
  · obtain ⟨a, ns, rfl, hS, hl, q⟩ := h
    have hr1 : Room 1 _ := hr.mono (by decide)
    refine ⟨_, pss_one (ps_ret (pe_callB (cr_all rfl) (by rfl) T.all b_all (pa_cons (pe_lc (own := [("_law_k", 1)]) (g := gName 1) (tt := tYes) rfl scLaw.nd
      (pi_range1 (by rfl) T.range (pa_cons (pe_callB (call_max2 rfl) (by rfl) T.max b_max (pa_cons pe_int (pa_cons (pe_callB (call_min2 rfl) (by rfl) T.min b_min (pa_cons pe_int (pa_cons (pe_callB call_len_seq (by rfl) T.len PySem.boot_len (pa_cons (pv 0) pa_nil)) pa_nil))) pa_nil))) pa_nil))
      (blkOk_by (N := ["_law_script", "_law_k"]) (sc := defScope sLaw) (by decide +kernel)) (fun _ _ _ _ _ => pg_name (i := 1) scLaw.nd rfl (Or.inl rfl)) (fun _ _ _ _ _ => pts_nil)
      (fun _ _ _ _ _ => Gu.pe_callG GF free hr (by rfl) mF kF bF pass0 (pa_cons (pe_call GJ hr1 (by rfl) mJ kJ bJ .nil pass0 (pa_cons (pv 0) (pa_cons (pv 1) pa_nil))) pa_nil))) pa_nil))), ?_⟩
    have bnd : ∀ m : Nat, m ≤ 63 → (if (if ((m : Int) < 3) then (m : Int) else 3) > 1 then (if ((m : Int) < 3) then (m : Int) else 3) else 1 : Int) ≤ 3 ∧ 1 ≤ (if (if ((m : Int) < 3) then (m : Int) else 3) > 1 then (if ((m : Int) < 3) then (m : Int) else 3) else 1 : Int) := by
      intro m hm
      split <;> split <;> omega
    have bb := bnd (ns.map V.int).length (by rw [List.length_map]; exact hl)
    refine ⟨_, rfl, a, _, rfl, .inl hS, _, _, rfl, _, _, rfl, _, rfl, by omega, by omega, ?_⟩
    generalize (if (if (((ns.map V.int).length : Int) < 3) then ((ns.map V.int).length : Int) else 3) > 1 then (if (((ns.map V.int).length : Int) < 3) then ((ns.map V.int).length : Int) else 3) else 1 : Int) = m at bb ⊢
    intro D nD
    refine lc_range (lo := 0) (n := m.toNat) (fun i H' => Same H H' ∧ H' D = some (.lst ((List.replicate i true).map V.bl))) ⟨same_upd nD, upd_same⟩ ?_ ?_
    · rintro i H1 hi ⟨s1, h1⟩
      refine ⟨rfl, ?_⟩
      unfold tYes
      refine iteT ?_
      refine ⟨_, rfl, _, rfl, a, ns, _, rfl, s1.seq hS, by omega, by omega, fun p H2 s2 np jj => ⟨p, rfl, jj, fun H3 c3 => ?_⟩⟩
      have nDp : D ≠ p := ne_of_none h1 np
      refine ⟨_, c3 _ _ (s2 _ _ h1) nDp, ?_, fun b u e => ?_, ?_⟩
      · rw [List.length_map, List.length_replicate]
        exact Nat.lt_of_lt_of_le hi (Nat.le_trans (show m.toNat ≤ 3 by omega) (by decide))
      · have e1 := s1 _ _ e
        rw [upd_ne (ne_of_none e nD)]
        exact c3 _ _ (s2 _ _ e1) (ne_of_none e1 np)
      · rw [upd_same, List.replicate_succ', List.map_append]
        rfl
    · rintro H1 ⟨s1, h1⟩
      refine ⟨D, List.replicate m.toNat true, rfl, SqL.of h1, ?_⟩
      rw [show (List.replicate m.toNat true).all id = true by simp]
      exact q H1
end
end Er
namespace Er
open PySem PySem.Spec PyProof.Rows L2 Am Hs Ev Us
/-- a def of the module as the head writes it -/
def FactF (K : PySem.W.Frag) (x : Str) (st : Stmt) : Prop := ∃ (f : Addr) (oc : Value) (od : Option Addr) (kV dc pm : Value) (an : Option Addr) (cd ct : Value) (sl : Array (Option Value)),
  PySem.W.nsIn K mainGlobals x = some (some (.ref f)) ∧ K.lookup f = some ⟨oc, od, .func (PySem.W.fnOf x x (defArgs st) (defBody st) (defScope st) .none kV dc pm an cd ct), sl⟩ ∧ PySem.W.codeIn K cd x = true ∧ PySem.W.keepIn K (.ref f) = true
theorem mkF {K : PySem.W.Frag} {x : Str} {st : Stmt} {f : Addr} {oc : Value} {od : Option Addr} {kV dc pm : Value} {an : Option Addr} {cd ct : Value} {sl : Array (Option Value)}
    (a : PySem.W.nsIn K mainGlobals x = some (some (.ref f))) (l : K.lookup f = some ⟨oc, od, .func (PySem.W.fnOf x x (defArgs st) (defBody st) (defScope st) .none kV dc pm an cd ct), sl⟩) (c : PySem.W.codeIn K cd x = true) (k : PySem.W.keepIn K (.ref f) = true) : FactF K x st :=
  ⟨f, oc, od, kV, dc, pm, an, cd, ct, sl, a, l, c, k⟩
theorem FactF.fun {K : PySem.W.Frag} {h : Heap} {mg : Str → Option Value} {x : Str} {st : Stmt} (X : K.In h) (G : h.Ns mainGlobals mg) (F : FactF K x st) : ∃ f fd, Fun K x x st f fd ∧ mg x = some (.ref f) ∧ PySem.W.keepIn K (.ref f) = true := by
  obtain ⟨f, oc, od, kV, dc, pm, an, cd, ct, sl, a, l, c, k⟩ := F
  exact ⟨f, _, fun_mk l c k, PySem.W.mg_of X G a, k⟩
/-- a method of the class -/
def FactM (K : PySem.W.Frag) (C : Addr) (x q : Str) (st : Stmt) : Prop := ∃ (f : Addr) (oc : Value) (od : Option Addr) (kV dc pm : Value) (an : Option Addr) (cd ct : Value) (sl : Array (Option Value)),
  PySem.W.findIn K (.ref C) x = some (some (.ref f)) ∧ PySem.W.isFn K (.ref f) = true ∧ K.lookup f = some ⟨oc, od, .func (PySem.W.fnOf x q (defArgs st) (defBody st) (defScope st) .none kV dc pm an cd ct), sl⟩ ∧ PySem.W.codeIn K cd q = true ∧ PySem.W.keepIn K (.ref f) = true
theorem mkM {K : PySem.W.Frag} {C : Addr} {x q : Str} {st : Stmt} {f : Addr} {oc : Value} {od : Option Addr} {kV dc pm : Value} {an : Option Addr} {cd ct : Value} {sl : Array (Option Value)}
    (a : PySem.W.findIn K (.ref C) x = some (some (.ref f))) (i : PySem.W.isFn K (.ref f) = true) (l : K.lookup f = some ⟨oc, od, .func (PySem.W.fnOf x q (defArgs st) (defBody st) (defScope st) .none kV dc pm an cd ct), sl⟩) (c : PySem.W.codeIn K cd q = true)
    (k : PySem.W.keepIn K (.ref f) = true) : FactM K C x q st := ⟨f, oc, od, kV, dc, pm, an, cd, ct, sl, a, i, l, c, k⟩
theorem FactM.meth {K : PySem.W.Frag} {C : Addr} {x q : Str} {st : Stmt} (F : FactM K C x q st) : ∃ f fd, Fun K x q st f fd ∧ PySem.W.findIn K (.ref C) x = some (some (.ref f)) ∧ PySem.W.isFn K (.ref f) = true ∧ Meth K C x f := by
  obtain ⟨f, oc, od, kV, dc, pm, an, cd, ct, sl, a, i, l, c, k⟩ := F
  exact ⟨f, _, fun_mk l c k, a, i, ⟨a, i, k⟩⟩
/-- a function that a record of the class holds -/
def FactG (K : PySem.W.Frag) (x q : Str) (st : Stmt) (g : Addr) : Prop := ∃ (oc : Value) (od : Option Addr) (kV dc pm : Value) (an : Option Addr) (cd ct : Value) (sl : Array (Option Value)),
  K.lookup g = some ⟨oc, od, .func (PySem.W.fnOf x q (defArgs st) (defBody st) (defScope st) .none kV dc pm an cd ct), sl⟩ ∧ PySem.W.codeIn K cd q = true ∧ PySem.W.keepIn K (.ref g) = true
theorem FactG.fun {K : PySem.W.Frag} {x q : Str} {st : Stmt} {g : Addr} (F : FactG K x q st g) : ∃ fd, Fun K x q st g fd := by
  obtain ⟨oc, od, kV, dc, pm, an, cd, ct, sl, l, c, k⟩ := F
  exact ⟨_, fun_mk l c k⟩
/-- a property -/
structure FactPr (K : PySem.W.Frag) (C : Addr) (x q : Str) (st : Stmt) (p g : Addr) : Prop where
  po : PropOf K C x p g
  fn : FactG K x q st g
theorem mkPr {K : PySem.W.Frag} {C p g : Addr} {x q : Str} {st : Stmt} {rest : List Value} {oc : Value} {od : Option Addr} {kV dc pm : Value} {an : Option Addr} {cd ct : Value} {sl : Array (Option Value)} (a : PySem.W.findIn K (.ref C) x = some (some (.ref p))) (b : PySem.W.specialIn K (.ref p) "__get__" = some (some (.builtin "property.__get__")))
    (c : PySem.W.takesIn K (.ref p) = some true) (d : PySem.W.recIn K p "property" = some (.ref g :: rest)) (l : K.lookup g = some ⟨oc, od, .func (PySem.W.fnOf x q (defArgs st) (defBody st) (defScope st) .none kV dc pm an cd ct), sl⟩) (e : PySem.W.codeIn K cd q = true) (k : PySem.W.keepIn K (.ref g) = true) : FactPr K C x q st p g :=
  ⟨⟨a, b, c, ⟨rest, d⟩⟩, ⟨oc, od, kV, dc, pm, an, cd, ct, sl, l, e, k⟩⟩
/-- a class that is made -/
structure FactK (K : PySem.W.Frag) (C : Addr) : Prop where
  pg : PySem.W.plainGet K C Str.empty = true
  hd : PySem.W.hasDictIn K C = true
  po : PySem.W.plainOver K C = true
  sa : PySem.W.findIn K (.ref C) "__setattr__" = some (some (.builtin "object.__setattr__"))
  mkk : PySem.W.makesIn K C = true
  kc : PySem.W.keepIn K (.ref C) = true
/-- a class with operators -/
structure FactH (K : PySem.W.Frag) (C : Addr) : Prop where
  sf : PySem.W.selfFirst K C = true
  ne : PySem.W.findIn K (.ref C) "__ne__" = some (some (.builtin "object.__ne__"))
  ob : PySem.W.mroIn K C (.type "object") = some true
  ca : PySem.W.findIn K (.ref C) "__class__" = some (some (.builtin "object.__class__"))
  cn : PySem.W.specialIn K (.builtin "object.__class__") "__get__" = some (some (.builtin "getset_descriptor.__get__"))
  ct : PySem.W.takesIn K (.builtin "object.__class__") = some true
/-- two classes, apart -/
structure FactA (K : PySem.W.Frag) (C D : Addr) : Prop where
  kD : PySem.W.kitOne K (.ref D) (.ref C) = some false
  nF : PySem.W.notFirst K C (.ref D) = true
structure FactT (K : PySem.W.Frag) (C : Addr) : Prop where
  s1 : PySem.W.subIn K (.ref C) (.type "int") = some false
  r1 : PySem.W.subIn K (.type "int") (.ref C) = some false
  k1 : PySem.W.kitOne K (.type "int") (.ref C) = some false
  s2 : PySem.W.subIn K (.ref C) (.type "bool") = some false
  r2 : PySem.W.subIn K (.type "bool") (.ref C) = some false
  k2 : PySem.W.kitOne K (.type "bool") (.ref C) = some false
  s3 : PySem.W.subIn K (.ref C) (.type "NoneType") = some false
  r3 : PySem.W.subIn K (.type "NoneType") (.ref C) = some false
  k3 : PySem.W.kitOne K (.type "NoneType") (.ref C) = some false
  s4 : PySem.W.subIn K (.ref C) (.type "str") = some false
  r4 : PySem.W.subIn K (.type "str") (.ref C) = some false
  k4 : PySem.W.kitOne K (.type "str") (.ref C) = some false
  s5 : PySem.W.subIn K (.ref C) (.type "list") = some false
  r5 : PySem.W.subIn K (.type "list") (.ref C) = some false
  k5 : PySem.W.kitOne K (.type "list") (.ref C) = some false
  s6 : PySem.W.subIn K (.ref C) (.type "tuple") = some false
  r6 : PySem.W.subIn K (.type "tuple") (.ref C) = some false
  k6 : PySem.W.kitOne K (.type "tuple") (.ref C) = some false
  s7 : PySem.W.subIn K (.ref C) (.type "dict") = some false
  r7 : PySem.W.subIn K (.type "dict") (.ref C) = some false
  k7 : PySem.W.kitOne K (.type "dict") (.ref C) = some false
  kC : PySem.W.kitOne K (.ref C) (.ref C) = some true
  kI : PySem.W.kitOne K (.ref C) (.type "int") = some false
/-- a tuple of texts that a name of the module has -/
def FactSeq (K : PySem.W.Frag) (x : Str) (ws : List Str) : Prop := ∃ (T : Addr) (o : Obj) (its : Array Value) (n : Nat), PySem.W.nsIn K mainGlobals x = some (some (.ref T)) ∧ K.lookup T = some o ∧ o.cls = .type "tuple" ∧ o.data = .seq its n ∧ its.size ≤ sizeLine ∧ Vals (ws.map V.str) its.toList
theorem mkSeq {K : PySem.W.Frag} {x : Str} {ws : List Str} {T : Addr} {o : Obj} {its : Array Value} {n : Nat} (a : PySem.W.nsIn K mainGlobals x = some (some (.ref T))) (l : K.lookup T = some o) (c : o.cls = .type "tuple") (d : o.data = .seq its n) (z : its.size ≤ sizeLine) (v : Vals (ws.map V.str) its.toList) : FactSeq K x ws := ⟨T, o, its, n, a, l, c, d, z, v⟩
theorem FactSeq.get {K : PySem.W.Frag} {h : Heap} {mg : Str → Option Value} {x : Str} {ws : List Str} (X : K.In h) (G : h.Ns mainGlobals mg) (F : FactSeq K x ws) : ∃ T, mg x = some (.ref T) ∧ ∀ H, SqT K H T (ws.map V.str) := by
  obtain ⟨T, o, its, n, a, l, c, d, z, v⟩ := F
  exact ⟨T, PySem.W.mg_of X G a, fun H => .inr ⟨o, its, n, l, c, d, z, v⟩⟩
def FactInt (K : PySem.W.Frag) (x : Str) (v : Int) : Prop := ∃ (i : Int) (t : Nat), PySem.W.nsIn K mainGlobals x = some (some (.int i t)) ∧ i = v
theorem mkInt {K : PySem.W.Frag} {x : Str} {v i : Int} {t : Nat} (a : PySem.W.nsIn K mainGlobals x = some (some (.int i t))) (e : i = v) : FactInt K x v := ⟨i, t, a, e⟩
theorem FactInt.get {K : PySem.W.Frag} {h : Heap} {mg : Str → Option Value} {x : Str} {v : Int} (X : K.In h) (G : h.Ns mainGlobals mg) (F : FactInt K x v) : ∃ i t, mg x = some (.int i t) ∧ i = v := by
  obtain ⟨i, t, a, e⟩ := F
  exact ⟨i, t, PySem.W.mg_of X G a, e⟩
def FactStr (K : PySem.W.Frag) (x v : Str) : Prop := ∃ (t : Nat), PySem.W.nsIn K mainGlobals x = some (some (.str v t))
theorem mkStr {K : PySem.W.Frag} {x v : Str} {t : Nat} (a : PySem.W.nsIn K mainGlobals x = some (some (.str v t))) : FactStr K x v := ⟨t, a⟩
theorem FactStr.get {K : PySem.W.Frag} {h : Heap} {mg : Str → Option Value} {x v : Str} (X : K.In h) (G : h.Ns mainGlobals mg) (F : FactStr K x v) : ∃ t, mg x = some (.str v t) := by
  obtain ⟨t, a⟩ := F
  exact ⟨t, PySem.W.mg_of X G a⟩
theorem pair_app {α β : Type} {r : α → β → Prop} : ∀ {a : List α} {b : List β} {c : List α} {d : List β}, Paired r a b → Paired r c d → Paired r (a ++ c) (b ++ d)
  | _, _, _, _, .nil, h => h
  | _, _, _, _, .cons x xs, h => .cons x (pair_app xs h)
/-- the class Amount's __init__, with its default -/
def FactI (K : PySem.W.Frag) (C : Addr) : Prop := ∃ (f T : Addr) (oc : Value) (od : Option Addr) (kV dc pm : Value) (an : Option Addr) (cd ct : Value) (sl : Array (Option Value)) (o : Obj) (n : Nat) (t : Nat),
  PySem.W.findIn K (.ref C) "__init__" = some (some (.ref f)) ∧ PySem.W.isFn K (.ref f) = true ∧ K.lookup f = some ⟨oc, od, .func (PySem.W.fnOf "__init__" "Amount.__init__" (defArgs sInit) (defBody sInit) (defScope sInit) (.ref T) kV dc pm an cd ct), sl⟩ ∧ PySem.W.codeIn K cd "Amount.__init__" = true ∧
  PySem.W.keepIn K (.ref f) = true ∧ K.lookup T = some o ∧ o.data = .seq [Value.int 1 t].toArray n
theorem mkI {K : PySem.W.Frag} {C f T : Addr} {oc : Value} {od : Option Addr} {kV dc pm : Value} {an : Option Addr} {cd ct : Value} {sl : Array (Option Value)} {o : Obj} {n t : Nat}
    (a : PySem.W.findIn K (.ref C) "__init__" = some (some (.ref f))) (i : PySem.W.isFn K (.ref f) = true) (l : K.lookup f = some ⟨oc, od, .func (PySem.W.fnOf "__init__" "Amount.__init__" (defArgs sInit) (defBody sInit) (defScope sInit) (.ref T) kV dc pm an cd ct), sl⟩)
    (c : PySem.W.codeIn K cd "Amount.__init__" = true) (k : PySem.W.keepIn K (.ref f) = true) (d : K.lookup T = some o) (e : o.data = .seq [Value.int 1 t].toArray n) : FactI K C := ⟨f, T, oc, od, kV, dc, pm, an, cd, ct, sl, o, n, t, a, i, l, c, k, d, e⟩
theorem gotI {P : Program} {w : World} {K : PySem.W.Frag} {mg : Str → Option Value} {base : Heap} {C : Addr} (F : FactI K C) (T : Txt K mg C) (mk : PySem.W.makesIn K C = true) (kc : PySem.W.keepIn K (.ref C) = true) (GW : GotF P w K mg base "is_whole" 1 ["value"] (spWhole C)) : GotI P w K mg base C := by
  obtain ⟨f, Td, oc, od, kV, dc, pm, an, cd, ct, sl, o, n, t, a, i, l, c, k, d, e⟩ := F
  obtain ⟨fW, dW, GW, bW, mW, kW⟩ := GW
  have FD : FInit K f (PySem.W.fnOf "__init__" "Amount.__init__" (defArgs sInit) (defBody sInit) (defScope sInit) (.ref Td) kV dc pm an cd ct) :=
    ⟨⟨oc, od, .ref Td, kV, dc, pm, an, cd, ct, sl, rfl, l, c, .inr ⟨by simp, Td, o, [Value.int 1 t], n, rfl, d, e, .cons ⟨t, rfl⟩ .nil⟩, .inl rfl⟩, k⟩
  obtain ⟨d3, v3, b3⟩ := FD.binds1 (ps := ["self", "number", "under"]) 3 1 (by simp) rfl (fun T kV doc pm an cdv ct us its h1 h2 => by
    match us, its, h1, h2 with
    | [_, _, _], [_], _, _ => exact ⟨_, rfl, rfl⟩)
  obtain ⟨d2, v2, b2⟩ := FD.binds1 (ps := ["self", "number", "under"]) 2 0 (by simp) rfl (fun T kV doc pm an cdv ct us its h1 h2 => by
    match us, its, h1, h2 with
    | [_, _], [_], _, _ => exact ⟨_, rfl, rfl⟩)
  cases v3
  exact ⟨f, _, ok_init FD T GW bW mW kW, b3, ⟨d2, v2, b2⟩, ⟨mk, a, i, kc⟩⟩
/-- an error class of the text, its __init__ taken over -/
def FactX (K : PySem.W.Frag) (x : Str) (D : Addr) : Prop := ∃ (nm q : Str) (N : Addr) (bs bm : List Value) (sn : List Str) (sub : List Value) (ab : Bool) (col : Option Bool) (dd : Option Addr) (k0 k1 k2 k3 k5 : Option Value),
  PySem.W.nsIn K mainGlobals x = some (some (.ref D)) ∧ K.lookup D = some (excClassObj nm q D N bs bm true sn sub ab col dd k0 k1 k2 k3 k5 "ValueError.__new__") ∧ PySem.HandSPX.refsVE bm = true
theorem mkX {K : PySem.W.Frag} {x : Str} {D : Addr} {nm q : Str} {N : Addr} {bs bm : List Value} {sn : List Str} {sub : List Value} {ab : Bool} {col : Option Bool} {dd : Option Addr} {k0 k1 k2 k3 k5 : Option Value}
    (a : PySem.W.nsIn K mainGlobals x = some (some (.ref D))) (l : K.lookup D = some (excClassObj nm q D N bs bm true sn sub ab col dd k0 k1 k2 k3 k5 "ValueError.__new__")) (r : PySem.HandSPX.refsVE bm = true) : FactX K x D := ⟨nm, q, N, bs, bm, sn, sub, ab, col, dd, k0, k1, k2, k3, k5, a, l, r⟩
structure FactY (K : PySem.W.Frag) (D : Addr) : Prop where
  sa : PySem.W.findIn K (.ref D) "__setattr__" = some (some (.builtin "object.__setattr__"))
  exC : PySem.W.subIn K (.ref D) (.type "BaseException") = some true
  tyC : PySem.W.typeIn K (.ref D) = some (.type "type")
  kC : PySem.W.keepIn K (.ref D) = true
  nv : PySem.W.findIn K (.ref D) "value" = some none
  ga : PySem.W.findIn K (.ref D) "__getattribute__" = some (some (.builtin "BaseException.__getattribute__"))
  gg : PySem.W.findIn K (.ref D) "__getattr__" = some none
  hdC : PySem.W.hasDictIn K D = true
  iC : PySem.W.isClsIn K D = true
  sC : PySem.W.subIn K (.ref D) (.ref D) = some true
/-- the class's __init__, taken over from the base -/
def FactE (K : PySem.W.Frag) (D : Addr) : Prop := ∃ (f : Addr) (oc : Value) (od : Option Addr) (kV dc pm : Value) (an : Option Addr) (cd ct : Value) (sl : Array (Option Value)),
  PySem.W.findIn K (.ref D) "__init__" = some (some (.ref f)) ∧ PySem.W.typeIn K (.ref f) = some (.type "function") ∧ K.lookup f = some ⟨oc, od, .func (PySem.W.fnOf "__init__" "MeterError.__init__" (defArgs sInitE) (defBody sInitE) (defScope sInitE) .none kV dc pm an cd ct), sl⟩ ∧ PySem.W.codeIn K cd "MeterError.__init__" = true ∧ PySem.W.keepIn K (.ref f) = true
theorem mkE {K : PySem.W.Frag} {D f : Addr} {oc : Value} {od : Option Addr} {kV dc pm : Value} {an : Option Addr} {cd ct : Value} {sl : Array (Option Value)}
    (a : PySem.W.findIn K (.ref D) "__init__" = some (some (.ref f))) (i : PySem.W.typeIn K (.ref f) = some (.type "function")) (l : K.lookup f = some ⟨oc, od, .func (PySem.W.fnOf "__init__" "MeterError.__init__" (defArgs sInitE) (defBody sInitE) (defScope sInitE) .none kV dc pm an cd ct), sl⟩)
    (c : PySem.W.codeIn K cd "MeterError.__init__" = true) (k : PySem.W.keepIn K (.ref f) = true) : FactE K D := ⟨f, oc, od, kV, dc, pm, an, cd, ct, sl, a, i, l, c, k⟩
theorem exm_self {K : PySem.W.Frag} {S : Addr} (h1 : PySem.W.subIn K (.ref S) (.type "BaseException") = some true) (h2 : PySem.W.isClsIn K S = true) (h3 : PySem.W.typeIn K (.ref S) = some (.type "type")) (h4 : PySem.W.subIn K (.ref S) (.ref S) = some true) :
    PySem.W.exmOne K (.ref S) (.ref S) = some true := by
  have e1 : (PySem.W.subIn K (.ref S) (.type "BaseException") == some true) = true := by rw [h1] <;> rfl
  have e2 : ((PySem.W.clsIn K S).isSome && PySem.W.typeIn K (.ref S) == some (.type "type")) = true := by
    have h2' : (PySem.W.clsIn K S).isSome = true := h2
    rw [h2', h3] <;> rfl
  show (if (PySem.W.subIn K (.ref S) (.type "BaseException") == some true) = true then (if ((PySem.W.clsIn K S).isSome && PySem.W.typeIn K (.ref S) == some (.type "type")) = true then PySem.W.subIn K (.ref S) (.ref S) else none) else none) = some true
  rw [if_pos e1, if_pos e2]
  exact h4
theorem exm_of {K : PySem.W.Frag} {D M : Addr} (h1 : PySem.W.subIn K (.ref M) (.type "BaseException") = some true) (h2 : PySem.W.isClsIn K M = true) (h3 : PySem.W.typeIn K (.ref M) = some (.type "type")) (h4 : PySem.W.subIn K (.ref D) (.ref M) = some true) :
    PySem.W.exmOne K (.ref D) (.ref M) = some true := by
  have e1 : (PySem.W.subIn K (.ref M) (.type "BaseException") == some true) = true := by rw [h1] <;> rfl
  have e2 : ((PySem.W.clsIn K M).isSome && PySem.W.typeIn K (.ref M) == some (.type "type")) = true := by
    have h2' : (PySem.W.clsIn K M).isSome = true := h2
    rw [h2', h3] <;> rfl
  show (if (PySem.W.subIn K (.ref M) (.type "BaseException") == some true) = true then (if ((PySem.W.clsIn K M).isSome && PySem.W.typeIn K (.ref M) == some (.type "type")) = true then PySem.W.subIn K (.ref D) (.ref M) else none) else none) = some true
  rw [if_pos e1, if_pos e2]
  exact h4

/-- the one __init__ of the error classes -/
def FactEf (K : PySem.W.Frag) (f : Addr) : Prop := ∃ (oc : Value) (od : Option Addr) (kV dc pm : Value) (an : Option Addr) (cd ct : Value) (sl : Array (Option Value)),
  PySem.W.typeIn K (.ref f) = some (.type "function") ∧ K.lookup f = some ⟨oc, od, .func (PySem.W.fnOf "__init__" "MeterError.__init__" (defArgs sInitE) (defBody sInitE) (defScope sInitE) .none kV dc pm an cd ct), sl⟩ ∧ PySem.W.codeIn K cd "MeterError.__init__" = true ∧ PySem.W.keepIn K (.ref f) = true
theorem mkEf {K : PySem.W.Frag} {D f : Addr} {oc : Value} {od : Option Addr} {kV dc pm : Value} {an : Option Addr} {cd ct : Value} {sl : Array (Option Value)}
    (a : PySem.W.findIn K (.ref D) "__init__" = some (some (.ref f))) (i : PySem.W.typeIn K (.ref f) = some (.type "function")) (l : K.lookup f = some ⟨oc, od, .func (PySem.W.fnOf "__init__" "MeterError.__init__" (defArgs sInitE) (defBody sInitE) (defScope sInitE) .none kV dc pm an cd ct), sl⟩)
    (c : PySem.W.codeIn K cd "MeterError.__init__" = true) (k : PySem.W.keepIn K (.ref f) = true) : PySem.W.findIn K (.ref D) "__init__" = some (some (.ref f)) ∧ FactEf K f := ⟨a, oc, od, kV, dc, pm, an, cd, ct, sl, i, l, c, k⟩
theorem err_mk {K : PySem.W.Frag} {h : Heap} {mg : Str → Option Value} {x : Str} {D fI : Addr} (X : K.In h) (G : h.Ns mainGlobals mg) (F : FactX K x D) (B : clsB K fI D = true) (E : FactEf K fI) : Err K mg x D fI := by
  obtain ⟨nm, q, N, bs, bm, sn, sub, ab, col, dd, k0, k1, k2, k3, k5, a, l, r⟩ := F
  obtain ⟨oc, od, kV, dc, pm, an, cd, ct, sl, e2, e3, e4, e5⟩ := E
  simp only [clsB, Bool.and_eq_true, decide_eq_true_eq] at B
  obtain ⟨b1, b2, b3, b4, b5, b6, b7, b8, b9, b10, b11, b12, b13⟩ := B
  exact ⟨⟨⟨nm, q, N, bs, bm, sn, sub, ab, col, dd, k0, k1, k2, k3, k5, l, r⟩, b1, b2, b3, b4⟩, b11, e2, PySem.W.mg_of X G a, b5, ⟨b6, b7, b2, b8⟩, exm_self b2 b9 b3 b10⟩
theorem errv_mk {K : PySem.W.Frag} {D fI : Addr} (cn : PySem.W.specialIn K (.builtin "object.__class__") "__get__" = some (some (.builtin "getset_descriptor.__get__"))) (ct : PySem.W.takesIn K (.builtin "object.__class__") = some true) (B : clsB K fI D = true) : ErrV K D := by
  simp only [clsB, Bool.and_eq_true, decide_eq_true_eq] at B
  obtain ⟨b1, b2, b3, b4, b5, b6, b7, b8, b9, b10, b11, b12, b13⟩ := B
  exact ⟨b9, b12, cn, ct, b13⟩
theorem exm_mk {K : PySem.W.Frag} {D M fI : Addr} (B : clsB K fI M = true) (s : PySem.W.subIn K (.ref D) (.ref M) = some true) : PySem.W.exmOne K (.ref D) (.ref M) = some true := by
  simp only [clsB, Bool.and_eq_true, decide_eq_true_eq] at B
  obtain ⟨b1, b2, b3, b4, b5, b6, b7, b8, b9, b10, b11, b12, b13⟩ := B
  exact exm_of b2 b9 b3 s
theorem law_ok {P : Program} {w : World} {K : PySem.W.Frag} {h : Heap} {mg : Str → Option Value} {fa A H_ D_ M fI E0 E1 E2 E3 E4 E5 E6 E7 E8 E9 E10 E11 E12 E13 E14 E15 E16 E17 E18 E19 E20 E21 E22 E23 E24 E25 E26 E27 E28 E29 E30 E31 : Addr} (X : K.In h) (G : h.Ns mainGlobals mg) (hfa : mg "law" = some (.ref fa))
    (aA : PySem.W.nsIn K mainGlobals "Amount" = some (some (.ref A)))
    (aH_ : PySem.W.nsIn K mainGlobals "House" = some (some (.ref H_)))
    (aD_ : PySem.W.nsIn K mainGlobals "Draft" = some (some (.ref D_)))
    (aM : PySem.W.nsIn K mainGlobals "MeterError" = some (some (.ref M)))
    (aG : PySem.W.nsIn K mainGlobals "gcd" = some (some (.builtin "math.gcd")))
    (N : PySem.W.nsIn K mainGlobals "isinstance" = some none ∧ PySem.W.nsIn K mainGlobals "int" = some none ∧ PySem.W.nsIn K mainGlobals "bool" = some none ∧ PySem.W.nsIn K mainGlobals "len" = some none ∧ PySem.W.nsIn K mainGlobals "abs" = some none ∧ PySem.W.nsIn K mainGlobals "max" = some none ∧ PySem.W.nsIn K mainGlobals "min" = some none ∧ PySem.W.nsIn K mainGlobals "range" = some none ∧ PySem.W.nsIn K mainGlobals "all" = some none ∧ PySem.W.nsIn K mainGlobals "repr" = some none ∧ PySem.W.nsIn K mainGlobals "str" = some none ∧ PySem.W.nsIn K mainGlobals "any" = some none ∧ PySem.W.nsIn K mainGlobals "tuple" = some none ∧ PySem.W.nsIn K mainGlobals "sorted" = some none ∧ PySem.W.nsIn K mainGlobals "enumerate" = some none ∧ PySem.W.nsIn K mainGlobals "ValueError" = some none)
    (KA : FactK K A)
    (HA : FactH K A)
    (TA : FactT K A)
    (AA : PySem.W.findIn K (.ref A) "number" = some none ∧ PySem.W.findIn K (.ref A) "under" = some none)
    (FI : FactI K A)
    (BLOCK : FactInt K "BLOCK" (10 ^ 60))
    (KH_ : FactK K H_)
    (AH_ : PySem.W.findIn K (.ref H_) "_text" = some none ∧ PySem.W.findIn K (.ref H_) "days" = some none ∧ PySem.W.findIn K (.ref H_) "flats" = some none ∧ PySem.W.findIn K (.ref H_) "meters" = some none ∧ PySem.W.findIn K (.ref H_) "people" = some none ∧ PySem.W.findIn K (.ref H_) "_rooms" = some none ∧ PySem.W.findIn K (.ref H_) "_tenants" = some none ∧ PySem.W.findIn K (.ref H_) "_prices" = some none)
    (KD_ : FactK K D_)
    (AD_ : PySem.W.findIn K (.ref D_) "days" = some none ∧ PySem.W.findIn K (.ref D_) "places" = some none ∧ PySem.W.findIn K (.ref D_) "tariffs" = some none ∧ PySem.W.findIn K (.ref D_) "stays" = some none)
    (STAKEN : FactSeq K "TAKEN" ["main", "house", "rest"])
    (LETTERS : FactStr K "LETTERS" Hs.abc)
    (FIRSTP : FactInt K "FIRST_PRICE" 1)
    (NOBODY : FactStr K "NOBODY" "house")
    (m0 : FactM K D_ "__init__" "Draft.__init__" sDrInit)
    (m1 : FactM K D_ "take" "Draft.take" sDrTake)
    (m2 : FactM K D_ "take_days" "Draft.take_days" sDrDays)
    (m3 : FactM K D_ "take_place" "Draft.take_place" sDrPlace)
    (m4 : FactM K D_ "take_price" "Draft.take_price" sDrPrice)
    (m5 : FactM K D_ "take_stay" "Draft.take_stay" sDrStay)
    (m6 : FactM K D_ "has_place" "Draft.has_place" sDrHasP)
    (m7 : FactM K D_ "has_flat" "Draft.has_flat" sDrHasF)
    (m8 : FactM K D_ "is_let" "Draft.is_let" sDrIsLet)
    (m9 : FactM K H_ "__init__" "House.__init__" sHInit)
    (HH_ : FactH K H_)
    (TH_ : FactT K H_)
    (kAH : PySem.W.kitOne K (.ref A) (.ref H_) = some false)
    (XM : FactX K "MeterError" M)
    (EM : PySem.W.findIn K (.ref M) "__init__" = some (some (.ref fI)) ∧ FactEf K fI)
    (XE0 : FactX K "BadAmount" E0)
    (XE1 : FactX K "NoQuotient" E1)
    (XE2 : FactX K "BadText" E2)
    (XE3 : FactX K "BadHouse" E3)
    (XE4 : FactX K "NoFlat" E4)
    (XE5 : FactX K "BadDay" E5)
    (XE6 : FactX K "BadWeighing" E6)
    (XE7 : FactX K "OtherHouse" E7)
    (XE8 : FactX K "NoCell" E8)
    (XE9 : FactX K "BadUse" E9)
    (XE10 : FactX K "NoPerson" E10)
    (XE11 : FactX K "NoMeter" E11)
    (XE12 : FactX K "BadMorning" E12)
    (XE13 : FactX K "BadNumbers" E13)
    (XE14 : FactX K "NoNumber" E14)
    (XE15 : FactX K "BadNumber" E15)
    (XE16 : FactX K "BadPlaces" E16)
    (XE17 : FactX K "BadPaper" E17)
    (XE18 : FactX K "Contrary" E18)
    (XE19 : FactX K "TooMany" E19)
    (XE20 : FactX K "Back" E20)
    (XE21 : FactX K "NotYet" E21)
    (XE22 : FactX K "Past" E22)
    (XE23 : FactX K "Expected" E23)
    (XE24 : FactX K "NothingToUndo" E24)
    (XE25 : FactX K "NothingToRedo" E25)
    (XE26 : FactX K "BadJournal" E26)
    (XE27 : FactX K "BadRule" E27)
    (XE28 : FactX K "BadRun" E28)
    (XE29 : FactX K "BadReadings" E29)
    (XE30 : FactX K "BadOffers" E30)
    (XE31 : FactX K "BadLine" E31)
    (BM : clsB K fI M = true)
    (BE0 : oneB K M fI E0 = true)
    (BE1 : oneB K M fI E1 = true)
    (BE2 : oneB K M fI E2 = true)
    (BE3 : oneB K M fI E3 = true)
    (BE4 : oneB K M fI E4 = true)
    (BE5 : oneB K M fI E5 = true)
    (BE6 : oneB K M fI E6 = true)
    (BE7 : oneB K M fI E7 = true)
    (BE8 : oneB K M fI E8 = true)
    (BE9 : oneB K M fI E9 = true)
    (BE10 : oneB K M fI E10 = true)
    (BE11 : oneB K M fI E11 = true)
    (BE12 : oneB K M fI E12 = true)
    (BE13 : oneB K M fI E13 = true)
    (BE14 : oneB K M fI E14 = true)
    (BE15 : oneB K M fI E15 = true)
    (BE16 : oneB K M fI E16 = true)
    (BE17 : oneB K M fI E17 = true)
    (BE18 : oneB K M fI E18 = true)
    (BE19 : oneB K M fI E19 = true)
    (BE20 : oneB K M fI E20 = true)
    (BE21 : oneB K M fI E21 = true)
    (BE22 : oneB K M fI E22 = true)
    (BE23 : oneB K M fI E23 = true)
    (BE24 : oneB K M fI E24 = true)
    (BE25 : oneB K M fI E25 = true)
    (BE26 : oneB K M fI E26 = true)
    (BE27 : oneB K M fI E27 = true)
    (BE28 : oneB K M fI E28 = true)
    (BE29 : oneB K M fI E29 = true)
    (BE30 : oneB K M fI E30 = true)
    (BE31 : oneB K M fI E31 = true)
    (BR0 : rowB K [E0, E1, E2, E3, E4, E5, E6, E7, E8, E9, E10, E11, E12, E13, E14, E15, E16, E17, E18, E19, E20, E21, E22, E23, E24, E25, E26, E27, E28, E29, E30, E31] 0 = true)
    (BR1 : rowB K [E0, E1, E2, E3, E4, E5, E6, E7, E8, E9, E10, E11, E12, E13, E14, E15, E16, E17, E18, E19, E20, E21, E22, E23, E24, E25, E26, E27, E28, E29, E30, E31] 1 = true)
    (BR2 : rowB K [E0, E1, E2, E3, E4, E5, E6, E7, E8, E9, E10, E11, E12, E13, E14, E15, E16, E17, E18, E19, E20, E21, E22, E23, E24, E25, E26, E27, E28, E29, E30, E31] 2 = true)
    (BR3 : rowB K [E0, E1, E2, E3, E4, E5, E6, E7, E8, E9, E10, E11, E12, E13, E14, E15, E16, E17, E18, E19, E20, E21, E22, E23, E24, E25, E26, E27, E28, E29, E30, E31] 3 = true)
    (BR4 : rowB K [E0, E1, E2, E3, E4, E5, E6, E7, E8, E9, E10, E11, E12, E13, E14, E15, E16, E17, E18, E19, E20, E21, E22, E23, E24, E25, E26, E27, E28, E29, E30, E31] 4 = true)
    (BR5 : rowB K [E0, E1, E2, E3, E4, E5, E6, E7, E8, E9, E10, E11, E12, E13, E14, E15, E16, E17, E18, E19, E20, E21, E22, E23, E24, E25, E26, E27, E28, E29, E30, E31] 5 = true)
    (BR6 : rowB K [E0, E1, E2, E3, E4, E5, E6, E7, E8, E9, E10, E11, E12, E13, E14, E15, E16, E17, E18, E19, E20, E21, E22, E23, E24, E25, E26, E27, E28, E29, E30, E31] 6 = true)
    (BR7 : rowB K [E0, E1, E2, E3, E4, E5, E6, E7, E8, E9, E10, E11, E12, E13, E14, E15, E16, E17, E18, E19, E20, E21, E22, E23, E24, E25, E26, E27, E28, E29, E30, E31] 7 = true)
    (BR8 : rowB K [E0, E1, E2, E3, E4, E5, E6, E7, E8, E9, E10, E11, E12, E13, E14, E15, E16, E17, E18, E19, E20, E21, E22, E23, E24, E25, E26, E27, E28, E29, E30, E31] 8 = true)
    (BR9 : rowB K [E0, E1, E2, E3, E4, E5, E6, E7, E8, E9, E10, E11, E12, E13, E14, E15, E16, E17, E18, E19, E20, E21, E22, E23, E24, E25, E26, E27, E28, E29, E30, E31] 9 = true)
    (BR10 : rowB K [E0, E1, E2, E3, E4, E5, E6, E7, E8, E9, E10, E11, E12, E13, E14, E15, E16, E17, E18, E19, E20, E21, E22, E23, E24, E25, E26, E27, E28, E29, E30, E31] 10 = true)
    (BR11 : rowB K [E0, E1, E2, E3, E4, E5, E6, E7, E8, E9, E10, E11, E12, E13, E14, E15, E16, E17, E18, E19, E20, E21, E22, E23, E24, E25, E26, E27, E28, E29, E30, E31] 11 = true)
    (BR12 : rowB K [E0, E1, E2, E3, E4, E5, E6, E7, E8, E9, E10, E11, E12, E13, E14, E15, E16, E17, E18, E19, E20, E21, E22, E23, E24, E25, E26, E27, E28, E29, E30, E31] 12 = true)
    (BR13 : rowB K [E0, E1, E2, E3, E4, E5, E6, E7, E8, E9, E10, E11, E12, E13, E14, E15, E16, E17, E18, E19, E20, E21, E22, E23, E24, E25, E26, E27, E28, E29, E30, E31] 13 = true)
    (BR14 : rowB K [E0, E1, E2, E3, E4, E5, E6, E7, E8, E9, E10, E11, E12, E13, E14, E15, E16, E17, E18, E19, E20, E21, E22, E23, E24, E25, E26, E27, E28, E29, E30, E31] 14 = true)
    (BR15 : rowB K [E0, E1, E2, E3, E4, E5, E6, E7, E8, E9, E10, E11, E12, E13, E14, E15, E16, E17, E18, E19, E20, E21, E22, E23, E24, E25, E26, E27, E28, E29, E30, E31] 15 = true)
    (BR16 : rowB K [E0, E1, E2, E3, E4, E5, E6, E7, E8, E9, E10, E11, E12, E13, E14, E15, E16, E17, E18, E19, E20, E21, E22, E23, E24, E25, E26, E27, E28, E29, E30, E31] 16 = true)
    (BR17 : rowB K [E0, E1, E2, E3, E4, E5, E6, E7, E8, E9, E10, E11, E12, E13, E14, E15, E16, E17, E18, E19, E20, E21, E22, E23, E24, E25, E26, E27, E28, E29, E30, E31] 17 = true)
    (BR18 : rowB K [E0, E1, E2, E3, E4, E5, E6, E7, E8, E9, E10, E11, E12, E13, E14, E15, E16, E17, E18, E19, E20, E21, E22, E23, E24, E25, E26, E27, E28, E29, E30, E31] 18 = true)
    (BR19 : rowB K [E0, E1, E2, E3, E4, E5, E6, E7, E8, E9, E10, E11, E12, E13, E14, E15, E16, E17, E18, E19, E20, E21, E22, E23, E24, E25, E26, E27, E28, E29, E30, E31] 19 = true)
    (BR20 : rowB K [E0, E1, E2, E3, E4, E5, E6, E7, E8, E9, E10, E11, E12, E13, E14, E15, E16, E17, E18, E19, E20, E21, E22, E23, E24, E25, E26, E27, E28, E29, E30, E31] 20 = true)
    (BR21 : rowB K [E0, E1, E2, E3, E4, E5, E6, E7, E8, E9, E10, E11, E12, E13, E14, E15, E16, E17, E18, E19, E20, E21, E22, E23, E24, E25, E26, E27, E28, E29, E30, E31] 21 = true)
    (BR22 : rowB K [E0, E1, E2, E3, E4, E5, E6, E7, E8, E9, E10, E11, E12, E13, E14, E15, E16, E17, E18, E19, E20, E21, E22, E23, E24, E25, E26, E27, E28, E29, E30, E31] 22 = true)
    (BR23 : rowB K [E0, E1, E2, E3, E4, E5, E6, E7, E8, E9, E10, E11, E12, E13, E14, E15, E16, E17, E18, E19, E20, E21, E22, E23, E24, E25, E26, E27, E28, E29, E30, E31] 23 = true)
    (BR24 : rowB K [E0, E1, E2, E3, E4, E5, E6, E7, E8, E9, E10, E11, E12, E13, E14, E15, E16, E17, E18, E19, E20, E21, E22, E23, E24, E25, E26, E27, E28, E29, E30, E31] 24 = true)
    (BR25 : rowB K [E0, E1, E2, E3, E4, E5, E6, E7, E8, E9, E10, E11, E12, E13, E14, E15, E16, E17, E18, E19, E20, E21, E22, E23, E24, E25, E26, E27, E28, E29, E30, E31] 25 = true)
    (BR26 : rowB K [E0, E1, E2, E3, E4, E5, E6, E7, E8, E9, E10, E11, E12, E13, E14, E15, E16, E17, E18, E19, E20, E21, E22, E23, E24, E25, E26, E27, E28, E29, E30, E31] 26 = true)
    (BR27 : rowB K [E0, E1, E2, E3, E4, E5, E6, E7, E8, E9, E10, E11, E12, E13, E14, E15, E16, E17, E18, E19, E20, E21, E22, E23, E24, E25, E26, E27, E28, E29, E30, E31] 27 = true)
    (BR28 : rowB K [E0, E1, E2, E3, E4, E5, E6, E7, E8, E9, E10, E11, E12, E13, E14, E15, E16, E17, E18, E19, E20, E21, E22, E23, E24, E25, E26, E27, E28, E29, E30, E31] 28 = true)
    (BR29 : rowB K [E0, E1, E2, E3, E4, E5, E6, E7, E8, E9, E10, E11, E12, E13, E14, E15, E16, E17, E18, E19, E20, E21, E22, E23, E24, E25, E26, E27, E28, E29, E30, E31] 29 = true)
    (BR30 : rowB K [E0, E1, E2, E3, E4, E5, E6, E7, E8, E9, E10, E11, E12, E13, E14, E15, E16, E17, E18, E19, E20, E21, E22, E23, E24, E25, E26, E27, E28, E29, E30, E31] 30 = true)
    (BR31 : rowB K [E0, E1, E2, E3, E4, E5, E6, E7, E8, E9, E10, E11, E12, E13, E14, E15, E16, E17, E18, E19, E20, E21, E22, E23, E24, E25, E26, E27, E28, E29, E30, E31] 31 = true)
    (f0 : FactF K "is_whole" sWhole)
    (f1 : FactF K "is_name" sIsName)
    (f2 : FactF K "decimal" sDec)
    (f3 : FactF K "ascending" sAsc)
    (f4 : FactF K "drafted" sDrafted)
    (f5 : FactF K "tenants" sTenants)
    (f6 : FactF K "prices" sPricesOf)
    (f7 : FactF K "figures" sFig)
    (f8 : FactF K "_law_jar" sJar)
    (f9 : FactF K "_law_take" sTake)
    (f10 : FactF K "_law_of" sOf)
    (f11 : FactF K "_law_odd" sL_odd)
    (f12 : FactF K "_law_kinds_of" sL_kinds_of)
    (f13 : FactF K "_law_created" sL_created)
    (f14 : FactF K "_law_is_raised" sL_is_raised)
    (f15 : FactF K "_law_fine" sL_fine)
    (f16 : FactF K "law" sLaw)
    (m10 : FactM K A "__repr__" "Amount.__repr__" sRep)
    (m11 : FactM K H_ "__eq__" "House.__eq__" sHEq) :
    ∃ fd : FuncData, (∀ (s : Shared) (u : Value), BindsTo s fd ⟨[u], []⟩ [("_law_script", u)]) ∧ ∀ base : Heap, K.In base → base.Ns mainGlobals mg → Gu.FnG P w K mg base CX0 17 fa fd ["_law_script"] (spLaw K) := by
  obtain ⟨n_isinstance, n_int, n_bool, n_len, n_abs, n_max, n_min, n_range, n_all, n_repr, n_str, n_any, n_tuple, n_sorted, n_enumerate, n_ValueError⟩ := N
  have none_of : ∀ {x : Str}, PySem.W.nsIn K mainGlobals x = some none → mg x = none := fun e => PySem.W.mg_none_of X G e
  have T : Nm mg := ⟨none_of n_len, none_of n_abs, none_of n_int, none_of n_max, none_of n_min, none_of n_range, none_of n_all, none_of n_repr, none_of n_isinstance⟩
  obtain ⟨nN, nU⟩ := AA
  have cl : Cls K A := ⟨KA.pg, KA.hd, KA.po, KA.sa⟩
  have op : OpC K A := ⟨HA.sf, HA.ne, HA.ob, TA.s1, TA.s2, TA.s3, TA.s4, TA.s5, TA.s6, TA.s7, TA.r1, TA.r2, TA.r3, TA.r4, TA.r5, TA.r6, TA.r7⟩
  have mA := PySem.W.mg_of X G aA
  have TxA : Txt K mg A := ⟨cl, op, HA.ca, HA.cn, HA.ct, TA.kC, TA.kI, TA.k1, TA.k2, TA.k3, TA.k4, TA.k5, TA.k6, TA.k7, nN, nU, mA, none_of n_isinstance, none_of n_int, none_of n_bool, PySem.W.mg_of X G aG⟩
  have mB : ∃ t, mg "BLOCK" = some (.int (10 ^ 60) t) := by
    obtain ⟨i, t, a, e⟩ := BLOCK.get X G
    exact ⟨t, e ▸ a⟩
  obtain ⟨hh1, hh2, hh3, hh4, hh5, hh6, hh7, hh8⟩ := AH_
  have ho : Hs.HoC K H_ := ⟨⟨KH_.pg, KH_.hd, KH_.po, KH_.sa⟩, hh1, hh2, hh3, hh4, hh5, hh6, hh7, hh8⟩
  obtain ⟨hd1, hd2, hd3, hd4⟩ := AD_
  have dc : Hs.DC K D_ := ⟨⟨KD_.pg, KD_.hd, KD_.po, KD_.sa⟩, hd1, hd2, hd3, hd4⟩
  have wd : Hs.Wd K mg := ⟨STAKEN.get X G, LETTERS.get X G⟩
  have mF := FIRSTP.get X G
  have mN := NOBODY.get X G
  obtain ⟨p0, q0, M0, h0, i0, e0⟩ := m0.meth
  have c0 := M0.binds (ps := ["self"]) fun _ _ _ _ _ _ us hl => match us, hl with | [_], _ => rfl
  obtain ⟨p1, q1, M1, h1, i1, e1⟩ := m1.meth
  have c1 := M1.binds (ps := ["self", "line"]) fun _ _ _ _ _ _ us hl => match us, hl with | [_, _], _ => rfl
  obtain ⟨p2, q2, M2, h2, i2, e2⟩ := m2.meth
  have c2 := M2.binds (ps := ["self", "words"]) fun _ _ _ _ _ _ us hl => match us, hl with | [_, _], _ => rfl
  obtain ⟨p3, q3, M3, h3, i3, e3⟩ := m3.meth
  have c3 := M3.binds (ps := ["self", "words", "inner"]) fun _ _ _ _ _ _ us hl => match us, hl with | [_, _, _], _ => rfl
  obtain ⟨p4, q4, M4, h4, i4, e4⟩ := m4.meth
  have c4 := M4.binds (ps := ["self", "words"]) fun _ _ _ _ _ _ us hl => match us, hl with | [_, _], _ => rfl
  obtain ⟨p5, q5, M5, h5, i5, e5⟩ := m5.meth
  have c5 := M5.binds (ps := ["self", "words"]) fun _ _ _ _ _ _ us hl => match us, hl with | [_, _], _ => rfl
  obtain ⟨p6, q6, M6, h6, i6, e6⟩ := m6.meth
  have c6 := M6.binds (ps := ["self", "name"]) fun _ _ _ _ _ _ us hl => match us, hl with | [_, _], _ => rfl
  obtain ⟨p7, q7, M7, h7, i7, e7⟩ := m7.meth
  have c7 := M7.binds (ps := ["self"]) fun _ _ _ _ _ _ us hl => match us, hl with | [_], _ => rfl
  obtain ⟨p8, q8, M8, h8, i8, e8⟩ := m8.meth
  have c8 := M8.binds (ps := ["self", "name", "first", "behind"]) fun _ _ _ _ _ _ us hl => match us, hl with | [_, _, _, _], _ => rfl
  obtain ⟨p9, q9, M9, h9, i9, e9⟩ := m9.meth
  have c9 := M9.binds (ps := ["self", "text"]) fun _ _ _ _ _ _ us hl => match us, hl with | [_, _], _ => rfl
  have opH : OpC K H_ := ⟨HH_.sf, HH_.ne, HH_.ob, TH_.s1, TH_.s2, TH_.s3, TH_.s4, TH_.s5, TH_.s6, TH_.s7, TH_.r1, TH_.r2, TH_.r3, TH_.r4, TH_.r5, TH_.r6, TH_.r7⟩
  have TxH_ : TxH K mg H_ A := ⟨ho, opH, HH_.ca, HA.cn, HA.ct, TH_.kC, kAH, TH_.k1, TH_.k2, TH_.k3, TH_.k4, TH_.k5, TH_.k6, TH_.k7, PySem.W.mg_of X G aH_⟩
  obtain ⟨a0, d0, F0, g0, k0_⟩ := f0.fun X G
  have b0 := F0.binds (ps := ["value"]) fun _ _ _ _ _ _ us hl => match us, hl with | [_], _ => rfl
  obtain ⟨a1, d1, F1, g1, k1_⟩ := f1.fun X G
  have b1 := F1.binds (ps := ["value"]) fun _ _ _ _ _ _ us hl => match us, hl with | [_], _ => rfl
  obtain ⟨a2, d2, F2, g2, k2_⟩ := f2.fun X G
  have b2 := F2.binds (ps := ["word"]) fun _ _ _ _ _ _ us hl => match us, hl with | [_], _ => rfl
  obtain ⟨a3, d3, F3, g3, k3_⟩ := f3.fun X G
  have b3 := F3.binds (ps := ["words"]) fun _ _ _ _ _ _ us hl => match us, hl with | [_], _ => rfl
  obtain ⟨a4, d4, F4, g4, k4_⟩ := f4.fun X G
  have b4 := F4.binds (ps := ["text"]) fun _ _ _ _ _ _ us hl => match us, hl with | [_], _ => rfl
  obtain ⟨a5, d5, F5, g5, k5_⟩ := f5.fun X G
  have b5 := F5.binds (ps := ["name", "draft"]) fun _ _ _ _ _ _ us hl => match us, hl with | [_, _], _ => rfl
  obtain ⟨a6, d6, F6, g6, k6_⟩ := f6.fun X G
  have b6 := F6.binds (ps := ["draft"]) fun _ _ _ _ _ _ us hl => match us, hl with | [_], _ => rfl
  obtain ⟨a7, d7, F7, g7, k7_⟩ := f7.fun X G
  have b7 := F7.binds (ps := ["number"]) fun _ _ _ _ _ _ us hl => match us, hl with | [_], _ => rfl
  obtain ⟨a8, d8, F8, g8, k8_⟩ := f8.fun X G
  have b8 := F8.binds (ps := ["_law_script", "_law_k"]) fun _ _ _ _ _ _ us hl => match us, hl with | [_, _], _ => rfl
  obtain ⟨a9, d9, F9, g9, k9_⟩ := f9.fun X G
  have b9 := F9.binds (ps := ["_law_jar_here", "_law_upto"]) fun _ _ _ _ _ _ us hl => match us, hl with | [_, _], _ => rfl
  obtain ⟨a10, d10, F10, g10, k10_⟩ := f10.fun X G
  have b10 := F10.binds (ps := ["_law_jar_here", "_law_some"]) fun _ _ _ _ _ _ us hl => match us, hl with | [_, _], _ => rfl
  obtain ⟨a11, d11, F11, g11, k11_⟩ := f11.fun X G
  have b11 := F11.binds (ps := ["_law_jar_here"]) fun _ _ _ _ _ _ us hl => match us, hl with | [_], _ => rfl
  obtain ⟨a12, d12, F12, g12, k12_⟩ := f12.fun X G
  have b12 := F12.binds (ps := ["_law_error"]) fun _ _ _ _ _ _ us hl => match us, hl with | [_], _ => rfl
  obtain ⟨a13, d13, F13, g13, k13_⟩ := f13.fun X G
  have b13 := F13.binds (ps := ["_law_value"]) fun _ _ _ _ _ _ us hl => match us, hl with | [_], _ => rfl
  obtain ⟨a14, d14, F14, g14, k14_⟩ := f14.fun X G
  have b14 := F14.binds (ps := ["_law_value"]) fun _ _ _ _ _ _ us hl => match us, hl with | [_], _ => rfl
  obtain ⟨a15, d15, F15, g15, k15_⟩ := f15.fun X G
  have b15 := F15.binds (ps := ["_law_jar_here"]) fun _ _ _ _ _ _ us hl => match us, hl with | [_], _ => rfl
  obtain ⟨a16, d16, F16, g16, k16_⟩ := f16.fun X G
  have b16 := F16.binds (ps := ["_law_script"]) fun _ _ _ _ _ _ us hl => match us, hl with | [_], _ => rfl
  obtain ⟨p10, q10, M10, h10, i10, e10⟩ := m10.meth
  have c10 := M10.binds (ps := ["self"]) fun _ _ _ _ _ _ us hl => match us, hl with | [_], _ => rfl
  obtain ⟨p11, q11, M11, h11, i11, e11⟩ := m11.meth
  have c11 := M11.binds (ps := ["self", "other"]) fun _ _ _ _ _ _ us hl => match us, hl with | [_, _], _ => rfl
  have e := hfa.symm.trans g16
  cases e
  refine ⟨d16, fun s u => ?_, fun base _ hbase => ?_⟩
  · obtain ⟨oc, od, kV, doc, pm, an, cdv, ct, osl, rfl, lk, hcd⟩ := F16.ex
    exact .of_eq rfl
  obtain ⟨_, EM⟩ := EM
  have one : ∀ {D : Addr}, oneB K M fI D = true → clsB K fI D = true ∧ PySem.W.subIn K (.ref D) (.ref M) = some true ∧ PySem.W.kitOne K (.ref D) (.ref M) = some true ∧ PySem.W.kitOne K (.ref D) (.type "ValueError") = some true ∧ PySem.W.kitOne K (.ref M) (.ref D) = some false := fun h => by
    simpa only [oneB, Bool.and_eq_true, decide_eq_true_eq] using h
  have all_ : ∀ i, i < 32 → oneB K M fI (clL [E0, E1, E2, E3, E4, E5, E6, E7, E8, E9, E10, E11, E12, E13, E14, E15, E16, E17, E18, E19, E20, E21, E22, E23, E24, E25, E26, E27, E28, E29, E30, E31] i) = true := by
    intro i hi
    match i, hi with
    | 0, _ => exact BE0
    | 1, _ => exact BE1
    | 2, _ => exact BE2
    | 3, _ => exact BE3
    | 4, _ => exact BE4
    | 5, _ => exact BE5
    | 6, _ => exact BE6
    | 7, _ => exact BE7
    | 8, _ => exact BE8
    | 9, _ => exact BE9
    | 10, _ => exact BE10
    | 11, _ => exact BE11
    | 12, _ => exact BE12
    | 13, _ => exact BE13
    | 14, _ => exact BE14
    | 15, _ => exact BE15
    | 16, _ => exact BE16
    | 17, _ => exact BE17
    | 18, _ => exact BE18
    | 19, _ => exact BE19
    | 20, _ => exact BE20
    | 21, _ => exact BE21
    | 22, _ => exact BE22
    | 23, _ => exact BE23
    | 24, _ => exact BE24
    | 25, _ => exact BE25
    | 26, _ => exact BE26
    | 27, _ => exact BE27
    | 28, _ => exact BE28
    | 29, _ => exact BE29
    | 30, _ => exact BE30
    | 31, _ => exact BE31
    | n + 32, h => omega
  have rows : ∀ i, i < 32 → rowB K [E0, E1, E2, E3, E4, E5, E6, E7, E8, E9, E10, E11, E12, E13, E14, E15, E16, E17, E18, E19, E20, E21, E22, E23, E24, E25, E26, E27, E28, E29, E30, E31] i = true := by
    intro i hi
    match i, hi with
    | 0, _ => exact BR0
    | 1, _ => exact BR1
    | 2, _ => exact BR2
    | 3, _ => exact BR3
    | 4, _ => exact BR4
    | 5, _ => exact BR5
    | 6, _ => exact BR6
    | 7, _ => exact BR7
    | 8, _ => exact BR8
    | 9, _ => exact BR9
    | 10, _ => exact BR10
    | 11, _ => exact BR11
    | 12, _ => exact BR12
    | 13, _ => exact BR13
    | 14, _ => exact BR14
    | 15, _ => exact BR15
    | 16, _ => exact BR16
    | 17, _ => exact BR17
    | 18, _ => exact BR18
    | 19, _ => exact BR19
    | 20, _ => exact BR20
    | 21, _ => exact BR21
    | 22, _ => exact BR22
    | 23, _ => exact BR23
    | 24, _ => exact BR24
    | 25, _ => exact BR25
    | 26, _ => exact BR26
    | 27, _ => exact BR27
    | 28, _ => exact BR28
    | 29, _ => exact BR29
    | 30, _ => exact BR30
    | 31, _ => exact BR31
    | n + 32, h => omega
  have TE : Ecl K mg (clL [E0, E1, E2, E3, E4, E5, E6, E7, E8, E9, E10, E11, E12, E13, E14, E15, E16, E17, E18, E19, E20, E21, E22, E23, E24, E25, E26, E27, E28, E29, E30, E31]) M fI := by
    refine ⟨?_, fun i hi => errv_mk HA.cn HA.ct (one (all_ i hi)).1, fun i hi j hj => ?_, fun i hi => (one (all_ i hi)).2.2.1, fun i hi => (one (all_ i hi)).2.2.2.1, fun i hi => exm_mk BM (one (all_ i hi)).2.1, err_mk X G XM BM EM, errv_mk HA.cn HA.ct BM, fun j hj => (one (all_ j hj)).2.2.2.2⟩
    · intro n hn
      simp only [nsE, List.mem_cons, List.not_mem_nil, or_false] at hn
      rcases hn with rfl | rfl | rfl | rfl | rfl | rfl | rfl | rfl | rfl | rfl | rfl | rfl | rfl | rfl | rfl | rfl | rfl | rfl | rfl | rfl | rfl | rfl | rfl | rfl | rfl | rfl | rfl | rfl | rfl | rfl | rfl | rfl
      · exact err_mk X G XE0 (one BE0).1 EM
      · exact err_mk X G XE1 (one BE1).1 EM
      · exact err_mk X G XE2 (one BE2).1 EM
      · exact err_mk X G XE3 (one BE3).1 EM
      · exact err_mk X G XE4 (one BE4).1 EM
      · exact err_mk X G XE5 (one BE5).1 EM
      · exact err_mk X G XE6 (one BE6).1 EM
      · exact err_mk X G XE7 (one BE7).1 EM
      · exact err_mk X G XE8 (one BE8).1 EM
      · exact err_mk X G XE9 (one BE9).1 EM
      · exact err_mk X G XE10 (one BE10).1 EM
      · exact err_mk X G XE11 (one BE11).1 EM
      · exact err_mk X G XE12 (one BE12).1 EM
      · exact err_mk X G XE13 (one BE13).1 EM
      · exact err_mk X G XE14 (one BE14).1 EM
      · exact err_mk X G XE15 (one BE15).1 EM
      · exact err_mk X G XE16 (one BE16).1 EM
      · exact err_mk X G XE17 (one BE17).1 EM
      · exact err_mk X G XE18 (one BE18).1 EM
      · exact err_mk X G XE19 (one BE19).1 EM
      · exact err_mk X G XE20 (one BE20).1 EM
      · exact err_mk X G XE21 (one BE21).1 EM
      · exact err_mk X G XE22 (one BE22).1 EM
      · exact err_mk X G XE23 (one BE23).1 EM
      · exact err_mk X G XE24 (one BE24).1 EM
      · exact err_mk X G XE25 (one BE25).1 EM
      · exact err_mk X G XE26 (one BE26).1 EM
      · exact err_mk X G XE27 (one BE27).1 EM
      · exact err_mk X G XE28 (one BE28).1 EM
      · exact err_mk X G XE29 (one BE29).1 EM
      · exact err_mk X G XE30 (one BE30).1 EM
      · exact err_mk X G XE31 (one BE31).1 EM
    · have r := rows i hi
      unfold rowB at r
      rw [List.all_eq_true] at r
      exact of_decide_eq_true (r j (List.mem_range.mpr hj))
  obtain ⟨oc, od, kV, dc_, pm, an, cd, ct, sl, y2, y3, y4, y5⟩ := EM
  have FE := fun_mk y3 y4 y5
  have FEr : FnOk P w K mg base CX0 1 fI _ ["self", "value"] (spInitE K) := ok_initE FE
  have bE := FE.binds (ps := ["self", "value"]) fun _ _ _ _ _ _ us hl => match us, hl with | [_, _], _ => rfl
  have GWh : GotF P w K mg base "is_whole" 1 ["value"] (spWhole A) := ⟨a0, d0, ok_whole F0 TxA, b0, g0, k0_⟩
  have GI : GotI P w K mg base A := gotI FI TxA KA.mkk KA.kc GWh
  have GDe : GotF P w K mg base "decimal" 1 ["word"] spDec := ⟨a2, d2, ok_dec F2 (none_of n_int), b2, g2, k2_⟩
  have GNa : GotF P w K mg base "is_name" 1 ["value"] Hs.spIsName := ⟨a1, d1, Hs.ok_isName F1 wd T (none_of n_str), b1, g1, k1_⟩
  have GhP : Hs.GotD P w K mg base D_ "has_place" 1 ["self", "name"] (Hs.spHasP D_) := ⟨p6, q6, Hs.ok_hasP M6 dc (none_of n_any), c6, e6⟩
  have GhF : Hs.GotD P w K mg base D_ "has_flat" 1 ["self"] (Hs.spHasF D_) := ⟨p7, q7, Hs.ok_hasF M7 dc (none_of n_any), c7, e7⟩
  have GiL : Hs.GotD P w K mg base D_ "is_let" 1 ["self", "name", "first", "behind"] (Hs.spIsLet D_) := ⟨p8, q8, Hs.ok_isLet M8 dc (none_of n_any), c8, e8⟩
  have Gtd : Hs.GotD P w K mg base D_ "take_days" 2 ["self", "words"] (Hs.spDays D_) := ⟨p2, q2, Hs.ok_days M2 dc T GDe, c2, e2⟩
  have Gtp : Hs.GotD P w K mg base D_ "take_place" 2 ["self", "words", "inner"] (Hs.spPlace D_) := ⟨p3, q3, Hs.ok_place M3 dc T GDe GNa GhP GhF, c3, e3⟩
  have Gtr : Hs.GotD P w K mg base D_ "take_price" 2 ["self", "words"] (Hs.spPrice D_) := ⟨p4, q4, Hs.ok_price M4 dc T GDe GhF, c4, e4⟩
  have Gts : Hs.GotD P w K mg base D_ "take_stay" 2 ["self", "words"] (Hs.spStay D_) := ⟨p5, q5, Hs.ok_stay M5 dc T GDe GNa GhP GhF GiL, c5, e5⟩
  have Gtk : Hs.GotD P w K mg base D_ "take" 3 ["self", "line"] (Hs.spTake D_) := ⟨p1, q1, Hs.ok_take M1 dc Gtd Gtp Gtr Gts, c1, e1⟩
  have MD : Mk K D_ p0 := ⟨KD_.mkk, h0, i0, KD_.kc⟩
  have GDf : GotF P w K mg base "drafted" 4 ["text"] (Hs.spDrafted D_) := ⟨a4, d4, Hs.ok_drafted F4 dc T (none_of n_str) (none_of n_enumerate) MD (Hs.ok_drInit M0 dc) c0 (PySem.W.mg_of X G aD_) Gtk GhF, b4, g4, k4_⟩
  have GAs : GotF P w K mg base "ascending" 1 ["words"] Hs.spAsc := ⟨a3, d3, Hs.ok_asc F3 (none_of n_tuple) (none_of n_sorted) (none_of n_str), b3, g3, k3_⟩
  have GTe : GotF P w K mg base "tenants" 1 ["name", "draft"] (Hs.spTen D_) := ⟨a5, d5, Hs.ok_tenants F5 dc T (none_of n_tuple) mN, b5, g5, k5_⟩
  have GPr : GotF P w K mg base "prices" 1 ["draft"] (Hs.spPri D_) := ⟨a6, d6, Hs.ok_prices F6 dc T (none_of n_tuple) mF, b6, g6, k6_⟩
  have GHi : ∃ (f : Addr) (fd : FuncData), FnOk P w K mg base CX0 5 f fd ["self", "text"] (Hs.spHInit H_) ∧ Binds K fd ["self", "text"] [] ∧ Mk K H_ f := ⟨p9, q9, Hs.ok_hInit M9 ho dc T (none_of n_tuple) mN GDf GAs GTe GPr, c9, ⟨KH_.mkk, h9, i9, KH_.kc⟩⟩
  have GFg : GotF P w K mg base "figures" 1 ["number"] spFig := ⟨a7, d7, ok_fig F7 (none_of n_abs) mB, b7, g7, k7_⟩
  have GRp : GotM P w K mg base A "__repr__" 2 ["self"] (Rt.spRep (RA A)) := ⟨p10, q10, ok_rep M10 TxA GFg, c10, h10, i10⟩
  have GEq : GotM P w K mg base H_ "__eq__" 1 ["self", "other"] (spHEq H_ A) := ⟨p11, q11, ok_hEq M11 TxH_ TxA (none_of n_isinstance), c11, h11, i11⟩
  have GJ : GotF P w K mg base "_law_jar" 1 ["_law_script", "_law_k"] (spJar K) := ⟨a8, d8, ok_jar F8 T, b8, g8, k8_⟩
  have GT : GotF P w K mg base "_law_take" 1 ["_law_jar_here", "_law_upto"] Am.spTake := ⟨a9, d9, Am.ok_take F9 T, b9, g9, k9_⟩
  have GO : GotF P w K mg base "_law_of" 2 ["_law_jar_here", "_law_some"] spOf := ⟨a10, d10, ok_of F10 T GT, b10, g10, k10_⟩
  have GOd : GotF P w K mg base "_law_odd" 4 ["_law_jar_here"] (spOddV A) := ⟨a11, d11, ok_oddV F11 mA GI GO, b11, g11, k11_⟩
  have GK : GotF P w K mg base "_law_kinds_of" 1 ["_law_error"] (spKinds K (clL [E0, E1, E2, E3, E4, E5, E6, E7, E8, E9, E10, E11, E12, E13, E14, E15, E16, E17, E18, E19, E20, E21, E22, E23, E24, E25, E26, E27, E28, E29, E30, E31])) := ⟨a12, d12, ok_kinds F12 TE (none_of n_isinstance), b12, g12, k12_⟩
  have GC : GotF P w K mg base "_law_created" 3 ["_law_value"] (spCreated (clL [E0, E1, E2, E3, E4, E5, E6, E7, E8, E9, E10, E11, E12, E13, E14, E15, E16, E17, E18, E19, E20, E21, E22, E23, E24, E25, E26, E27, E28, E29, E30, E31])) := ⟨a13, d13, ok_created F13 TE FEr bE, b13, g13, k13_⟩
  have GRa : GotG P w K mg base "_law_is_raised" 15 ["_law_value"] (spRaised A) := ⟨a14, d14, ok_raised F14 TE FEr bE (none_of n_isinstance) (none_of n_repr) GRp, b14, g14, k14_⟩
  have GFi : GotG P w K mg base "_law_fine" 16 ["_law_jar_here"] spFine := ⟨a15, d15, ok_fine F15 T TE FEr bE (none_of n_enumerate) (none_of n_ValueError) mA (PySem.W.mg_of X G aH_) opH GI GHi GEq GRp GOd GO GK GC GRa, b15, g15, k15_⟩
  exact ok_law F16 T GJ GFi
end Er
namespace Hk
open PySem PySem.Spec PyProof.Rows L2
/-- the end of a law's row, from a promise of that kind, over a part that the Hook found -/
theorem walkGE {l : PySem.W.OpenLaw} {n k : Nat} {q : Program} {loose : List Str} {XP : (Str → Option Value) → Heap → Prop} {YP : World → Heap → Prop} {d : DefRec} {sp : PySem.W.Frag → Sp} {x : Str}
    (most : l.most = some n) (small : n ≤ sizeLine) (nodef : d.params.defaults = []) (room : Room k callerA)
    (F : ∀ (w : World) (mg : Str → Option Value) (fa : Addr) (h : Heap), YP w h → h.Ns mainGlobals mg → mg d.name = some (.ref fa) →
      ∃ (K : PySem.W.Frag) (fd : FuncData), K.In h ∧ (∀ (s : Shared) (u : Value), BindsTo s fd ⟨[u], []⟩ [(x, u)]) ∧ ∀ base : Heap, K.In base → base.Ns mainGlobals mg → Gu.FnG l.prog w K mg base CX0 k fa fd [x] (sp K))
    (want : ∀ (K : PySem.W.Frag) (H : Hp) (a : Addr) (ns : List Int), ns.length ≤ n → SqL K H a (ns.map V.int) → sp K [.ref a] H (fun v _ => v = .bl true) fun _ _ _ => False) :
    PySem.W.WalkO q loose XP YP l.row.toRowW d [] (fun f vs => PySem.call f vs) := by
  refine Att.attach_call most nodef fun w s₀ s mg mb fa o pm cd doc a vs ns G Y ho hd hcd hmg script hints len gens => ?_
  obtain ⟨K, fd, kin, bind, hF⟩ := F w mg fa _ Y G.T.g hmg
  have rel : Vals (ns.map V.int) vs := vals_ints hints
  have small' : (ns.map V.int).length ≤ sizeLine := by rw [List.length_map]; exact Nat.le_trans len small
  have small2 : vs.toArray.size ≤ sizeLine := by rw [List.size_toArray, ← rel.length]; exact small'
  cases known : K.lookup a with
  | some o' =>
    have e := kin a o' known
    rw [script] at e
    cases e
    refine Gu.from_caller (ns := ns) (H := fun _ => none) kin G.T.g G.T.b G.T.builtins G.T.nolimit gens script room hF bind (by intro b u z; cases z) (by intro b u z; cases z) (fun z => (z rfl).elim) ?_
    exact want _ _ a ns len (.inr ⟨_, vs.toArray, _, known, rfl, rfl, rfl, small2, by simpa using rel⟩)
  | none =>
    refine Gu.from_caller (ns := ns) (H := upd (fun _ => none) a (.frz (Gu.scr vs) (.lst (ns.map V.int)))) kin G.T.g G.T.b G.T.builtins G.T.nolimit gens script room hF bind ?_ ?_ (fun _ => known) ?_
    · intro b u z
      by_cases c : b = a
      · subst c
        rw [upd_same] at z
        exact ⟨rfl, (Option.some.inj z).symm⟩
      · rw [upd_ne c] at z
        cases z
    · intro b u z
      by_cases c : b = a
      · subst c
        rw [upd_same] at z
        cases z
        exact ⟨script, small', vs, _, rel, script⟩
      · rw [upd_ne c] at z
        cases z
    · exact want _ _ a ns len (.inl (.inr ⟨_, upd_same⟩))
end Hk
/-! the facts of the row's head, as Bools of a part of the heap -/
namespace Er
open PySem PySem.Spec PyProof.Rows L2 Am Hs Ev Us
theorem factF {K : PySem.W.Frag} {x : Str} {st : Stmt} (g : PySem.W.nsIn K mainGlobals x = some (some (.ref (He.ga K x)))) {fd : FuncData} (F : FunD K x x (defArgs st) (defBody st) (defScope st) [] [] (He.ga K x) fd) : FactF K x st := by
  obtain ⟨⟨oc, od, dV, kV, doc, pm, an, cdv, ct, osl, rfl, l, c, d, _⟩, kp⟩ := F
  rcases d with ⟨_, rfl⟩ | ⟨ne, _⟩
  · exact ⟨_, oc, od, kV, doc, pm, an, cdv, ct, osl, g, l, c, kp⟩
  · exact absurd rfl ne
theorem factM {K : PySem.W.Frag} {C : Addr} {x q : Str} {st : Stmt} {f : Addr} (a : PySem.W.findIn K (.ref C) x = some (some (.ref f))) (i : PySem.W.isFn K (.ref f) = true) {fd : FuncData} (F : FunD K x q (defArgs st) (defBody st) (defScope st) [] [] f fd) : FactM K C x q st := by
  obtain ⟨⟨oc, od, dV, kV, doc, pm, an, cdv, ct, osl, rfl, l, c, d, _⟩, kp⟩ := F
  rcases d with ⟨_, rfl⟩ | ⟨ne, _⟩
  · exact ⟨_, oc, od, kV, doc, pm, an, cdv, ct, osl, a, i, l, c, kp⟩
  · exact absurd rfl ne
theorem factI {K : PySem.W.Frag} {C : Addr} {f : Addr} (a : PySem.W.findIn K (.ref C) "__init__" = some (some (.ref f))) (i : PySem.W.isFn K (.ref f) = true) {fd : FuncData} (F : FunD K "__init__" "Amount.__init__" (defArgs sInit) (defBody sInit) (defScope sInit) [V.int 1] [] f fd) : FactI K C := by
  obtain ⟨⟨oc, od, dV, kV, doc, pm, an, cdv, ct, osl, rfl, l, c, d, _⟩, kp⟩ := F
  rcases d with ⟨ne, _⟩ | ⟨_, T, o, its, n, rfl, hT, hd, hv⟩
  · cases ne
  · cases hv with
    | cons r0 r =>
      cases r
      obtain ⟨t, rfl⟩ := r0
      exact ⟨f, T, oc, od, kV, doc, pm, an, cdv, ct, osl, o, n, t, a, i, l, c, kp, hT, hd⟩
theorem factEf {K : PySem.W.Frag} {f : Addr} (i : PySem.W.typeIn K (.ref f) = some (.type "function")) {fd : FuncData} (F : FunD K "__init__" "MeterError.__init__" (defArgs sInitE) (defBody sInitE) (defScope sInitE) [] [] f fd) : FactEf K f := by
  obtain ⟨⟨oc, od, dV, kV, doc, pm, an, cdv, ct, osl, rfl, l, c, d, _⟩, kp⟩ := F
  rcases d with ⟨_, rfl⟩ | ⟨ne, _⟩
  · exact ⟨oc, od, kV, doc, pm, an, cdv, ct, osl, i, l, c, kp⟩
  · exact absurd rfl ne
theorem factX {K : PySem.W.Frag} {x : Str} (g : PySem.W.nsIn K mainGlobals x = some (some (.ref (He.ga K x)))) (q : Hk.excX K (He.ga K x) = true) : FactX K x (He.ga K x) := by
  obtain ⟨nm, qn, N, bs, bm, sn, sub, ab, col, dd, k0, k1, k2, k3, k5, l, r⟩ := Hk.excX_ok q
  exact ⟨nm, qn, N, bs, bm, sn, sub, ab, col, dd, k0, k1, k2, k3, k5, g, l, r⟩
theorem law_head {P : Program} {w : World} {K : PySem.W.Frag} {h : Heap} {mg : Str → Option Value} {fa : Addr} (X : K.In h) (G : h.Ns mainGlobals mg) (hfa : mg "law" = some (.ref fa)) (c : Hk.SaysX xb fnD K) :
    ∃ fd : FuncData, (∀ (s : Shared) (u : Value), BindsTo s fd ⟨[u], []⟩ [("_law_script", u)]) ∧ ∀ base : Heap, K.In base → base.Ns mainGlobals mg → Gu.FnG P w K mg base CX0 17 fa fd ["_law_script"] (spLaw K) := by
  have hx := c.x
  simp only [xb, Bool.and_eq_true] at hx
  obtain ⟨h0, h1, h2, h3, h4, h5, h6, h7, h8, h9, h10, h11, h12⟩ := hx
  simp only [bs0, Bool.and_eq_true, decide_eq_true_eq] at h0
  obtain ⟨q0, q1, q2, q3, q4, q5, q6, q7, q8, q9, q10, q11, q12, q13, q14, q15, q16, q17, q18, q19, q20, q21, q22, q23⟩ := h0
  simp only [bs1, Bool.and_eq_true, decide_eq_true_eq] at h1
  obtain ⟨q24, q25, q26, q27, q28, q29, q30, q31, q32, q33, q34, q35, q36, q37, q38, q39, q40, q41, q42, q43, q44, q45, q46, q47⟩ := h1
  simp only [bs2, Bool.and_eq_true, decide_eq_true_eq] at h2
  obtain ⟨q48, q49, q50, q51, q52, q53, q54, q55, q56, q57, q58, q59, q60, q61, q62, q63, q64, q65, q66, q67, q68, q69, q70, q71⟩ := h2
  simp only [bs3, Bool.and_eq_true, decide_eq_true_eq] at h3
  obtain ⟨q72, q73, q74, q75, q76, q77, q78, q79, q80, q81, q82, q83, q84, q85, q86, q87, q88, q89, q90, q91, q92, q93, q94, q95⟩ := h3
  simp only [bs4, Bool.and_eq_true, decide_eq_true_eq] at h4
  obtain ⟨q96, q97, q98, q99, q100, q101, q102, q103, q104, q105, q106, q107, q108, q109, q110, q111, q112, q113, q114, q115, q116, q117, q118, q119⟩ := h4
  simp only [bs5, Bool.and_eq_true, decide_eq_true_eq] at h5
  obtain ⟨q120, q121, q122, q123, q124, q125, q126, q127, q128, q129, q130, q131, q132, q133, q134, q135, q136, q137, q138, q139, q140, q141, q142, q143⟩ := h5
  simp only [bs6, Bool.and_eq_true, decide_eq_true_eq] at h6
  obtain ⟨q144, q145, q146, q147, q148, q149, q150, q151, q152, q153, q154, q155, q156, q157, q158, q159, q160, q161, q162, q163, q164, q165, q166, q167⟩ := h6
  simp only [bs7, Bool.and_eq_true, decide_eq_true_eq] at h7
  obtain ⟨q168, q169, q170, q171, q172, q173, q174, q175, q176, q177, q178, q179, q180, q181, q182, q183, q184, q185, q186, q187, q188, q189, q190, q191⟩ := h7
  simp only [bs8, Bool.and_eq_true, decide_eq_true_eq] at h8
  obtain ⟨q192, q193, q194, q195, q196, q197, q198, q199, q200, q201, q202, q203, q204, q205, q206, q207, q208, q209, q210, q211, q212, q213, q214, q215⟩ := h8
  simp only [bs9, Bool.and_eq_true, decide_eq_true_eq] at h9
  obtain ⟨q216, q217, q218, q219, q220, q221, q222, q223, q224, q225, q226, q227, q228, q229, q230, q231, q232, q233, q234, q235, q236, q237, q238, q239⟩ := h9
  simp only [bs10, Bool.and_eq_true, decide_eq_true_eq] at h10
  obtain ⟨q240, q241, q242, q243, q244, q245, q246, q247, q248, q249, q250, q251, q252, q253, q254, q255, q256, q257, q258, q259, q260, q261, q262, q263⟩ := h10
  simp only [bs11, Bool.and_eq_true, decide_eq_true_eq] at h11
  obtain ⟨q264, q265, q266, q267, q268, q269, q270, q271, q272, q273, q274, q275, q276, q277, q278, q279, q280, q281, q282, q283, q284, q285, q286, q287⟩ := h11
  simp only [bs12, Bool.and_eq_true, decide_eq_true_eq] at h12
  obtain ⟨q288, q289, q290, q291, q292⟩ := h12
  obtain ⟨fd0, F0⟩ := c.def_ 0 (d := dd0) rfl
  obtain ⟨fd1, F1⟩ := c.def_ 1 (d := dd1) rfl
  obtain ⟨fd2, F2⟩ := c.def_ 2 (d := dd2) rfl
  obtain ⟨fd3, F3⟩ := c.def_ 3 (d := dd3) rfl
  obtain ⟨fd4, F4⟩ := c.def_ 4 (d := dd4) rfl
  obtain ⟨fd5, F5⟩ := c.def_ 5 (d := dd5) rfl
  obtain ⟨fd6, F6⟩ := c.def_ 6 (d := dd6) rfl
  obtain ⟨fd7, F7⟩ := c.def_ 7 (d := dd7) rfl
  obtain ⟨fd8, F8⟩ := c.def_ 8 (d := dd8) rfl
  obtain ⟨fd9, F9⟩ := c.def_ 9 (d := dd9) rfl
  obtain ⟨fd10, F10⟩ := c.def_ 10 (d := dd10) rfl
  obtain ⟨fd11, F11⟩ := c.def_ 11 (d := dd11) rfl
  obtain ⟨fd12, F12⟩ := c.def_ 12 (d := dd12) rfl
  obtain ⟨fd13, F13⟩ := c.def_ 13 (d := dd13) rfl
  obtain ⟨fd14, F14⟩ := c.def_ 14 (d := dd14) rfl
  obtain ⟨fd15, F15⟩ := c.def_ 15 (d := dd15) rfl
  obtain ⟨fd16, F16⟩ := c.def_ 16 (d := dd16) rfl
  obtain ⟨fd17, F17⟩ := c.def_ 17 (d := dd17) rfl
  obtain ⟨fd18, F18⟩ := c.def_ 18 (d := dd18) rfl
  obtain ⟨fd19, F19⟩ := c.def_ 19 (d := dd19) rfl
  obtain ⟨fd20, F20⟩ := c.def_ 20 (d := dd20) rfl
  obtain ⟨fd21, F21⟩ := c.def_ 21 (d := dd21) rfl
  obtain ⟨fd22, F22⟩ := c.def_ 22 (d := dd22) rfl
  obtain ⟨fd23, F23⟩ := c.def_ 23 (d := dd23) rfl
  obtain ⟨fd24, F24⟩ := c.def_ 24 (d := dd24) rfl
  obtain ⟨fd25, F25⟩ := c.def_ 25 (d := dd25) rfl
  obtain ⟨fd26, F26⟩ := c.def_ 26 (d := dd26) rfl
  obtain ⟨fd27, F27⟩ := c.def_ 27 (d := dd27) rfl
  obtain ⟨fd28, F28⟩ := c.def_ 28 (d := dd28) rfl
  obtain ⟨fd29, F29⟩ := c.def_ 29 (d := dd29) rfl
  obtain ⟨fd30, F30⟩ := c.def_ 30 (d := dd30) rfl
  exact law_ok (P := P) (w := w) (A := (He.ga K "Amount")) (H_ := (He.ga K "House")) (D_ := (He.ga K "Draft")) (M := (He.ga K "MeterError")) (fI := (He.ma K (He.ga K "MeterError") "__init__")) (E0 := (He.ga K "BadAmount")) (E1 := (He.ga K "NoQuotient")) (E2 := (He.ga K "BadText")) (E3 := (He.ga K "BadHouse")) (E4 := (He.ga K "NoFlat")) (E5 := (He.ga K "BadDay")) (E6 := (He.ga K "BadWeighing")) (E7 := (He.ga K "OtherHouse")) (E8 := (He.ga K "NoCell")) (E9 := (He.ga K "BadUse")) (E10 := (He.ga K "NoPerson")) (E11 := (He.ga K "NoMeter")) (E12 := (He.ga K "BadMorning")) (E13 := (He.ga K "BadNumbers")) (E14 := (He.ga K "NoNumber")) (E15 := (He.ga K "BadNumber")) (E16 := (He.ga K "BadPlaces")) (E17 := (He.ga K "BadPaper")) (E18 := (He.ga K "Contrary")) (E19 := (He.ga K "TooMany")) (E20 := (He.ga K "Back")) (E21 := (He.ga K "NotYet")) (E22 := (He.ga K "Past")) (E23 := (He.ga K "Expected")) (E24 := (He.ga K "NothingToUndo")) (E25 := (He.ga K "NothingToRedo")) (E26 := (He.ga K "BadJournal")) (E27 := (He.ga K "BadRule")) (E28 := (He.ga K "BadRun")) (E29 := (He.ga K "BadReadings")) (E30 := (He.ga K "BadOffers")) (E31 := (He.ga K "BadLine")) X G hfa q0 q1 q2 q3 q4 ⟨q5, q6, q7, q8, q9, q10, q11, q12, q13, q14, q15, q16, q17, q18, q19, q20⟩ ⟨q21, q22, q23, q24, q25, q26⟩ ⟨q27, q28, q29, q30, q31, q32⟩ ⟨q33, q34, q35, q36, q37, q38, q39, q40, q41, q42, q43, q44, q45, q46, q47, q48, q49, q50, q51, q52, q53, q54, q55⟩ ⟨q56, q57⟩ (factI q58 q59 F0) (Hk.intB_ok q60) ⟨q61, q62, q63, q64, q65, q66⟩ ⟨q67, q68, q69, q70, q71, q72, q73, q74⟩ ⟨q75, q76, q77, q78, q79, q80⟩ ⟨q81, q82, q83, q84⟩ (Hk.seqB_ok q85) (Hk.strB_ok q86) (Hk.intB_ok q87) (Hk.strB_ok q88) (factM q89 q90 F1) (factM q91 q92 F2) (factM q93 q94 F3) (factM q95 q96 F4) (factM q97 q98 F5) (factM q99 q100 F6) (factM q101 q102 F7) (factM q103 q104 F8) (factM q105 q106 F9) (factM q107 q108 F10) ⟨q109, q110, q111, q112, q113, q114⟩ ⟨q115, q116, q117, q118, q119, q120, q121, q122, q123, q124, q125, q126, q127, q128, q129, q130, q131, q132, q133, q134, q135, q136, q137⟩ q138 (factX q139 q140) ⟨q141, factEf q142 F11⟩ (factX q143 q144) (factX q145 q146) (factX q147 q148) (factX q149 q150) (factX q151 q152) (factX q153 q154) (factX q155 q156) (factX q157 q158) (factX q159 q160) (factX q161 q162) (factX q163 q164) (factX q165 q166) (factX q167 q168) (factX q169 q170) (factX q171 q172) (factX q173 q174) (factX q175 q176) (factX q177 q178) (factX q179 q180) (factX q181 q182) (factX q183 q184) (factX q185 q186) (factX q187 q188) (factX q189 q190) (factX q191 q192) (factX q193 q194) (factX q195 q196) (factX q197 q198) (factX q199 q200) (factX q201 q202) (factX q203 q204) (factX q205 q206) q207 q208 q209 q210 q211 q212 q213 q214 q215 q216 q217 q218 q219 q220 q221 q222 q223 q224 q225 q226 q227 q228 q229 q230 q231 q232 q233 q234 q235 q236 q237 q238 q239 q240 q241 q242 q243 q244 q245 q246 q247 q248 q249 q250 q251 q252 q253 q254 q255 q256 q257 q258 q259 q260 q261 q262 q263 q264 q265 q266 q267 q268 q269 q270 q271 (factF q272 F12) (factF q273 F13) (factF q274 F14) (factF q275 F15) (factF q276 F16) (factF q277 F17) (factF q278 F18) (factF q279 F19) (factF q280 F20) (factF q281 F21) (factF q282 F22) (factF q283 F23) (factF q284 F24) (factF q285 F25) (factF q286 F26) (factF q287 F27) (factF q288 F28) (factM q289 q290 F29) (factM q291 q292 F30)
end Er
open PySem PySem.W PySem.Calls PyProof.Rows in
theorem PySem.Challenge.cw_whoseuse_k00_errors_holds : PySem.Challenge.rw_whoseuse_k00_errors.Holds := by
  w_on; o_law
  refine HandSHeadRun.head_imp (r := OpenLaw.row PySem.Challenge.rw_whoseuse_k00_errors) (q := Er.qv) (H := Hk.hookX Er.ksA Er.xb Er.fnD) (ob := Hk.obX Er.ksA Er.xb Er.fnD) (M := 12000) (loose := Er.names) (d := HandSHeadRun.topDef (OpenLaw.row PySem.Challenge.rw_whoseuse_k00_errors).prog 68) (kwd := []) Hk.obX_eq
    Er.run (by kernel_rfl) (by kernel_rfl) (by kernel_rfl) (by rfl) (by first | assumption | decide +kernel) (by decide +kernel) ⟨rfl, rfl, rfl, rfl, rfl, by decide +kernel⟩ ?hw ?hc
  case hw => w_witness2
  case hc =>
    refine Hk.walkGE (l := PySem.Challenge.rw_whoseuse_k00_errors) (n := 63) (k := 17) (x := "_law_script") (sp := Er.spLaw) rfl (by decide) (by kernel_rfl) ⟨rfl, by decide, by decide⟩ ?F (fun K H a ns hl hS => ⟨a, ns, rfl, hS, hl, fun _ => rfl⟩)
    intro w mg fa h Y G hmg0
    obtain ⟨K, KX, c⟩ := Y
    have hmg : mg ("law" : PySem.Str) = some (.ref fa) := by
      have e : (HandSHeadRun.topDef (OpenLaw.row PySem.Challenge.rw_whoseuse_k00_errors).prog 68).name = ("law" : PySem.Str) := by kernel_rfl
      rw [← e]
      exact hmg0
    obtain ⟨fd, hb, hF⟩ := Er.law_head (P := (PySem.Challenge.rw_whoseuse_k00_errors).prog) (w := w) KX G hmg c
    exact ⟨K, fd, KX, hb, hF⟩
