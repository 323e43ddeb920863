import PyProof.Rows.All
import Wide.All
import OpenK.AllK
import Wide.FinOn
import HandS.Base
import HandS.Call
import KE.KOpsOwn
import KE.KIsAll
import KE.KNestM
import HandS.Head0
import HandS.Head1
import HandS.Head2
import HandS.HeadEnd
import HandS.HeadHook1
import HandS.HeadHook2
import HandS.HeadHook3
import HandS.HeadHook4
import HandS.ForMost
import HandS.Wide
import HandS.WideBits
import HandS.Property
import HandS.Defaults
import HandS.RaiseMore
import HandS.IsInst
import HandS.Flow
import HandS.SetFor
import HandS.Strs
import HandS.Conv
import OpenK.KMeth
import PyProof.InstNe
import PyProof.Conv_bool
import HandS.DictComp
import HandS.More
import HandS.Finally
import HandS.Iter
import HandS.Text
import HandS.Small
import HandS.FStr
import OpenK.KMore
import HandS.ExcInit
import HandS.ExcField
import HandS.ExcIs
import KE.KExcInit
import KE.KExcLine
import HandS.ExcValue
import HandS.Dict
import PySem.Challenge.RW_howmanyeach_k10_error_classes
set_option Elab.async false
set_option linter.all false
set_option maxRecDepth 100000
set_option maxHeartbeats 4000000
namespace My
open PySem L2 PySem.Spec PyProof.Rows PySem.W
/-! ### what the run of the top is asked for (defs alone; their theorems stand behind) -/
def exfB (K : Frag) (C : Addr) (mro : List Value) (newId : String) : Bool :=
  match K.lookup C with
    | some ⟨c, _, .cls cd, sl⟩ => decide (c = .type "type") && (decide (cd.mro = mro) && (cd.hasDict && (!cd.hasDel && (decide (sl.toList.length = 6) && decide (sl.toList[4]? = some (some (.builtin newId)))))))
    | _ => false
def eqO (a b : Option (Option Value)) : Bool := decide (a = b)
def excB (K : Frag) (C : Addr) (mro : List Value) (newId : String) : Bool :=
  exfB K C mro newId && (eqO (findIn K (.ref C) "__setattr__") (some (some (.builtin "object.__setattr__"))) && (keepIn K (.ref C) && (eqO (findIn K (.ref C) "__getattribute__") (some (some (.builtin "BaseException.__getattribute__"))) &&
    (eqO (findIn K (.ref C) "__getattr__") (some none) && (eqO (findIn K (.ref C) "__class__") (some (some (.builtin "object.__class__"))) && decide (typeIn K (.ref C) = some (.type "type")))))))
/-- an own __init__ -/
def iniB (K : Frag) (C : Addr) : Bool := eqO (findIn K (.ref C) "__init__") (some (some (.ref (He.ma K C "__init__")))) && isFn K (.ref (He.ma K C "__init__"))
def fnA (K : Frag) (a : Addr) : He.FnW := match K.lookup a with
  | some ⟨_, _, .func fd, _⟩ => some (fd.name, fd.qualname, fd.params, fd.body, fd.scope, fd.globals, fd.closure, fd.builtins)
  | _ => none
def okA (K : Frag) (a : Addr) (d : He.DefD) : Bool := keepIn K (.ref a) && (match K.lookup a with
  | some ⟨_, _, .func fd, _⟩ => codeIn K fd.code d.qual && (He.dflB K fd.defaults (d.dvs K) && He.kwdB K fd.kwdefaults (d.kws K))
  | _ => false)
abbrev AtD : Type := (Frag → Addr) × He.DefD
abbrev AlY : Type := He.AlD × (Bool × List He.FnW)
def obsY (fa : List He.Fa) (fn : List He.DefD) (ad : List AtD) (ex : Frag → Bool) (K : Frag) : AlY := (He.obsD fa fn K, (ex K && ad.all fun d => okA K (d.1 K) d.2, ad.map fun d => fnA K (d.1 K)))
def valY (fn : List He.DefD) (ad : List AtD) : AlY := (He.valD fn, (true, ad.map fun d => d.2.val))
def SaysY (fa : List He.Fa) (fn : List He.DefD) (ad : List AtD) (ex : Frag → Bool) (K : Frag) : Prop := obsY fa fn ad ex K = valY fn ad
def obsYG (n : Nat) (fa : List He.Fa) (fn : List He.DefD) (ad : List AtD) (ex : Frag → Bool) (g : Addr → Option Obj) : AlY := obsY fa fn ad ex (He.frG g (He.asD g n ++ [cStatics]))
def hookY (n : Nat) (fa : List He.Fa) (fn : List He.DefD) (ad : List AtD) (ex : Frag → Bool) : Hook where
  α := AlY
  obs := fun s => obsYG n fa fn ad ex s.heap.get?
  val := fun _ => valY fn ad
  says := fun _ h => ∃ K : Frag, K.In h ∧ SaysY fa fn ad ex K
  of := fun _ _ e => ⟨_, He.frG_in, e⟩
  keeps := fun _ _ _ ⟨K, hK, c⟩ k => ⟨K, Frag.In.keeps hK k, c⟩
theorem obsYG_eq {n : Nat} {fa : List He.Fa} {fn : List He.DefD} {ad : List AtD} {ex : Frag → Bool} {g : Addr → Option Obj} {s : Shared} (h : ∀ a, g a = s.heap.get? a) : obsYG n fa fn ad ex g = (hookY n fa fn ad ex).obs s := by
  have e : g = s.heap.get? := funext h
  rw [e]
  rfl
def staP (K : Frag) (C : Addr) (m : Str) : Addr := match findCls K (.ref C) (.type "type") m with
  | some (.get _ (.ref p) _ _) => p
  | _ => 0
def staF (K : Frag) (C : Addr) (m : Str) : Addr := match recIn K (staP K C m) "staticmethod" with
  | some (.ref f :: _) => f
  | _ => 0
def staB (K : Frag) (C : Addr) (m : Str) : Bool := readsIn K C (.type "type") && (eqO (specialIn K (.ref C) "__getattribute__") (some (some (.builtin "type.__getattribute__"))) && (match findCls K (.ref C) (.type "type") m with
  | some (.get g (.ref _) o t) => decide (g = .builtin "staticmethod.__get__") && (decide (o = .none) && (decide (t = .ref C) && (match recIn K (staP K C m) "staticmethod" with
    | some (.ref _ :: _) => keepIn K (.ref (staF K C m))
    | _ => false)))
  | _ => false))
def prP (K : PySem.W.Frag) (c m : Str) : Addr := match PySem.W.findIn K (.ref (He.ga K c)) m with
  | some (some (.ref p)) => p
  | _ => 0
def prA (K : PySem.W.Frag) (c m : Str) : Addr := match PySem.W.recIn K (prP K c m) "property" with
  | some (.ref g :: _) => g
  | _ => 0
def prB (K : PySem.W.Frag) (c m : Str) : Bool := eqO (PySem.W.findIn K (.ref (He.ga K c)) m) (some (some (.ref (prP K c m)))) && (eqO (PySem.W.specialIn K (.ref (prP K c m)) "__get__") (some (some (.builtin "property.__get__"))) &&
  (decide (PySem.W.takesIn K (.ref (prP K c m)) = some true) && (match PySem.W.recIn K (prP K c m) "property" with
    | some (.ref _ :: _) => true
    | _ => false)))
/-- the code object and the table of the def at a -/
def tcC (K : Frag) (a : Addr) : Addr := match K.lookup a with
  | some ⟨_, _, .func fd, _⟩ => (match fd.code with | .ref c => c | _ => 0)
  | _ => 0
def tcP (K : Frag) (a : Addr) : Addr := match K.lookup (tcC K a) with
  | some ⟨_, _, .fields us, _⟩ => (match (us[11]? : Option Value) with | some (.ref p) => p | _ => 0)
  | _ => 0
def isTabO (o : Obj) : Bool := match o with
  | ⟨.none, none, .fields us, sl⟩ => us.size == 0 && sl.size == 0
  | _ => false
def isTabG (g : Addr → Option Obj) (a : Addr) : Bool := match g a with
  | some o => isTabO o
  | none => false
def asK (n : Nat) (g : Addr → Option Obj) : List Addr := He.asD g n ++ [cStatics]
def frK (n : Nat) (g : Addr → Option Obj) : Frag := He.frG g ((asK n g).filter fun a => !isTabG g a)
def frT (n : Nat) (g : Addr → Option Obj) : Frag := He.frG g ((asK n g).filter fun a => isTabG g a)
def obsZG (n : Nat) (fa : List He.Fa) (fn : List He.DefD) (ad : List AtD) (ex : Frag → Frag → Bool) (g : Addr → Option Obj) : AlY := obsY fa fn ad (ex (frT n g)) (frK n g)
def hookZ (n : Nat) (fa : List He.Fa) (fn : List He.DefD) (ad : List AtD) (ex : Frag → Frag → Bool) : Hook where
  α := AlY
  obs := fun s => obsZG n fa fn ad ex s.heap.get?
  val := fun _ => valY fn ad
  says := fun _ h => ∃ T K : Frag, T.In h ∧ K.In h ∧ SaysY fa fn ad (ex T) K
  of := fun _ _ e => ⟨_, _, He.frG_in, He.frG_in, e⟩
  keeps := fun _ _ _ ⟨T, K, hT, hK, c⟩ k => ⟨T, K, Frag.In.keeps hT k, Frag.In.keeps hK k, c⟩
theorem obsZG_eq {n : Nat} {fa : List He.Fa} {fn : List He.DefD} {ad : List AtD} {ex : Frag → Frag → Bool} {g : Addr → Option Obj} {s : Shared} (h : ∀ a, g a = s.heap.get? a) : obsZG n fa fn ad ex g = (hookZ n fa fn ad ex).obs s := by
  have e : g = s.heap.get? := funext h
  rw [e]
  rfl
def tabOkB (T K : Frag) (a : Addr) : Bool := codeHdIn K (tcC K a) (tcP K a) && ((K.lookup (tcP K a)).isNone && (match T.lookup (tcP K a) with | some o => isTabO o | none => false))
def bTys : List Value := [.type "NoneType", .type "bool", .type "int", .type "str", .type "tuple", .type "list", .type "dict"]
def aTys (L : List Addr) : List Value := bTys ++ L.map Value.ref
def subT (t u : Value) : Bool := t == u || (t == .type "bool" && u == .type "int")
def kitsB (K : Frag) (L : List Addr) : Bool := (aTys L).all fun t => (aTys L).all fun u => kitOne K t u == some (subT t u)
def fnAt (K : Frag) (D : Addr) (x : Str) : Bool := match findIn K (.ref D) x with
  | some (some (.ref g)) => true
  | _ => false
/-- an operand of type t does not come before C's own nm -/
def rightB (K : Frag) (C : Addr) (nm : String) (t : Value) : Bool := match t with
  | .type T => (findIn K (.type T) (PySem.dunder nm)).isSome && ((findIn K (.type T) (dunderR nm)).isSome && subIn K (.type T) (.ref C) == some false)
  | .ref D => D == C || (!(C == D) && ((findIn K (.ref D) (PySem.dunder nm) == some none && (findIn K (.ref D) (dunderR nm) == some none && ((clsIn K D).any (fun cd => cd.mro == [.ref D, .type "object"]) && (findIn K (.type "object") (PySem.dunder nm) == some none && findIn K (.type "object") (dunderR nm) == some none)))) ||
      (fnAt K D (PySem.dunder nm) && (fnAt K D (dunderR nm) && (selfFirst K D && subIn K (.ref D) (.ref C) == some false)))))
  | _ => false
/-- C's reflected method: there or not, as a def -/
def reflB (K : Frag) (C : Addr) (nm : String) : Bool := findIn K (.ref C) (dunderR nm) == some none || fnAt K C (dunderR nm)
def opsB (K : Frag) (C : Addr) (nm : String) (L : List Addr) : Bool := selfFirst K C && (reflB K C nm && (aTys L).all (rightB K C nm))
def reflOk (K : Frag) (C : Addr) (nm : String) : Bool := selfFirst K C && (fnAt K C (PySem.dunder nm) && (subIn K (.ref C) (.type "int") == some false && subIn K (.ref C) (.type "bool") == some false))
end My

section

namespace My
open PySem L2
def top (i : Nat) : Stmt := PySem.Challenge.pw_howmanyeach_k10_error_classes.main.body.getD i (.Pass ⟨0, 0, 0, 0⟩)
abbrev st__law_rng : Stmt := top 39
abbrev N__law_rng : List Str := ["_law_script", "_law_k", "_law_cell"]
abbrev P__law_rng : List Str := ["_law_script", "_law_k"]
theorem sc__law_rng : FnScope N__law_rng P__law_rng (defScope st__law_rng) := ⟨rfl, rfl, rfl, by decide +kernel, rfl, by decide +kernel, by decide +kernel⟩
abbrev st__law_draw : Stmt := top 40
abbrev N__law_draw : List Str := ["_law_rng_here", "_law_sides", "_law_digit"]
abbrev P__law_draw : List Str := ["_law_rng_here", "_law_sides"]
theorem sc__law_draw : FnScope N__law_draw P__law_draw (defScope st__law_draw) := ⟨rfl, rfl, rfl, by decide +kernel, rfl, by decide +kernel, by decide +kernel⟩
abbrev st__law_choice : Stmt := top 41
abbrev N__law_choice : List Str := ["_law_rng_here", "_law_some"]
abbrev P__law_choice : List Str := ["_law_rng_here", "_law_some"]
theorem sc__law_choice : FnScope N__law_choice P__law_choice (defScope st__law_choice) := ⟨rfl, rfl, rfl, by decide +kernel, rfl, by decide +kernel, by decide +kernel⟩
abbrev st__law_first : Stmt := top 42
abbrev N__law_first : List Str := ["_law_at", "_law_x"]
abbrev P__law_first : List Str := ["_law_at", "_law_x"]
theorem sc__law_first : FnScope N__law_first P__law_first (defScope st__law_first) := ⟨rfl, rfl, rfl, by decide +kernel, rfl, by decide +kernel, by decide +kernel⟩
abbrev st__law_second : Stmt := top 43
abbrev N__law_second : List Str := ["_law_at", "_law_x"]
abbrev P__law_second : List Str := ["_law_at", "_law_x"]
theorem sc__law_second : FnScope N__law_second P__law_second (defScope st__law_second) := ⟨rfl, rfl, rfl, by decide +kernel, rfl, by decide +kernel, by decide +kernel⟩
abbrev st__law_third : Stmt := top 44
abbrev N__law_third : List Str := ["_law_at", "_law_x"]
abbrev P__law_third : List Str := ["_law_at", "_law_x"]
theorem sc__law_third : FnScope N__law_third P__law_third (defScope st__law_third) := ⟨rfl, rfl, rfl, by decide +kernel, rfl, by decide +kernel, by decide +kernel⟩
abbrev st__law_first_named : Stmt := top 45
abbrev N__law_first_named : List Str := ["_law_at", "_law_x"]
abbrev P__law_first_named : List Str := ["_law_at", "_law_x"]
theorem sc__law_first_named : FnScope N__law_first_named P__law_first_named (defScope st__law_first_named) := ⟨rfl, rfl, rfl, by decide +kernel, rfl, by decide +kernel, by decide +kernel⟩
abbrev st__law_second_named : Stmt := top 46
abbrev N__law_second_named : List Str := ["_law_at", "_law_x"]
abbrev P__law_second_named : List Str := ["_law_at", "_law_x"]
theorem sc__law_second_named : FnScope N__law_second_named P__law_second_named (defScope st__law_second_named) := ⟨rfl, rfl, rfl, by decide +kernel, rfl, by decide +kernel, by decide +kernel⟩
abbrev st__law_third_named : Stmt := top 47
abbrev N__law_third_named : List Str := ["_law_at", "_law_x"]
abbrev P__law_third_named : List Str := ["_law_at", "_law_x"]
theorem sc__law_third_named : FnScope N__law_third_named P__law_third_named (defScope st__law_third_named) := ⟨rfl, rfl, rfl, by decide +kernel, rfl, by decide +kernel, by decide +kernel⟩
abbrev st__law_made : Stmt := top 48
abbrev N__law_made : List Str := ["_law_at", "_law_x"]
abbrev P__law_made : List Str := ["_law_at", "_law_x"]
theorem sc__law_made : FnScope N__law_made P__law_made (defScope st__law_made) := ⟨rfl, rfl, rfl, by decide +kernel, rfl, by decide +kernel, by decide +kernel⟩
abbrev st__law_named : Stmt := top 49
abbrev N__law_named : List Str := ["_law_at", "_law_x"]
abbrev P__law_named : List Str := ["_law_at", "_law_x"]
theorem sc__law_named : FnScope N__law_named P__law_named (defScope st__law_named) := ⟨rfl, rfl, rfl, by decide +kernel, rfl, by decide +kernel, by decide +kernel⟩
abbrev st__law_flags : Stmt := top 50
abbrev N__law_flags : List Str := ["_law_e", "_law_found"]
abbrev P__law_flags : List Str := ["_law_e"]
theorem sc__law_flags : FnScope N__law_flags P__law_flags (defScope st__law_flags) := ⟨rfl, rfl, rfl, by decide +kernel, rfl, by decide +kernel, by decide +kernel⟩
abbrev st__law_bases : Stmt := top 51
abbrev N__law_bases : List Str := ["_law_e", "_law_found"]
abbrev P__law_bases : List Str := ["_law_e"]
theorem sc__law_bases : FnScope N__law_bases P__law_bases (defScope st__law_bases) := ⟨rfl, rfl, rfl, by decide +kernel, rfl, by decide +kernel, by decide +kernel⟩
abbrev st__law_kept : Stmt := top 52
abbrev N__law_kept : List Str := ["_law_at", "_law_e"]
abbrev P__law_kept : List Str := ["_law_at", "_law_e"]
theorem sc__law_kept : FnScope N__law_kept P__law_kept (defScope st__law_kept) := ⟨rfl, rfl, rfl, by decide +kernel, rfl, by decide +kernel, by decide +kernel⟩
abbrev st__law_last_kept : Stmt := top 53
abbrev N__law_last_kept : List Str := ["_law_at", "_law_e"]
abbrev P__law_last_kept : List Str := ["_law_at", "_law_e"]
theorem sc__law_last_kept : FnScope N__law_last_kept P__law_last_kept (defScope st__law_last_kept) := ⟨rfl, rfl, rfl, by decide +kernel, rfl, by decide +kernel, by decide +kernel⟩
abbrev st__law_one_right : Stmt := top 54
abbrev N__law_one_right : List Str := ["_law_rng_here", "_law_at", "_law_menu", "_law_x", "_law_y", "_law_made_here", "_law_again", "_law_width", "_law_ground", "_law_due", "_law_turn", "_law_k"]
abbrev P__law_one_right : List Str := ["_law_rng_here", "_law_at"]
theorem sc__law_one_right : FnScope N__law_one_right P__law_one_right (defScope st__law_one_right) := ⟨rfl, rfl, rfl, by decide +kernel, rfl, by decide +kernel, by decide +kernel⟩
abbrev st__law_grounds_right : Stmt := top 55
abbrev N__law_grounds_right : List Str := ["_law_some", "_law_ground", "_law_e", "_law_k"]
abbrev P__law_grounds_right : List Str := []
theorem sc__law_grounds_right : FnScope N__law_grounds_right P__law_grounds_right (defScope st__law_grounds_right) := ⟨rfl, rfl, rfl, by decide +kernel, rfl, by decide +kernel, by decide +kernel⟩
abbrev st_InvalidName___init__ : Stmt := inClass (top 2) 0
abbrev N_InvalidName___init__ : List Str := ["self", "value"]
abbrev P_InvalidName___init__ : List Str := ["self", "value"]
theorem sc_InvalidName___init__ : FnScope N_InvalidName___init__ P_InvalidName___init__ (defScope st_InvalidName___init__) := ⟨rfl, rfl, rfl, by decide +kernel, rfl, by decide +kernel, by decide +kernel⟩
abbrev st_InvalidCount___init__ : Stmt := inClass (top 3) 0
abbrev N_InvalidCount___init__ : List Str := ["self", "value"]
abbrev P_InvalidCount___init__ : List Str := ["self", "value"]
theorem sc_InvalidCount___init__ : FnScope N_InvalidCount___init__ P_InvalidCount___init__ (defScope st_InvalidCount___init__) := ⟨rfl, rfl, rfl, by decide +kernel, rfl, by decide +kernel, by decide +kernel⟩
abbrev st_InvalidNumber___init__ : Stmt := inClass (top 4) 0
abbrev N_InvalidNumber___init__ : List Str := ["self", "value"]
abbrev P_InvalidNumber___init__ : List Str := ["self", "value"]
theorem sc_InvalidNumber___init__ : FnScope N_InvalidNumber___init__ P_InvalidNumber___init__ (defScope st_InvalidNumber___init__) := ⟨rfl, rfl, rfl, by decide +kernel, rfl, by decide +kernel, by decide +kernel⟩
abbrev st_InvalidMany___init__ : Stmt := inClass (top 5) 0
abbrev N_InvalidMany___init__ : List Str := ["self", "value"]
abbrev P_InvalidMany___init__ : List Str := ["self", "value"]
theorem sc_InvalidMany___init__ : FnScope N_InvalidMany___init__ P_InvalidMany___init__ (defScope st_InvalidMany___init__) := ⟨rfl, rfl, rfl, by decide +kernel, rfl, by decide +kernel, by decide +kernel⟩
abbrev st_InvalidRatio___init__ : Stmt := inClass (top 6) 0
abbrev N_InvalidRatio___init__ : List Str := ["self", "value"]
abbrev P_InvalidRatio___init__ : List Str := ["self", "value"]
theorem sc_InvalidRatio___init__ : FnScope N_InvalidRatio___init__ P_InvalidRatio___init__ (defScope st_InvalidRatio___init__) := ⟨rfl, rfl, rfl, by decide +kernel, rfl, by decide +kernel, by decide +kernel⟩
abbrev st_InvalidKinds___init__ : Stmt := inClass (top 7) 0
abbrev N_InvalidKinds___init__ : List Str := ["self", "position"]
abbrev P_InvalidKinds___init__ : List Str := ["self", "position"]
theorem sc_InvalidKinds___init__ : FnScope N_InvalidKinds___init__ P_InvalidKinds___init__ (defScope st_InvalidKinds___init__) := ⟨rfl, rfl, rfl, by decide +kernel, rfl, by decide +kernel, by decide +kernel⟩
abbrev st_InvalidLink___init__ : Stmt := inClass (top 8) 0
abbrev N_InvalidLink___init__ : List Str := ["self", "value"]
abbrev P_InvalidLink___init__ : List Str := ["self", "value"]
theorem sc_InvalidLink___init__ : FnScope N_InvalidLink___init__ P_InvalidLink___init__ (defScope st_InvalidLink___init__) := ⟨rfl, rfl, rfl, by decide +kernel, rfl, by decide +kernel, by decide +kernel⟩
abbrev st_InvalidEnd___init__ : Stmt := inClass (top 9) 0
abbrev N_InvalidEnd___init__ : List Str := ["self", "value"]
abbrev P_InvalidEnd___init__ : List Str := ["self", "value"]
theorem sc_InvalidEnd___init__ : FnScope N_InvalidEnd___init__ P_InvalidEnd___init__ (defScope st_InvalidEnd___init__) := ⟨rfl, rfl, rfl, by decide +kernel, rfl, by decide +kernel, by decide +kernel⟩
abbrev st_InvalidModel___init__ : Stmt := inClass (top 10) 0
abbrev N_InvalidModel___init__ : List Str := ["self", "value"]
abbrev P_InvalidModel___init__ : List Str := ["self", "value"]
theorem sc_InvalidModel___init__ : FnScope N_InvalidModel___init__ P_InvalidModel___init__ (defScope st_InvalidModel___init__) := ⟨rfl, rfl, rfl, by decide +kernel, rfl, by decide +kernel, by decide +kernel⟩
abbrev st_InvalidTotal___init__ : Stmt := inClass (top 11) 0
abbrev N_InvalidTotal___init__ : List Str := ["self", "value"]
abbrev P_InvalidTotal___init__ : List Str := ["self", "value"]
theorem sc_InvalidTotal___init__ : FnScope N_InvalidTotal___init__ P_InvalidTotal___init__ (defScope st_InvalidTotal___init__) := ⟨rfl, rfl, rfl, by decide +kernel, rfl, by decide +kernel, by decide +kernel⟩
abbrev st_InvalidPair___init__ : Stmt := inClass (top 12) 0
abbrev N_InvalidPair___init__ : List Str := ["self", "value"]
abbrev P_InvalidPair___init__ : List Str := ["self", "value"]
theorem sc_InvalidPair___init__ : FnScope N_InvalidPair___init__ P_InvalidPair___init__ (defScope st_InvalidPair___init__) := ⟨rfl, rfl, rfl, by decide +kernel, rfl, by decide +kernel, by decide +kernel⟩
abbrev st_InvalidRow___init__ : Stmt := inClass (top 13) 0
abbrev N_InvalidRow___init__ : List Str := ["self", "value"]
abbrev P_InvalidRow___init__ : List Str := ["self", "value"]
theorem sc_InvalidRow___init__ : FnScope N_InvalidRow___init__ P_InvalidRow___init__ (defScope st_InvalidRow___init__) := ⟨rfl, rfl, rfl, by decide +kernel, rfl, by decide +kernel, by decide +kernel⟩
abbrev st_InvalidPairs___init__ : Stmt := inClass (top 14) 0
abbrev N_InvalidPairs___init__ : List Str := ["self", "link", "position"]
abbrev P_InvalidPairs___init__ : List Str := ["self", "link", "position"]
theorem sc_InvalidPairs___init__ : FnScope N_InvalidPairs___init__ P_InvalidPairs___init__ (defScope st_InvalidPairs___init__) := ⟨rfl, rfl, rfl, by decide +kernel, rfl, by decide +kernel, by decide +kernel⟩
abbrev st_InvalidDatabase___init__ : Stmt := inClass (top 15) 0
abbrev N_InvalidDatabase___init__ : List Str := ["self", "value"]
abbrev P_InvalidDatabase___init__ : List Str := ["self", "value"]
theorem sc_InvalidDatabase___init__ : FnScope N_InvalidDatabase___init__ P_InvalidDatabase___init__ (defScope st_InvalidDatabase___init__) := ⟨rfl, rfl, rfl, by decide +kernel, rfl, by decide +kernel, by decide +kernel⟩
abbrev st_InvalidWay___init__ : Stmt := inClass (top 16) 0
abbrev N_InvalidWay___init__ : List Str := ["self", "value"]
abbrev P_InvalidWay___init__ : List Str := ["self", "value"]
theorem sc_InvalidWay___init__ : FnScope N_InvalidWay___init__ P_InvalidWay___init__ (defScope st_InvalidWay___init__) := ⟨rfl, rfl, rfl, by decide +kernel, rfl, by decide +kernel, by decide +kernel⟩
abbrev st_InvalidSizes___init__ : Stmt := inClass (top 17) 0
abbrev N_InvalidSizes___init__ : List Str := ["self", "value"]
abbrev P_InvalidSizes___init__ : List Str := ["self", "value"]
theorem sc_InvalidSizes___init__ : FnScope N_InvalidSizes___init__ P_InvalidSizes___init__ (defScope st_InvalidSizes___init__) := ⟨rfl, rfl, rfl, by decide +kernel, rfl, by decide +kernel, by decide +kernel⟩
abbrev st_InvalidTold___init__ : Stmt := inClass (top 18) 0
abbrev N_InvalidTold___init__ : List Str := ["self", "value"]
abbrev P_InvalidTold___init__ : List Str := ["self", "value"]
theorem sc_InvalidTold___init__ : FnScope N_InvalidTold___init__ P_InvalidTold___init__ (defScope st_InvalidTold___init__) := ⟨rfl, rfl, rfl, by decide +kernel, rfl, by decide +kernel, by decide +kernel⟩
abbrev st_InvalidText___init__ : Stmt := inClass (top 19) 0
abbrev N_InvalidText___init__ : List Str := ["self", "line"]
abbrev P_InvalidText___init__ : List Str := ["self", "line"]
theorem sc_InvalidText___init__ : FnScope N_InvalidText___init__ P_InvalidText___init__ (defScope st_InvalidText___init__) := ⟨rfl, rfl, rfl, by decide +kernel, rfl, by decide +kernel, by decide +kernel⟩
abbrev st_InvalidClaim___init__ : Stmt := inClass (top 20) 0
abbrev N_InvalidClaim___init__ : List Str := ["self", "value"]
abbrev P_InvalidClaim___init__ : List Str := ["self", "value"]
theorem sc_InvalidClaim___init__ : FnScope N_InvalidClaim___init__ P_InvalidClaim___init__ (defScope st_InvalidClaim___init__) := ⟨rfl, rfl, rfl, by decide +kernel, rfl, by decide +kernel, by decide +kernel⟩
abbrev st_InvalidCommand___init__ : Stmt := inClass (top 21) 0
abbrev N_InvalidCommand___init__ : List Str := ["self", "value"]
abbrev P_InvalidCommand___init__ : List Str := ["self", "value"]
theorem sc_InvalidCommand___init__ : FnScope N_InvalidCommand___init__ P_InvalidCommand___init__ (defScope st_InvalidCommand___init__) := ⟨rfl, rfl, rfl, by decide +kernel, rfl, by decide +kernel, by decide +kernel⟩
abbrev st_EmptyBy___init__ : Stmt := inClass (top 22) 0
abbrev N_EmptyBy___init__ : List Str := ["self", "paper"]
abbrev P_EmptyBy___init__ : List Str := ["self", "paper"]
theorem sc_EmptyBy___init__ : FnScope N_EmptyBy___init__ P_EmptyBy___init__ (defScope st_EmptyBy___init__) := ⟨rfl, rfl, rfl, by decide +kernel, rfl, by decide +kernel, by decide +kernel⟩
abbrev st_UnknownKind___init__ : Stmt := inClass (top 24) 0
abbrev N_UnknownKind___init__ : List Str := ["self", "value"]
abbrev P_UnknownKind___init__ : List Str := ["self", "value"]
theorem sc_UnknownKind___init__ : FnScope N_UnknownKind___init__ P_UnknownKind___init__ (defScope st_UnknownKind___init__) := ⟨rfl, rfl, rfl, by decide +kernel, rfl, by decide +kernel, by decide +kernel⟩
abbrev st_UnknownLink___init__ : Stmt := inClass (top 25) 0
abbrev N_UnknownLink___init__ : List Str := ["self", "value"]
abbrev P_UnknownLink___init__ : List Str := ["self", "value"]
theorem sc_UnknownLink___init__ : FnScope N_UnknownLink___init__ P_UnknownLink___init__ (defScope st_UnknownLink___init__) := ⟨rfl, rfl, rfl, by decide +kernel, rfl, by decide +kernel, by decide +kernel⟩
abbrev st_UnknownRow___init__ : Stmt := inClass (top 26) 0
abbrev N_UnknownRow___init__ : List Str := ["self", "value"]
abbrev P_UnknownRow___init__ : List Str := ["self", "value"]
theorem sc_UnknownRow___init__ : FnScope N_UnknownRow___init__ P_UnknownRow___init__ (defScope st_UnknownRow___init__) := ⟨rfl, rfl, rfl, by decide +kernel, rfl, by decide +kernel, by decide +kernel⟩
abbrev st_UnknownThing___init__ : Stmt := inClass (top 27) 0
abbrev N_UnknownThing___init__ : List Str := ["self", "value"]
abbrev P_UnknownThing___init__ : List Str := ["self", "value"]
theorem sc_UnknownThing___init__ : FnScope N_UnknownThing___init__ P_UnknownThing___init__ (defScope st_UnknownThing___init__) := ⟨rfl, rfl, rfl, by decide +kernel, rfl, by decide +kernel, by decide +kernel⟩
abbrev st_Apart___init__ : Stmt := inClass (top 29) 0
abbrev N_Apart___init__ : List Str := ["self", "one", "other"]
abbrev P_Apart___init__ : List Str := ["self", "one", "other"]
theorem sc_Apart___init__ : FnScope N_Apart___init__ P_Apart___init__ (defScope st_Apart___init__) := ⟨rfl, rfl, rfl, by decide +kernel, rfl, by decide +kernel, by decide +kernel⟩
abbrev st_Taken___init__ : Stmt := inClass (top 30) 0
abbrev N_Taken___init__ : List Str := ["self", "value"]
abbrev P_Taken___init__ : List Str := ["self", "value"]
theorem sc_Taken___init__ : FnScope N_Taken___init__ P_Taken___init__ (defScope st_Taken___init__) := ⟨rfl, rfl, rfl, by decide +kernel, rfl, by decide +kernel, by decide +kernel⟩
abbrev st_Empty___init__ : Stmt := inClass (top 31) 0
abbrev N_Empty___init__ : List Str := ["self", "kind", "paper"]
abbrev P_Empty___init__ : List Str := ["self", "kind", "paper"]
theorem sc_Empty___init__ : FnScope N_Empty___init__ P_Empty___init__ (defScope st_Empty___init__) := ⟨rfl, rfl, rfl, by decide +kernel, rfl, by decide +kernel, by decide +kernel⟩
abbrev st_NotLet___init__ : Stmt := inClass (top 32) 0
abbrev N_NotLet___init__ : List Str := ["self", "link", "line"]
abbrev P_NotLet___init__ : List Str := ["self", "link", "line"]
theorem sc_NotLet___init__ : FnScope N_NotLet___init__ P_NotLet___init__ (defScope st_NotLet___init__) := ⟨rfl, rfl, rfl, by decide +kernel, rfl, by decide +kernel, by decide +kernel⟩
abbrev st_Lacking___init__ : Stmt := inClass (top 33) 0
abbrev N_Lacking___init__ : List Str := ["self", "obstacle"]
abbrev P_Lacking___init__ : List Str := ["self", "obstacle"]
theorem sc_Lacking___init__ : FnScope N_Lacking___init__ P_Lacking___init__ (defScope st_Lacking___init__) := ⟨rfl, rfl, rfl, by decide +kernel, rfl, by decide +kernel, by decide +kernel⟩
abbrev st_CommandFailed___init__ : Stmt := inClass (top 35) 0
abbrev N_CommandFailed___init__ : List Str := ["self", "position"]
abbrev P_CommandFailed___init__ : List Str := ["self", "position"]
theorem sc_CommandFailed___init__ : FnScope N_CommandFailed___init__ P_CommandFailed___init__ (defScope st_CommandFailed___init__) := ⟨rfl, rfl, rfl, by decide +kernel, rfl, by decide +kernel, by decide +kernel⟩
abbrev st_TooMany___init__ : Stmt := inClass (top 37) 0
abbrev N_TooMany___init__ : List Str := ["self", "what", "limit"]
abbrev P_TooMany___init__ : List Str := ["self", "what", "limit"]
theorem sc_TooMany___init__ : FnScope N_TooMany___init__ P_TooMany___init__ (defScope st_TooMany___init__) := ⟨rfl, rfl, rfl, by decide +kernel, rfl, by decide +kernel, by decide +kernel⟩
abbrev st_law : Stmt := top 56
abbrev N_law : List Str := ["_law_script", "_law_k", "_law_rng_here", "_law_at"]
abbrev P_law : List Str := ["_law_script"]
theorem sc_law : FnScope N_law P_law (defScope st_law) := ⟨rfl, rfl, rfl, by decide +kernel, rfl, by decide +kernel, by decide +kernel⟩
end My
end
section

namespace My
open PySem L2 PySem.W
def dd__law_rng : He.DefD := ⟨("_law_rng", none), "_law_rng", "_law_rng", defArgs st__law_rng, defBody st__law_rng, defScope st__law_rng, [], []⟩
def dd__law_draw : He.DefD := ⟨("_law_draw", none), "_law_draw", "_law_draw", defArgs st__law_draw, defBody st__law_draw, defScope st__law_draw, [], []⟩
def dd__law_choice : He.DefD := ⟨("_law_choice", none), "_law_choice", "_law_choice", defArgs st__law_choice, defBody st__law_choice, defScope st__law_choice, [], []⟩
def dd__law_first : He.DefD := ⟨("_law_first", none), "_law_first", "_law_first", defArgs st__law_first, defBody st__law_first, defScope st__law_first, [], []⟩
def dd__law_second : He.DefD := ⟨("_law_second", none), "_law_second", "_law_second", defArgs st__law_second, defBody st__law_second, defScope st__law_second, [], []⟩
def dd__law_third : He.DefD := ⟨("_law_third", none), "_law_third", "_law_third", defArgs st__law_third, defBody st__law_third, defScope st__law_third, [], []⟩
def dd__law_first_named : He.DefD := ⟨("_law_first_named", none), "_law_first_named", "_law_first_named", defArgs st__law_first_named, defBody st__law_first_named, defScope st__law_first_named, [], []⟩
def dd__law_second_named : He.DefD := ⟨("_law_second_named", none), "_law_second_named", "_law_second_named", defArgs st__law_second_named, defBody st__law_second_named, defScope st__law_second_named, [], []⟩
def dd__law_third_named : He.DefD := ⟨("_law_third_named", none), "_law_third_named", "_law_third_named", defArgs st__law_third_named, defBody st__law_third_named, defScope st__law_third_named, [], []⟩
def dd__law_made : He.DefD := ⟨("_law_made", none), "_law_made", "_law_made", defArgs st__law_made, defBody st__law_made, defScope st__law_made, [], []⟩
def dd__law_named : He.DefD := ⟨("_law_named", none), "_law_named", "_law_named", defArgs st__law_named, defBody st__law_named, defScope st__law_named, [], []⟩
def dd__law_flags : He.DefD := ⟨("_law_flags", none), "_law_flags", "_law_flags", defArgs st__law_flags, defBody st__law_flags, defScope st__law_flags, [], []⟩
def dd__law_bases : He.DefD := ⟨("_law_bases", none), "_law_bases", "_law_bases", defArgs st__law_bases, defBody st__law_bases, defScope st__law_bases, [], []⟩
def dd__law_kept : He.DefD := ⟨("_law_kept", none), "_law_kept", "_law_kept", defArgs st__law_kept, defBody st__law_kept, defScope st__law_kept, [], []⟩
def dd__law_last_kept : He.DefD := ⟨("_law_last_kept", none), "_law_last_kept", "_law_last_kept", defArgs st__law_last_kept, defBody st__law_last_kept, defScope st__law_last_kept, [], []⟩
def dd__law_one_right : He.DefD := ⟨("_law_one_right", none), "_law_one_right", "_law_one_right", defArgs st__law_one_right, defBody st__law_one_right, defScope st__law_one_right, [], []⟩
def dd__law_grounds_right : He.DefD := ⟨("_law_grounds_right", none), "_law_grounds_right", "_law_grounds_right", defArgs st__law_grounds_right, defBody st__law_grounds_right, defScope st__law_grounds_right, [], []⟩
def dd_InvalidName___init__ : He.DefD := ⟨("InvalidName", some "__init__"), "__init__", "InvalidName.__init__", defArgs st_InvalidName___init__, defBody st_InvalidName___init__, defScope st_InvalidName___init__, [], []⟩
def dd_InvalidCount___init__ : He.DefD := ⟨("InvalidCount", some "__init__"), "__init__", "InvalidCount.__init__", defArgs st_InvalidCount___init__, defBody st_InvalidCount___init__, defScope st_InvalidCount___init__, [], []⟩
def dd_InvalidNumber___init__ : He.DefD := ⟨("InvalidNumber", some "__init__"), "__init__", "InvalidNumber.__init__", defArgs st_InvalidNumber___init__, defBody st_InvalidNumber___init__, defScope st_InvalidNumber___init__, [], []⟩
def dd_InvalidMany___init__ : He.DefD := ⟨("InvalidMany", some "__init__"), "__init__", "InvalidMany.__init__", defArgs st_InvalidMany___init__, defBody st_InvalidMany___init__, defScope st_InvalidMany___init__, [], []⟩
def dd_InvalidRatio___init__ : He.DefD := ⟨("InvalidRatio", some "__init__"), "__init__", "InvalidRatio.__init__", defArgs st_InvalidRatio___init__, defBody st_InvalidRatio___init__, defScope st_InvalidRatio___init__, [], []⟩
def dd_InvalidKinds___init__ : He.DefD := ⟨("InvalidKinds", some "__init__"), "__init__", "InvalidKinds.__init__", defArgs st_InvalidKinds___init__, defBody st_InvalidKinds___init__, defScope st_InvalidKinds___init__, [], []⟩
def dd_InvalidLink___init__ : He.DefD := ⟨("InvalidLink", some "__init__"), "__init__", "InvalidLink.__init__", defArgs st_InvalidLink___init__, defBody st_InvalidLink___init__, defScope st_InvalidLink___init__, [], []⟩
def dd_InvalidEnd___init__ : He.DefD := ⟨("InvalidEnd", some "__init__"), "__init__", "InvalidEnd.__init__", defArgs st_InvalidEnd___init__, defBody st_InvalidEnd___init__, defScope st_InvalidEnd___init__, [], []⟩
def dd_InvalidModel___init__ : He.DefD := ⟨("InvalidModel", some "__init__"), "__init__", "InvalidModel.__init__", defArgs st_InvalidModel___init__, defBody st_InvalidModel___init__, defScope st_InvalidModel___init__, [], []⟩
def dd_InvalidTotal___init__ : He.DefD := ⟨("InvalidTotal", some "__init__"), "__init__", "InvalidTotal.__init__", defArgs st_InvalidTotal___init__, defBody st_InvalidTotal___init__, defScope st_InvalidTotal___init__, [], []⟩
def dd_InvalidPair___init__ : He.DefD := ⟨("InvalidPair", some "__init__"), "__init__", "InvalidPair.__init__", defArgs st_InvalidPair___init__, defBody st_InvalidPair___init__, defScope st_InvalidPair___init__, [], []⟩
def dd_InvalidRow___init__ : He.DefD := ⟨("InvalidRow", some "__init__"), "__init__", "InvalidRow.__init__", defArgs st_InvalidRow___init__, defBody st_InvalidRow___init__, defScope st_InvalidRow___init__, [], []⟩
def dd_InvalidPairs___init__ : He.DefD := ⟨("InvalidPairs", some "__init__"), "__init__", "InvalidPairs.__init__", defArgs st_InvalidPairs___init__, defBody st_InvalidPairs___init__, defScope st_InvalidPairs___init__, [], []⟩
def dd_InvalidDatabase___init__ : He.DefD := ⟨("InvalidDatabase", some "__init__"), "__init__", "InvalidDatabase.__init__", defArgs st_InvalidDatabase___init__, defBody st_InvalidDatabase___init__, defScope st_InvalidDatabase___init__, [], []⟩
def dd_InvalidWay___init__ : He.DefD := ⟨("InvalidWay", some "__init__"), "__init__", "InvalidWay.__init__", defArgs st_InvalidWay___init__, defBody st_InvalidWay___init__, defScope st_InvalidWay___init__, [], []⟩
def dd_InvalidSizes___init__ : He.DefD := ⟨("InvalidSizes", some "__init__"), "__init__", "InvalidSizes.__init__", defArgs st_InvalidSizes___init__, defBody st_InvalidSizes___init__, defScope st_InvalidSizes___init__, [], []⟩
def dd_InvalidTold___init__ : He.DefD := ⟨("InvalidTold", some "__init__"), "__init__", "InvalidTold.__init__", defArgs st_InvalidTold___init__, defBody st_InvalidTold___init__, defScope st_InvalidTold___init__, [], []⟩
def dd_InvalidText___init__ : He.DefD := ⟨("InvalidText", some "__init__"), "__init__", "InvalidText.__init__", defArgs st_InvalidText___init__, defBody st_InvalidText___init__, defScope st_InvalidText___init__, [], []⟩
def dd_InvalidClaim___init__ : He.DefD := ⟨("InvalidClaim", some "__init__"), "__init__", "InvalidClaim.__init__", defArgs st_InvalidClaim___init__, defBody st_InvalidClaim___init__, defScope st_InvalidClaim___init__, [], []⟩
def dd_InvalidCommand___init__ : He.DefD := ⟨("InvalidCommand", some "__init__"), "__init__", "InvalidCommand.__init__", defArgs st_InvalidCommand___init__, defBody st_InvalidCommand___init__, defScope st_InvalidCommand___init__, [], []⟩
def dd_EmptyBy___init__ : He.DefD := ⟨("EmptyBy", some "__init__"), "__init__", "EmptyBy.__init__", defArgs st_EmptyBy___init__, defBody st_EmptyBy___init__, defScope st_EmptyBy___init__, [], []⟩
def dd_UnknownKind___init__ : He.DefD := ⟨("UnknownKind", some "__init__"), "__init__", "UnknownKind.__init__", defArgs st_UnknownKind___init__, defBody st_UnknownKind___init__, defScope st_UnknownKind___init__, [], []⟩
def dd_UnknownLink___init__ : He.DefD := ⟨("UnknownLink", some "__init__"), "__init__", "UnknownLink.__init__", defArgs st_UnknownLink___init__, defBody st_UnknownLink___init__, defScope st_UnknownLink___init__, [], []⟩
def dd_UnknownRow___init__ : He.DefD := ⟨("UnknownRow", some "__init__"), "__init__", "UnknownRow.__init__", defArgs st_UnknownRow___init__, defBody st_UnknownRow___init__, defScope st_UnknownRow___init__, [], []⟩
def dd_UnknownThing___init__ : He.DefD := ⟨("UnknownThing", some "__init__"), "__init__", "UnknownThing.__init__", defArgs st_UnknownThing___init__, defBody st_UnknownThing___init__, defScope st_UnknownThing___init__, [], []⟩
def dd_Apart___init__ : He.DefD := ⟨("Apart", some "__init__"), "__init__", "Apart.__init__", defArgs st_Apart___init__, defBody st_Apart___init__, defScope st_Apart___init__, [], []⟩
def dd_Taken___init__ : He.DefD := ⟨("Taken", some "__init__"), "__init__", "Taken.__init__", defArgs st_Taken___init__, defBody st_Taken___init__, defScope st_Taken___init__, [], []⟩
def dd_Empty___init__ : He.DefD := ⟨("Empty", some "__init__"), "__init__", "Empty.__init__", defArgs st_Empty___init__, defBody st_Empty___init__, defScope st_Empty___init__, [], []⟩
def dd_NotLet___init__ : He.DefD := ⟨("NotLet", some "__init__"), "__init__", "NotLet.__init__", defArgs st_NotLet___init__, defBody st_NotLet___init__, defScope st_NotLet___init__, [], []⟩
def dd_Lacking___init__ : He.DefD := ⟨("Lacking", some "__init__"), "__init__", "Lacking.__init__", defArgs st_Lacking___init__, defBody st_Lacking___init__, defScope st_Lacking___init__, [], []⟩
def dd_CommandFailed___init__ : He.DefD := ⟨("CommandFailed", some "__init__"), "__init__", "CommandFailed.__init__", defArgs st_CommandFailed___init__, defBody st_CommandFailed___init__, defScope st_CommandFailed___init__, [], []⟩
def dd_TooMany___init__ : He.DefD := ⟨("TooMany", some "__init__"), "__init__", "TooMany.__init__", defArgs st_TooMany___init__, defBody st_TooMany___init__, defScope st_TooMany___init__, [], []⟩
def dd_law : He.DefD := ⟨("law", none), "law", "law", defArgs st_law, defBody st_law, defScope st_law, [], []⟩
def fnL : List He.DefD := ([dd__law_rng, dd__law_draw, dd__law_choice, dd__law_first, dd__law_second, dd__law_third, dd__law_first_named, dd__law_second_named, dd__law_third_named, dd__law_made, dd__law_named, dd__law_flags, dd__law_bases, dd__law_kept, dd__law_last_kept, dd__law_one_right, dd__law_grounds_right, dd_InvalidName___init__, dd_InvalidCount___init__, dd_InvalidNumber___init__, dd_InvalidMany___init__, dd_InvalidRatio___init__, dd_InvalidKinds___init__, dd_InvalidLink___init__, dd_InvalidEnd___init__, dd_InvalidModel___init__, dd_InvalidTotal___init__, dd_InvalidPair___init__, dd_InvalidRow___init__, dd_InvalidPairs___init__] : List He.DefD) ++ ([dd_InvalidDatabase___init__, dd_InvalidWay___init__, dd_InvalidSizes___init__, dd_InvalidTold___init__, dd_InvalidText___init__, dd_InvalidClaim___init__, dd_InvalidCommand___init__, dd_EmptyBy___init__, dd_UnknownKind___init__, dd_UnknownLink___init__, dd_UnknownRow___init__, dd_UnknownThing___init__, dd_Apart___init__, dd_Taken___init__, dd_Empty___init__, dd_NotLet___init__, dd_Lacking___init__, dd_CommandFailed___init__, dd_TooMany___init__, dd_law] : List He.DefD)
def faL : List He.Fa := ([.glo "_law_rng", .glo "_law_draw", .glo "_law_choice", .glo "_law_first", .glo "_law_second", .glo "_law_third", .glo "_law_first_named", .glo "_law_second_named", .glo "_law_third_named", .glo "_law_made", .glo "_law_named", .glo "_law_flags", .glo "_law_bases", .glo "_law_kept", .glo "_law_last_kept", .glo "_law_one_right", .glo "_law_grounds_right", .glo "InvalidName", .glo "InvalidCount", .glo "InvalidNumber", .glo "InvalidMany", .glo "InvalidRatio", .glo "InvalidKinds", .glo "InvalidLink", .glo "InvalidEnd", .glo "InvalidModel", .glo "InvalidTotal", .glo "InvalidPair", .glo "InvalidRow", .glo "InvalidPairs"] : List He.Fa) ++ ([.glo "InvalidDatabase", .glo "InvalidWay", .glo "InvalidSizes", .glo "InvalidTold", .glo "InvalidText", .glo "InvalidClaim", .glo "InvalidCommand", .glo "EmptyBy", .glo "UnknownKind", .glo "UnknownLink", .glo "UnknownRow", .glo "UnknownThing", .glo "Apart", .glo "Taken", .glo "Empty", .glo "NotLet", .glo "Lacking", .glo "NothingToUndo", .glo "CommandFailed", .glo "TooMany", .glo "EachError", .glo "MissingError", .glo "StateError", .glo "LimitError", .glo "law", .free "isinstance", .free "int", .free "min", .free "max", .free "abs"] : List He.Fa) ++ ([.free "divmod", .free "len", .free "range", .free "all", .free "repr", .free "enumerate", .free "ValueError", .free "LookupError", .free "RuntimeError", .free "ArithmeticError", .free "KeyError", .free "IndexError"] : List He.Fa)
def tests (K : PySem.W.Frag) : List Bool := ([decide [(He.ga K "InvalidName"), (He.ga K "InvalidCount"), (He.ga K "InvalidNumber"), (He.ga K "InvalidMany"), (He.ga K "InvalidRatio"), (He.ga K "InvalidKinds"), (He.ga K "InvalidLink"), (He.ga K "InvalidEnd"), (He.ga K "InvalidModel"), (He.ga K "InvalidTotal"), (He.ga K "InvalidPair"), (He.ga K "InvalidRow"), (He.ga K "InvalidPairs"), (He.ga K "InvalidDatabase"), (He.ga K "InvalidWay"), (He.ga K "InvalidSizes"), (He.ga K "InvalidTold"), (He.ga K "InvalidText"), (He.ga K "InvalidClaim"), (He.ga K "InvalidCommand"), (He.ga K "EmptyBy"), (He.ga K "UnknownKind"), (He.ga K "UnknownLink"), (He.ga K "UnknownRow"), (He.ga K "UnknownThing"), (He.ga K "Apart"), (He.ga K "Taken"), (He.ga K "Empty"), (He.ga K "NotLet"), (He.ga K "Lacking"), (He.ga K "NothingToUndo"), (He.ga K "CommandFailed"), (He.ga K "TooMany"), (He.ga K "EachError"), (He.ga K "MissingError"), (He.ga K "StateError"), (He.ga K "LimitError")].Nodup, decide (specialIn K (.builtin "object.__class__") "__get__" = some (some (.builtin "getset_descriptor.__get__"))), decide (takesIn K (.builtin "object.__class__") = some true), excB K (He.ga K "InvalidName") [.ref (He.ga K "InvalidName"), .ref (He.ga K "EachError"), .type "ValueError", .type "Exception", .type "BaseException", .type "object"] "ValueError.__new__", iniB K (He.ga K "InvalidName"), eqO (findIn K (.ref (He.ga K "InvalidName")) "value") (some none), excB K (He.ga K "InvalidCount") [.ref (He.ga K "InvalidCount"), .ref (He.ga K "EachError"), .type "ValueError", .type "Exception", .type "BaseException", .type "object"] "ValueError.__new__", iniB K (He.ga K "InvalidCount"), eqO (findIn K (.ref (He.ga K "InvalidCount")) "value") (some none), excB K (He.ga K "InvalidNumber") [.ref (He.ga K "InvalidNumber"), .ref (He.ga K "EachError"), .type "ValueError", .type "Exception", .type "BaseException", .type "object"] "ValueError.__new__", iniB K (He.ga K "InvalidNumber"), eqO (findIn K (.ref (He.ga K "InvalidNumber")) "value") (some none), excB K (He.ga K "InvalidMany") [.ref (He.ga K "InvalidMany"), .ref (He.ga K "EachError"), .type "ValueError", .type "Exception", .type "BaseException", .type "object"] "ValueError.__new__", iniB K (He.ga K "InvalidMany"), eqO (findIn K (.ref (He.ga K "InvalidMany")) "value") (some none), excB K (He.ga K "InvalidRatio") [.ref (He.ga K "InvalidRatio"), .ref (He.ga K "EachError"), .type "ValueError", .type "Exception", .type "BaseException", .type "object"] "ValueError.__new__", iniB K (He.ga K "InvalidRatio"), eqO (findIn K (.ref (He.ga K "InvalidRatio")) "value") (some none), excB K (He.ga K "InvalidKinds") [.ref (He.ga K "InvalidKinds"), .ref (He.ga K "EachError"), .type "ValueError", .type "Exception", .type "BaseException", .type "object"] "ValueError.__new__", iniB K (He.ga K "InvalidKinds"), eqO (findIn K (.ref (He.ga K "InvalidKinds")) "position") (some none), excB K (He.ga K "InvalidLink") [.ref (He.ga K "InvalidLink"), .ref (He.ga K "EachError"), .type "ValueError", .type "Exception", .type "BaseException", .type "object"] "ValueError.__new__", iniB K (He.ga K "InvalidLink"), eqO (findIn K (.ref (He.ga K "InvalidLink")) "value") (some none), excB K (He.ga K "InvalidEnd") [.ref (He.ga K "InvalidEnd"), .ref (He.ga K "EachError"), .type "ValueError", .type "Exception", .type "BaseException", .type "object"] "ValueError.__new__", iniB K (He.ga K "InvalidEnd"), eqO (findIn K (.ref (He.ga K "InvalidEnd")) "value") (some none), excB K (He.ga K "InvalidModel") [.ref (He.ga K "InvalidModel"), .ref (He.ga K "EachError"), .type "ValueError", .type "Exception", .type "BaseException", .type "object"] "ValueError.__new__", iniB K (He.ga K "InvalidModel"), eqO (findIn K (.ref (He.ga K "InvalidModel")) "value") (some none)] : List Bool) ++ ([excB K (He.ga K "InvalidTotal") [.ref (He.ga K "InvalidTotal"), .ref (He.ga K "EachError"), .type "ValueError", .type "Exception", .type "BaseException", .type "object"] "ValueError.__new__", iniB K (He.ga K "InvalidTotal"), eqO (findIn K (.ref (He.ga K "InvalidTotal")) "value") (some none), excB K (He.ga K "InvalidPair") [.ref (He.ga K "InvalidPair"), .ref (He.ga K "EachError"), .type "ValueError", .type "Exception", .type "BaseException", .type "object"] "ValueError.__new__", iniB K (He.ga K "InvalidPair"), eqO (findIn K (.ref (He.ga K "InvalidPair")) "value") (some none), excB K (He.ga K "InvalidRow") [.ref (He.ga K "InvalidRow"), .ref (He.ga K "EachError"), .type "ValueError", .type "Exception", .type "BaseException", .type "object"] "ValueError.__new__", iniB K (He.ga K "InvalidRow"), eqO (findIn K (.ref (He.ga K "InvalidRow")) "value") (some none), excB K (He.ga K "InvalidPairs") [.ref (He.ga K "InvalidPairs"), .ref (He.ga K "EachError"), .type "ValueError", .type "Exception", .type "BaseException", .type "object"] "ValueError.__new__", iniB K (He.ga K "InvalidPairs"), eqO (findIn K (.ref (He.ga K "InvalidPairs")) "link") (some none), eqO (findIn K (.ref (He.ga K "InvalidPairs")) "position") (some none), excB K (He.ga K "InvalidDatabase") [.ref (He.ga K "InvalidDatabase"), .ref (He.ga K "EachError"), .type "ValueError", .type "Exception", .type "BaseException", .type "object"] "ValueError.__new__", iniB K (He.ga K "InvalidDatabase"), eqO (findIn K (.ref (He.ga K "InvalidDatabase")) "value") (some none), excB K (He.ga K "InvalidWay") [.ref (He.ga K "InvalidWay"), .ref (He.ga K "EachError"), .type "ValueError", .type "Exception", .type "BaseException", .type "object"] "ValueError.__new__", iniB K (He.ga K "InvalidWay"), eqO (findIn K (.ref (He.ga K "InvalidWay")) "value") (some none), excB K (He.ga K "InvalidSizes") [.ref (He.ga K "InvalidSizes"), .ref (He.ga K "EachError"), .type "ValueError", .type "Exception", .type "BaseException", .type "object"] "ValueError.__new__", iniB K (He.ga K "InvalidSizes"), eqO (findIn K (.ref (He.ga K "InvalidSizes")) "value") (some none), excB K (He.ga K "InvalidTold") [.ref (He.ga K "InvalidTold"), .ref (He.ga K "EachError"), .type "ValueError", .type "Exception", .type "BaseException", .type "object"] "ValueError.__new__", iniB K (He.ga K "InvalidTold"), eqO (findIn K (.ref (He.ga K "InvalidTold")) "value") (some none), excB K (He.ga K "InvalidText") [.ref (He.ga K "InvalidText"), .ref (He.ga K "EachError"), .type "ValueError", .type "Exception", .type "BaseException", .type "object"] "ValueError.__new__", iniB K (He.ga K "InvalidText"), eqO (findIn K (.ref (He.ga K "InvalidText")) "line") (some none), excB K (He.ga K "InvalidClaim") [.ref (He.ga K "InvalidClaim"), .ref (He.ga K "EachError"), .type "ValueError", .type "Exception", .type "BaseException", .type "object"] "ValueError.__new__", iniB K (He.ga K "InvalidClaim")] : List Bool) ++ ([eqO (findIn K (.ref (He.ga K "InvalidClaim")) "value") (some none), excB K (He.ga K "InvalidCommand") [.ref (He.ga K "InvalidCommand"), .ref (He.ga K "EachError"), .type "ValueError", .type "Exception", .type "BaseException", .type "object"] "ValueError.__new__", iniB K (He.ga K "InvalidCommand"), eqO (findIn K (.ref (He.ga K "InvalidCommand")) "value") (some none), excB K (He.ga K "EmptyBy") [.ref (He.ga K "EmptyBy"), .ref (He.ga K "EachError"), .type "ValueError", .type "Exception", .type "BaseException", .type "object"] "ValueError.__new__", iniB K (He.ga K "EmptyBy"), eqO (findIn K (.ref (He.ga K "EmptyBy")) "paper") (some none), excB K (He.ga K "UnknownKind") [.ref (He.ga K "UnknownKind"), .ref (He.ga K "MissingError"), .type "LookupError", .type "Exception", .type "BaseException", .type "object"] "LookupError.__new__", iniB K (He.ga K "UnknownKind"), eqO (findIn K (.ref (He.ga K "UnknownKind")) "value") (some none), excB K (He.ga K "UnknownLink") [.ref (He.ga K "UnknownLink"), .ref (He.ga K "MissingError"), .type "LookupError", .type "Exception", .type "BaseException", .type "object"] "LookupError.__new__", iniB K (He.ga K "UnknownLink"), eqO (findIn K (.ref (He.ga K "UnknownLink")) "value") (some none), excB K (He.ga K "UnknownRow") [.ref (He.ga K "UnknownRow"), .ref (He.ga K "MissingError"), .type "LookupError", .type "Exception", .type "BaseException", .type "object"] "LookupError.__new__", iniB K (He.ga K "UnknownRow"), eqO (findIn K (.ref (He.ga K "UnknownRow")) "value") (some none), excB K (He.ga K "UnknownThing") [.ref (He.ga K "UnknownThing"), .ref (He.ga K "MissingError"), .type "LookupError", .type "Exception", .type "BaseException", .type "object"] "LookupError.__new__", iniB K (He.ga K "UnknownThing"), eqO (findIn K (.ref (He.ga K "UnknownThing")) "value") (some none), excB K (He.ga K "Apart") [.ref (He.ga K "Apart"), .ref (He.ga K "StateError"), .type "RuntimeError", .type "Exception", .type "BaseException", .type "object"] "RuntimeError.__new__", iniB K (He.ga K "Apart"), eqO (findIn K (.ref (He.ga K "Apart")) "one") (some none), eqO (findIn K (.ref (He.ga K "Apart")) "other") (some none), excB K (He.ga K "Taken") [.ref (He.ga K "Taken"), .ref (He.ga K "StateError"), .type "RuntimeError", .type "Exception", .type "BaseException", .type "object"] "RuntimeError.__new__", iniB K (He.ga K "Taken"), eqO (findIn K (.ref (He.ga K "Taken")) "value") (some none), excB K (He.ga K "Empty") [.ref (He.ga K "Empty"), .ref (He.ga K "StateError"), .type "RuntimeError", .type "Exception", .type "BaseException", .type "object"] "RuntimeError.__new__", iniB K (He.ga K "Empty"), eqO (findIn K (.ref (He.ga K "Empty")) "kind") (some none), eqO (findIn K (.ref (He.ga K "Empty")) "paper") (some none)] : List Bool) ++ ([excB K (He.ga K "NotLet") [.ref (He.ga K "NotLet"), .ref (He.ga K "StateError"), .type "RuntimeError", .type "Exception", .type "BaseException", .type "object"] "RuntimeError.__new__", iniB K (He.ga K "NotLet"), eqO (findIn K (.ref (He.ga K "NotLet")) "link") (some none), eqO (findIn K (.ref (He.ga K "NotLet")) "line") (some none), excB K (He.ga K "Lacking") [.ref (He.ga K "Lacking"), .ref (He.ga K "StateError"), .type "RuntimeError", .type "Exception", .type "BaseException", .type "object"] "RuntimeError.__new__", iniB K (He.ga K "Lacking"), eqO (findIn K (.ref (He.ga K "Lacking")) "obstacle") (some none), excB K (He.ga K "NothingToUndo") [.ref (He.ga K "NothingToUndo"), .ref (He.ga K "StateError"), .type "RuntimeError", .type "Exception", .type "BaseException", .type "object"] "RuntimeError.__new__", excIn K (He.ga K "NothingToUndo") [.type "RuntimeError", .type "Exception", .type "BaseException", .type "object"] "RuntimeError.__new__", excB K (He.ga K "CommandFailed") [.ref (He.ga K "CommandFailed"), .ref (He.ga K "StateError"), .type "RuntimeError", .type "Exception", .type "BaseException", .type "object"] "RuntimeError.__new__", iniB K (He.ga K "CommandFailed"), eqO (findIn K (.ref (He.ga K "CommandFailed")) "position") (some none), excB K (He.ga K "TooMany") [.ref (He.ga K "TooMany"), .ref (He.ga K "LimitError"), .type "ArithmeticError", .type "Exception", .type "BaseException", .type "object"] "ArithmeticError.__new__", iniB K (He.ga K "TooMany"), eqO (findIn K (.ref (He.ga K "TooMany")) "what") (some none), eqO (findIn K (.ref (He.ga K "TooMany")) "limit") (some none), excB K (He.ga K "EachError") [.ref (He.ga K "EachError"), .type "ValueError", .type "Exception", .type "BaseException", .type "object"] "ValueError.__new__", excIn K (He.ga K "EachError") [.type "ValueError", .type "Exception", .type "BaseException", .type "object"] "ValueError.__new__", excB K (He.ga K "MissingError") [.ref (He.ga K "MissingError"), .type "LookupError", .type "Exception", .type "BaseException", .type "object"] "LookupError.__new__", excIn K (He.ga K "MissingError") [.type "LookupError", .type "Exception", .type "BaseException", .type "object"] "LookupError.__new__", excB K (He.ga K "StateError") [.ref (He.ga K "StateError"), .type "RuntimeError", .type "Exception", .type "BaseException", .type "object"] "RuntimeError.__new__", excIn K (He.ga K "StateError") [.type "RuntimeError", .type "Exception", .type "BaseException", .type "object"] "RuntimeError.__new__", excB K (He.ga K "LimitError") [.ref (He.ga K "LimitError"), .type "ArithmeticError", .type "Exception", .type "BaseException", .type "object"] "ArithmeticError.__new__", excIn K (He.ga K "LimitError") [.type "ArithmeticError", .type "Exception", .type "BaseException", .type "object"] "ArithmeticError.__new__"] : List Bool)
def exB (K : PySem.W.Frag) : Bool := (tests K).all id
def looseL : List PySem.Str := (["EachError", "InvalidName", "InvalidCount", "InvalidNumber", "InvalidMany", "InvalidRatio", "InvalidKinds", "InvalidLink", "InvalidEnd", "InvalidModel", "InvalidTotal", "InvalidPair", "InvalidRow", "InvalidPairs", "InvalidDatabase", "InvalidWay", "InvalidSizes", "InvalidTold", "InvalidText", "InvalidClaim", "InvalidCommand", "EmptyBy", "MissingError", "UnknownKind", "UnknownLink", "UnknownRow", "UnknownThing", "StateError", "Apart", "Taken"] : List PySem.Str) ++ (["Empty", "NotLet", "Lacking", "NothingToUndo", "CommandFailed", "LimitError", "TooMany", "_law_rng", "_law_draw", "_law_choice", "_law_first", "_law_second", "_law_third", "_law_first_named", "_law_second_named", "_law_third_named", "_law_made", "_law_named", "_law_flags", "_law_bases", "_law_kept", "_law_last_kept", "_law_one_right", "_law_grounds_right"] : List PySem.Str)
abbrev rowR : PySem.W.OpenRow := PySem.W.OpenLaw.row PySem.Challenge.rw_howmanyeach_k10_error_classes
abbrev hkL : PySem.W.Hook := He.hookX 5 faL fnL [] [] exB
def obL (s : PySem.W.SharedT) : He.AlX := He.obsX 5 faL fnL [] [] exB (HandSHeadRun.getT s)
theorem obL_eq (s : PySem.W.SharedT) : obL s = hkL.obs s.abs := He.obsX_eq (HandSHeadRun.getT_eq s)
theorem runL (w : World) : HandSHeadRun.RunEq rowR (PySem.W.view rowR.prog [56]) hkL obL 12000 looseL w := by
  intro os
  kernel_rfl
end My
end
namespace My
open PySem L2
/-! ### readings, one row each -/
section
variable {σ : L2.St} {H : Hp} {Q : VK} {i : Nat} {v x y : V} {ta tb te tc : TE} {r : R2} {D : Ends} {t u : TS} {tt tu : TT} {ts : TA} {g : TG} {K : PySem.W.Frag} {QB : Bool → Hp → Prop} {QA : List V → Hp → Prop}
theorem s_var (e : σ[i]? = some (some v)) (q : Q v H) : tVar i σ H Q := ⟨v, e, q⟩
theorem s_c (q : Q v H) : tC v σ H Q := q
theorem s_op (h : ta σ H fun x H1 => tb σ H1 fun y H2 => r x y H2 Q) : tOp r ta tb σ H Q := h
theorem s_un {r : V → Hp → VK → Prop} (h : ta σ H fun x H1 => r x H1 Q) : tUn r ta σ H Q := h
theorem s_cons (h : ta σ H fun x H1 => ts σ H1 fun xs H2 => QA (x :: xs) H2) : tCons ta ts σ H QA := h
theorem s_nil (h : QA [] H) : tNil σ H QA := h
theorem s_cb {r : List V → Hp → VK → Prop} (h : ts σ H fun vs H1 => r vs H1 Q) : tCB r ts σ H Q := h
theorem s_test (h : te σ H fun x H' => ∃ k, x = .bl k ∧ QB k H') : tTest te σ H QB := h
theorem s_B (h : te σ H fun x H' => ∃ k, x = .bl k ∧ QB k H') : tB te σ H QB := h
theorem s_not (h : tt σ H fun c H1 => QB (!c) H1) : tNot tt σ H QB := h
theorem s_and (h : tt σ H fun c H1 => if c = true then tu σ H1 QB else QB false H1) : tAnd tt tu σ H QB := h
theorem s_or (h : tt σ H fun c H1 => if c = true then QB true H1 else tu σ H1 QB) : tOr tt tu σ H QB := h
theorem s_if (h : tt σ H fun c H1 => if c = true then ta σ H1 Q else tb σ H1 Q) : tIf tt ta tb σ H Q := h
theorem s_notV (h : ta σ H fun x H1 => ∃ c, x = .bl c ∧ Q (.bl (!c)) H1) : tNotV ta σ H Q := h
theorem s_andV (h : ta σ H fun x H1 => ∃ c, x = .bl c ∧ if c = true then tb σ H1 Q else Q (.bl false) H1) : tAndV ta tb σ H Q := h
theorem s_orV (h : ta σ H fun x H1 => ∃ c, x = .bl c ∧ if c = true then Q (.bl true) H1 else tb σ H1 Q) : tOrV ta tb σ H Q := h
theorem s_isN (h : ta σ H fun x H1 => Q (.bl (decide (x = .non))) H1) : tIsN ta σ H Q := h
theorem s_notN (h : ta σ H fun x H1 => Q (.bl (!decide (x = .non))) H1) : tNotN ta σ H Q := h
theorem s_seq (h : t { D with nx := u D } σ H) : tSeq t u D σ H := h
theorem s_ifS (h : tt σ H fun b H1 => if b = true then t D σ H1 else u D σ H1) : tIfS tt t u D σ H := h
theorem s_asg (h : te σ H fun x H1 => g x σ H1 D.nx) : tAsg te g D σ H := h
theorem s_ret (h : te σ H D.rt) : tRet te D σ H := h
theorem s_drop (h : te σ H fun _ H1 => D.nx σ H1) : tDrop te D σ H := h
theorem s_next (h : D.nx σ H) : tNext D σ H := h
theorem s_break (h : D.bk σ H) : tBreak D σ H := h
theorem s_cont (h : D.ct σ H) : tCont D σ H := h
theorem s_gname {Q : L2.St → Hp → Prop} (h : Q (σ.set i (some v)) H) : gName i v σ H Q := h
theorem s_gsub {Q : L2.St → Hp → Prop} {to ti : TE} {t : TSet} (h : to σ H fun o H1 => ti σ H1 fun i H2 => t o i v H2 fun H3 => Q σ H3) : gSub to ti t v σ H Q := h
theorem s_gcons {Q : L2.St → Hp → Prop} {t : TG} {u : TGs} {vs : List V} (h : t v σ H fun σ' H' => u vs σ' H' Q) : gCons t u (v :: vs) σ H Q := ⟨v, vs, rfl, h⟩
theorem s_gnil {Q : L2.St → Hp → Prop} (h : Q σ H) : gNil [] σ H Q := ⟨rfl, h⟩
theorem s_gtup {Q : L2.St → Hp → Prop} {n : Nat} {t : TGs} {a : Addr} {xs : List V} (h1 : H a = some (.tup xs)) (h2 : xs.length = n) (h : t xs σ H Q) : gTup K n t (.ref a) σ H Q := ⟨a, xs, rfl, SqT.of h1, h2, h⟩
theorem s_I0 {g : Int → Int → V} {a b : Int} (q : Q (g a b) H) : rI0 g (.int a) (.int b) H Q := ⟨a, b, rfl, rfl, q⟩
theorem s_I {C : Int → Int → Prop} {g : Int → Int → V} {a b : Int} (hc : C a b) (q : Q (g a b) H) : rI C g (.int a) (.int b) H Q := ⟨a, b, rfl, rfl, hc, q⟩
theorem s_ixL {a : Addr} {xs : List V} {k : Int} (h : H a = some (.lst xs)) (e : atI xs k = some v) (q : Q v H) : rIxL K (.ref a) (.int k) H Q := ⟨a, xs, k, v, rfl, rfl, SqL.of h, e, q⟩
theorem s_ixT {a : Addr} {xs : List V} {k : Int} (h : H a = some (.tup xs)) (e : atI xs k = some v) (q : Q v H) : rIxT K (.ref a) (.int k) H Q := ⟨a, xs, k, v, rfl, rfl, SqT.of h, e, q⟩
theorem s_setL {a : Addr} {xs : List V} {k : Int} {j : Nat} {Q : Hp → Prop} (h : H a = some (.lst xs)) (e : ixN xs.length k = some j) (q : Q (upd H a (.lst (xs.set j v)))) : rSetL (.ref a) (.int k) v H Q := ⟨a, xs, k, j, rfl, rfl, h, e, q⟩
theorem s_tup (h : ts σ H fun xs H1 => xs.length ≤ sizeLine ∧ ∀ p, H1 p = none → Q (.ref p) (upd H1 p (.tup xs))) : tTup ts σ H Q := h
theorem s_lst (h : ts σ H fun xs H1 => xs.length ≤ sizeLine ∧ ∀ p, H1 p = none → Q (.ref p) (upd H1 p (.lst xs))) : tLst ts σ H Q := h
theorem s_call {sp : Sp} {dvs : List V} {E : XK} (h : ts σ H fun vs H1 => sp (vs ++ dvs) H1 Q E) : tCall sp dvs E ts σ H Q := h
theorem s_fld {a C dx : Addr} {fs : List (Str × V)} {f : Str} (h : ta σ H fun x H1 => ∃ a C dx fs v, x = .ref a ∧ H1 a = some (.ins C dx fs) ∧ Cls K C ∧ NoAttr K C f ∧ fs.lookup f = some v ∧ Q v H1) : tFld K ta f σ H Q := h
theorem ite_d {p : Prop} [Decidable p] {A B : Prop} (h1 : p → A) (h2 : ¬ p → B) : if decide p = true then A else B := by
  by_cases h : p
  · rw [if_pos (decide_eq_true h)]; exact h1 h
  · rw [if_neg (by simpa using h)]; exact h2 h
theorem ite_n {p : Prop} [Decidable p] {A B : Prop} (h1 : ¬ p → A) (h2 : p → B) : if (!decide p) = true then A else B := by
  by_cases h : p
  · rw [if_neg (by simpa using h)]; exact h2 h
  · rw [if_pos (by simpa using h)]; exact h1 h
end
theorem st_eq {N : List Str} {vs : List V} {σ : L2.St} {t : TS} {D : Ends} {H : Hp} (e : L2.start N vs = σ) (h : t D σ H) : t D (L2.start N vs) H := by
  rw [e]; exact h
theorem divp_wide {i j : Int} (h : 0 < j) (hb : j.natAbs.log2 < 9000) : CDivP i j := ⟨h, PyProof.noPylong_of_log2 hb⟩
/-! ### heaps -/
/-- all but r stays -/
def But (r : Addr) (H H' : Hp) : Prop := ∀ c o, H c = some o → c ≠ r → H' c = some o
theorem But.get {r c : Addr} {o : HO} {H H' : Hp} (b : But r H H') (h : H c = some o) (n : c ≠ r) : H' c = some o := b c o h n
theorem But.refl (r : Addr) (H : Hp) : But r H H := fun _ _ h _ => h
theorem But.trans {r : Addr} {H H1 H2 : Hp} (a : But r H H1) (b : But r H1 H2) : But r H H2 := fun c o h n => b c o (a c o h n) n
theorem But.new {r p : Addr} {o : HO} {H : Hp} (h : H p = none) : But r H (upd H p o) := fun c u e _ => by rw [upd_ne (ne_of_none e h)]; exact e
theorem But.at {r : Addr} {o : HO} {H : Hp} : But r H (upd H r o) := fun c u e n => by rw [upd_ne n]; exact e
theorem Same.get {c : Addr} {o : HO} {H H' : Hp} (b : Same H H') (h : H c = some o) : H' c = some o := b c o h
end My
namespace My
open PySem L2 PySem.Spec PyProof.Rows
/-! ### defs that may tell texts of containers: what is being shown already is known to be nothing -/
structure RoomG (k : Nat) (A : Around) : Prop where
  r : Room k A
  g : A.guards = some []
theorem RoomG.mono {j k : Nat} {A : Around} (q : RoomG k A) (h : j ≤ k) : RoomG j A := ⟨q.r.mono h, q.g⟩
theorem RoomG.units {k : Nat} {A : Around} (q : RoomG k A) : A.units + 64 < cLine := q.r.units
theorem RoomG.in1 {k : Nat} {A : Around} (q : RoomG (k + 1) A) : RoomG k A.in1 := ⟨q.r.in1, q.g⟩
theorem hug {A : Around} {k : Nat} (q : RoomG k A) : A.units + 1 < cLine := hu_of q.r
/-- the def at f keeps the promise sp wherever nothing is being shown -/
structure FnG (P : Program) (w : World) (K : PySem.W.Frag) (mg : Str → Option Value) (base : Heap) (CX : CXT) (k : Nat) (f : Addr) (fd : FuncData) (ps : List Str) (sp : Sp) : Prop where
  len : ∀ vs H Q E, sp vs H Q E → vs.length = ps.length
  go : ∀ (A : Around) (outer : List Env) (s : Shared) (H : Hp) (args : Args) (us : List Value) (vs : List V) (Q : VK) (E : XK), RoomG k A →
    Env0 P w K mg base A outer s H → BindsTo s fd args (ps.zip us) → Vals vs us → sp vs H Q E →
      codeAny (model P w) A (.call (.ref f) args) (CR CX outer P w H s Q E) s
section
variable {P : Program} {w : World} {K : PySem.W.Frag} {mg : Str → Option Value} {base : Heap} {CX : CXT} {k j : Nat} {f : Addr} {fd : FuncData} {ps : List Str} {sp sp' : Sp}
theorem FnG.of (F : FnOk P w K mg base CX k f fd ps sp) : FnG P w K mg base CX k f fd ps sp := ⟨F.len, fun A outer s H args us vs Q E hr => F.run A outer s H args us vs Q E hr.r⟩
theorem FnG.mono (F : FnG P w K mg base CX j f fd ps sp) (h : j ≤ k) : FnG P w K mg base CX k f fd ps sp := ⟨F.len, fun A outer s H args us vs Q E hr => F.go A outer s H args us vs Q E (hr.mono h)⟩
theorem FnG.imp (F : FnG P w K mg base CX k f fd ps sp) (h : ∀ vs H Q E, sp' vs H Q E → sp vs H Q E) : FnG P w K mg base CX k f fd ps sp' :=
  ⟨fun vs H Q E q => F.len vs H Q E (h _ _ _ _ q), fun A outer s H args us vs Q E hr a b c d => F.go A outer s H args us vs Q E hr a b c (h _ _ _ _ d)⟩
theorem fnG_body {x qual : Str} {st : Stmt} {N : List Str} {dvs0 : List V} {kws0 : List (Str × V)} (F : FunD K x qual (defArgs st) (defBody st) (defScope st) dvs0 kws0 f fd) (S : FnScope N ps (defScope st)) (len : ∀ vs H Q E, sp vs H Q E → vs.length = ps.length)
    (hb : ∀ (cdv : Value) (A : Around) (outer : List Env) (s : Shared) (H : Hp) (vs : List V) (Q : VK) (E : XK), RoomG k (A.deeper (envOfC qual (defScope st) s.heap.objs.size f cdv)) → sp vs H Q E →
      ∃ t, PSs (cxOf CX P w K mg base N qual (defScope st) f cdv A outer s H E) (defBody st) t ∧ t { nx := fun _ H' => Q .non H', rt := Q } (start N vs) H) :
    FnG P w K mg base CX (k + 1) f fd ps sp := by
  obtain ⟨oc, od, dV, kV, doc, pm, an, cdv, ct, osl, rfl, lk, hcd, _, _⟩ := F.ex
  constructor
  · exact len
  · intro A outer s H args us vs Q E hr e0 hbi r hsp
    have keeps0 : ∀ b o, base.get? b = some o → s.heap.get? b = some o := fun b o e => (e0.bs b o e).1
    have inK : K.In s.heap := e0.mod.kin.keeps keeps0
    refine codeAny_call_function hr.r.depth (inK _ _ lk) rfl S.co S.gen rfl (PySem.W.codeRec_of inK hcd) (hbi _ _ _ _ ?_)
    refine wpAny_newFunctionEnv_cells S.kind ?_ fun env he s1 x => ?_
    · intro ⟨n, v⟩ hy
      cases S.par n (List.of_mem_zip hy).1 with
      | inl q => exact Or.inl q
      | inr q => exact Or.inr ⟨q, PySem.W.cellsFrom_some _ _ _ (Or.inl q)⟩
    · subst he
      refine ⟨(e0.mod.nolimit.keeps keeps0).keeps x.toInCall.keep, codeAny_func ?_⟩
      obtain ⟨t, ht, hq⟩ := hb cdv A outer s H vs Q E ⟨hr.r.deeper _, hr.g⟩ hsp
      have I0 := inv_start (CX := CX) (P := P) (E := E) S hr.r.hd e0 (len _ _ _ _ hsp) r x
      refine wpAny_mono (ht.run [] s1 (start N vs) H _ I0 hq) ?_ (fun _ _ z => z)
      intro fl s' hs
      cases fl with
      | ret u => obtain ⟨v, σ', H', J, rv, q⟩ := hs; exact ⟨v, H', J.os, J.bare, J.base, J.hok, rv, q⟩
      | next => obtain ⟨σ', H', J, q⟩ := hs; exact ⟨V.non, H', J.os, J.bare, J.base, J.hok, rfl, q⟩
      | brk => exact hs.elim fun _ z => z.elim fun _ y => y.2.elim
      | cont => exact hs.elim fun _ z => z.elim fun _ y => y.2.elim
end
/-! ### bundles: a def, a class, a method, a property, by its name -/
structure Dn (P : Program) (w : World) (K : PySem.W.Frag) (mg : Str → Option Value) (base : Heap) (x : Str) (k : Nat) (ps : List Str) (dvs : List V) (sp : Sp) : Prop where
  ex : ∃ (f : Addr) (fd : FuncData) (ds : List Value), FnG P w K mg base CX0 k f fd ps sp ∧ mg x = some (.ref f) ∧ PySem.W.keepIn K (.ref f) = true ∧ Binds K fd ps ds ∧ Vals dvs ds
structure Mkn (P : Program) (w : World) (K : PySem.W.Frag) (mg : Str → Option Value) (base : Heap) (x : Str) (C : Addr) (k : Nat) (ps : List Str) (dvs : List V) (sp : Sp) : Prop where
  ex : ∃ (f : Addr) (fd : FuncData) (ds : List Value), Mk K C f ∧ FnG P w K mg base CX0 k f fd ps sp ∧ mg x = some (.ref C) ∧ Binds K fd ps ds ∧ Vals dvs ds
structure Mtn (P : Program) (w : World) (K : PySem.W.Frag) (mg : Str → Option Value) (base : Heap) (C : Addr) (m : Str) (k : Nat) (ps : List Str) (dvs : List V) (sp : Sp) : Prop where
  ex : ∃ (f : Addr) (fd : FuncData) (ds : List Value), Cls K C ∧ Meth K C m f ∧ FnG P w K mg base CX0 k f fd ps sp ∧ Binds K fd ps ds ∧ Vals dvs ds
structure Prn (P : Program) (w : World) (K : PySem.W.Frag) (mg : Str → Option Value) (base : Heap) (C : Addr) (m : Str) (k : Nat) (ps : List Str) (dvs : List V) (sp : Sp) : Prop where
  ex : ∃ (p g : Addr) (fd : FuncData) (ds : List Value), Cls K C ∧ PropOf K C m p g ∧ FnG P w K mg base CX0 k g fd ps sp ∧ Binds K fd ps ds ∧ Vals dvs ds
section
variable {X : Cx} {j k : Nat} {f C : Addr} {fd : FuncData} {ps : List Str} {sp : Sp} {dvs : List V} {ds : List Value} {x m : Str} {p pos apos : Pos} {e o : Expr} {es : List Expr} {ta : TE} {t : TA}
theorem goG {pins : List (Addr × Obj)} {σ : L2.St} {H : Hp} {s : Shared} {Q : VK} {us : List Value} {vs : List V} (F : FnG X.prog X.w X.K X.mg X.base CX0 k f fd ps sp) (hr : RoomG k X.A) (hb : Binds X.K fd ps ds) (hd : Vals dvs ds)
    (I : Inv X pins σ H s) (r : Vals vs us) (h : sp (vs ++ dvs) H Q E0) : wpAny (model X.prog X.w) X.A (call (.ref f) us) (EP X pins σ Q) X.xe s := by
  have r2 := r.append hd
  have hl : (us ++ ds).length = ps.length := r2.length.symm.trans (F.len _ _ _ _ h)
  refine wpAny_call (codeAny_mono (F.go X.A X.stack s H ⟨us, []⟩ (us ++ ds) _ Q E0 hr I.env0 (hb s us I.kIn hl) r2 h) ?_)
  intro r s' hq
  cases r with
  | error e => exact (show False from hq).elim
  | ok fl => cases fl with
    | ret u => exact I.after hq
    | next => exact (show False from hq).elim
    | brk => exact (show False from hq).elim
    | cont => exact (show False from hq).elim
theorem pe_callD (D : Dn X.prog X.w X.K X.mg X.base x k ps dvs sp) (hr : RoomG k X.A) (hg : Gl X x) (ha : PA X (e :: es) t) (hdb : (x == ("__debug__" : Str)) = false := by decide)
    (h1 : starEach (e :: es) X.env = (false, eval e X.env) :: starEach es X.env := by rfl) (h2 : (backTo pos (starEach es X.env)).any (·.1) = false := by rfl) : PE X (.Call (.Name x p) (e :: es) [] pos) (tCall sp dvs E0 t) := by
  obtain ⟨f, fd, ds, F, hm, hk, hb, hd⟩ := D.ex
  constructor
  intro pins s σ H Q I h
  exact wpAny_Call_Name_kw (ld_glob I hg hm (PySem.W.callWith_K (h₀ := X.base) I.ok.mod.kin hk (thn (ha.run pos pins s σ H _ I h) fun us s1 ⟨vs, H1, I1, r, q⟩ => ⟨I1.kIn, goG F hr hb hd I1 r q⟩) h1 h2) hdb)
theorem pe_call0D (D : Dn X.prog X.w X.K X.mg X.base x k ps dvs sp) (hr : RoomG k X.A) (hg : Gl X x) (hdb : (x == ("__debug__" : Str)) = false := by decide) : PE X (.Call (.Name x p) [] [] pos) (tCall sp dvs E0 tNil) := by
  obtain ⟨f, fd, ds, F, hm, hk, hb, hd⟩ := D.ex
  constructor
  intro pins s σ H Q I h
  exact wpAny_Call_Name_kw (ld_glob I hg hm (PySem.W.callWith_K0 I.kIn hk (goG (us := []) F hr hb hd I .nil h)) hdb)
theorem goMake {pins : List (Addr × Obj)} {σ : L2.St} {H : Hp} {s : Shared} {Q : VK} {us : List Value} {vs : List V} (M : Mk X.K C f) (F : FnG X.prog X.w X.K X.mg X.base CX0 k f fd ps sp) (hr : RoomG (k + 1) X.A) (hb : Binds X.K fd ps ds) (hd : Vals dvs ds)
    (I : Inv X pins σ H s) (r : Vals vs us) (h : ∀ x dx, H x = none → H dx = none → dx ≠ x → sp (.ref x :: (vs ++ dvs)) (upd (upd H dx (.own x)) x (.ins C dx [])) (fun v H2 => v = .non ∧ Q (.ref x) H2) E0) :
    wpAny (model X.prog X.w) X.A (call (.ref C) us) (EP X pins σ Q) X.xe s := by
  have nx : H (s.heap.objs.size + 1) = none := I.hok.fresh (Nat.le_succ _)
  have nd : H s.heap.objs.size = none := I.hok.fresh (Nat.le_refl _)
  have hq := h _ _ nx nd (Nat.ne_of_lt (Nat.lt_succ_self _))
  have J := Inv.made (C := C) I
  have r2 : Vals (V.ref (s.heap.objs.size + 1) :: (vs ++ dvs)) (Value.ref (s.heap.objs.size + 1) :: us ++ ds) := .cons rfl (r.append hd)
  have hl : (Value.ref (s.heap.objs.size + 1) :: us ++ ds).length = ps.length := r2.length.symm.trans (F.len _ _ _ _ hq)
  have hr2 : RoomG k (X.A.under (.builtin "type.__call__" ⟨.ref C :: us, []⟩)) := ⟨hr.r.make C us [], hr.g⟩
  refine wpAny_call (make_map (f := f) I.kIn M.makes M.init (beq_iff_eq.mp M.fn) (codeAny_mono
    (F.go _ X.stack _ _ ⟨Value.ref (s.heap.objs.size + 1) :: us, []⟩ _ _ _ E0 hr2 (J.env0.make C us []) (hb _ (Value.ref (s.heap.objs.size + 1) :: us) J.kIn hl) r2 hq) ?_))
  intro r s' hq'
  cases r with
  | error e => exact (show False from hq').elim
  | ok fl => cases fl with
    | ret u =>
      obtain ⟨v, H', I3, rv, ev, q3⟩ := J.after hq'
      subst ev
      exact ⟨rv, V.ref (s.heap.objs.size + 1), H', I3, rfl, q3⟩
    | next => exact (show False from hq').elim
    | brk => exact (show False from hq').elim
    | cont => exact (show False from hq').elim
theorem pe_makeD (D : Mkn X.prog X.w X.K X.mg X.base x C k ps dvs sp) (hr : RoomG (k + 1) X.A) (hg : Gl X x) (ha : PA X (e :: es) t) (hdb : (x == ("__debug__" : Str)) = false := by decide)
    (h1 : starEach (e :: es) X.env = (false, eval e X.env) :: starEach es X.env := by rfl) (h2 : (backTo pos (starEach es X.env)).any (·.1) = false := by rfl) : PE X (.Call (.Name x p) (e :: es) [] pos) (tMake C sp dvs E0 t) := by
  obtain ⟨f, fd, ds, M, F, hm, hb, hd⟩ := D.ex
  constructor
  intro pins s σ H Q I h
  exact wpAny_Call_Name_kw (ld_glob I hg hm (PySem.W.callWith_K (h₀ := X.base) I.ok.mod.kin M.kp (thn (ha.run pos pins s σ H _ I h) fun us s1 ⟨vs, H1, I1, r, q⟩ => ⟨I1.kIn, goMake M F hr hb hd I1 r q⟩) h1 h2) hdb)
theorem pe_make0D (D : Mkn X.prog X.w X.K X.mg X.base x C k ps dvs sp) (hr : RoomG (k + 1) X.A) (hg : Gl X x) (hdb : (x == ("__debug__" : Str)) = false := by decide) : PE X (.Call (.Name x p) [] [] pos) (tMake C sp dvs E0 tNil) := by
  obtain ⟨f, fd, ds, M, F, hm, hb, hd⟩ := D.ex
  constructor
  intro pins s σ H Q I h
  exact wpAny_Call_Name_kw (ld_glob I hg hm (PySem.W.callWith_K0 I.kIn M.kp (goMake (us := []) M F hr hb hd I .nil h)) hdb)
theorem pe_methD {pl : Sem Bool} (D : Mtn X.prog X.w X.K X.mg X.base C m k ps dvs sp) (he : PE X o ta) (hr : RoomG k X.A) (ha : PA X (e :: es) t)
    (h1 : starEach (e :: es) X.env = (false, eval e X.env) :: starEach es X.env := by rfl) (h2 : (backTo pos (starEach es X.env)).any (·.1) = false := by rfl)
    (h3 : eval (.Call (.Attribute o m apos) (e :: es) [] pos) X.env = (do
      let v ← eval o X.env
      standAt apos.atName
      let (g, fst) ← holding [v] (getMethod v m pl)
      callWith pos g fst (backTo pos (starEach (e :: es) X.env)) (backToKw pos (keywordEach [] X.env))) := by rfl) : PE X (.Call (.Attribute o m apos) (e :: es) [] pos) (tMeth C m sp dvs E0 ta t) := by
  obtain ⟨f, fd, ds, c, hm, F, hb, hd⟩ := D.ex
  constructor
  intro pins s σ H Q I h
  refine PySem.W.methodCall_KW (pl := pl) (thn (he.run pins s σ H _ I h) ?_) h3
  rintro u s1 ⟨x, H1, I1, rx, a, dx, fs, rfl, ea, l, q⟩
  obtain rfl : u = Value.ref a := rx
  exact getmeth_ok I1 ea c hm l (PySem.W.callWith_K (first := [.ref a]) I1.kIn hm.kp (thn (ha.run pos pins s1 σ H1 _ I1 q) fun us s2 ⟨vs, H2, I2, r, q2⟩ => ⟨I2.kIn, goG (vs := .ref a :: vs) F hr hb hd I2 (.cons rfl r) q2⟩) h1 h2)
theorem pe_meth0D {pl : Sem Bool} (D : Mtn X.prog X.w X.K X.mg X.base C m k ps dvs sp) (he : PE X o ta) (hr : RoomG k X.A)
    (h3 : eval (.Call (.Attribute o m apos) [] [] pos) X.env = (do
      let v ← eval o X.env
      standAt apos.atName
      let (g, fst) ← holding [v] (getMethod v m pl)
      callWith pos g fst (backTo pos (starEach [] X.env)) (backToKw pos (keywordEach [] X.env))) := by rfl) : PE X (.Call (.Attribute o m apos) [] [] pos) (tMeth C m sp dvs E0 ta tNil) := by
  obtain ⟨f, fd, ds, c, hm, F, hb, hd⟩ := D.ex
  constructor
  intro pins s σ H Q I h
  refine PySem.W.methodCall_KW (pl := pl) (thn (he.run pins s σ H _ I h) ?_) h3
  rintro u s1 ⟨x, H1, I1, rx, a, dx, fs, rfl, ea, l, q⟩
  obtain rfl : u = Value.ref a := rx
  exact getmeth_ok I1 ea c hm l (PySem.W.callWith_K0 (first := [.ref a]) I1.kIn hm.kp (goG (us := [.ref a]) (vs := [.ref a]) F hr hb hd I1 (.cons rfl .nil) q))
theorem pe_propD (D : Prn X.prog X.w X.K X.mg X.base C m k ps dvs sp) (he : PE X e ta) (hr : RoomG (k + 1) X.A) (hab : attributeBase e m X.env (eval e X.env) = eval e X.env) : PE X (.Attribute e m pos) (tProp C sp dvs E0 ta) := by
  obtain ⟨p, g, fd, ds, c, hp, F, hb, hd⟩ := D.ex
  constructor
  intro pins s σ H Q I h
  refine attr_of hab (thn (he.run pins s σ H _ I h) ?_)
  rintro u s1 ⟨x, H1, I1, rx, a, dx, fs, rfl, ea, q⟩
  obtain rfl : u = Value.ref a := rx
  obtain ⟨mA, O, _, _, _, _⟩ := ins_get I1.hok ea
  obtain ⟨od, J, _⟩ := O.look
  obtain ⟨rest, hrec⟩ := hp.rec_
  have I2 := I1.tok (s1.toks + 1)
  have hl : ([Value.ref a] ++ ds).length = ps.length := by
    have z := F.len _ _ _ _ q
    have y := hd.length
    simp only [List.length_cons, List.length_append, List.length_nil] at z ⊢
    omega
  have hc : (PySem.W.clsIn X.K C).isSome = true := by
    obtain ⟨cd, hc, _⟩ := PySem.W.any_some c.hd
    simp [hc]
  have pg := PySem.W.plainGet_of (c.get m)
  refine PySem.W.get_bind I1.kIn J pg.1 (PySem.W.findObj_data hc hp.at_ hp.get hp.tak) pg.2 (wpAny_call (PySem.W.prop_get (s := { s1 with toks := s1.toks + 1 }) I1.kIn hrec ?_))
  refine codeAny_mono (F.go X.A.in1 X.stack { s1 with toks := s1.toks + 1 } H1 ⟨[.ref a], []⟩ (.ref a :: ds) (.ref a :: dvs) Q E0 hr.in1 I2.env0.in1 (hb _ [.ref a] I2.kIn hl) (.cons rfl hd) q) ?_
  intro r s' hq
  cases r with
  | error er => exact (show False from hq).elim
  | ok fl => cases fl with
    | ret u =>
      obtain ⟨v, H', I3, rv, q3⟩ := I2.after hq
      show wpAny _ _ (handedOut u) _ _ _
      rw [PySem.W.handedOut_of (handed_of rv)]
      exact wpAny_pure ⟨v, H', I3, rv, q3⟩
    | next => exact (show False from hq).elim
    | brk => exact (show False from hq).elim
    | cont => exact (show False from hq).elim
/-- repr of data -/
theorem call_reprD (hr : RoomG k X.A) : CallR X (.builtin "repr") (fun xs H Q => ∃ y d, xs = [y] ∧ Dp X.K H y d ∧ SeqAt.shaped d = true ∧ d.showable = true ∧ d.hasDict = false ∧ d.shown.length ≤ sizeLine ∧ Q (.str d.shown) H) := by
  intro pins s σ H xs us Q I r h
  obtain ⟨y, d, rfl, hd, hs, hw, hn, hz, q⟩ := h
  obtain ⟨u, rfl, ru⟩ := vals1 r
  obtain ⟨as, rd⟩ := Dp.reads I d y u hd ru
  have hA : X.A.units + (d.depth + 1) < cLine := by
    have := SeqAt.depth_of_shaped hs
    have := hr.r.un
    omega
  have fin : ∀ {t : Tok} {s' : Shared}, Inv X pins σ H s' → EP X pins σ Q (.str d.shown t) s' := fun J => ⟨.str d.shown, H, J, ⟨_, rfl⟩, q⟩
  cases rd with
  | none => exact PySem.P.repr_of_none (fin (I.tok _))
  | bool b => exact PySem.P.repr_of_bool (fin (I.tok _))
  | int i t => exact PySem.P.repr_of_int (of_decide_eq_true hw) (fin (I.tok _))
  | str z t => exact PySem.P.repr_of_str (fin (I.tok _)) hz
  | list h1 h2 h3 h4 => exact PySem.repr_of_reads' (.list h1 h2 h3 h4) hw (PyData.noDict_hsm hn) hr.g hA (fun _ _ e => e) (fun h' t tk hk => fin (I.kept hk)) hz
  | tuple h1 h2 h3 h4 => exact PySem.repr_of_reads' (.tuple h1 h2 h3 h4) hw (PyData.noDict_hsm hn) hr.g hA (fun _ _ e => e) (fun h' t tk hk => fin (I.kept hk)) hz
  | dict h1 h2 h3 h4 h5 => simp [PyData.hasDict] at hn
end
end My
namespace My
open PySem L2 PySem.Spec PyProof.Rows PySem.W
section
variable {P : Program} {w : World} {K : Frag} {mg mb : Str → Option Value} {k : Nat} {fa a : Addr} {fd : FuncData} {x : Str} {sp : Sp} {s : Shared} {vs : List Value} {ns : List Int}
abbrev lawEnd (s : Shared) : Result → Shared → Prop := fun r s' => r = .ok (.ret (.bool true)) ∧ OldK s.heap s'.heap ∧ s'.os = s.os ∧ AllBare s'.gens
theorem lawG_from {H : Hp} (KX : K.In s.heap) (hns : s.heap.Ns mainGlobals mg) (hb : s.heap.Ns builtinsNs mb) (hbb : ∀ y : Str, y ≠ "__name__" → mb y = bootBuiltins y) (hlim : s.heap.NoLimit) (hg : s.gens = #[])
    (ha : s.heap.get? a = some { cls := .type "list", data := .seq vs.toArray }) (hr : RoomG k callerA)
    (F : ∀ base : Heap, K.In base → base.Ns mainGlobals mg → FnG P w K mg base CX0 k fa fd [x] sp) (bnd : ∀ (s : Shared) (u : Value), BindsTo s fd ⟨[u], []⟩ [(x, u)])
    (hsp : sp [.ref a] H (fun v _ => v = .bl true) E0) (only : Only H) (ok : HOk P w H s.heap) (atA : ∀ b, H b ≠ none → b = a) (nK : H a ≠ none → K.lookup a = none) :
    codeAny (model P w) callerA (.call (.ref fa) ⟨[.ref a], []⟩) (lawEnd s) s := by
  have free : ∀ {b : Addr}, b ≠ a → H b = none := fun {b} n => Classical.byContradiction fun z => n (atA b z)
  have nsB : ∀ {b : Addr} {m : Str → Option Value}, s.heap.Ns b m → (hidT s.heap H).Ns b m := by
    rintro b m ⟨o, es, ep, e, d, r⟩
    refine ⟨o, es, ep, hidT_get e (free ?_), d, r⟩
    rintro rfl
    rw [ha] at e
    cases e
    cases (show Data.seq vs.toArray _ = Data.dict es ep from d)
  have inB : K.In (hidT s.heap H) := by
    intro b o e
    refine hidT_get (KX b o e) (Classical.byContradiction fun z => ?_)
    have := nK (atA b z ▸ z)
    rw [atA b z, this] at e
    cases e
  obtain ⟨mc, l1, l2⟩ := hlim
  have md : Mod K mg (hidT s.heap H) := ⟨inB, nsB hns, ⟨mb, nsB hb, hbb⟩, mc, nsB l1, l2⟩
  have env : Env0 P w K mg (hidT s.heap H) callerA [] s H :=
    ⟨rfl, md, fun b o e => of_hidT e, Nat.le_of_eq (hidT_size _ _), trivial, fun b z => (List.not_mem_nil (show b ∈ ([] : List Addr) from z)).elim, ok, .of_eq hg⟩
  refine codeAny_mono ((F _ inB (nsB hns)).go callerA [] s H ⟨[.ref a], []⟩ [.ref a] [.ref a] _ _ hr env (bnd s (.ref a)) (.cons rfl .nil) hsp) ?_
  rintro (e | fl) s' h
  · exact (show False from h).elim
  · cases fl with
    | ret u =>
      obtain ⟨v, H', os, bare, un, ok', rv, (rfl : v = .bl true)⟩ := h
      obtain rfl : u = Value.bool true := rv
      refine ⟨rfl, OldK.of_keep ?_, os, bare⟩
      intro b o e
      cases q : H b with
      | none => exact un.keep b o e q (fun z => (List.not_mem_nil (show b ∈ ([] : List Addr) from z)).elim) (by simp)
      | some u =>
        rcases only b with z | ⟨ob, xs, z⟩
        · exact absurd (q.symm.trans z) (by simp)
        · have y1 := (ok b _ z).1
          have y2 := (ok' b _ (un.frzs b ob _ z)).1
          rw [e] at y1
          cases y1
          exact y2
    | next => exact (show False from h).elim
    | brk => exact (show False from h).elim
    | cont => exact (show False from h).elim
theorem lawG (KX : K.In s.heap) (hns : s.heap.Ns mainGlobals mg) (hb : s.heap.Ns builtinsNs mb) (hbb : ∀ y : Str, y ≠ "__name__" → mb y = bootBuiltins y) (hlim : s.heap.NoLimit) (hg : s.gens = #[])
    (ha : s.heap.get? a = some { cls := .type "list", data := .seq vs.toArray }) (hi : IntsAre vs ns) (hl : ns.length ≤ sizeLine) (hr : RoomG k callerA)
    (F : ∀ base : Heap, K.In base → base.Ns mainGlobals mg → FnG P w K mg base CX0 k fa fd [x] sp) (bnd : ∀ (s : Shared) (u : Value), BindsTo s fd ⟨[u], []⟩ [(x, u)])
    (hsp : ∀ H : Hp, Only H → SqL K H a (ns.map V.int) → sp [.ref a] H (fun v _ => v = .bl true) E0) :
    codeAny (model P w) callerA (.call (.ref fa) ⟨[.ref a], []⟩) (lawEnd s) s := by
  have rv := vals_ints hi
  cases hk : K.lookup a with
  | some o =>
    have e := (ha.symm.trans (KX a o hk))
    cases e
    have hS : SqL K (fun _ => none) a (ns.map V.int) := Or.inr ⟨_, vs.toArray, _, hk, rfl, rfl, rfl, by rw [List.size_toArray, hi.length]; exact hl, by simpa using rv⟩
    exact lawG_from (H := fun _ => none) KX hns hb hbb hlim hg ha hr F bnd (hsp _ (fun _ => Or.inl rfl) hS) (fun _ => Or.inl rfl) (fun b u z => nomatch z) (fun b z => (z rfl).elim) fun z => (z rfl).elim
  | none =>
    let H1 : Hp := upd (fun _ => none) a (.frz { cls := .type "list", data := .seq vs.toArray } (.lst (ns.map V.int)))
    have same : H1 a = some (.frz { cls := .type "list", data := .seq vs.toArray } (.lst (ns.map V.int))) := upd_same
    have els : ∀ b, b ≠ a → H1 b = none := fun b n => upd_ne n
    have on : Only H1 := fun b => (Classical.em (b = a)).elim (fun e => Or.inr ⟨_, _, e ▸ same⟩) fun n => Or.inl (els b n)
    refine lawG_from (H := H1) KX hns hb hbb hlim hg ha hr F bnd (hsp H1 on (Or.inl (Or.inr ⟨_, same⟩))) on ?_ (fun b z => Classical.byContradiction fun n => z (els b n)) fun _ => hk
    intro b u z
    rcases Classical.em (b = a) with e | n
    · subst e
      rw [same] at z
      cases z
      exact ⟨ha, by rw [List.length_map]; exact hl, vs, _, rv, ha⟩
    · rw [els b n] at z
      cases z
end
theorem walkG {l : OpenLaw} {n k : Nat} {q : Program} {loose : List Str} {XP : (Str → Option Value) → Heap → Prop} {YP : World → Heap → Prop} {d : DefRec} {K : Params → Frag} {sp : World → Sp} {x : Str}
    (hn : l.most = some n) (hn2 : n ≤ sizeLine) (hdf : d.params.defaults = []) (hr : RoomG k callerA) (hY : ∀ (w : World) (h : Heap), YP w h → (K w.params).In h)
    (F : ∀ (w : World) (mg : Str → Option Value) (fa : Addr) (h : Heap), (K w.params).In h → h.Ns mainGlobals mg → mg d.name = some (.ref fa) →
      ∃ fd : FuncData, (∀ (s : Shared) (u : Value), BindsTo s fd ⟨[u], []⟩ [(x, u)]) ∧ ∀ base : Heap, (K w.params).In base → base.Ns mainGlobals mg → FnG l.prog w (K w.params) mg base CX0 k fa fd [x] (sp w))
    (hsp : ∀ (w : World) (H : Hp) (a : Addr) (ns : List Int), ns.length ≤ n → Only H → SqL (K w.params) H a (ns.map V.int) → sp w [.ref a] H (fun v _ => v = .bl true) E0) :
    WalkO q loose XP YP l.row.toRowW d [] (fun f vs => PySem.call f vs) := by
  refine Att.attach_call hn hdf ?_
  intro w s₀ s₁ mg mb fa o pm cd doc a vs ns G Y ho hd hcd hmg hobj hints hlen hg
  obtain ⟨fd, hb, hF⟩ := F w mg fa _ (hY w _ Y) G.T.g hmg
  exact lawG (hY w _ Y) G.T.g G.T.b G.T.builtins G.T.nolimit hg hobj hints (Nat.le_trans hlen hn2) hr hF hb fun H h1 h2 => hsp w H a ns hlen h1 h2
end My

namespace My
open PySem L2 PySem.Spec PyProof.Rows
section
variable {σ : L2.St} {H : Hp} {Q : VK} {ta tb : TE} {K : PySem.W.Frag} {i : Int}
/-- slot i holds v -/
inductive GetAt : Nat → L2.St → V → Prop
  | zero {v : V} {l : L2.St} : GetAt 0 (some v :: l) v
  | succ {i : Nat} {v : V} {x : Option V} {l : L2.St} (h : GetAt i l v) : GetAt (i + 1) (x :: l) v
inductive SetAt : Nat → V → L2.St → L2.St → Prop
  | zero {v : V} {x : Option V} {l : L2.St} : SetAt 0 v (x :: l) (some v :: l)
  | succ {i : Nat} {v : V} {x : Option V} {l m : L2.St} (h : SetAt i v l m) : SetAt (i + 1) v (x :: l) (x :: m)
theorem GetAt.get {i : Nat} {σ : L2.St} {v : V} (h : GetAt i σ v) : σ[i]? = some (some v) := by
  induction h with
  | zero => rfl
  | succ _ ih => simpa using ih
theorem SetAt.set {i : Nat} {σ τ : L2.St} {v : V} (h : SetAt i v σ τ) : σ.set i (some v) = τ := by
  induction h with
  | zero => rfl
  | succ _ ih => simpa using ih
theorem s_varG {i : Nat} {v : V} (g : GetAt i σ v) (q : Q v H) : tVar i σ H Q := ⟨v, g.get, q⟩
theorem s_gnameG {i : Nat} {v : V} {τ : L2.St} {Q : L2.St → Hp → Prop} (g : SetAt i v σ τ) (q : Q τ H) : gName i v σ H Q := by
  show Q (σ.set i (some v)) H
  rw [g.set]
  exact q
theorem s_gnameE {i : Nat} {v : V} {τ : L2.St} {Q : L2.St → Hp → Prop} (e : σ.set i (some v) = τ) (q : Q τ H) : gName i v σ H Q := by
  show Q (σ.set i (some v)) H
  rw [e]
  exact q
theorem s_2setE {D : Ends} {i j : Nat} {t : TS} {x y : V} {τ : L2.St} (e : (σ.set i (some x)).set j (some y) = τ) (h : t D τ H) : t D ((σ.set i (some x)).set j (some y)) H := by
  rw [e]
  exact h
theorem s_orT (h : ta σ H fun x H1 => ∃ k, TruV K x H1 k ∧ if k = true then Q x H1 else tb σ H1 Q) : tOrT K ta tb σ H Q := h
theorem s_andT (h : ta σ H fun x H1 => ∃ k, TruV K x H1 k ∧ if k = true then tb σ H1 Q else Q x H1) : tAndT K ta tb σ H Q := h
theorem s_chain {r r' : R2} {tc : TE} (h : ta σ H fun x H1 => tb σ H1 fun y H2 => r x y H2 fun z H3 => ∃ k, z = .bl k ∧
  (if k = true then tc σ H3 fun w' H4 => r' y w' H4 Q else Q (.bl false) H3)) : tChain r r' ta tb tc σ H Q := h
theorem s_isi_int (q : Q (.bl true) H) : rIsi K [.int i, .ty "int"] H Q := ⟨_, _, _, _, true, rfl, .ty _, .base (.int i), kit_ty (by decide +kernel), q⟩
theorem s_isi_int_bool (q : Q (.bl false) H) : rIsi K [.int i, .ty "bool"] H Q := ⟨_, _, _, _, false, rfl, .ty _, .base (.int i), kit_ty (by decide +kernel), q⟩
theorem s_isi_own {a C : Addr} (t : TyOf K H (.ref a) (.ref C)) (q : Q (.bl true) H) : rIsi K [.ref a, .ref C] H Q := ⟨_, _, _, _, true, rfl, .own C, .base t, by simp [PySem.W.kitOne], q⟩
theorem s_prop {C : Addr} {sp : Sp} {dvs : List V} {E : XK} (h : ta σ H fun x H1 => ∃ a dx fs, x = .ref a ∧ H1 a = some (.ins C dx fs) ∧ sp (.ref a :: dvs) H1 Q E) : tProp C sp dvs E ta σ H Q := h
theorem s_sfld {D : Ends} {f : Str} (h : tb σ H fun y H1 => ta σ H1 fun x H2 => ∃ a C dx fs, x = .ref a ∧ H2 a = some (.ins C dx fs) ∧ Cls K C ∧ NoAttr K C f ∧ fs.length < 1000 ∧ D.nx σ (upd H2 a (.ins C dx (putF f y fs)))) : sFld K ta tb f D σ H := h
theorem s_fput {a C dx : Addr} {fs : List (Str × V)} {f : Str} {y : V} {Q : Hp → Prop} (e : H a = some (.ins C dx fs)) (c : Cls K C) (n : NoAttr K C f) (l : fs.length < 1000) (q : Q (upd H a (.ins C dx (putF f y fs)))) :
    ∃ a' C dx fs, V.ref a = .ref a' ∧ H a' = some (.ins C dx fs) ∧ Cls K C ∧ NoAttr K C f ∧ fs.length < 1000 ∧ Q (upd H a' (.ins C dx (putF f y fs))) := ⟨a, C, dx, fs, rfl, e, c, n, l, q⟩
theorem s_fget {a C dx : Addr} {fs : List (Str × V)} {f : Str} {v : V} (e : H a = some (.ins C dx fs)) (c : Cls K C) (n : NoAttr K C f) (l : fs.lookup f = some v) (q : Q v H) :
    ∃ a' C dx fs v, V.ref a = .ref a' ∧ H a' = some (.ins C dx fs) ∧ Cls K C ∧ NoAttr K C f ∧ fs.lookup f = some v ∧ Q v H := ⟨a, C, dx, fs, v, rfl, e, c, n, l, q⟩
theorem few0 {m : Nat} : ([] : List (Str × V)).length < m + 1 := Nat.succ_pos _
theorem few_put {m : Nat} {fs : List (Str × V)} {f : Str} {v : V} (h : fs.length < m) : (putF f v fs).length < m + 1 := by
  have e : ∀ fs : List (Str × V), (putF f v fs).length ≤ fs.length + 1 := by
    intro fs
    induction fs with
    | nil => exact Nat.le_refl _
    | cons x r ih =>
      obtain ⟨g, x⟩ := x
      unfold putF
      split
      · exact Nat.le_succ _
      · exact Nat.succ_le_succ ih
  exact Nat.lt_of_le_of_lt (e fs) (Nat.succ_lt_succ h)
theorem putF_nil {f : Str} {v : V} : putF f v [] = [(f, v)] := rfl
theorem putF_ne {f g : Str} {v x : V} {r : List (Str × V)} (h : g ≠ f) : putF f v ((g, x) :: r) = (g, x) :: putF f v r := if_neg h
theorem s_eqI {i j : Int} (q : Q (.bl (decide (i = j))) H) : rEq (.int i) (.int j) H Q := by
  refine ⟨rfl, ?_⟩
  rw [show decide (V.int i = V.int j) = decide (i = j) from by (rw [Bool.eq_iff_iff]; simp)]
  exact q
theorem s_neI {i j : Int} (q : Q (.bl (!decide (i = j))) H) : rNe (.int i) (.int j) H Q := by
  refine ⟨rfl, ?_⟩
  rw [show decide (V.int i = V.int j) = decide (i = j) from by (rw [Bool.eq_iff_iff]; simp)]
  exact q
theorem s_eqS {i j : Str} (q : Q (.bl (decide (i = j))) H) : rEq (.str i) (.str j) H Q := by
  refine ⟨rfl, ?_⟩
  rw [show decide (V.str i = V.str j) = decide (i = j) from by (rw [Bool.eq_iff_iff]; simp)]
  exact q
theorem s_neSr {i : Str} (q : Q (.bl false) H) : rNe (.str i) (.str i) H Q := by
  refine ⟨rfl, ?_⟩
  rw [decide_eq_true rfl]
  exact q
theorem s_neS {i j : Str} (q : Q (.bl (!decide (i = j))) H) : rNe (.str i) (.str j) H Q := by
  refine ⟨rfl, ?_⟩
  rw [show decide (V.str i = V.str j) = decide (i = j) from by (rw [Bool.eq_iff_iff]; simp)]
  exact q
theorem s_bm {T : String} {r : V → List V → Hp → VK → Prop} {t : TA} (h : ta σ H fun x H1 => tyV K T x H1 ∧ t σ H1 fun xs H2 => r x xs H2 Q) : tBM K T r ta t σ H Q := h
theorem s_bm0 {T : String} {r : V → List V → Hp → VK → Prop} (h : ta σ H fun x H1 => tyV K T x H1 ∧ r x [] H1 Q) : tBM0 K T r ta σ H Q := h
theorem s_tyL {a : Addr} {xs : List V} {P : Prop} (h : H a = some (.lst xs)) (q : P) : tyV K "list" (.ref a) H ∧ P := ⟨.inl ⟨rfl, xs, SqL.of h⟩, q⟩
theorem s_append {l : Addr} {xs : List V} {y : V} (h : H l = some (.lst xs)) (hz : xs.length < sizeLine) (q : Q .non (upd H l (.lst (xs ++ [y])))) : rAppend (.ref l) [y] H Q := ⟨l, xs, y, rfl, rfl, h, hz, q⟩
theorem s_extend {l b : Addr} {xs zs : List V} (h : H l = some (.lst xs)) (hb : H b = some (.lst zs)) (hz : xs.length + zs.length ≤ sizeLine) (q : Q .non (upd H l (.lst (xs ++ zs)))) : rExtend (.ref l) [.ref b] H Q := ⟨l, b, xs, zs, rfl, rfl, h, hb, hz, q⟩
theorem lt_size {n : Nat} (h : Nat.blt n sizeLine = true) : n < sizeLine := Nat.le_of_ble_eq_true h
theorem s_make {C : Addr} {sp : Sp} {dvs : List V} {E : XK} {t : TA} (h : t σ H fun vs H1 => ∀ x dx, H1 x = none → H1 dx = none → dx ≠ x → sp (.ref x :: (vs ++ dvs)) (upd (upd H1 dx (.own x)) x (.ins C dx [])) (fun v H2 => v = .non ∧ Q (.ref x) H2) E) : tMake C sp dvs E t σ H Q := h
theorem s_meth {C : Addr} {m : Str} {sp : Sp} {dvs : List V} {E : XK} {t : TA} (h : ta σ H fun x H1 => ∃ a dx fs, x = .ref a ∧ H1 a = some (.ins C dx fs) ∧ fs.lookup m = none ∧ t σ H1 fun vs H2 => sp (x :: (vs ++ dvs)) H2 Q E) : tMeth C m sp dvs E ta t σ H Q := h
theorem s_for {wi : TI} {g : TG} {tb : TS} {D0 : Ends}
    (h : ∀ D : Ends, D = D0 → wi σ H fun J H1 => ∃ W : Nat → Nat → L2.St → Hp → Prop, (∃ m, W 0 m σ H1) ∧ ∀ i m σ H, W i m σ H →
      (J.stop i H ∧ D.nx σ H) ∨ (J.go i H ∧ ∃ N : L2.St → Hp → Prop, (∀ σ' H', N σ' H' → ∃ m', m' < m ∧ W (i + 1) m' σ' H') ∧
        ∀ x H', J.yld i H x H' → g x σ H' fun σ2 H2 => tb { D with nx := N, ct := N, bk := D.nx } σ2 H2)) : tFor wi g tb D0 σ H := h D0 rfl
theorem s_lc {wi : TI} {g : TG} {tt : TT} {te : TE} {vs : List Nat}
    (h : wi σ H fun J H1 => ∀ D, H1 D = none → ∃ W : Nat → Nat → Hp → Prop, (∃ m, W 0 m (upd H1 D (.lst []))) ∧ ∀ i m H, W i m H →
      (J.stop i H ∧ Q (.ref D) H) ∨ (J.go i H ∧ ∃ Nx : Hp → Prop, (∀ H', Nx H' → ∃ m', m' < m ∧ W (i + 1) m' H') ∧
        ∀ x H', J.yld i H x H' → g x (wipe σ vs) H' fun σ2 H2 => wipe σ2 vs = wipe σ vs ∧ tt σ2 H2 fun b H3 =>
          if b = true then te σ2 H3 fun y H4 => ∃ acc, H4 D = some (.lst acc) ∧ acc.length < sizeLine ∧ Nx (upd H4 D (.lst (acc ++ [y]))) else Nx H3)) : tLc wi g tt te vs σ H Q := h
theorem s_iList {R : L2.It → Hp → Prop} (h : ta σ H fun x H1 => ∃ a, x = .ref a ∧ (∃ xs, SqL K H1 a xs) ∧ R (Itl K a) H1) : iList K ta σ H R := h
theorem s_iTup {R : L2.It → Hp → Prop} (h : ta σ H fun x H1 => ∃ a, x = .ref a ∧ (∃ xs, SqT K H1 a xs) ∧ R (Itt K a) H1) : iTup K ta σ H R := h
theorem s_iRng1 {R : L2.It → Hp → Prop} {t : TA} (h : t σ H fun vs H1 => ∃ j : Int, vs = [.int j] ∧ -(2 ^ 62) ≤ j ∧ j < 2 ^ 62 ∧ R (Itr 0 j.toNat) H1) : iRng1 t σ H R := h
theorem s_iRng2 {R : L2.It → Hp → Prop} {t : TA} (h : t σ H fun vs H1 => ∃ i j : Int, vs = [.int i, .int j] ∧ (-(2 ^ 62) ≤ i ∧ i < 2 ^ 62 ∧ -(2 ^ 62) ≤ j ∧ j < 2 ^ 62) ∧ R (Itr i (j - i).toNat) H1) : iRng2 t σ H R := h
theorem s_par {D : Ends} {i j : Nat} {t : TA} (h : t σ H fun vs H1 => ∃ v w, vs = [v, w] ∧ D.nx ((σ.set i (some v)).set j (some w)) H1) : tPar i j t D σ H := h
theorem s_2set {D : Ends} {i j : Nat} {t : TS} {x y : V} {τ υ : L2.St} (g : SetAt i x σ τ) (g2 : SetAt j y τ υ) (h : t D υ H) : t D ((σ.set i (some x)).set j (some y)) H := by
  rw [g.set, g2.set]
  exact h
theorem s_yes {QB : Bool → Hp → Prop} (h : QB true H) : tYes σ H QB := h
theorem s_fldE {f : Str} (h : ta σ H fun x H1 => ∃ a C dx fs v, x = .ref a ∧ H1 a = some (.ins C dx fs) ∧ Cls K C ∧ NoAttr K C f ∧ fs.lookup f = some v ∧ Q v H1) : tFld K ta f σ H Q := h
theorem s_isi_str {x : Str} (q : Q (.bl true) H) : rIsi K [.str x, .ty "str"] H Q := ⟨_, _, _, _, true, rfl, .ty _, .base (.str x), kit_ty (by decide +kernel), q⟩
theorem s_truInt {i : Int} {P : Bool → Prop} (q : P (i != 0)) : ∃ k, TruV K (.int i) H k ∧ P k := ⟨_, rfl, q⟩
theorem s_neB {i j : Bool} (q : Q (.bl (i != j)) H) : rNe (.bl i) (.bl j) H Q := by
  refine ⟨rfl, ?_⟩
  rw [show (!decide (V.bl i = V.bl j)) = (i != j) from by cases i <;> cases j <;> rfl]
  exact q
theorem s_eqB {i j : Bool} (q : Q (.bl (i == j)) H) : rEq (.bl i) (.bl j) H Q := by
  refine ⟨rfl, ?_⟩
  rw [show decide (V.bl i = V.bl j) = (i == j) from by cases i <;> cases j <;> rfl]
  exact q
theorem inV_ints (x : Int) (ns : List Int) : inV (.int x) (ns.map V.int) = decide (x ∈ ns) := by
  unfold inV
  rw [List.any_map, Bool.eq_iff_iff, List.any_eq_true, decide_eq_true_eq]
  constructor
  · rintro ⟨y, hy, e⟩
    have e2 : y = x := by simpa [eqV] using e
    exact e2 ▸ hy
  · intro h
    exact ⟨x, h, by simp [eqV]⟩
theorem flat_ints (ns : List Int) : (ns.map V.int).all flatV = true := by
  rw [List.all_map, List.all_eq_true]
  intro x _
  rfl
theorem le_size {n : Nat} (h : Nat.ble n sizeLine = true) : n ≤ sizeLine := Nat.le_of_ble_eq_true h
theorem ite_NN {A B : Prop} (h : A) : if decide (V.non = V.non) = true then A else B := by rw [if_pos (decide_eq_true rfl)]; exact h
theorem ite_IN {A B : Prop} {i : Int} (h : B) : if decide (V.int i = V.non) = true then A else B := by rw [if_neg (by simp)]; exact h
theorem ite_nNN {A B : Prop} (h : B) : if (!decide (V.non = V.non)) = true then A else B := by rw [if_neg (by simp)]; exact h
theorem ite_nIN {A B : Prop} {i : Int} (h : A) : if (!decide (V.int i = V.non)) = true then A else B := by rw [if_pos (by simp)]; exact h
/-- the test's answer c is known: what follows need not be read twice -/
theorem s_cut {tt : TT} {QB : Bool → Hp → Prop} (c : Bool) (h1 : QB c H) (h2 : ∀ QB' : Bool → Hp → Prop, QB' c H → tt σ H QB') : tt σ H QB := h2 QB h1
theorem qb_eq {QB : Bool → Hp → Prop} {c d : Bool} (h : QB c H) (e : c = true ↔ d = true) : QB d H := by
  rw [← (Bool.eq_iff_iff.mpr e)]
  exact h
theorem ite_RN {A B : Prop} {a : Addr} (h : B) : if decide (V.ref a = V.non) = true then A else B := by rw [if_neg (by simp)]; exact h
theorem ite_nRN {A B : Prop} {a : Addr} (h : A) : if (!decide (V.ref a = V.non)) = true then A else B := by rw [if_pos (by simp)]; exact h
theorem iteNT {A B : Prop} (h : B) : if (!true) = true then A else B := by simpa using h
theorem iteNF {A B : Prop} (h : A) : if (!false) = true then A else B := by simpa using h
theorem ite_b {b : Bool} {A B : Prop} (h1 : b = true → A) (h2 : b = false → B) : if b = true then A else B := by
  cases b
  · exact iteF (h2 rfl)
  · exact iteT (h1 rfl)
theorem ite_nb {b : Bool} {A B : Prop} (h1 : b = false → A) (h2 : b = true → B) : if (!b) = true then A else B := by
  cases b
  · exact iteNF (h1 rfl)
  · exact iteNT (h2 rfl)
end
section
variable {P : Program} {w : World} {K : PySem.W.Frag} {mg : Str → Option Value} {base : Heap} {x qual : Str} {params : Arguments} {body : List Stmt} {scope : Scope} {dvs : List V} {C : Addr} {k : Nat} {ps : List Str} {sp : Sp}
theorem dnN (e : ∃ (f : Addr) (fd : FuncData), FunD K x qual params body scope [] [] f fd ∧ mg x = some (.ref f)) (ok : ∀ {f : Addr} {fd : FuncData}, FunD K x qual params body scope [] [] f fd → FnG P w K mg base CX0 k f fd ps sp)
    (h : ∀ (kV doc pm : Value) (an : Option Addr) (cdv ct : Value) (us : List Value), us.length = ps.length → bindArgs (PySem.W.fnOf x qual params body scope .none kV doc pm an cdv ct) ⟨us, []⟩ = pure (ps.zip us)) : Dn P w K mg base x k ps [] sp := by
  obtain ⟨f, fd, F, hm⟩ := e
  exact ⟨f, fd, [], ok F, hm, F.kp, F.bindsN h, .nil⟩
theorem prN {q : Str} (e : ∃ (p f : Addr) (fd : FuncData), PropOf K C q p f ∧ FunD K x qual params body scope [] [] f fd) (c : Cls K C) (ok : ∀ {f : Addr} {fd : FuncData}, FunD K x qual params body scope [] [] f fd → FnG P w K mg base CX0 k f fd ps sp)
    (h : ∀ (kV doc pm : Value) (an : Option Addr) (cdv ct : Value) (us : List Value), us.length = ps.length → bindArgs (PySem.W.fnOf x qual params body scope .none kV doc pm an cdv ct) ⟨us, []⟩ = pure (ps.zip us)) : Prn P w K mg base C q k ps [] sp := by
  obtain ⟨p, f, fd, hp, F⟩ := e
  exact ⟨p, f, fd, [], c, hp, ok F, F.bindsN h, .nil⟩
theorem mtN {q : Str} (e : ∃ (f : Addr) (fd : FuncData), Meth K C q f ∧ FunD K x qual params body scope [] [] f fd) (c : Cls K C) (ok : ∀ {f : Addr} {fd : FuncData}, FunD K x qual params body scope [] [] f fd → FnG P w K mg base CX0 k f fd ps sp)
    (h : ∀ (kV doc pm : Value) (an : Option Addr) (cdv ct : Value) (us : List Value), us.length = ps.length → bindArgs (PySem.W.fnOf x qual params body scope .none kV doc pm an cdv ct) ⟨us, []⟩ = pure (ps.zip us)) : Mtn P w K mg base C q k ps [] sp := by
  obtain ⟨f, fd, hp, F⟩ := e
  exact ⟨f, fd, [], c, hp, ok F, F.bindsN h, .nil⟩
theorem mkN {y : Str} (e : ∃ (f : Addr) (fd : FuncData), Mk K C f ∧ FunD K x qual params body scope [] [] f fd) (m : mg y = some (.ref C)) (ok : ∀ {f : Addr} {fd : FuncData}, FunD K x qual params body scope [] [] f fd → FnG P w K mg base CX0 k f fd ps sp)
    (h : ∀ (kV doc pm : Value) (an : Option Addr) (cdv ct : Value) (us : List Value), us.length = ps.length → bindArgs (PySem.W.fnOf x qual params body scope .none kV doc pm an cdv ct) ⟨us, []⟩ = pure (ps.zip us)) : Mkn P w K mg base y C k ps [] sp := by
  obtain ⟨f, fd, hp, F⟩ := e
  exact ⟨f, fd, [], hp, ok F, m, F.bindsN h, .nil⟩
theorem mkD {y : Str} (n j : Nat) (e : ∃ (f : Addr) (fd : FuncData), Mk K C f ∧ FunD K x qual params body scope dvs [] f fd) (m : mg y = some (.ref C)) (ok : ∀ {f : Addr} {fd : FuncData}, FunD K x qual params body scope dvs [] f fd → FnG P w K mg base CX0 k f fd ps sp) (hd : dvs ≠ []) (hn : n + (dvs.length - j) = ps.length)
    (h : ∀ (T : Addr) (kV doc pm : Value) (an : Option Addr) (cdv ct : Value) (us its : List Value), us.length = n → its.length = dvs.length →
      ∃ k, bindArgs (PySem.W.fnOf x qual params body scope (.ref T) kV doc pm an cdv ct) ⟨us, []⟩ = seqItems? (.ref T) >>= k ∧ k (some its.toArray) = pure (ps.zip (us ++ its.drop j))) : Mkn P w K mg base y C k ps (dvs.drop j) sp := by
  obtain ⟨f, fd, hp, F⟩ := e
  obtain ⟨ds, hv, hb⟩ := F.binds1 n j hd hn h
  exact ⟨f, fd, ds, hp, ok F, m, hb, hv⟩
end
abbrev optV : Option Int → V
  | none => .non
  | some i => .int i
/-- a comprehension within a comprehension -/
def reS (scope sc : Scope) : Scope := { scope with names := scope.names.map fun p => if (p.2 == NameKind.free && sc.kind == ScopeKind.function && sc.names.lookup p.1 == some NameKind.cell) = true then (p.1, NameKind.cell) else p }
theorem reS_eq (scope : Scope) (env : Env) : PySem.relabel scope env = reS scope env.scope := by
  unfold PySem.relabel reS
  congr 1
theorem blkOk_nest {X : Cx} {s : Shared} {H : Hp} {scope0 scope : Scope} {cl : List (Str × Addr)} {C : Addr} {env : Env} {fp : List Addr} {own : List (Str × Nat)} (N : List Str) (sc : Scope) (e : X.N = N) (e2 : env.scope = sc) (h : blkC N (reS scope0 sc) scope own = true) :
    BlkOk (X.blk s H scope0 (compEnvC scope0 cl C env) fp).N (X.blk s H scope0 (compEnvC scope0 cl C env) fp).env.scope scope own := by
  have z := blkOk_by h
  subst e e2
  rw [← reS_eq] at z
  exact z
/-! ### rules within a comprehension: the written part by its own name -/
section
variable {X : Cx} {K : PySem.W.Frag} {l e : Expr} {tl ta : TE} {tg : Expr} {f : Str} {pos : Pos}
def rLen (K : PySem.W.Frag) : List V → Hp → VK → Prop := fun xs H Q => ∃ p ys, xs = [.ref p] ∧ (SqL K H p ys ∨ SqT K H p ys) ∧ Q (.int ys.length) H
theorem ix_listK (h : X.K = K) : IxR X (rIxL K) := h ▸ ix_list
theorem ix_tupK (h : X.K = K) : IxR X (rIxT K) := h ▸ ix_tup
theorem call_len_seqK (h : X.K = K) : CallR X (.builtin "len") (rLen K) := by
  subst h
  exact call_len_seq
theorem pi_listK (h : X.K = K) (hl : PE X l tl) : PI X tg l (iList K tl) := h ▸ pi_list hl
theorem pi_tupK (h : X.K = K) (hl : PE X l tl) : PI X tg l (iTup K tl) := h ▸ pi_tup hl
theorem cr_allK (h : X.K = K) (hc : X.calm = true) : CallR X (.builtin "all") (rAll K) := h ▸ cr_all hc
theorem cr_anyK (h : X.K = K) (hc : X.calm = true) : CallR X (.builtin "any") (rAny K) := h ▸ cr_any hc
theorem cr_sumK (h : X.K = K) (hc : X.calm = true) : CallR X (.builtin "sum") (rSum K) := h ▸ cr_sum hc
theorem cr_maxK (h : X.K = K) (hc : X.calm = true) : CallR X (.builtin "max") (rMax K) := h ▸ cr_max hc
theorem cr_minK (h : X.K = K) (hc : X.calm = true) : CallR X (.builtin "min") (rMin K) := h ▸ cr_min hc
theorem op_in_seqK (h : X.K = K) : OpR X (compareOp .In) (rIn K false) := h ▸ op_in_seq
theorem op_notIn_seqK (h : X.K = K) : OpR X (compareOp .NotIn) (rIn K true) := h ▸ op_notIn_seq
theorem op_eqDK (h : X.K = K) (hu : X.A.units + 64 < cLine) : OpR X (compareOp .Eq) (rEqD K) := h ▸ op_eqD hu
theorem op_neDK (h : X.K = K) (hu : X.A.units + 64 < cLine) : OpR X (compareOp .NotEq) (rNeD K) := h ▸ op_neD hu
theorem pe_fldK (h : X.K = K) (he : PE X e ta) (hb : attributeBase e f X.env (eval e X.env) = eval e X.env) : PE X (.Attribute e f pos) (tFld K ta f) := h ▸ pe_fld he hb
end
theorem s_len {K : PySem.W.Frag} {a : Addr} {xs : List V} {H : Hp} {Q : VK} (h : SqL K H a xs) (q : Q (.int xs.length) H) : rLen K [.ref a] H Q := ⟨a, xs, rfl, .inl h, q⟩
/-! ### bounds of ints -/
theorem Same.new {p : Addr} {o : HO} {H : Hp} (h : H p = none) : Same H (upd H p o) := fun c u e => by rw [upd_ne (ne_of_none e h)]; exact e
theorem Same.rfl' (H : Hp) : Same H H := fun _ _ e => e
theorem Same.tr {A B C : Hp} (x : Same A B) (y : Same B C) : Same A C := fun c u e => y c u (x c u e)
theorem Same.at_ {p : Addr} {o : HO} {H H1 : Hp} (h : H p = none) (s : Same H H1) : Same H (upd H1 p o) := fun c u e => by rw [upd_ne (ne_of_none e h)]; exact s c u e
theorem Same.but {r : Addr} {H H' : Hp} (s : Same H H') : But r H H' := fun c o h _ => s c o h
def Sm (k : Nat) (x : Int) : Prop := x.natAbs < 2 ^ k
instance {k : Nat} {x : Int} : Decidable (Sm k x) := inferInstanceAs (Decidable (_ < _))
theorem Sm.mono {j k : Nat} {x : Int} (h : Sm j x) (l : j ≤ k) : Sm k x := Nat.lt_of_lt_of_le h (Nat.pow_le_pow_right (by decide) l)
theorem Sm.mul {j k : Nat} {x y : Int} (h : Sm j x) (g : Sm k y) : Sm (j + k) (x * y) := by
  unfold Sm at *
  rw [Int.natAbs_mul, Nat.pow_add]
  exact Nat.mul_lt_mul'' h g
theorem Sm.add {k : Nat} {x y : Int} (h : Sm k x) (g : Sm k y) : Sm (k + 1) (x + y) := by
  unfold Sm at *
  rw [Nat.pow_succ]
  omega
theorem Sm.le {k : Nat} {x y : Int} (h0 : 0 ≤ x) (h : x ≤ y) (g : Sm k y) : Sm k x := by
  unfold Sm at *
  omega
theorem Sm.cmul {j k : Nat} {x y : Int} (h : Sm j x) (g : Sm k y) (h0 : 0 < j := by decide) (h1 : 0 < k := by decide) (l : j + k ≤ 1000000 := by decide) : CMulW x y := wide_mul h g h0 h1 l
theorem But.same {x : Addr} {H H1 H' : Hp} (b : But x H1 H') (s : Same H H1) (n : H x = none) : Same H H' := fun c o h => b c o (s c o h) (ne_of_none h n)
theorem lg {k : Nat} {x : Int} (h : Sm k x) (h0 : 0 < k := by decide) (hk : k ≤ 9000 := by decide) : x.natAbs.log2 < 9000 := Nat.lt_of_lt_of_le (PySem.Flt.log2_lt_of h0 h) hk
theorem sm62 {x : Int} (h0 : 0 ≤ x) (h : x < 4611686018427387904) : Sm 62 x := by
  show x.natAbs < 4611686018427387904
  omega
theorem cmul_small {i j : Int} (h0 : 0 ≤ i) (h1 : i < 2147483648) (g0 : 0 ≤ j) (g1 : j < 2147483648) : CMulW i j := wide_mul (a := 31) (b := 31) (by omega) (by omega) (by decide) (by decide) (by decide)
theorem atI_ints {ns : List Int} {k : Int} (h0 : 0 ≤ k) (h : k < (ns.map V.int).length) : ∃ c, atI (ns.map V.int) k = some (.int c) := by
  obtain ⟨j, rfl⟩ : ∃ j : Nat, k = j := ⟨k.toNat, by omega⟩
  rw [List.length_map] at h
  have hj : j < ns.length := by omega
  exact ⟨ns[j], atI_nat (by rw [List.getElem?_map, List.getElem?_eq_getElem hj]; rfl)⟩
theorem Sm.log {k : Nat} {x : Int} (h : Sm k x) (h0 : 0 < k := by decide) : x.natAbs.log2 < k := PySem.Flt.log2_lt_of h0 h
end My

namespace My
open PySem L2 PySem.Spec PyProof.Rows Sem
/-! ### set(xs), xs a list of ints -/
abbrev setO0 (w : World) : Obj := { cls := .type "set", dict := none, data := .set #[] 0 (.fresh 0 0 (!w.params.followText "set-order")) }
section
variable {P : Program} {w : World} {A : Around} {E : Value → Shared → Prop} {s : Shared}
theorem set_ints {l : Addr} {its : Array Value} (ks : List Int) {Q : Value → Shared → Prop} (calm : A.handled = none) (isl : s.heap.IsList l its) (are : IntsAre its.toList ks) (few : ks.length + 1 < scanBound)
    (fin : ∀ (hp : Heap) (tk c : Nat), SetR w hp s.heap.objs.size (fun j => decide (j ∈ ks)) c → c ≤ ks.length → (∀ b o, s.heap.get? b = some o → hp.get? b = some o) → Q (.ref s.heap.objs.size) { s with heap := hp, toks := tk }) :
    wpAny (model P w) A (call (.type "set") [.ref l]) Q E s := by
  have size_eq : its.size = ks.length := by simpa using IntsAre.length are
  have z1 := F.called_set.mro
  have z2 := F.called_set.made
  have z3 := F.called_set.sub
  have z4 := F.called_set.notType
  have z5 := F.called_set.canCreate
  have z6 := F.typeCall_set_1 (.ref l)
  obtain ⟨c0, tl0, mro0⟩ := z1
  apply wpAny_call; apply codeAny_of_tree
  show wpAny _ _ (callAny (Value.type "set") _) _ _ _
  apply wpAny_pure; refine ⟨Code.quiet_builtin _ (by decide +kernel), ?_⟩; apply codeAny_builtin F.entry_type_call
  rw [Around.under_plain (weight_type_call_type "set" [Value.ref l] []) (by rfl)]
  repeat (any_goals (first | assumption | wp_step))
  apply codeAny_mono (code_set_led1 (.ref l) (E := E) (Q₁ := fun v t => v = .ref s.heap.objs.size ∧ t = { s with heap := s.heap.push (setO0 w) }) ⟨rfl, rfl⟩)
  rintro (er | fl) t hq
  · exact hq
  cases fl with
  | ret v =>
    obtain ⟨rfl, rfl⟩ := hq
    have atS : (s.heap.push (setO0 w)).get? s.heap.objs.size = some (setO0 w) := Heap.get?_push_size _ rfl
    have ty : Shared.TypeIs { s with heap := s.heap.push (setO0 w) } (.ref s.heap.objs.size) "set" := ⟨_, atS, rfl⟩
    have i1 := F.called_set.init.lookup
    have i2 := F.called_set.init.bind (.ref s.heap.objs.size)
    repeat (any_goals (first | assumption | wp_step))
    refine codeAny_mono (codeAny_call_builtin (R := wants (fun v t => v = .none ∧ ∃ hp tk c, t = { s with heap := hp, toks := tk } ∧ SetR w hp s.heap.objs.size (fun j => decide (j ∈ ks)) c ∧ c ≤ ks.length ∧
      ∀ b o, s.heap.get? b = some o → hp.get? b = some o) E) F.called_set.init.plain F.entry_set_init (check_set_init_1 ty ?_)) ?_
    · obtain ⟨o1, at1, cls1, n1, dat1⟩ := isl
      obtain ⟨oc, od, odat, osl⟩ := o1
      simp only at cls1 dat1
      subst cls1 dat1
      have at2 : (s.heap.push (setO0 w)).get? l = some { cls := .type "list", dict := od, data := .seq its n1, slots := osl } := Heap.get?_push_of_some _ at1
      have u1 := F.sub_list_set
      have u2 := F.sub_list_frozenset
      have u3 : (Value.type "list" == Value.type "dict") = false := by decide
      have isl2 : (s.heap.push (setO0 w)).IsList l its := ⟨_, at2, rfl, n1, rfl⟩
      unfold Builtin.«set.__init__» noKeywords Builtin.Frozenset.updateFrom
      generalize gPI : pyIter = PI
      wp_walk
      subst gPI
      apply wpAny_pyIter_list isl2
      apply wpAny_bind; apply wpAny_runValue
      have lS : l < s.heap.objs.size := Heap.lt_size at1
      have calm3 : A.in1.in1.in1.handled = none := by simp [calm]
      have lI : l ≠ (s.heap.push (setO0 w)).objs.size := Heap.size_push .. ▸ Nat.ne_of_lt (Nat.lt_succ_of_lt lS)
      have Sf : s.heap.objs.size ∉ [(s.heap.push (setO0 w)).objs.size, l] := by
        rw [Heap.size_push, List.mem_cons, List.mem_singleton]
        rintro (z | z)
        · exact absurd z (Nat.ne_of_lt (Nat.lt_succ_self _))
        · exact absurd z.symm (Nat.ne_of_lt lS)
      have vals : ∀ (i : Nat) (v : Value), its[i]? = some v → ∃ k t, ks[i]? = some k ∧ v = .int k t := fun i v hv => by
        have lt : i < ks.length := size_eq ▸ (Array.getElem?_eq_some_iff.mp hv).1
        obtain ⟨t, e⟩ := IntsAre.int_at are i v (by simpa using hv)
        exact ⟨ks[i], t, List.getElem?_eq_getElem lt, by rw [e, List.getD_eq_getElem?_getD, List.getElem?_eq_getElem lt]; rfl⟩
      refine set_update_ints ((Walks.list calm3 _ l lI its).toS) s.heap.objs.size Sf ks size_eq few vals (its.size - 0) 0 _ (by omega) (Nat.zero_le _) ⟨⟨_, Heap.get?_push_size _ rfl, rfl, rfl⟩, isl2.push _⟩ ⟨0, Nat.le_refl 0, setR_new_at (Heap.get?_push_of_some _ atS)⟩ ?_
      intro t c moved le R
      obtain ⟨hp, gs, dr, tk, os⟩ := t
      have e1 : gs = s.gens := moved.gens
      have e2 : dr = s.drawn := moved.drawn
      have e3 : os = s.os := moved.os
      subst e1 e2 e3
      show wpAny _ _ _ _ _ _
      apply wpAny_pure
      show wpAny _ _ (ret Value.none) _ _ _
      refine wpAny_pure ⟨rfl, hp, tk, c, rfl, R, size_eq ▸ le, fun b o e => ?_⟩
      have b0 : b < s.heap.objs.size := Heap.lt_size e
      refine moved.heap b o ?_ (Heap.get?_push_of_some _ (Heap.get?_push_of_some _ e))
      rw [Heap.size_push]
      simp only [List.mem_cons, List.mem_singleton, List.not_mem_nil, or_false, not_or]
      exact ⟨Nat.ne_of_lt b0, Nat.ne_of_lt (Nat.lt_succ_of_lt b0)⟩
    · rintro (er | fl) t hq
      · exact hq
      cases fl with
      | ret v =>
        obtain ⟨rfl, hp, tk, c, rfl, R, le, keep⟩ := hq
        repeat (any_goals (first | assumption | wp_step))
        exact fin _ _ _ R le keep
      | _ => exact hq.elim
  | _ => exact hq.elim
end
section
variable {X : Cx}
/-- set(xs) of a list of ints: a new set -/
def rSetOfI (K : PySem.W.Frag) (w : World) : List V → Hp → VK → Prop := fun xs H Q => ∃ (l : Addr) (ns : List Int), xs = [.ref l] ∧ SqL K H l (ns.map V.int) ∧ ns.length + 1 < scanBound ∧
  ∀ (p : Addr) (ks : List Int), H p = none → ks.Nodup → (∀ k, k ∈ ks ↔ k ∈ ns) → Q (.ref p) (upd H p (SetO w p (fun j => decide (j ∈ ns)) ks.length))
theorem cr_setOfI (hc : X.calm = true) : CallR X (.type "set") (rSetOfI X.K X.w) := by
  intro pins s σ H xs us Q I r h
  obtain ⟨l, ns, rfl, hl, few, q⟩ := h
  rw [Vals.ref1 r]
  obtain ⟨its, rv, pl, _⟩ := I.list hl
  have fresh : H s.heap.objs.size = none := I.hok.fresh (Nat.le_refl _)
  refine set_ints (P := X.prog) (w := X.w) ns (I.ok.hd hc) pl.isList (by simpa using intsAre_of rv) few fun hp tk c R le keep => ?_
  refine ⟨.ref s.heap.objs.size, upd H s.heap.objs.size (SetO X.w s.heap.objs.size (fun j => decide (j ∈ ns)) c), I.laid (t' := tk) keep (Nat.le_refl _) (setO_new R), rfl, ?_⟩
  obtain ⟨o, es, ep, t, _, _, _, _, nd, hm, _, _, ln, _⟩ := id R
  have e : (es.toList.map keyOf).length = c := by rw [List.length_map, Array.length_toList, ln]
  rw [← e]
  exact q _ _ fresh nd fun k => ((hm k).symm).trans decide_eq_true_iff
end
/-- different numbers below n: at most n -/
theorem nd_len : ∀ (n : Nat) (ks : List Int), ks.Nodup → (∀ k ∈ ks, 0 ≤ k ∧ k < (n : Int)) → ks.length ≤ n
  | 0, ks, _, h => by
    cases ks with
    | nil => exact Nat.le_refl _
    | cons k ks =>
      have := h k (List.mem_cons_self ..)
      omega
  | n + 1, ks, nd, h => by
    by_cases hm : (n : Int) ∈ ks
    · have ih := nd_len n (ks.erase (n : Int)) (nd.erase _) fun k hk => by
        rw [nd.mem_erase_iff] at hk
        have := h k hk.2
        have := hk.1
        omega
      rw [List.length_erase_of_mem hm] at ih
      omega
    · have ih := nd_len n ks nd fun k hk => by
        have := h k hk
        have hne : k ≠ n := fun e => hm (e ▸ hk)
        omega
      omega
end My

namespace My
open PySem L2 PySem.Spec PyProof.Rows Sem
section
variable {X : Cx} {j k : Nat} {f C : Addr} {fd : FuncData} {ps : List Str} {sp : Sp} {dvs : List V} {ds : List Value} {m : Str} {pins : List (Addr × Obj)} {σ : L2.St} {H : Hp} {s : Shared}
/-- a def's call, seen from inside a builtin's run -/
theorem goIn {A : Around} {Q : VK} {us : List Value} {vs : List V} (F : FnG X.prog X.w X.K X.mg X.base CX0 k f fd ps sp) (hr : RoomG k A) (e0 : Env0 X.prog X.w X.K X.mg X.base A X.stack s H) (hb : Binds X.K fd ps ds) (hd : Vals dvs ds)
    (I : Inv X pins σ H s) (r : Vals vs us) (h : sp (vs ++ dvs) H Q E0) : wpAny (model X.prog X.w) A (call (.ref f) us) (EP X pins σ Q) X.xe s := by
  have r2 := r.append hd
  have hl : (us ++ ds).length = ps.length := r2.length.symm.trans (F.len _ _ _ _ h)
  refine wpAny_call (codeAny_mono (F.go A X.stack s H ⟨us, []⟩ (us ++ ds) _ Q E0 hr e0 (hb s us I.kIn hl) r2 h) ?_)
  intro r s' hq
  cases r with
  | error e => exact (show False from hq).elim
  | ok fl => cases fl with
    | ret u => exact I.after hq
    | next => exact (show False from hq).elim
    | brk => exact (show False from hq).elim
    | cont => exact (show False from hq).elim
/-- an object of the class, as the heap has it -/
theorem insAt {a dx : Addr} {fs : List (Str × V)} (I : Inv X pins σ H s) (e : H a = some (.ins C dx fs)) : ∃ ox od, PySem.W.InstAt s.heap a ox C od := by
  obtain ⟨mA, O, _⟩ := ins_get I.hok e
  obtain ⟨od, J, _⟩ := O.look
  exact ⟨_, _, J⟩
/-! ### x in o, o its own __contains__ -/
def rInO (C : Addr) (sp : Sp) (dvs : List V) (g : Bool → Bool) : R2 := fun x y H Q => ∃ a dx fs, y = .ref a ∧ H a = some (.ins C dx fs) ∧ sp (.ref a :: x :: dvs) H (fun v H' => ∃ b, v = .bl b ∧ Q (.bl (g b)) H') E0
theorem or_inO (D : Mtn X.prog X.w X.K X.mg X.base C "__contains__" k ps dvs sp) (hr : RoomG k X.A) : OpR X (compareOp .In) (rInO C sp dvs id) := by
  obtain ⟨f, fd, ds, c, hm, F, hb, hd⟩ := D.ex
  intro pins s σ H x y v u Q I rx ry h
  obtain ⟨a, dx, fs, rfl, ea, q⟩ := h
  obtain rfl : u = Value.ref a := ry
  obtain ⟨ox, od, J⟩ := insAt I ea
  obtain ⟨mf, fr⟩ := I.fr
  refine PySem.W.in_K fr I.mod.kin J hm.at_ hm.fn (wpAny_mono (goIn (us := [.ref a, v]) (vs := [.ref a, x]) F hr I.env0 hb hd I (.cons rfl (.cons rx .nil)) q) (fun w s1 hw => ?_) fun _ _ z => z)
  obtain ⟨t, H1, I1, rt, b, rfl, q1⟩ := hw
  obtain rfl : w = Value.bool b := rt
  exact wpAny_truthy_bool ⟨.bl b, H1, I1, rfl, q1⟩
theorem or_notInO (D : Mtn X.prog X.w X.K X.mg X.base C "__contains__" k ps dvs sp) (hr : RoomG k X.A) : OpR X (compareOp .NotIn) (rInO C sp dvs (!·)) := by
  obtain ⟨f, fd, ds, c, hm, F, hb, hd⟩ := D.ex
  intro pins s σ H x y v u Q I rx ry h
  obtain ⟨a, dx, fs, rfl, ea, q⟩ := h
  obtain rfl : u = Value.ref a := ry
  obtain ⟨ox, od, J⟩ := insAt I ea
  obtain ⟨mf, fr⟩ := I.fr
  refine PySem.W.notIn_K fr I.mod.kin J hm.at_ hm.fn (wpAny_mono (goIn (us := [.ref a, v]) (vs := [.ref a, x]) F hr I.env0 hb hd I (.cons rfl (.cons rx .nil)) q) (fun w s1 hw => ?_) fun _ _ z => z)
  obtain ⟨t, H1, I1, rt, b, rfl, q1⟩ := hw
  obtain rfl : w = Value.bool b := rt
  exact wpAny_truthy_bool ⟨.bl (!b), H1, I1, rfl, q1⟩
/-! ### len(o), repr(o) -/
theorem call_lenO (D : Mtn X.prog X.w X.K X.mg X.base C "__len__" k ps dvs sp) (hr : RoomG (k + 1) X.A) :
    CallR X (.builtin "len") (fun xs H Q => ∃ a dx fs, xs = [.ref a] ∧ H a = some (.ins C dx fs) ∧ sp (.ref a :: dvs) H (fun v H' => ∃ n : Int, v = .int n ∧ 0 ≤ n ∧ n < 2 ^ 63 ∧ Q (.int n) H') E0) := by
  obtain ⟨f, fd, ds, c, hm, F, hb, hd⟩ := D.ex
  intro pins s σ H xs us Q I r h
  obtain ⟨a, dx, fs, rfl, ea, q⟩ := h
  rw [Vals.ref1 r]
  obtain ⟨ox, od, J⟩ := insAt I ea
  obtain ⟨mf, fr⟩ := I.fr
  refine PySem.W.len_K fr I.mod.kin J hm.at_ hm.fn (wpAny_mono (goIn (us := [.ref a]) (vs := [.ref a]) F hr.in1 I.env0.in1 hb hd I (.cons rfl .nil) q) (fun w s1 hw => ?_) fun _ _ z => z)
  obtain ⟨t, H1, I1, rt, n, rfl, n0, n1, q1⟩ := hw
  obtain ⟨tk, rfl⟩ := (show ∃ t, w = Value.int n t from rt)
  exact ⟨⟨n0, n1⟩, .int n, H1, I1.tok _, ⟨_, rfl⟩, q1⟩
theorem call_reprO (D : Mtn X.prog X.w X.K X.mg X.base C "__repr__" k ps dvs sp) (hr : RoomG (k + 1) X.A) :
    CallR X (.builtin "repr") (fun xs H Q => ∃ a dx fs, xs = [.ref a] ∧ H a = some (.ins C dx fs) ∧ sp (.ref a :: dvs) H (fun v H' => ∃ y : Str, v = .str y ∧ Q (.str y) H') E0) := by
  obtain ⟨f, fd, ds, c, hm, F, hb, hd⟩ := D.ex
  intro pins s σ H xs us Q I r h
  obtain ⟨a, dx, fs, rfl, ea, q⟩ := h
  rw [Vals.ref1 r]
  obtain ⟨ox, od, J⟩ := insAt I ea
  obtain ⟨mf, fr⟩ := I.fr
  have hu : X.A.in1.units < cLine := by
    have := hr.in1.units
    omega
  refine PySem.W.repr_K hu fr I.mod.kin J hm.at_ hm.fn (wpAny_mono (goIn (us := [.ref a]) (vs := [.ref a]) F hr.in1 I.env0.in1 hb hd I (.cons rfl .nil) q) (fun w s1 hw => ?_) fun _ _ z => z)
  obtain ⟨t, H1, I1, rt, y, rfl, q1⟩ := hw
  obtain ⟨tk, rfl⟩ := (show ∃ t, w = Value.str y t from rt)
  exact ⟨.str y, H1, I1, ⟨_, rfl⟩, q1⟩
/-! ### o[k] -/
def rIxO (C : Addr) (sp : Sp) (dvs : List V) : R2 := fun x y H Q => ∃ a dx fs, x = .ref a ∧ H a = some (.ins C dx fs) ∧ sp (.ref a :: y :: dvs) H Q E0
theorem pe_ixO {a b : Expr} {ta tb : TE} {pos : Pos} (D : Mtn X.prog X.w X.K X.mg X.base C "__getitem__" k ps dvs sp) (hr : RoomG (k + 1) X.A) (hfn : ∀ f, PySem.W.findIn X.K (.ref C) "__getitem__" = some (some (.ref f)) → PySem.W.fnIn X.K f = true)
    (ha : PE X a ta) (hb : PE X b tb) (hs : ∀ o i, subscripted b true o i = runValue (.builtin "lifetime.subscript" ⟨[o, i], []⟩) := by intros; with_unfolding_all rfl) : PE X (.Subscript a b pos) (tOp (rIxO C sp dvs) ta tb) := by
  obtain ⟨f, fd, ds, c, hm, F, hbd, hd⟩ := D.ex
  refine ⟨fun pins s σ H Q I h => Subscript_ (binT ha hb I h fun v u s2 x y H2 I2 rx ry q => ?_)⟩
  obtain ⟨a, dx, fs, rfl, ea, q⟩ := q
  obtain rfl : v = Value.ref a := rx
  obtain ⟨ox, od, J⟩ := insAt I2 ea
  obtain ⟨mf, fr⟩ := I2.fr
  exact PySem.W.sub_K fr I2.mod.kin J hm.at_ (hfn f hm.at_) hm.fn (goIn (us := [.ref a, u]) (vs := [.ref a, y]) F hr.in1 I2.env0.in1 hbd hd I2 (.cons rfl (.cons ry .nil)) q) (hs _ _)
/-! ### o + p, both of the class -/
def rBinO (C : Addr) (sp : Sp) (dvs : List V) : R2 := fun x y H Q => ∃ a b dx dy fs gs, x = .ref a ∧ y = .ref b ∧ H a = some (.ins C dx fs) ∧ H b = some (.ins C dy gs) ∧ sp (.ref a :: .ref b :: dvs) H Q E0
theorem op_own {op : Operator} {nm : Str} (D : Mtn X.prog X.w X.K X.mg X.base C nm k ps dvs sp) (e : PySem.dunder op.info.2 = nm) (hc : PySem.W.selfFirst X.K C = true) (hr : RoomG k X.A) : OpR X (binaryOp op) (rBinO C sp dvs) := by
  subst e
  obtain ⟨f, fd, ds, c, hm, F, hb, hd⟩ := D.ex
  intro pins s σ H x y v u Q I rx ry h
  obtain ⟨a, b, dx, dy, fs, gs, rfl, rfl, ea, eb, q⟩ := h
  obtain rfl : v = Value.ref a := rx
  obtain rfl : u = Value.ref b := ry
  obtain ⟨ox, od, J⟩ := insAt I ea
  obtain ⟨oy, od2, J2⟩ := insAt I eb
  obtain ⟨mf, fr⟩ := I.fr
  refine PySem.W.binop_K fr I.mod.kin J J2.type hc hm.at_ hm.fn (wpAny_mono (goIn (us := [.ref a, .ref b]) (vs := [.ref a, .ref b]) F hr I.env0 hb hd I (.cons rfl (.cons rfl .nil)) q) (fun w s1 hw => ?_) fun _ _ z => z)
  obtain ⟨t, H1, I1, rt, q1⟩ := hw
  have ni : w ≠ .notImplemented := by
    rintro rfl
    cases t <;> simp [L2.RelV] at rt
  have hw : EP X pins σ Q w s1 := ⟨t, H1, I1, rt, q1⟩
  cases w with
  | notImplemented => exact absurd rfl ni
  | none => exact hw
  | ellipsis => exact hw
  | bool _ => exact hw
  | int _ _ => exact hw
  | float _ _ => exact hw
  | str _ _ => exact hw
  | bytes _ _ => exact hw
  | type _ => exact hw
  | builtin _ => exact hw
  | ref _ => exact hw
/-- a method never gives NotImplemented back -/
theorem back {Q : VK} {w : Value} {s1 : Shared} (hw : EP X pins σ Q w s1) : PySem.W.CmpBack (EP X pins σ Q) w s1 := by
  obtain ⟨t, H1, I1, rt, q1⟩ := id hw
  have ni : w ≠ .notImplemented := by
    rintro rfl
    cases t <;> simp [L2.RelV] at rt
  cases w with
  | notImplemented => exact absurd rfl ni
  | none => exact hw
  | ellipsis => exact hw
  | bool _ => exact hw
  | int _ _ => exact hw
  | float _ _ => exact hw
  | str _ _ => exact hw
  | bytes _ _ => exact hw
  | type _ => exact hw
  | builtin _ => exact hw
  | ref _ => exact hw
/-! ### o == y, o != y, y of any kind -/
def rEqO (C : Addr) (sp : Sp) (dvs : List V) (g : Bool → Bool) : R2 := fun x y H Q => ∃ (K : PySem.W.Frag) (a dx : Addr) (fs : List (Str × V)) (t : Value), x = .ref a ∧ H a = some (.ins C dx fs) ∧ TyX K H y t ∧ PySem.W.notFirst K C t = true ∧ sp (.ref a :: y :: dvs) H (fun v H' => ∃ b, v = .bl b ∧ Q (.bl (g b)) H') E0
theorem or_eqO (D : Mtn X.prog X.w X.K X.mg X.base C "__eq__" k ps dvs sp) (hr : RoomG k X.A) : OpR X (compareOp .Eq) (fun x y H Q => ∃ (a dx : Addr) (fs : List (Str × V)) (t : Value), x = .ref a ∧ H a = some (.ins C dx fs) ∧ TyX X.K H y t ∧ PySem.W.notFirst X.K C t = true ∧ sp (.ref a :: y :: dvs) H Q E0) := by
  obtain ⟨f, fd, ds, c, hm, F, hb, hd⟩ := D.ex
  intro pins s σ H x y v u Q I rx ry h
  obtain ⟨a, dx, fs, t, rfl, ea, ty, nf, q⟩ := h
  obtain rfl : v = Value.ref a := rx
  obtain ⟨ox, od, J⟩ := insAt I ea
  obtain ⟨mf, fr⟩ := I.fr
  obtain ⟨PH, Z, pH, _⟩ := kit_of I ry ty
  have hu : X.A.units < cLine := by
    have := hr.units
    omega
  exact PySem.W.cmp_K (op := .Eq) hu fr I.mod.kin J (Z.ty _ _ I.kIn pH) nf hm.at_ hm.fn (wpAny_mono (goIn (us := [.ref a, u]) (vs := [.ref a, y]) F hr I.env0 hb hd I (.cons rfl (.cons ry .nil)) q) (fun w s1 hw => back hw) fun _ _ z => z)
/-- the comparison by object.__ne__ and an own __eq__ -/
theorem ne_inK {prog : Program} {w : World} {A : Around} {E : Value → Shared → Prop} {s : Shared} {K : PySem.W.Frag} {x C f : Addr} {ox : Obj} {od : Option Obj} {b tb : Value} {Q : Value → Shared → Prop} (hu : A.units + 1 < cLine) (XK : K.In s.heap) (I : PySem.W.InstAt s.heap x ox C od)
    (hb : PySem.W.Looks (model prog w) s.heap (typeOf b) tb) (hn : PySem.W.notFirst K C tb = true) (hne : PySem.W.findIn K (.ref C) "__ne__" = some (some (.builtin "object.__ne__"))) (hob : PySem.W.mroIn K C (.type "object") = some true)
    (hs : PySem.W.findIn K (.ref C) "__eq__" = some (some (.ref f))) (hf : PySem.W.isFn K (.ref f) = true)
    (h : wpAny (model prog w) A.in1 (call (.ref f) [.ref x, b]) (fun v s' => ∃ c, v = .bool c ∧ Q (.bool (!c)) s') E s) : wpAny (model prog w) A (compareOp .NotEq (.ref x) b) Q E s := by
  have one : wpAny (model prog w) A (tryCompare (.ref x) "__ne__" b) (fun r s' => ∃ v, r = some v ∧ Q v s') E s := by
    unfold tryCompare
    refine wpAny_bind ?_
    simp only [callSpecialIfBound?, bindSpecialIfBound?]
    refine wpAny_holding (wpAny_bind (wpAny_bind (wpAny_bind (I.type.here ((PySem.W.looks_findIn XK hne).here ?_)))))
    refine wpAny_bind (wpAny_askSetting (wpAny_ite ?_))
    have body : wpAny (model prog w) A (call (.builtin "object.__ne__") ([.ref x] ++ [b])) (fun v s' => ∃ c, v = .bool c ∧ Q (.bool c) s') E s := by
      refine wpAny_call (codeAny_call_builtin F.cmp_object.ne.plain F.cmpEntry_ne ?_)
      have sub : PySem.W.Looks (model prog w) s.heap (isInstance (.ref x) (.type "object")) true := I.type.andThen (PySem.W.looks_mroIn XK hob)
      refine @PySem.W.check_slot (model prog w) _ _ _ "object.__ne__" "object" "__ne__" (.ref x) [b] [] _ F.cmpKind_ne F.cmpSplit_ne sub (F.cmpArgs_ne _ _) ?_
      unfold Builtin.«object.__ne__»
      refine wpAny_bind (wpAny_of_eq (a := ((Value.ref x : Value), [b])) (by first | rfl | (simp only [slotArgs]; rfl)) ?_)
      have hu1 : A.in1.units < cLine := hu
      refine wpAny_bind (wpAny_cRoomFor hu1 ?_)
      refine wpAny_bind (PySem.W.ifBound_K XK I hs hf (wpAny_mono h (fun v s' hv => ?_) fun _ _ z => z))
      obtain ⟨c, rfl, hq⟩ := hv
      refine wpAny_bind (wpAny_truthy_bool ?_)
      exact wpAny_pure ⟨_, rfl, hq⟩
    have fin : wpAny (model prog w) A (call (.builtin "object.__ne__") ([.ref x] ++ [b]) >>= fun v => Pure.pure (some v)) (fun r s' => ∃ c, r = some (.bool c) ∧ Q (.bool c) s') E s :=
      wpAny_bind (wpAny_mono body (fun v s' z => by
        obtain ⟨c, rfl, q⟩ := z
        exact wpAny_pure ⟨c, rfl, q⟩) fun _ _ z => z)
    rw [F.cmp_object.ne.bind]
    have fin2 : wpAny (model prog w) A (call (.builtin "object.__ne__") ([.ref x] ++ [b]) >>= fun v => Pure.pure (some v)) (fun r s' => wpAny (model prog w) A (match r with | some .notImplemented | none => Pure.pure none | some v => Pure.pure (some v)) (fun r s' => ∃ v, r = some v ∧ Q v s') E s') E s :=
      wpAny_mono fin (fun r s' z => by
        obtain ⟨c, rfl, q⟩ := z
        exact wpAny_pure ⟨_, rfl, q⟩) fun _ _ z => z
    split
    · refine wpAny_bind (wpAny_pure (wpAny_pure ?_))
      exact fin2
    · refine wpAny_tryCatch (wpAny_bind (wpAny_pure (wpAny_pure ?_)))
      exact fin2
  show wpAny (model prog w) A (richCompare .NotEq (.ref x) b) Q E s
  unfold richCompare
  simp only [oneThing_ref]
  have hu0 : A.units < cLine := by omega
  refine wpAny_holding (wpAny_bind (wpAny_cRoomFor hu0 ?_))
  refine wpAny_bind (I.type.here ?_)
  refine wpAny_bind (hb.here ?_)
  split
  · rename_i q
    have e : PySem.W.subIn K tb (.ref C) = some false := by
      rcases Bool.or_eq_true_iff.mp hn with e | e
      · rw [beq_iff_eq.mp e] at q
        simp at q
      · exact beq_iff_eq.mp e
    refine wpAny_bind ((PySem.W.looks_subIn XK e).here ?_)
    rw [if_neg Bool.false_ne_true]
    refine wpAny_bind (wpAny_mono one (fun r s' z => ?_) fun _ _ z => z)
    obtain ⟨v, rfl, q⟩ := z
    exact wpAny_pure q
  · refine wpAny_bind (wpAny_pure ?_)
    rw [if_neg Bool.false_ne_true]
    refine wpAny_bind (wpAny_mono one (fun r s' z => ?_) fun _ _ z => z)
    obtain ⟨v, rfl, q⟩ := z
    exact wpAny_pure q
theorem or_neO (D : Mtn X.prog X.w X.K X.mg X.base C "__eq__" k ps dvs sp) (hne : PySem.W.findIn X.K (.ref C) "__ne__" = some (some (.builtin "object.__ne__"))) (hob : PySem.W.mroIn X.K C (.type "object") = some true) (hr : RoomG (k + 1) X.A) :
    OpR X (compareOp .NotEq) (fun x y H Q => ∃ (a dx : Addr) (fs : List (Str × V)) (t : Value), x = .ref a ∧ H a = some (.ins C dx fs) ∧ TyX X.K H y t ∧ PySem.W.notFirst X.K C t = true ∧ sp (.ref a :: y :: dvs) H (fun v H' => ∃ b, v = .bl b ∧ Q (.bl (!b)) H') E0) := by
  obtain ⟨f, fd, ds, c, hm, F, hb, hd⟩ := D.ex
  intro pins s σ H x y v u Q I rx ry h
  obtain ⟨a, dx, fs, t, rfl, ea, ty, nf, q⟩ := h
  obtain rfl : v = Value.ref a := rx
  obtain ⟨ox, od, J⟩ := insAt I ea
  obtain ⟨PH, Z, pH, _⟩ := kit_of I ry ty
  refine ne_inK (hug hr) I.kIn J (Z.ty _ _ I.kIn pH) nf hne hob hm.at_ hm.fn (wpAny_mono (goIn (us := [.ref a, u]) (vs := [.ref a, y]) F hr.in1 I.env0.in1 hb hd I (.cons rfl (.cons ry .nil)) q) (fun w s1 hw => ?_) fun _ _ z => z)
  obtain ⟨t1, H1, I1, rt, b, rfl, q1⟩ := hw
  obtain rfl : w = Value.bool b := rt
  exact ⟨b, rfl, .bl (!b), H1, I1, rfl, q1⟩
/-! ### o * y, y of a built-in type -/
theorem op_ownT {op : Operator} {nm : Str} {T : String} {fo ro rc : Option Value} (D : Mtn X.prog X.w X.K X.mg X.base C nm k ps dvs sp) (e : PySem.dunder op.info.2 = nm) (hc : PySem.W.selfFirst X.K C = true) (hr : RoomG k X.A)
    (h0 : PySem.W.findIn X.K (.ref C) (dunderR op.info.2) = some rc) (hp : rc = none ∨ ∃ g : Addr, rc = some (.ref g)) (h1 : PySem.W.findIn X.K (.type T) (PySem.dunder op.info.2) = some fo) (h2 : PySem.W.findIn X.K (.type T) (dunderR op.info.2) = some ro) (h3 : PySem.W.subIn X.K (.type T) (.ref C) = some false)
    (hT : ∀ y u, L2.RelV y u → (∃ i, y = .int i) → typeOf u = Pure.pure (.type T)) :
    OpR X (binaryOp op) (fun x y H Q => ∃ a dx fs, x = .ref a ∧ H a = some (.ins C dx fs) ∧ (∃ i, y = .int i) ∧ sp (.ref a :: y :: dvs) H Q E0) := by
  subst e
  obtain ⟨f, fd, ds, c, hm, F, hb, hd⟩ := D.ex
  intro pins s σ H x y v u Q I rx ry h
  obtain ⟨a, dx, fs, rfl, ea, hy, q⟩ := h
  obtain rfl : v = Value.ref a := rx
  obtain ⟨ox, od, J⟩ := insAt I ea
  obtain ⟨mf, fr⟩ := I.fr
  exact PySem.W.ksp_binT fr I.mod.kin J (hT _ _ ry hy) hc hm.at_ hm.fn h0 hp h1 h2 h3 (wpAny_mono (goIn (us := [.ref a, u]) (vs := [.ref a, y]) F hr I.env0 hb hd I (.cons rfl (.cons ry .nil)) q) (fun w s1 hw => back hw) fun _ _ z => z)
theorem typeOf_int {y : V} {u : Value} (r : L2.RelV y u) (h : ∃ i, y = .int i) : typeOf u = Pure.pure (.type "int") := by
  obtain ⟨i, rfl⟩ := h
  obtain ⟨t, rfl⟩ := (show ∃ t, u = Value.int i t from r)
  rfl
/-! ### i * o, by o's own __rmul__ -/
theorem insAt' {a dx : Addr} {fs : List (Str × V)} (I : Inv X pins σ H s) (e : H a = some (.ins C dx fs)) : ∃ od, PySem.W.InstAt s.heap a (PySem.W.instObj C dx) C (some od) := by
  obtain ⟨mA, O, _⟩ := ins_get I.hok e
  obtain ⟨od, J, _⟩ := O.look
  exact ⟨_, J⟩
theorem int_mul_own (i : Int) (t : Tok) (x C dx : Addr) : Meets (Builtin.«int.__mul__» ⟨[.int i t, .ref x], []⟩) (fun _ R s => s.heap.get? x = some (PySem.W.instObj C dx) ∧ R (.ok (.ret Value.notImplemented)) s) :=
  .of_wp fun prog w A R s h => by
    obtain ⟨hp, g, d, tk, os⟩ := s
    obtain ⟨hl, h⟩ := h
    unfold PySem.W.instObj at hl
    wp_walk
    exact ⟨_, rfl, h⟩
theorem rmul_inK {prog : Program} {w : World} {A : Around} {E : Value → Shared → Prop} {s : Shared} {K : PySem.W.Frag} {x C dx f f0 : Addr} {od : Option Obj} {i : Int} {t : Tok} {Q : Value → Shared → Prop} (XK : K.In s.heap) (I : PySem.W.InstAt s.heap x (PySem.W.instObj C dx) C od) (hc : PySem.W.selfFirst K C = true)
    (hs : PySem.W.findIn K (.ref C) "__mul__" = some (some (.ref f0))) (hr : PySem.W.findIn K (.ref C) "__rmul__" = some (some (.ref f))) (hf : PySem.W.isFn K (.ref f) = true) (hsub : PySem.W.subIn K (.ref C) (.type "int") = some false)
    (h : wpAny (model prog w) A (call (.ref f) [.ref x, .int i t]) (PySem.W.CmpBack Q) E s) : wpAny (model prog w) A (binaryOp .Mult (.int i t) (.ref x)) Q E s := by
  obtain ⟨cd, rest, hcd, hm⟩ := PySem.W.ksp_first hc
  have one := PySem.W.ksp_try XK I hr hf h
  have L2 := PySem.W.fills_K (M := model prog w) (nm := "mul") XK hcd hm hs
  unfold binaryOp
  refine wpAny_holding (wpAny_bind ?_)
  simp only [binaryOp1]
  refine wpAny_bind (wpAny_typeOf (typeIs_int s i t) (wpAny_bind (I.type.here (wpAny_bind (wpAny_of_eq F.fills_int_mul ?_)))))
  have hne : (Value.type "int" == Value.ref C) = false := Bool.eq_false_iff.mpr fun q => by cases beq_iff_eq.mp q
  rw [if_neg (by rw [hne]; exact Bool.false_ne_true)]
  refine wpAny_bind (L2.here ?_)
  rw [if_pos (show (true && true) = true from rfl)]
  refine wpAny_bind ((PySem.W.looks_subIn XK hsub).here ?_)
  rw [if_neg Bool.false_ne_true]
  simp only [Bool.not_false, Bool.and_self, if_true]
  have hpy : numberSlotInPython (.type "int") "mul" = Pure.pure false := rfl
  rw [hpy]
  simp only [pure_bind, Bool.false_eq_true, if_false]
  have dec : wpAny (model prog w) A (call (.builtin "int.__mul__") [.int i t, .ref x]) (fun v s' => v = .notImplemented ∧ s' = s) E s :=
    call_meets F.slot_int_mul (typeIs_int s i t) F.entry_int_mul (F.args_int_mul_2 _ _) (int_mul_own i t x C dx) ⟨I.at_, rfl, rfl⟩
  refine wpAny_bind (wpAny_tryMethod_declines (typeIs_int s i t) F.slot_int_mul (wpAny_mono dec (fun v s' z => ⟨z.1, ?_⟩) fun _ _ z => z))
  obtain ⟨_, rfl⟩ := z
  dsimp only
  refine wpAny_bind (wpAny_mono one (fun r s' z => ?_) fun _ _ z => z)
  obtain ⟨v, rfl, q⟩ := z
  refine wpAny_bind (wpAny_rule (wpAny_pure ?_))
  exact wpAny_pure q
theorem op_rmulO (D0 : ∃ f0 : Addr, PySem.W.findIn X.K (.ref C) "__mul__" = some (some (.ref f0))) (D : Mtn X.prog X.w X.K X.mg X.base C "__rmul__" k ps dvs sp) (hc : PySem.W.selfFirst X.K C = true) (hsub : PySem.W.subIn X.K (.ref C) (.type "int") = some false) (hr : RoomG k X.A) :
    OpR X (binaryOp .Mult) (fun x y H Q => ∃ (i : Int) (a dx : Addr) (fs : List (Str × V)), x = .int i ∧ y = .ref a ∧ H a = some (.ins C dx fs) ∧ sp (.ref a :: .int i :: dvs) H Q E0) := by
  obtain ⟨f0, h0⟩ := D0
  obtain ⟨f, fd, ds, c, hm, F, hb, hd⟩ := D.ex
  intro pins s σ H x y v u Q I rx ry h
  obtain ⟨i, a, dx, fs, rfl, rfl, ea, q⟩ := h
  obtain ⟨t, rfl⟩ := (show ∃ t, v = Value.int i t from rx)
  obtain rfl : u = Value.ref a := ry
  obtain ⟨od, J⟩ := insAt' I ea
  exact rmul_inK I.kIn J hc h0 hm.at_ hm.fn hsub (wpAny_mono (goIn (us := [.ref a, .int i t]) (vs := [.ref a, .int i]) F hr I.env0 hb hd I (.cons rfl (.cons ⟨t, rfl⟩ .nil)) q) (fun w s1 hw => back hw) fun _ _ z => z)
end
end My

namespace My
open PySem L2 PySem.Spec PyProof.Rows Sem
/-! ### calls with keywords -/
/-- a method as it is called with n values (itself among them) and keywords ks -/
structure Mtk (P : Program) (w : World) (K : PySem.W.Frag) (mg : Str → Option Value) (base : Heap) (C : Addr) (m : Str) (k : Nat) (n : Nat) (ks : List Str) (gV : List V → List V → List V) (sp : Sp) : Prop where
  ex : ∃ (f : Addr) (fd : FuncData) (ps : List Str) (g : List Value → List Value → List Value), Cls K C ∧ Meth K C m f ∧ FnG P w K mg base CX0 k f fd ps sp ∧ KBn K fd ps n ks g gV
/-- a class likewise, by its __init__ -/
structure Mkk (P : Program) (w : World) (K : PySem.W.Frag) (mg : Str → Option Value) (base : Heap) (x : Str) (C : Addr) (k : Nat) (n : Nat) (ks : List Str) (gV : List V → List V → List V) (sp : Sp) : Prop where
  ex : ∃ (f : Addr) (fd : FuncData) (ps : List Str) (g : List Value → List Value → List Value), Mk K C f ∧ FnG P w K mg base CX0 k f fd ps sp ∧ mg x = some (.ref C) ∧ KBn K fd ps n ks g gV
theorem kbn0 {K : PySem.W.Frag} {x qual : Str} {params : Arguments} {body : List Stmt} {scope : Scope} {f : Addr} {fd : FuncData} {ps : List Str} (F : FunD K x qual params body scope [] [] f fd) (n : Nat) (ks : List Str) (g : {α : Type} → List α → List α → List α)
    (hrel : ∀ {vs zs : List V} {us ws : List Value}, Vals vs us → Vals zs ws → Vals (g vs zs) (g us ws))
    (h : ∀ (kV doc pm : Value) (an : Option Addr) (cdv ct : Value) (us ws : List Value), us.length = n → ws.length = ks.length → bindArgs (PySem.W.fnOf x qual params body scope .none kV doc pm an cdv ct) ⟨us, ks.zip ws⟩ = Pure.pure (ps.zip (g us ws))) :
    KBn K fd ps n ks (fun us ws => g us ws) (fun vs zs => g vs zs) := by
  obtain ⟨oc, od, dV, kV, doc, pm, an, cdv, ct, osl, rfl, lk, hcd, hD, hK⟩ := F.ex
  rcases hD with ⟨_, rfl⟩ | ⟨z, _⟩
  · refine ⟨fun s us ws _ l1 l2 => ?_, fun r1 r2 => hrel r1 r2⟩
    refine BindsTo.of_looks fun M => ?_
    rw [h kV doc pm an cdv ct us ws l1 l2]
    exact .of_pure rfl
  · exact absurd rfl z
section
variable {X : Cx} {j k n : Nat} {C : Addr} {sp : Sp} {m x : Str} {ks : List Str} {gV : List V → List V → List V} {p pos apos : Pos} {o : Expr} {kws : List Keyword} {ta : TE} {t tk : TA} {pins : List (Addr × Obj)} {σ : L2.St} {H : Hp} {s : Shared}
theorem goKw {f : Addr} {fd : FuncData} {ps : List Str} {g : List Value → List Value → List Value} {Q : VK} {us ws : List Value} {vs zs : List V} (F : FnG X.prog X.w X.K X.mg X.base CX0 k f fd ps sp) (hr : RoomG k X.A) (hb : KBn X.K fd ps n ks g gV)
    (I : Inv X pins σ H s) (r : Vals vs us) (rz : Vals zs ws) (l1 : vs.length = n) (l2 : zs.length = ks.length) (h : sp (gV vs zs) H Q E0) : wpAny (model X.prog X.w) X.A (call (.ref f) us (ks.zip ws)) (EP X pins σ Q) X.xe s := by
  refine wpAny_call (codeAny_mono (F.go X.A X.stack s H ⟨us, ks.zip ws⟩ (g us ws) (gV vs zs) Q E0 hr I.env0 (hb.to s us ws I.kIn (r.length.symm.trans l1) (rz.length.symm.trans l2)) (hb.rel r rz) h) fun r s' hq => ?_)
  cases r with
  | error e => exact (show False from hq).elim
  | ok fl => cases fl with
    | ret u => exact I.after hq
    | next => exact (show False from hq).elim
    | brk => exact (show False from hq).elim
    | cont => exact (show False from hq).elim
/-- o.m(k = v, ..) -/
def tMethK (C : Addr) (m : Str) (l : Nat) (sp : Sp) (gV : List V → List V → List V) (ta : TE) (tk : TA) : TE := fun σ H Q => ta σ H fun y H1 => ∃ a dx fs, y = .ref a ∧ H1 a = some (.ins C dx fs) ∧ fs.lookup m = none ∧ tk σ H1 fun zs H2 => zs.length = l ∧ sp (gV [.ref a] zs) H2 Q E0
theorem pe_methK {pl : Sem Bool} (D : Mtk X.prog X.w X.K X.mg X.base C m k 1 ks gV sp) (he : PE X o ta) (hr : RoomG k X.A) (hkw : PK X kws tk) (hall : (backToKw pos (keywordEach kws X.env)).all (·.1.isSome) = true := by rfl) (hks : (backToKw pos (keywordEach kws X.env)).filterMap (·.1) = ks := by rfl)
    (hpl : ((backTo pos (starEach [] X.env)).any (fun q => q.1) || (backToKw pos (keywordEach kws X.env)).any (fun q => q.1.isNone)) = false := by rfl)
    (h3 : eval (.Call (.Attribute o m apos) [] kws pos) X.env = (do
      let v ← eval o X.env
      standAt apos.atName
      let (g, fst) ← holding [v] (getMethod v m pl)
      callWith pos g fst (backTo pos (starEach [] X.env)) (backToKw pos (keywordEach kws X.env))) := by rfl) : PE X (.Call (.Attribute o m apos) [] kws pos) (tMethK C m ks.length sp gV ta tk) := by
  obtain ⟨f, fd, ps, g, c, hm, F, hb⟩ := D.ex
  constructor
  intro pins s σ H Q I h
  refine PySem.W.methodCall_KW (pl := pl) (thn (he.run pins s σ H _ I h) ?_) h3
  rintro u s1 ⟨y, H1, I1, ry, a, dx, fs, rfl, ea, l, q⟩
  obtain rfl : u = Value.ref a := ry
  refine getmeth_ok I1 ea c hm l ?_
  refine PySem.W.callWith_KW0 (first := [.ref a]) (h₀ := X.base) I1.ok.mod.kin hm.kp hall ?_ hpl
  refine thn (hkw.run pos pins s1 σ H1 _ I1 q) fun ws s2 ⟨zs, H2, I2, rz, l2, q2⟩ => ⟨I2.kIn, ?_⟩
  rw [hks]
  exact goKw (us := [.ref a]) (vs := [.ref a]) F hr hb I2 (.cons rfl .nil) rz rfl l2 q2
/-- C(k = v, ..) -/
def tMakeKw (C : Addr) (l : Nat) (sp : Sp) (gV : List V → List V → List V) (tk : TA) : TE := fun σ H Q => tk σ H fun zs H2 => zs.length = l ∧ ∀ x dx, H2 x = none → H2 dx = none → dx ≠ x → sp (gV [.ref x] zs) (upd (upd H2 dx (.own x)) x (.ins C dx [])) (fun v H3 => v = .non ∧ Q (.ref x) H3) E0
theorem pe_makeKw (D : Mkk X.prog X.w X.K X.mg X.base x C k 1 ks gV sp) (hr : RoomG (k + 1) X.A) (hg : Gl X x) (hkw : PK X kws tk)
    (h1 : (backToKw pos (keywordEach kws X.env)).all (fun q => q.1.isSome) = true := by rfl)
    (h2 : (backToKw pos (keywordEach kws X.env)).filterMap (fun q => q.1) = ks := by rfl)
    (h3 : ((backTo pos (starEach [] X.env)).any (fun q => q.1) || (backToKw pos (keywordEach kws X.env)).any (fun q => q.1.isNone)) = false := by rfl) (h4 : (x == ("__debug__" : Str)) = false := by decide) :
    PE X (.Call (.Name x p) [] kws pos) (tMakeKw C ks.length sp gV tk) := by
  obtain ⟨f, fd, ps, g, M, F, hm, hb⟩ := D.ex
  refine ⟨fun pins s σ H Q I h => ?_⟩
  refine wpAny_Call_Name_kw (ld_glob I hg hm ?_ h4)
  have kin := I.ok.mod.kin
  refine PySem.W.callWith_KW0 (first := []) kin M.kp h1 ?_ h3
  refine thn (hkw.run pos pins s σ H _ I h) fun ws s2 ⟨zs, H2, I2, rz, l2, q2⟩ => ⟨I2.kIn, ?_⟩
  rw [h2]
  have hq := q2 (s2.heap.objs.size + 1) s2.heap.objs.size (I2.hok.fresh (Nat.le_succ _)) (I2.hok.fresh (Nat.le_refl _)) (Nat.ne_of_lt (Nat.lt_succ_self _))
  have I3 := Inv.made (C := C) I2
  have hr2 : RoomG k (X.A.under (.builtin "type.__call__" ⟨.ref C :: [], ks.zip ws⟩)) := ⟨hr.r.make C [] (ks.zip ws), hr.g⟩
  have r1 : Vals [V.ref (s2.heap.objs.size + 1)] [Value.ref (s2.heap.objs.size + 1)] := .cons rfl .nil
  refine wpAny_call (make_map (f := f) I2.kIn M.makes M.init (beq_iff_eq.mp M.fn) (codeAny_mono (F.go _ X.stack _ _ ⟨[Value.ref (s2.heap.objs.size + 1)], ks.zip ws⟩ (g [Value.ref (s2.heap.objs.size + 1)] ws) _ _ E0 hr2
    (I3.env0.make C [] (ks.zip ws)) (hb.to _ [Value.ref (s2.heap.objs.size + 1)] ws I3.kIn rfl (rz.length.symm.trans l2)) (hb.rel r1 rz) hq) fun r s' hq' => ?_))
  cases r with
  | error e => exact (show False from hq').elim
  | ok fl => cases fl with
    | ret u =>
      obtain ⟨v, H', I4, rv, ev, q3⟩ := I3.after hq'
      subst ev
      exact ⟨rv, V.ref (s2.heap.objs.size + 1), H', I4, rfl, q3⟩
    | next => exact (show False from hq').elim
    | brk => exact (show False from hq').elim
    | cont => exact (show False from hq').elim
end
end My

namespace My
open PySem L2 PySem.Spec PyProof.Rows PySem.W Builtin Builtin.ObjectAttr
/-! ### own exception objects as values -/
/-- what the written part says of an own exception class with an __init__, over a built-in base -/
structure OexG (K : Frag) (C : Addr) : Prop where
  base : ∃ (B newId initId : String) (bmB : List Value), ExcBaseFacts B newId initId bmB ∧ StoreFacts B bmB "object.__setattr__" "object" ∧ excInitIn K C bmB newId = true ∧ excOver K C bmB = true
  hd : hasDictIn K C = true
  sa : findIn K (.ref C) "__setattr__" = some (some (.builtin "object.__setattr__"))
  kp : keepIn K (.ref C) = true
section
variable {prog : Program} {w : World} {A : Around} {R : Result → Shared → Prop} {hp : Heap} {g : Array GenState} {d : Drawn} {t : Nat} {os : OsState} {K : Frag}
theorem osaNew {B : String} {bmB : List Value} {name : Str} {tk : Tok} {v : Value} {x C : Addr} {fv : Array Value} (SF : StoreFacts B bmB "object.__setattr__" "object") (X : K.In hp) (hx : hp.get? x = some { cls := .ref C, data := .fields fv }) (ov : excOver K C bmB = true) (hh : hasDictIn K C = true)
    (ha : NoAttr K C name)
    (hq : ∀ h' tk' dx, (∀ b o, b ≠ x → hp.get? b = some o → h'.get? b = some o) → hp.objs.size ≤ dx → dx ≠ x → h'.get? x = some { cls := .ref C, dict := some dx, data := .fields fv } → h'.Ns1 dx (fun y => if y = name then some v else none) → R (.ok (.ret .none)) ⟨h', g, d, tk', os⟩) :
    codeAny (model prog w) A (.call (.builtin "object.__setattr__") ⟨[.ref x, .str name tk, v], []⟩) R ⟨hp, g, d, t, os⟩ := by
  have I : InstAt hp x { cls := .ref C, data := .fields fv } C none := ⟨hx, rfl, rfl, trivial⟩
  obtain ⟨cd, hc, hdct⟩ := any_some hh
  have hxs : x ≠ hp.objs.size := Nat.ne_of_lt (Heap.lt_size hx)
  have Lc : Looks (model prog w) hp (classData C) cd := looks_clsIn X hc
  refine osa_openX SF X I ov ha.taker fun b => ?_
  show wpAny _ _ (storeInOwnDict (.ref x) (.ref C) (.str name tk) name v b) _ _ _
  obtain ⟨nm, bs, mro, ns, qn, hd, sn, sb, ab, col, del⟩ := cd
  dsimp only at hdct
  subst hdct
  unfold storeInOwnDict ownDictForStores
  repeat (first | with_reducible refine HandSPX.store_in_new ?_ ?_ | with_reducible refine wpAny_loadPart_at hx ?_ | with_reducible refine Lc.at ?_ | wp_step)
  · exact ⟨_, #[], _, (Heap.get?_update_ne _ _ _ _ hxs.symm).trans (Heap.get?_push_at rfl rfl), rfl, fun e he => absurd he (by simp), fun _ => rfl⟩
  · intro h' tk' hn' hs
    have hx1 : (hp.push { cls := .type "dict", data := .dict #[] }).get? x = some { cls := .ref C, data := .fields fv } := Heap.get?_push_of_some _ hx
    refine hq h' tk' hp.objs.size (fun b o nb ho => ?_) (Nat.le_refl _) hxs.symm ((hs.2 x hxs).trans (Heap.get?_update_self _ hx1 rfl)) hn'
    have nb2 : b ≠ hp.objs.size := Nat.ne_of_lt (Heap.lt_size ho)
    exact (hs.2 b nb2).trans ((Heap.get?_update_ne _ _ _ _ nb).trans (Heap.get?_push_of_some _ ho))
theorem osaOld {B : String} {bmB : List Value} {name : Str} {tk : Tok} {v : Value} {x C dx : Addr} {fv : Array Value} {m0 : Str → Option Value} {nl : List Str} (SF : StoreFacts B bmB "object.__setattr__" "object") (X : K.In hp) (hx : hp.get? x = some { cls := .ref C, dict := some dx, data := .fields fv })
    (hns : hp.Ns1 dx m0) (hw : Within m0 nl) (hz : nl.length ≤ 1000) (ov : excOver K C bmB = true) (hh : hasDictIn K C = true) (ha : NoAttr K C name)
    (hq : ∀ h' tk', (∀ b o, b ≠ dx → hp.get? b = some o → h'.get? b = some o) → h'.Ns1 dx (fun y => if y = name then some v else m0 y) → R (.ok (.ret .none)) ⟨h', g, d, tk', os⟩) :
    codeAny (model prog w) A (.call (.builtin "object.__setattr__") ⟨[.ref x, .str name tk, v], []⟩) R ⟨hp, g, d, t, os⟩ := by
  obtain ⟨oD, esD, epD, hoD, hdD, _⟩ := hns.count hw
  have I : InstAt hp x { cls := .ref C, dict := some dx, data := .fields fv } C (some oD) := ⟨hx, rfl, rfl, hoD⟩
  obtain ⟨cd, hc, hdct⟩ := any_some hh
  have Lc : Looks (model prog w) hp (classData C) cd := looks_clsIn X hc
  refine osa_openX SF X I ov ha.taker fun b => ?_
  show wpAny _ _ (storeInOwnDict (.ref x) (.ref C) (.str name tk) name v b) _ _ _
  obtain ⟨nm, bs, mro, ns, qn, hd, sn, sb, ab, col, del⟩ := cd
  dsimp only at hdct
  subst hdct
  unfold storeInOwnDict ownDictForStores
  repeat (first | with_reducible refine OEX.store_in_old hns hw hz ?_ | with_reducible refine wpAny_loadPart_at hx ?_ | with_reducible refine Lc.at ?_ | wp_step)
  intro h' tk' hn' hs
  exact hq h' tk' (fun b o nb ho => (hs.2 b nb).trans ho) hn'
end
section
variable {X : Cx} {pins : List (Addr × Obj)} {σ : L2.St} {H : Hp} {s : Shared} {a C dx : Addr} {f : Str} {y : V} {u : Value} {fs : List (Str × V)} {Q : Unit → Shared → Prop} {E : Value → Shared → Prop} {A : Around}
/-- a.f = y, the first field -/
theorem ostNew (T : OexG X.K C) (I : Inv X pins σ H s) (e : H a = some (exo a C none)) (hno : NoAttr X.K C f) (ry : L2.RelV y u)
    (h : ∀ dx s', H dx = none → dx ≠ a → Inv X pins σ (L2.upd (L2.upd H dx (exd dx [(f, y)])) a (exo a C (some dx))) s' → Q () s') : wpAny (model X.prog X.w) A (setAttr (.ref a) f u) Q E s := by
  obtain ⟨B, ni, ii, bmB, FB, SF, ini, ov⟩ := T.base
  obtain ⟨t1, ho⟩ := exo_at I.hok e
  obtain ⟨hp, g, d, t, os⟩ := s
  refine set_plain I.kIn (ox := { cls := .ref C, dict := none, data := .fields #[.ref t1, .none, .none, .none, .bool false, .none] }) (od := none) ⟨ho, rfl, rfl, trivial⟩ T.sa ?_
  refine osaNew SF I.kIn ho ov T.hd hno fun h' tk' dx k dn dne hx hn => ?_
  have hnd : H dx = none := I.hok.fresh dn
  have nd : ∀ {b : Addr} {o : Obj}, hp.get? b = some o → b ≠ dx := fun {b o} q => Nat.ne_of_lt (Nat.lt_of_lt_of_le (Heap.lt_size q) dn)
  have na : ∀ {b : Addr}, H b = none → b ≠ a := fun {b} n z => by
    rw [z, e] at n
    cases n
  have U : Un X.fs [] H (L2.upd (L2.upd H dx (exd dx [(f, y)])) a (exo a C (some dx))) hp h' := by
    constructor
    · intro b o q n _ _
      exact k b o (na n) q
    · intro b o q n _ _
      exact ⟨o.slots, k b o (na n) q⟩
    · intro b o q n _
      rw [upd_ne (na n), upd_ne (nd q)]
      exact n
    · intro b o q _
      by_cases hb : b = a
      · exact ⟨_, by rw [hb]; exact hx⟩
      · exact ⟨o, k b o hb q⟩
    · intro b xs q
      rw [upd_ne (at_ne e q exo_tup), upd_ne (ne_of_none q hnd)]
      exact q
    · intro b o v q
      rw [upd_ne (at_ne e q exo_frz), upd_ne (ne_of_none q hnd)]
      exact q
    · intro b ps q
      exact ⟨#[], by rw [upd_ne (at_ne e q exo_tbl), upd_ne (ne_of_none q hnd), q]; simp⟩
  refine h dx _ hnd dne (I.un (t' := tk') U fun b o q => ?_)
  by_cases hb : b = a
  · subst hb
    rw [upd_same] at q
    cases q
    exact exo_ok hx
  rw [upd_ne hb] at q
  by_cases hd : b = dx
  · subst hd
    rw [upd_same] at q
    cases q
    exact exd_ok hn (relO_put (fs := []) ry fun g => True.intro)
  rw [upd_ne hd] at q
  refine (I.hok b o q).stay (fun c v hc z => k c v ?_ z) (fun c hc => ?_) fun c xs hc => ?_
  · rcases hc with hc | hc
    · rw [hc]
      exact hb
    · exact at_ne e hc exo_own
  · rw [upd_ne (at_ne e hc exo_own), upd_ne (ne_of_none hc hnd)]
    exact hc
  · rw [upd_ne (at_ne e hc exo_tup), upd_ne (ne_of_none hc hnd)]
    exact hc
/-- a.f = y, a further field -/
theorem ostOld (T : OexG X.K C) (I : Inv X pins σ H s) (e : H a = some (exo a C (some dx))) (ed : H dx = some (exd dx fs)) (hl : fs.length ≤ 900) (hno : NoAttr X.K C f) (ry : L2.RelV y u)
    (h : ∀ s', Inv X pins σ (L2.upd H dx (exd dx ((f, y) :: fs))) s' → Q () s') : wpAny (model X.prog X.w) A (setAttr (.ref a) f u) Q E s := by
  obtain ⟨B, ni, ii, bmB, FB, SF, ini, ov⟩ := T.base
  obtain ⟨t1, ho⟩ := exo_at I.hok e
  obtain ⟨mA, hns, rel⟩ := exd_at I.hok ed
  have hw := within_of rel
  obtain ⟨hp, g, d, t, os⟩ := s
  obtain ⟨oD, _, _, hoD, _, _⟩ := hns.count hw
  refine set_plain I.kIn (ox := { cls := .ref C, dict := some dx, data := .fields #[.ref t1, .none, .none, .none, .bool false, .none] }) (od := some oD) ⟨ho, rfl, rfl, hoD⟩ T.sa ?_
  refine osaOld SF I.kIn ho hns hw (by rw [List.length_map]; omega) ov T.hd hno fun h' tk' k hn => ?_
  have hd : ∃ o, h'.get? dx = some o := by
    obtain ⟨o, _, _, e', _⟩ := hn
    exact ⟨o, e'⟩
  exact h _ (I.write (t' := tk') (x := dx) (e := dx) (o := exd dx ((f, y) :: fs)) (by rw [ed]; exact True.intro) (.inl rfl) k hd (exd_ok hn (relO_put ry rel)))
end
section
variable {X : Cx} {o e : Expr} {es : List Expr} {to te : TE} {ta tk : TA} {f m : Str} {p p' pos : Pos} {pins : List (Addr × Obj)} {σ : L2.St} {H : Hp} {s : Shared}
/-- self.f = e of an exception that is being made -/
def tOstG (K : Frag) (f : Str) (to te : TE) : TS := fun D σ H => te σ H fun y H1 => to σ H1 fun x H2 => ∃ a C : Addr, x = .ref a ∧ OexG K C ∧ NoAttr K C f ∧
  ((H2 a = some (exo a C none) ∧ ∀ dx, H2 dx = none → dx ≠ a → D.nx σ (L2.upd (L2.upd H2 dx (exd dx [(f, y)])) a (exo a C (some dx)))) ∨
    ∃ (dx : Addr) (fs : List (Str × V)), H2 a = some (exo a C (some dx)) ∧ H2 dx = some (exd dx fs) ∧ fs.length ≤ 900 ∧ D.nx σ (L2.upd H2 dx (exd dx ((f, y) :: fs))))
theorem ps_ostG (ho : PE X o to) (he : PE X e te) (hs : swapsWith e (some (.Attribute o f p')) pos.line X.env = pure false := by rfl) : PS X (.Assign [.Attribute o f p'] e pos) (tOstG X.K f to te) := by
  constructor
  intro pins s σ H D I h
  refine plainObj_wpAny_Assign_Attribute (thn (he.run pins s σ H _ I h) fun v s1 z1 => ?_) hs
  obtain ⟨y, H1, I1, r1, q1⟩ := z1
  refine thn (ho.run pins s1 σ H1 _ I1 q1) fun u s2 z2 => ?_
  obtain ⟨x, H2, I2, r2, a, C, ex, T, hno, q⟩ := z2
  subst ex
  cases (show u = Value.ref a from r2)
  rcases q with ⟨ea, q⟩ | ⟨dx, fs, ea, ed, hl, q⟩
  · exact ostNew T I2 ea hno r1 fun dx s' n ne J => ⟨σ, _, J, q dx n ne⟩
  · exact ostOld T I2 ea ed hl hno r1 fun s' J => ⟨σ, _, J, q⟩
end
/-- an own exception class by its name, with its __init__ -/
structure Exn (P : Program) (w : World) (K : Frag) (mg : Str → Option Value) (base : Heap) (x : Str) (C : Addr) (k : Nat) (ps : List Str) (sp : Sp) : Prop where
  ex : ∃ (f : Addr) (fd : FuncData), OexG K C ∧ findIn K (.ref C) "__init__" = some (some (.ref f)) ∧ isFn K (.ref f) = true ∧ FnG P w K mg base CX0 k f fd ps sp ∧ mg x = some (.ref C) ∧ Binds K fd ps []
/-- C(e, ..): the exception object, then its __init__ -/
def tMkE (C : Addr) (sp : Sp) (ta : TA) : TE := fun σ H Q => ta σ H fun vs H1 => vs.length ≤ 1000 ∧ ∀ a, H1 a = none → sp (.ref a :: vs) (L2.upd H1 a (exo a C none)) (fun v H2 => v = .non ∧ Q (.ref a) H2) E0
section
variable {X : Cx} {k : Nat} {C : Addr} {x : Str} {ps : List Str} {sp : Sp} {e : Expr} {es : List Expr} {ta : TA} {p pos : Pos}
theorem pe_mkE (D : Exn X.prog X.w X.K X.mg X.base x C k ps sp) (hr : RoomG (k + 1) X.A) (hg : Gl X x) (ha : PA X (e :: es) ta)
    (h1 : (x == ("__debug__" : Str)) = false := by decide) (h2 : starEach (e :: es) X.env = (false, eval e X.env) :: starEach es X.env := by rfl) (h3 : (backTo pos (starEach es X.env)).any (fun q => q.1) = false := by rfl) :
    PE X (.Call (.Name x p) (e :: es) [] pos) (tMkE C sp ta) := by
  obtain ⟨f, fd, T, iC, fC, F, hm, hb⟩ := D.ex
  obtain ⟨B, ni, ii, bmB, FB, SF, ini, ov⟩ := T.base
  constructor
  intro pins s σ H Q I h
  refine wpAny_Call_Name_kw (ld_glob I hg hm ?_ h1)
  refine callWith_K (h₀ := X.base) I.ok.mod.kin T.kp (thn (ha.run pos pins s σ H _ I h) fun us s1 z => ?_) h2 h3
  obtain ⟨vs, H1, I1, r1, hz, q1⟩ := z
  refine ⟨I1.kIn, ?_⟩
  show wpAny _ _ (call (.ref C) us) _ _ _
  obtain ⟨hp, g, dr, tk, os⟩ := s1
  obtain ⟨nm, N, qn, bs, bm, hdct, sn, sub, ab, col, dd, k0, k1, k2, k3, k5, hC, hT⟩ := excInit_of I1.kIn ini
  have hsz : hp.objs.size ≤ hp.objs.size + 1 := Nat.le_succ _
  have hn : H1 (hp.objs.size + 1) = none := I1.hok.fresh hsz
  have hq := q1 (hp.objs.size + 1) hn
  have kk : ∀ b o, hp.get? b = some o → ((hp.push (kdv_tup us)).push (HandSPX.excO C hp.objs.size)).get? b = some o := fun b o z => Heap.get?_push_of_some _ (Heap.get?_push_of_some _ z)
  have hget : ((hp.push (kdv_tup us)).push (HandSPX.excO C hp.objs.size)).get? (hp.objs.size + 1) = some (HandSPX.excO C hp.objs.size) := by heap_get
  have I2 : Inv X pins σ (L2.upd H1 (hp.objs.size + 1) (exo (hp.objs.size + 1) C none)) ⟨(hp.push (kdv_tup us)).push (HandSPX.excO C hp.objs.size), g, dr, tk, os⟩ := I1.laid (t' := tk) kk hsz (exo_ok hget)
  have r2 : Vals (V.ref (hp.objs.size + 1) :: vs) (Value.ref (hp.objs.size + 1) :: us) := .cons rfl r1
  have hl : (Value.ref (hp.objs.size + 1) :: us ++ []).length = ps.length := by
    have z := r2.length
    rw [F.len _ _ _ _ hq] at z
    rw [List.append_nil]
    exact z.symm
  have hus : us.length ≤ sizeLine := by
    rw [← r1.length, sizeLine_eq]
    omega
  have bd := hb _ (Value.ref (hp.objs.size + 1) :: us) I2.kIn hl
  rw [List.append_nil] at bd
  have hr2 : RoomG k (X.A.under (.builtin "type.__call__" ⟨.ref C :: us, []⟩)) := ⟨hr.r.make C us [], hr.g⟩
  refine wpAny_call (HandSPX.call_own FB hT hC (looks_findIn I1.kIn iC) (fun self => bind_fn I1.kIn self (beq_iff_eq.mp fC)) hus
    (codeAny_mono (F.go _ X.stack _ _ ⟨Value.ref (hp.objs.size + 1) :: us, []⟩ _ _ _ E0 hr2 (I2.env0.make C us []) bd r2 hq) fun r s' hq' => ?_))
  cases r with
  | error er => exact (show False from hq').elim
  | ok fl => cases fl with
    | ret u =>
      obtain ⟨v, H', I3, rv, ev, q3⟩ := I2.after hq'
      subst ev
      exact ⟨rv, V.ref (hp.objs.size + 1), H', I3, rfl, q3⟩
    | next => exact (show False from hq').elim
    | brk => exact (show False from hq').elim
    | cont => exact (show False from hq').elim
end
end My

namespace My
open PySem L2 PySem.Spec PyProof.Rows PySem.W Builtin Builtin.ObjectAttr
/-! ### an exception class called with keywords alone -/
section
variable {M : Model} {A : Around} {E : Value → Shared → Prop} {h : Heap} {g : Array GenState} {d : Drawn} {t : Nat} {os : OsState}
variable {nm q : Str} {C N : Addr} {bs bm bmB : List Value} {hdct : Bool} {sn : List Str} {sub : List Value} {ab : Bool} {col : Option Bool} {dd : Option Addr} {k0 k1 k2 k3 k5 : Option Value} {B newId initId : String} {kw : List (Str × Value)}
theorem kwCheck (FB : ExcBaseFacts B newId initId bmB) (hT : ∀ X : String, bm.contains (.type X) = bmB.contains (.type X)) {Q : Unit → Shared → Prop}
    (hC : h.get? C = some (excClassObj nm q C N bs bm hdct sn sub ab col dd k0 k1 k2 k3 k5 newId)) (hq : Q () ⟨h, g, d, t, os⟩) : wpAny M A (checkBuiltinCall newId ⟨[.ref C], kw⟩) Q E ⟨h, g, d, t, os⟩ := by
  have hB : (Value.ref C :: bm).contains (.type B) = true := by
    rw [List.contains_cons, hT, FB.hasB, Bool.or_true]
  have st := FB.noStar
  simp only [checkBuiltinCall, FB.newKind, FB.newSplit, FB.newRow]
  repeat (first | refine wpAny_loadPart_at hC ?_ | (refine wpAny_isSubtype_exc hC ?_; rw [hB]) | refine wpAny_staticBase_exc hC ?_ | refine wpAny_madeBy_exc hC ?_ | simp only [bne_self_eq_false, Bool.false_eq_true, if_false] | wp_step)
  exact hq
end
section
variable {prog : Program} {w : World} {A : Around} {E : Value → Shared → Prop} {R : Result → Shared → Prop} {h : Heap} {g : Array GenState} {d : Drawn} {t : Nat} {os : OsState}
variable {nm q : Str} {C N : Addr} {bs bm bmB : List Value} {hdct : Bool} {sn : List Str} {sub : List Value} {ab : Bool} {col : Option Bool} {dd : Option Addr} {k0 k1 k2 k3 k5 : Option Value} {B newId initId : String} {kw : List (Str × Value)}
theorem kwNew (FB : ExcBaseFacts B newId initId bmB) (hT : ∀ X : String, bm.contains (.type X) = bmB.contains (.type X)) (hC : h.get? C = some (excClassObj nm q C N bs bm hdct sn sub ab col dd k0 k1 k2 k3 k5 newId))
    (hq : R (.ok (.ret (.ref (h.objs.size + 1)))) ⟨(h.push (kdv_tup [])).push (HandSPX.excO C h.objs.size), g, d, t, os⟩) :
    codeAny (model prog w) A (.builtin newId ⟨[.ref C], kw⟩) R ⟨h, g, d, t, os⟩ := by
  have en := FB.ends
  have hB : (Value.ref C :: bm).contains (.type B) = true := by
    rw [List.contains_cons, hT, FB.hasB, Bool.or_true]
  have hA : (Value.ref C :: bm).contains (.type "AttributeError") = false := by
    rw [List.contains_cons, hT, FB.noAttr]
    rfl
  have hN : (Value.ref C :: bm).contains (.type "NameError") = false := by
    rw [List.contains_cons, hT, FB.noName]
    rfl
  refine codeAny_builtinAt FB.entry ?_
  unfold Builtin.«BaseException.__new__»
  refine PySem.wpAt_bind ?_
  show PySem.wpAt _ _ _ (stack >>= _) _ _ _
  refine PySem.wpAt_bind (PySem.wpAt_stack fun p below => PySem.wpAt_of_wpAny ?_)
  wp_walk
  refine PySem.wpAt_of_wpAny ?_
  rw [FB.owner]
  repeat (first | with_reducible refine wpAny_madeHere_exc FB.canon hC ?_ | with_reducible refine wpAny_loadPart_at hC ?_ | (with_reducible refine wpAny_isSubtype_exc hC ?_; first | rw [hB] | rw [hA] | rw [hN]) | wp_step)
  show R _ _
  rw [Heap.size_push]
  exact hq
theorem kwType (FB : ExcBaseFacts B newId initId bmB) (hT : ∀ X : String, bm.contains (.type X) = bmB.contains (.type X)) {fI : Addr} {Q : PySem.Fin → Shared → Prop}
    (hC : h.get? C = some (excClassObj nm q C N bs bm hdct sn sub ab col dd k0 k1 k2 k3 k5 newId)) (hi : Looks (model prog w) h (typeLookup (.ref C) "__init__") (some (.ref fI))) (hb : ∀ self, Looks (model prog w) h (bindSpecial (.ref fI) self) (.ref fI, [self]))
    (hq : codeAny (model prog w) A (.call (.ref fI) ⟨[.ref (h.objs.size + 1)], kw⟩) (fun r s' => match r with | .ok (.ret v) => v = .none ∧ Q (.done (.ret (.ref (h.objs.size + 1)))) s' | .ok _ => False | .error e => E e s')
      ⟨(h.push (kdv_tup [])).push (HandSPX.excO C h.objs.size), g, d, t, os⟩) :
    wpAny (model prog w) A (Builtin.«type.__call__» ⟨[.ref C], kw⟩) Q E ⟨h, g, d, t, os⟩ := by
  repeat (first | with_reducible refine wpAny_loadPart_at hC ?_ | with_reducible refine wpAny_madeBy_exc hC ?_ | wp_step)
  refine codeAny_call_builtin_code (Code.quiet_builtin _ FB.quiet) (kwCheck FB hT hC ?_)
  refine kwNew FB hT hC ?_
  show wpAny _ _ _ _ _ _
  have k : ∀ b o, h.get? b = some o → ((h.push (kdv_tup [])).push (HandSPX.excO C h.objs.size)).get? b = some o := fun b o z => Heap.get?_push_of_some _ (Heap.get?_push_of_some _ z)
  have hC1 := k _ _ hC
  have hget : ((h.push (kdv_tup [])).push (HandSPX.excO C h.objs.size)).get? (h.objs.size + 1) = some (HandSPX.excO C h.objs.size) := by heap_get
  have hcC : (Value.ref C :: bm).contains (.ref C) = true := by simp
  have i1 := hi.keeps k
  have b1 := (hb (.ref (h.objs.size + 1))).keeps k
  unfold isInstance
  repeat (first | with_reducible refine wpAny_loadPart_at hget ?_ | (with_reducible refine wpAny_isSubtype_exc hC1 ?_; rw [hcC]) | wp_step)
  show wpAny _ _ (typeLookup (.ref C) _) _ _ _
  refine i1.at (wpAny_holding (wpAny_bind (b1.at ?_)))
  refine wpAny_bind (wpAny_call (codeAny_mono hq fun r s' z => ?_))
  rcases r with e | (v | _ | _ | _) <;> first | exact z | exact z.elim | skip
  obtain ⟨rfl, z⟩ := z
  first
    | exact wpAny_pure (wpAny_pure z)
    | (wp_walk; exact z)
theorem kwTop {Q : Unit → Shared → Prop} (hC : h.get? C = some (excClassObj nm q C N bs bm hdct sn sub ab col dd k0 k1 k2 k3 k5 newId)) (hq : Q () ⟨h, g, d, t, os⟩) : wpAny (model prog w) A (checkBuiltinCall "type.__call__" ⟨[.ref C], kw⟩) Q E ⟨h, g, d, t, os⟩ := by
  have f3 := tc_sub
  have hTy : (⟨h, g, d, t, os⟩ : Shared).TypeIs (.ref C) "type" := ⟨_, hC, rfl⟩
  simp only [checkBuiltinCall, tc_kind, tc_split]
  repeat (any_goals (first | assumption | with_reducible refine wpAny_loadPart_at hC ?_ | with_reducible refine wpAny_onRaise ?_ | with_reducible refine wpAny_map ?_ | wp_step))
theorem kwCall (FB : ExcBaseFacts B newId initId bmB) (hT : ∀ X : String, bm.contains (.type X) = bmB.contains (.type X)) {fI : Addr}
    (hC : h.get? C = some (excClassObj nm q C N bs bm hdct sn sub ab col dd k0 k1 k2 k3 k5 newId)) (hi : Looks (model prog w) h (typeLookup (.ref C) "__init__") (some (.ref fI))) (hb : ∀ self, Looks (model prog w) h (bindSpecial (.ref fI) self) (.ref fI, [self]))
    (hq : codeAny (model prog w) (A.under (.builtin "type.__call__" ⟨[.ref C], kw⟩)) (.call (.ref fI) ⟨[.ref (h.objs.size + 1)], kw⟩) (InitBack (h.objs.size + 1) R) ⟨(h.push (kdv_tup [])).push (HandSPX.excO C h.objs.size), g, d, t, os⟩) :
    codeAny (model prog w) A (.call (.ref C) ⟨[], kw⟩) R ⟨h, g, d, t, os⟩ := by
  have f1 := tc_lookup
  have f2 := tc_bind (.ref C)
  have hTy : (⟨h, g, d, t, os⟩ : Shared).TypeIs (.ref C) "type" := ⟨_, hC, rfl⟩
  refine codeAny_of_tree ?_
  show wpAny _ _ (callAny (.ref C) _) _ _ _
  repeat (any_goals (first | assumption | with_reducible refine wpAny_loadPart_at hC ?_ | wp_step))
  refine ⟨rfl, codeAny_call_builtin_at (Code.quiet_builtin _ (by decide +kernel)) entry_typeCall (kwTop hC (kwType FB hT hC hi hb ?_))⟩
  refine codeAny_mono hq fun r s' z => ?_
  rcases r with e | (v | _ | _ | _) <;> exact z
end
end My

namespace My
open PySem L2 PySem.Spec PyProof.Rows PySem.W Builtin Builtin.ObjectAttr
/-! ### C(k = v, ..) of an exception class -/
structure Exk (P : Program) (w : World) (K : Frag) (mg : Str → Option Value) (base : Heap) (x : Str) (C : Addr) (k : Nat) (ks : List Str) (gV : List V → List V → List V) (sp : Sp) : Prop where
  ex : ∃ (f : Addr) (fd : FuncData) (ps : List Str) (g : List Value → List Value → List Value), OexG K C ∧ findIn K (.ref C) "__init__" = some (some (.ref f)) ∧ isFn K (.ref f) = true ∧ FnG P w K mg base CX0 k f fd ps sp ∧ mg x = some (.ref C) ∧ KBn K fd ps 1 ks g gV
def tMkEK (C : Addr) (l : Nat) (sp : Sp) (gV : List V → List V → List V) (tk : TA) : TE := fun σ H Q => tk σ H fun zs H1 => zs.length = l ∧ ∀ a, H1 a = none → sp (gV [.ref a] zs) (L2.upd H1 a (exo a C none)) (fun v H2 => v = .non ∧ Q (.ref a) H2) E0
section
variable {X : Cx} {k : Nat} {C : Addr} {x : Str} {ks : List Str} {gV : List V → List V → List V} {sp : Sp} {kws : List Keyword} {tk : TA} {p pos : Pos}
theorem pe_mkEK (D : Exk X.prog X.w X.K X.mg X.base x C k ks gV sp) (hr : RoomG (k + 1) X.A) (hg : Gl X x) (hkw : PK X kws tk)
    (h1 : (backToKw pos (keywordEach kws X.env)).all (fun q => q.1.isSome) = true := by rfl)
    (h2 : (backToKw pos (keywordEach kws X.env)).filterMap (fun q => q.1) = ks := by rfl)
    (h3 : ((backTo pos (starEach [] X.env)).any (fun q => q.1) || (backToKw pos (keywordEach kws X.env)).any (fun q => q.1.isNone)) = false := by rfl) (h4 : (x == ("__debug__" : Str)) = false := by decide) :
    PE X (.Call (.Name x p) [] kws pos) (tMkEK C ks.length sp gV tk) := by
  obtain ⟨f, fd, ps, gg, T, iC, fC, F, hm, hb⟩ := D.ex
  obtain ⟨B, ni, ii, bmB, FB, SF, ini, ov⟩ := T.base
  constructor
  intro pins s σ H Q I h
  refine wpAny_Call_Name_kw (ld_glob I hg hm ?_ h4)
  have kin := I.ok.mod.kin
  refine callWith_KW0 (first := []) kin T.kp h1 ?_ h3
  refine thn (hkw.run pos pins s σ H _ I h) fun ws s1 z => ?_
  obtain ⟨zs, H1, I1, rz, l2, q1⟩ := z
  refine ⟨I1.kIn, ?_⟩
  rw [h2]
  obtain ⟨hp, g, dr, tt, os⟩ := s1
  obtain ⟨nm, N, qn, bs, bm, hdct, sn, sub, ab, col, dd, k0, k1, k2, k3, k5, hC, hT⟩ := excInit_of I1.kIn ini
  have hsz : hp.objs.size ≤ hp.objs.size + 1 := Nat.le_succ _
  have hn : H1 (hp.objs.size + 1) = none := I1.hok.fresh hsz
  have hq := q1 (hp.objs.size + 1) hn
  have kk : ∀ b o, hp.get? b = some o → ((hp.push (kdv_tup [])).push (HandSPX.excO C hp.objs.size)).get? b = some o := fun b o z => Heap.get?_push_of_some _ (Heap.get?_push_of_some _ z)
  have hget : ((hp.push (kdv_tup [])).push (HandSPX.excO C hp.objs.size)).get? (hp.objs.size + 1) = some (HandSPX.excO C hp.objs.size) := by heap_get
  have I2 : Inv X pins σ (L2.upd H1 (hp.objs.size + 1) (exo (hp.objs.size + 1) C none)) ⟨(hp.push (kdv_tup [])).push (HandSPX.excO C hp.objs.size), g, dr, tt, os⟩ := I1.laid (t' := tt) kk hsz (exo_ok hget)
  have r1 : Vals [V.ref (hp.objs.size + 1)] [Value.ref (hp.objs.size + 1)] := .cons rfl .nil
  have hr2 : RoomG k (X.A.under (.builtin "type.__call__" ⟨[.ref C], ks.zip ws⟩)) := ⟨hr.r.make C [] (ks.zip ws), hr.g⟩
  refine wpAny_call (kwCall FB hT hC (looks_findIn I1.kIn iC) (fun self => bind_fn I1.kIn self (beq_iff_eq.mp fC))
    (codeAny_mono (F.go _ X.stack _ _ ⟨[Value.ref (hp.objs.size + 1)], ks.zip ws⟩ (gg [Value.ref (hp.objs.size + 1)] ws) _ _ E0 hr2 (I2.env0.make C [] (ks.zip ws)) (hb.to _ [Value.ref (hp.objs.size + 1)] ws I2.kIn rfl (rz.length.symm.trans l2)) (hb.rel r1 rz) hq) fun r s' hq' => ?_))
  cases r with
  | error er => exact (show False from hq').elim
  | ok fl => cases fl with
    | ret u =>
      obtain ⟨v, H', I3, rv, ev, q3⟩ := I2.after hq'
      subst ev
      exact ⟨rv, V.ref (hp.objs.size + 1), H', I3, rfl, q3⟩
    | next => exact (show False from hq').elim
    | brk => exact (show False from hq').elim
    | cont => exact (show False from hq').elim
/-- C() of an exception class without an __init__ of its own -/
theorem pe_mkE0 {bmB : List Value} {B newId initId : String} (FB : ExcBaseFacts B newId initId bmB) (q : excIn X.K C bmB newId = true) (gC : X.mg x = some (.ref C)) (kC : keepIn X.K (.ref C) = true) (hg : Gl X x) (h4 : (x == ("__debug__" : Str)) = false := by decide) :
    PE X (.Call (.Name x p) [] [] pos) (fun _ H Q => ∀ a, H a = none → Q (.ref a) (L2.upd H a (exo a C none))) := by
  constructor
  intro pins s σ H Q I h
  refine wpAny_Call_Name_kw (ld_glob I hg gC (callWith_K0 I.kIn kC ?_) h4)
  show wpAny _ _ (call (.ref C) []) _ _ _
  obtain ⟨bm, N, nm, qn, bs, hdct, sn, sub, ab, col, dd, k0, k1, k2, k3, k5, mN, hC, hN, hni, T⟩ := exc_obj I.kIn q
  refine wpAny_call_exc_subT FB T hC hN hni (fun h' a hm => ?_) (by rw [sizeLine_eq]; exact Nat.zero_le _)
  have hn : H a = none := I.hok.gone hm.new
  obtain ⟨t, ht, _, _⟩ := hm.there
  exact ⟨.ref a, L2.upd H a (exo a C none), I.laidN hm.keeps hm.new hn (exo_ok ht), rfl, h a hn⟩
end
/-! ### its fields -/
/-- o.f, o an exception object with a dict -/
def tXfO (K : Frag) (f : Str) (te : TE) : TE := fun σ H Q => te σ H fun x H1 => ∃ (a C dd : Addr) (fs : List (Str × V)) (v : V), x = .ref a ∧ XfC K C ∧ NoAttr K C f ∧ H1 a = some (exo a C (some dd)) ∧ H1 dd = some (exd dd fs) ∧ fs.lookup f = some v ∧ Q v H1
theorem pe_xfO {X : Cx} {e : Expr} {te : TE} {pos : Pos} {f : Str} (he : PE X e te) (hb : attributeBase e f X.env (eval e X.env) = eval e X.env := by rfl) : PE X (.Attribute e f pos) (tXfO X.K f te) := by
  constructor
  intro pins s σ H Q I h
  refine attr_of hb (thn (he.run pins s σ H _ I h) fun u s1 z => ?_)
  obtain ⟨x, H1, I1, rx, a, C, dd, fs, v, rfl, T, hno, ea, ed, l, q⟩ := z
  cases (show u = Value.ref a from rx)
  obtain ⟨t1, ho⟩ := exo_at I1.hok ea
  obtain ⟨mA, hns1, rel⟩ := exd_at I1.hok ed
  obtain ⟨od, hod, hl⟩ := lookIn_ns hns1
  obtain ⟨u, hu, ru⟩ := RelO.some_of (v := v) (o := mA f) (by rw [← l]; exact rel f)
  have J : InstAt s1.heap a { cls := .ref C, dict := some dd, data := .fields #[.ref t1, .none, .none, .none, .bool false, .none] } C (some od) := ⟨ho, rfl, rfl, hod⟩
  exact HandSPX.exc_get I1.kIn J T.ga T.gg T.exC (findObj_own T.hdC hno rfl (by rw [hl, hu])) (handed_of ru) ⟨v, H1, I1.tok _, ru, q⟩
/-! ### isinstance of an exception object -/
section
variable {prog : Program} {w : World} {A : Around} {E : Value → Shared → Prop} {s : Shared} {K : Frag} {x D : Addr} {ox : Obj} {od : Option Obj}
theorem exClass {Q : Option Value → Shared → Prop} (T : ExcC K D) (X : K.In s.heap) (I : InstAt s.heap x ox D od) (h : Q (some (.ref D)) { s with toks := s.toks + 1 }) : wpAny (model prog w) A (getAttr? (.ref x) "__class__") Q E s := by
  have hf : findObj K D od "__class__" = some (.bind (.builtin "getset_descriptor.__get__") (.builtin "object.__class__")) := by
    have hc : (clsIn K D).isSome = true := by
      obtain ⟨cd, hc, _⟩ := any_some T.hd
      rw [hc]
      rfl
    cases od with
    | none => exact findObj_dataN hc T.ha T.hn T.ht
    | some od => exact findObj_data hc T.ha T.hn T.ht
  obtain ⟨hp, g, d, t, os⟩ := s
  have l0 := I.type (M := model prog w)
  have l1 := looks_findIn (M := model prog w) X T.hg
  have l2 := looks_findIn (M := model prog w) X T.hk
  have l3 := looks_find (M := model prog w) X I hf
  have sub : Looks (model prog w) hp (isInstance (.ref x) (.type "BaseException")) true := l0.andThen (looks_subIn X T.hs)
  have b2 : (Value.builtin "BaseException.__getattribute__" == Value.builtin "object.__getattribute__") = false := by decide +kernel
  have b1 : (onTheHeap (Value.ref D) && Value.builtin "BaseException.__getattribute__" == Value.builtin "object.__getattribute__") = false := by
    rw [b2]
    rfl
  have b0 : (false && onTheHeap (Value.builtin "BaseException.__getattribute__")) = false := rfl
  unfold getAttr? getAttrBy? getAttrBy
  refine wpAny_bind (wpAny_mkText (wpAny_bind (wpAny_attempt (wpAny_holding (wpAny_bind (l0.at (wpAny_bind (l1.at ?_))))))))
  show wpAny _ _ (if (onTheHeap (Value.ref D) && Value.builtin "BaseException.__getattribute__" == Value.builtin "object.__getattribute__") = true then _ else _) _ _ _
  rw [b1, if_neg Bool.false_ne_true]
  unfold getAttrByItsOwn hookBefore
  refine wpAny_bind ?_
  rw [if_pos (show onTheHeap (Value.ref D) = true from rfl)]
  refine l2.at (wpAny_bind (wpAny_attempt (wpAny_holding ?_)))
  unfold callGetattribute
  rw [b0, if_neg Bool.false_ne_true]
  unfold boundAndCalled
  rw [PySem.F.excAttr_ValueError.ga.bind (.ref x)]
  refine wpAny_bind (wpAny_pure ?_)
  show wpAny _ _ (call (.builtin "BaseException.__getattribute__") [.ref x, .str "__class__" t]) _ _ _
  refine wpAny_call (codeAny_call_builtin PySem.F.excAttr_ValueError.ga.plain PySem.F.entry_bexc_ga ?_)
  refine @check_slot (model prog w) _ _ ⟨hp, g, d, t + 1, os⟩ "BaseException.__getattribute__" "BaseException" "__getattribute__" (.ref x) [.str "__class__" t] [] _ (by decide +kernel) (by decide +kernel) sub (PySem.F.args_bexc_ga (.ref x) (.str "__class__" t)) ?_
  unfold Builtin.«object.__getattribute__»
  refine wpAny_bind (wpAny_of_eq (a := ((Value.ref x : Value), [Value.str "__class__" t])) (by first | rfl | (simp only [slotArgs]; rfl)) ?_)
  refine wpAny_bind (wpAny_pure (wpAny_bind (l0.at (wpAny_bind (l3.at ?_)))))
  show wpAny _ _ (holding [Value.builtin "object.__class__"] (call (.builtin "getset_descriptor.__get__") [.builtin "object.__class__", .ref x, .ref D]) >>= ret) _ _ _
  refine wpAny_bind (wpAny_holding (wpAny_call (class_get (s := ⟨hp, g, d, t + 1, os⟩) (ox := ox) (od := od) X I T.hm ?_)))
  refine wpAny_pure ?_
  show wpAny _ _ (handedOut (.ref D)) _ _ _
  rw [handedOut_of (v := .ref D) rfl]
  first
    | exact wpAny_pure (wpAny_pure h)
    | exact wpAny_pure h
    | exact wpAny_pure (wpAny_bind (wpAny_pure (wpAny_pure h)))
theorem exKit (T : ExcC K D) : KitX K (.ref x) (.ref D) (fun h => InstAt h x ox D od) where
  ty := fun _ _ _ I => I.type
  it := fun _ _ X _ => by
    obtain ⟨cdD, hcD, _⟩ := any_some T.hd
    unfold clsIn at hcD
    split at hcD
    · rename_i c' d' cd' sl' ho
      intro A' Q' E' s' k q
      unfold isType loadHead
      exact wpAny_bind (wpAny_loadPart (k _ _ (X _ _ ho)) (wpAny_pure q))
    · cases hcD
  ne := fun h tp dd its n sl X htp => by
    obtain ⟨cdD, hcD, _⟩ := any_some T.hd
    refine Bool.eq_false_iff.mpr fun q => ?_
    have e : D = tp := Value.ref.inj (beq_iff_eq.mp q)
    subst e
    unfold clsIn at hcD
    split at hcD
    · rename_i c' d' cd' sl' ho
      cases (X _ _ ho).symm.trans htp
    · cases hcD
  ca := fun X I k => exClass T X I k
end
/-- an exception object of the class at C: with its dict or without one -/
def IsExo (H : Hp) (a C : Addr) : Prop := H a = some (exo a C none) ∨ ∃ (dd : Addr) (fs : List (Str × V)), H a = some (exo a C (some dd)) ∧ H dd = some (exd dd fs)
def rIsX (K : Frag) : List V → Hp → VK → Prop := fun xs H Q => ∃ (a C : Addr) (c : V) (u : Value) (b : Bool), xs = [.ref a, c] ∧ IsExo H a C ∧ ExcC K C ∧ ClsV c u ∧ kitOne K (.ref C) u = some b ∧ Q (.bl b) H
theorem call_isX {X : Cx} : CallR X (.builtin "isinstance") (rIsX X.K) := by
  intro pins s σ H xs us Q I r h
  obtain ⟨a, C, c, u, b, rfl, hx, T, kc, e, q⟩ := h
  obtain ⟨u1, u2, rfl, r1, r2⟩ := vals2 r
  cases (show u1 = Value.ref a from r1)
  have e2 := kc.eq r2
  subst e2
  obtain ⟨ox, od, J⟩ : ∃ ox od, InstAt s.heap a ox C od := by
    rcases hx with ea | ⟨dd, fs, ea, ed⟩
    · obtain ⟨t1, ho⟩ := exo_at I.hok ea
      exact ⟨_, none, ho, rfl, rfl, trivial⟩
    · obtain ⟨t1, ho⟩ := exo_at I.hok ea
      obtain ⟨mA, hns1, _⟩ := exd_at I.hok ed
      obtain ⟨od, hod, _⟩ := lookIn_ns hns1
      exact ⟨_, some od, ho, rfl, rfl, hod⟩
  exact kia_one (exKit T) I.kIn J e (fun z => nomatch z) fun tk => ⟨.bl b, H, I.tok tk, rfl, q⟩
end My

namespace My
open PySem L2 PySem.Spec PyProof.Rows PySem.W
/-! ### what the written part says of an exception class -/
structure ExF (K : Frag) (C : Addr) (mro : List Value) (newId : String) : Prop where
  look : ∃ (nm qn : Str) (bs sb : List Value) (ns : Addr) (sn : List Str) (ab : Bool) (co : Option Bool) (dd : Option Addr) (k0 k1 k2 k3 k5 : Option Value), K.lookup C = some ⟨.type "type", dd, .cls ⟨nm, bs, mro, ns, qn, true, sn, sb, ab, co, false⟩, #[k0, k1, k2, k3, some (.builtin newId), k5]⟩
  sa : findIn K (.ref C) "__setattr__" = some (some (.builtin "object.__setattr__"))
  kp : keepIn K (.ref C) = true
  ga : findIn K (.ref C) "__getattribute__" = some (some (.builtin "BaseException.__getattribute__"))
  gg : findIn K (.ref C) "__getattr__" = some none
  ca : findIn K (.ref C) "__class__" = some (some (.builtin "object.__class__"))
  ty : typeIn K (.ref C) = some (.type "type")
section
variable {K : Frag} {C D : Addr} {m m' : List Value} {n n' : String}
theorem ExF.cls (x : ExF K C m n) : ∃ cd, clsIn K C = some cd ∧ cd.mro = m ∧ cd.hasDict = true := by
  obtain ⟨nm, qn, bs, sb, ns, sn, ab, co, dd, k0, k1, k2, k3, k5, e⟩ := x.look
  exact ⟨_, by unfold clsIn; rw [e], rfl, rfl⟩
theorem ExF.sub (x : ExF K C m n) (h : m.isEmpty = false) (v : Value) : subIn K (.ref C) v = some (m.contains v) := by
  obtain ⟨cd, e, rfl, _⟩ := x.cls
  show mroIn K C v = _
  unfold mroIn
  rw [e, Option.bind_some, if_neg (by rw [h]; exact Bool.false_ne_true)]
theorem ExF.hd (x : ExF K C m n) : hasDictIn K C = true := by
  obtain ⟨cd, e, _, h⟩ := x.cls
  unfold hasDictIn
  rw [e]
  exact h
/-- an own class over a built-in one -/
structure Ups (C : Addr) (m bm : List Value) : Prop where
  head : ∃ r, m = .ref C :: r ∧ excTail bm r = true
  base : m.contains (.type "BaseException") = true
  obj : m.contains (.type "object") = true
theorem ups (C G : Addr) (b : String) : Ups C (.ref C :: .ref G :: .type b :: [.type "Exception", .type "BaseException", .type "object"]) (.type b :: [.type "Exception", .type "BaseException", .type "object"]) := by
  refine ⟨⟨_, rfl, ?_⟩, ?_, ?_⟩
  · show (Value.type b :: [.type "Exception", .type "BaseException", .type "object"] == _) = true
    exact beq_self_eq_true _
  · simp
  · simp
theorem ups0 (C : Addr) (b : String) : Ups C (.ref C :: .type b :: [.type "Exception", .type "BaseException", .type "object"]) (.type b :: [.type "Exception", .type "BaseException", .type "object"]) := by
  refine ⟨⟨_, rfl, ?_⟩, ?_, ?_⟩
  · show (Value.type b :: [.type "Exception", .type "BaseException", .type "object"] == _) = true
    exact beq_self_eq_true _
  · simp
  · simp
theorem Ups.ne {bm : List Value} (u : Ups C m bm) : m.isEmpty = false := by
  obtain ⟨r, rfl, _⟩ := u.head
  rfl
theorem ExF.oex {bm : List Value} {B ii : String} (x : ExF K C m n) (u : Ups C m bm) (FB : ExcBaseFacts B n ii bm) (SF : StoreFacts B bm "object.__setattr__" "object") : OexG K C := by
  obtain ⟨r, rfl, ht⟩ := u.head
  refine ⟨⟨B, n, ii, bm, FB, SF, ?_, ?_⟩, x.hd, x.sa, x.kp⟩
  · obtain ⟨nm, qn, bs, sb, ns, sn, ab, co, dd, k0, k1, k2, k3, k5, e⟩ := x.look
    unfold excInitIn
    rw [e]
    simp [ht]
  · obtain ⟨cd, e, hm, _⟩ := x.cls
    unfold excOver
    rw [e]
    show (match cd.mro with | .ref C' :: bm' => C' == C && excTail bm bm' | _ => false) = true
    rw [hm]
    simp [ht]
theorem ExF.xf {bm : List Value} (x : ExF K C m n) (u : Ups C m bm) : XfC K C := ⟨x.ga, x.gg, by rw [x.sub u.ne, u.base], x.hd⟩
theorem ExF.exc {bm : List Value} (x : ExF K C m n) (u : Ups C m bm) (h1 : specialIn K (.builtin "object.__class__") "__get__" = some (some (.builtin "getset_descriptor.__get__"))) (h2 : takesIn K (.builtin "object.__class__") = some true) : ExcC K C :=
  ⟨x.ga, x.gg, by rw [x.sub u.ne, u.base], x.hd, x.ca, h1, h2, (x.sub u.ne _).trans (by rw [u.obj])⟩
theorem ExF.kit {bm : List Value} (x : ExF K C m n) (u : Ups C m bm) (y : ExF K D m' n') : kitOne K (.ref C) (.ref D) = some (m.contains (.ref D)) := by
  unfold kitOne
  obtain ⟨r, hm, _⟩ := u.head
  by_cases h : C = D
  · subst h
    rw [if_pos (beq_self_eq_true _), hm]
    simp
  · rw [if_neg (by simpa using h)]
    unfold kitCls
    obtain ⟨cd, e, _, _⟩ := y.cls
    show (if ((clsIn K D).isSome && typeIn K (.ref D) == some (.type "type")) = true then subIn K (.ref C) (.ref D) else none) = _
    rw [e, y.ty, if_pos (by simp), x.sub u.ne]
theorem ExF.kitT {bm : List Value} {T : String} (x : ExF K C m n) (u : Ups C m bm) (h : kitMeta T = true) : kitOne K (.ref C) (.type T) = some (m.contains (.type T)) := by
  unfold kitOne
  rw [if_neg (by simp)]
  show (if kitMeta T = true then subIn K (.ref C) (.type T) else none) = _
  rw [if_pos h, x.sub u.ne]
end
end My

namespace My
open PySem L2 PySem.Spec PyProof.Rows
section
variable {X : Cx} {pins : List (Addr × Obj)} {σ : L2.St} {H : Hp} {s : Shared}
/-! ### new lists, none of them where sys.modules stands -/
def tLstN (t : TA) : TE := fun σ H Q => t σ H fun xs H1 => xs.length ≤ sizeLine ∧ ∀ p, H1 p = none → p ≠ sysModules → Q (.ref p) (L2.upd H1 p (.lst xs))
theorem pe_lstN {es : List Expr} {t : TA} {pos : Pos} (h : PA X es t) : PE X (.List es pos) (tLstN t) := by
  constructor
  intro pins s σ H Q I hq
  refine wpAny_List_spliced (thn (h.run pos pins s σ H _ I hq) fun us s1 y => ?_)
  obtain ⟨xs, H1, I1, r, z, q⟩ := y
  refine ⟨by rw [← r.length]; exact z, ?_⟩
  have hf : H1 s1.heap.objs.size = none := I1.hok.fresh (Nat.le_refl _)
  exact ⟨.ref s1.heap.objs.size, L2.upd H1 s1.heap.objs.size (.lst xs), I1.laid (t' := s1.toks) (fun b u e => Heap.get?_push_of_some _ e) (Nat.le_refl _) ⟨z, us, 0, r, Heap.get?_push_size _ rfl⟩, rfl, q _ hf (Nat.ne_of_gt I1.big)⟩
def rSlN (K : PySem.W.Frag) : V → Option Int → Option Int → Hp → VK → Prop := fun x lo hi H Q => ∃ a xs, x = .ref a ∧ SqL K H a xs ∧ ∀ p, H p = none → p ≠ sysModules → Q (.ref p) (L2.upd H p (.lst (cutV xs lo hi)))
theorem sl_listN : SlR X (rSlN X.K) := by
  intro pins s σ H x v vl vu lo hi sl Q I rx hs pl pu h
  obtain ⟨a, xs, rfl, hx, q⟩ := h
  cases (show v = Value.ref a from rx)
  obtain ⟨its, r, ht, hz⟩ := I.list hx
  have hlen := r.length
  refine ⟨"list", _, slot_list_getitem.lookup, ht.isList.typeIs, ?_⟩
  refine wpAny_getItem_list_slice ht.isList hs pl pu .none (by simp) ?_ (by rw [List.size_toArray] <;> omega)
  rw [slicePick_cut, ← hlen]
  have new : ObjOk X.prog X.w (L2.upd H s.heap.objs.size (.lst (cutV xs lo hi))) (s.heap.push { cls := .type "list", data := .seq ((its.drop (HT.sIx xs.length 0 lo)).take (HT.sIx xs.length xs.length hi - HT.sIx xs.length 0 lo)).toArray }) s.heap.objs.size (.lst (cutV xs lo hi)) :=
    ⟨Nat.le_trans (cutV_length xs lo hi) hz, _, 0, (r.drop (HT.sIx xs.length 0 lo)).take (HT.sIx xs.length xs.length hi - HT.sIx xs.length 0 lo), Heap.get?_push_size _ rfl⟩
  exact ⟨.ref s.heap.objs.size, _, I.laid (t' := s.toks) (fun b ob q => Heap.get?_push_of_some _ q) (Nat.le_refl _) new, rfl, q _ (I.hok.fresh (Nat.le_refl _)) (Nat.ne_of_gt I.big)⟩
/-! ### data with a dict of one entry in it -/
mutual
inductive Dq (H : Hp) : V → PyData → Prop
  | non : Dq H .non .none
  | bl (b : Bool) : Dq H (.bl b) (.bool b)
  | int (i : Int) : Dq H (.int i) (.int i)
  | str (x : Str) : Dq H (.str x) (.str x)
  | lst {a : Addr} {xs : List V} {ds : List PyData} (h : H a = some (.lst xs)) (n : a ≠ sysModules) (r : DqAll H xs ds) : Dq H (.ref a) (.list ds)
  | tup {a : Addr} {xs : List V} {ds : List PyData} (h : H a = some (.tup xs)) (r : DqAll H xs ds) : Dq H (.ref a) (.tuple ds)
  | dct {a : Addr} {x : Str} {i : Int} (h : H a = some (.dK [(.inr x, .int i)])) : Dq H (.ref a) (.dict [(.str x, .int i)])
inductive DqAll (H : Hp) : List V → List PyData → Prop
  | nil : DqAll H [] []
  | cons {x : V} {xs : List V} {d : PyData} {ds : List PyData} (h : Dq H x d) (r : DqAll H xs ds) : DqAll H (x :: xs) (d :: ds)
end
mutual
theorem Dq.same {H H' : Hp} (s : Same H H') : ∀ {v : V} {d : PyData}, Dq H v d → Dq H' v d
  | _, _, .non => .non
  | _, _, .bl b => .bl b
  | _, _, .int i => .int i
  | _, _, .str x => .str x
  | _, _, .lst h n r => .lst (s _ _ h) n (DqAll.same s r)
  | _, _, .tup h r => .tup (s _ _ h) (DqAll.same s r)
  | _, _, .dct h => .dct (s _ _ h)
theorem DqAll.same {H H' : Hp} (s : Same H H') : ∀ {vs : List V} {ds : List PyData}, DqAll H vs ds → DqAll H' vs ds
  | _, _, .nil => .nil
  | _, _, .cons h r => .cons (Dq.same s h) (DqAll.same s r)
end
theorem dctReads {a : Addr} {x : Str} {i : Int} (I : Inv X pins σ H s) (h : H a = some (.dK [(.inr x, .int i)])) : ∃ as, Reads s.heap (.ref a) (.dict [(.str x, .int i)]) as ∧ sysModules ∉ as := by
  obtain ⟨_, hd, vs, kv, o, es, ep, ho, hx, hdt, hk, hp, _⟩ := dk_of I.hok h
  have na : a ≠ sysModules := by simpa using hd
  cases kv with
  | @cons _ p _ ps hkv rest =>
    cases rest
    obtain ⟨k', u⟩ := p
    obtain ⟨ek, ru⟩ := hkv
    obtain ⟨t, rfl⟩ := (show ∃ t, u = Value.int i t from ru)
    dsimp only at ek
    subst ek
    cases he : es.toList with
    | nil =>
      rw [he] at hp
      cases hp
    | cons e1 er =>
      rw [he] at hp
      cases hp with
      | cons h1 h2 h3 =>
        cases h3
        obtain ⟨t2, hk2⟩ : ∃ t2, e1.key = .str x t2 := by
          have h1' : keyIs (Sum.inr x) e1.key = true := h1
          rcases keyIs_shape h1' with ⟨j, t2, z, _⟩ | ⟨y, t2, z, q⟩
          · cases z
          · cases z
            exact ⟨t2, q⟩
        have h2' : e1.val = Value.int i t := h2
        refine ⟨_, Reads.dict ho hx.1 hdt (kvs := [(.str x, .int i)]) (by rw [he]; simp only [List.map_cons, List.map_nil]; rw [hk2]; exact ReadsAll.cons (Reads.str x t2) ReadsAll.nil) (by rw [he]; simp only [List.map_cons, List.map_nil]; rw [h2']; exact ReadsAll.cons (Reads.int i t) ReadsAll.nil), ?_⟩
        simp
        exact na.symm
mutual
theorem Dq.reads (I : Inv X pins σ H s) : ∀ (d : PyData) (v : V) (u : Value), Dq H v d → L2.RelV v u → ∃ as, Reads s.heap u d as ∧ sysModules ∉ as
  | .none, _, _, h, r => by
    cases h
    cases r
    exact ⟨_, Reads.none, by simp⟩
  | .bool b, _, _, h, r => by
    cases h
    cases r
    exact ⟨_, Reads.bool b, by simp⟩
  | .int i, _, _, h, r => by
    cases h
    obtain ⟨t, rfl⟩ := r
    exact ⟨_, Reads.int i t, by simp⟩
  | .str x, _, _, h, r => by
    cases h
    obtain ⟨t, rfl⟩ := r
    exact ⟨_, Reads.str x t, by simp⟩
  | .list ds, _, _, h, r => by
    cases h with
    | lst hs n ha =>
      cases r
      obtain ⟨_, its, m, rv, ho⟩ := I.hok _ _ hs
      obtain ⟨as, hr, hn⟩ := DqAll.reads I ds _ its ha rv
      exact ⟨_, Reads.list ho rfl rfl hr, by
        rw [List.mem_cons, not_or]
        exact ⟨n.symm, hn⟩⟩
  | .tuple ds, _, _, h, r => by
    cases h with
    | tup hs ha =>
      cases r
      obtain ⟨_, its, rv, o, ho, hc, m, hd⟩ := I.hok _ _ hs
      obtain ⟨as, hr, hn⟩ := DqAll.reads I ds _ its ha rv
      exact ⟨_, Reads.tuple ho hc hd hr, hn⟩
  | .dict kvs, _, _, h, r => by
    cases h with
    | dct hs =>
      cases r
      exact dctReads I hs
theorem DqAll.reads (I : Inv X pins σ H s) : ∀ (ds : List PyData) (vs : List V) (us : List Value), DqAll H vs ds → Vals vs us → ∃ as, ReadsAll s.heap us ds as ∧ sysModules ∉ as
  | [], _, _, h, r => by
    cases h
    cases r
    exact ⟨_, ReadsAll.nil, by simp⟩
  | d :: ds, _, _, h, r => by
    cases h with
    | cons h1 h2 =>
      cases r with
      | cons r1 r2 =>
        obtain ⟨as, q1, n1⟩ := Dq.reads I d _ _ h1 r1
        obtain ⟨bs, q2, n2⟩ := DqAll.reads I ds _ _ h2 r2
        exact ⟨_, ReadsAll.cons q1 q2, by
          rw [List.mem_append, not_or]
          exact ⟨n1, n2⟩⟩
end
end
section
variable {X : Cx} {k : Nat}
theorem call_reprQ (hr : RoomG k X.A) : CallR X (.builtin "repr") (fun xs H Q => ∃ y d, xs = [y] ∧ Dq H y d ∧ d.depth ≤ 64 ∧ d.showable = true ∧ d.shown.length ≤ sizeLine ∧ Q (.str d.shown) H) := by
  intro pins s σ H xs us Q I r h
  obtain ⟨y, d, rfl, hd, hdp, hw, hz, q⟩ := h
  obtain ⟨u, rfl, ru⟩ := vals1 r
  obtain ⟨as, rd, nm⟩ := Dq.reads I d y u hd ru
  have hA : X.A.units + (d.depth + 1) < cLine := by
    have := hr.r.un
    omega
  have fin : ∀ {t : Tok} {s' : Shared}, Inv X pins σ H s' → EP X pins σ Q (.str d.shown t) s' := fun J => ⟨.str d.shown, H, J, ⟨_, rfl⟩, q⟩
  cases rd with
  | none => exact PySem.P.repr_of_none (fin (I.tok _))
  | bool b => exact PySem.P.repr_of_bool (fin (I.tok _))
  | int i t => exact PySem.P.repr_of_int (of_decide_eq_true hw) (fin (I.tok _))
  | str z t => exact PySem.P.repr_of_str (fin (I.tok _)) hz
  | list h1 h2 h3 h4 => exact PySem.repr_of_reads' (.list h1 h2 h3 h4) hw (fun _ => nm) hr.g hA (fun _ _ e => e) (fun h' t tk hk => fin (I.kept hk)) hz
  | tuple h1 h2 h3 h4 => exact PySem.repr_of_reads' (.tuple h1 h2 h3 h4) hw (fun _ => nm) hr.g hA (fun _ _ e => e) (fun h' t tk hk => fin (I.kept hk)) hz
  | dict h1 h2 h3 h4 h5 => exact PySem.repr_of_reads' (.dict h1 h2 h3 h4 h5) hw (fun _ => nm) hr.g hA (fun _ _ e => e) (fun h' t tk hk => fin (I.kept hk)) hz
end
section
variable {σ : L2.St} {H : Hp} {D : Ends} {Q : VK} {K : PySem.W.Frag} {C : Addr} {sp : Sp} {f : Str} {l : Nat} {gV : List V → List V → List V} {to te : TE} {ta tk : TA}
theorem s_ostG (h : te σ H fun y H1 => to σ H1 fun x H2 => ∃ a C : Addr, x = .ref a ∧ OexG K C ∧ NoAttr K C f ∧
  ((H2 a = some (exo a C none) ∧ ∀ dx, H2 dx = none → dx ≠ a → D.nx σ (L2.upd (L2.upd H2 dx (exd dx [(f, y)])) a (exo a C (some dx)))) ∨
    ∃ (dx : Addr) (fs : List (Str × V)), H2 a = some (exo a C (some dx)) ∧ H2 dx = some (exd dx fs) ∧ fs.length ≤ 900 ∧ D.nx σ (L2.upd H2 dx (exd dx ((f, y) :: fs))))) : tOstG K f to te D σ H := h
theorem s_mkE (h : ta σ H fun vs H1 => vs.length ≤ 1000 ∧ ∀ a, H1 a = none → sp (.ref a :: vs) (L2.upd H1 a (exo a C none)) (fun v H2 => v = .non ∧ Q (.ref a) H2) E0) : tMkE C sp ta σ H Q := h
theorem s_mkEK (h : tk σ H fun zs H1 => zs.length = l ∧ ∀ a, H1 a = none → sp (gV [.ref a] zs) (L2.upd H1 a (exo a C none)) (fun v H2 => v = .non ∧ Q (.ref a) H2) E0) : tMkEK C l sp gV tk σ H Q := h
theorem s_xf (h : te σ H fun x H1 => ∃ (a C dd : Addr) (fs : List (Str × V)) (v : V), x = .ref a ∧ XfC K C ∧ NoAttr K C f ∧ H1 a = some (exo a C (some dd)) ∧ H1 dd = some (exd dd fs) ∧ fs.lookup f = some v ∧ Q v H1) : tXfO K f te σ H Q := h
theorem s_lstN (h : ta σ H fun xs H1 => xs.length ≤ sizeLine ∧ ∀ p, H1 p = none → p ≠ sysModules → Q (.ref p) (L2.upd H1 p (.lst xs))) : tLstN ta σ H Q := h
end
end My

namespace My
open PySem L2 PySem.Spec PyProof.Rows PySem.W
/-! ### an end by one run of the top -/
theorem walkGE {l : OpenLaw} {n k : Nat} {q : Program} {loose : List Str} {XP : (Str → Option Value) → Heap → Prop} {YP : World → Heap → Prop} {d : DefRec} {x : Str} (hn : l.most = some n) (hn2 : n ≤ sizeLine) (hdf : d.params.defaults = []) (hr : RoomG k callerA)
    (F : ∀ (w : World) (mg : Str → Option Value) (fa : Addr) (h : Heap), YP w h → h.Ns mainGlobals mg → mg d.name = some (.ref fa) → ∃ (K : Frag) (fd : FuncData) (sp : Sp), K.In h ∧ (∀ (s : Shared) (u : Value), BindsTo s fd ⟨[u], []⟩ [(x, u)]) ∧
      (∀ (H : Hp) (a : Addr) (ns : List Int), ns.length ≤ n → Only H → SqL K H a (ns.map V.int) → sp [.ref a] H (fun v _ => v = .bl true) E0) ∧ ∀ base : Heap, K.In base → base.Ns mainGlobals mg → FnG l.prog w K mg base CX0 k fa fd [x] sp) :
    WalkO q loose XP YP l.row.toRowW d [] (fun f vs => PySem.call f vs) := by
  refine Att.attach_call hn hdf ?_
  intro w s₀ s₁ mg mb fa o pm cd doc a vs ns G Y ho hd hcd hmg hobj hints hlen hg
  obtain ⟨K, fd, sp, KX, hb, hsp, hF⟩ := F w mg fa _ Y G.T.g hmg
  exact lawG KX G.T.g G.T.b G.T.builtins G.T.nolimit hg hobj hints (Nat.le_trans hlen hn2) hr hF hb fun H h1 h2 => hsp H a ns hlen h1 h2
/-! ### the facts of an exception class as one test -/
theorem exfB_ok {K : Frag} {C : Addr} {mro : List Value} {newId : String} (h : exfB K C mro newId = true) : ∃ (nm qn : Str) (bs sb : List Value) (ns : Addr) (sn : List Str) (ab : Bool) (co : Option Bool) (dd : Option Addr) (k0 k1 k2 k3 k5 : Option Value),
    K.lookup C = some ⟨.type "type", dd, .cls ⟨nm, bs, mro, ns, qn, true, sn, sb, ab, co, false⟩, #[k0, k1, k2, k3, some (.builtin newId), k5]⟩ := by
  unfold exfB at h
  split at h
  · rename_i c dd cd sl e
    simp only [Bool.and_eq_true, decide_eq_true_eq, Bool.not_eq_true'] at h
    obtain ⟨h1, h2, h3, h4, h5, h6⟩ := h
    obtain ⟨nm, bs, mr, ns, qn, hd, sn, sb, ab, co, hl⟩ := cd
    obtain ⟨l⟩ := sl
    dsimp only at h1 h2 h3 h4 h5 h6
    subst h1
    subst h2
    subst h3
    subst h4
    match l, h5, h6 with
    | [a0, a1, a2, a3, a4, a5], _, h6 =>
      have e4 : a4 = some (.builtin newId) := Option.some.inj h6
      subst e4
      exact ⟨nm, qn, bs, sb, ns, sn, ab, co, dd, a0, a1, a2, a3, a5, e⟩
  · cases h
theorem excB_ok {K : Frag} {C : Addr} {mro : List Value} {newId : String} (h : excB K C mro newId = true) : ExF K C mro newId := by
  unfold excB eqO at h
  simp only [Bool.and_eq_true, decide_eq_true_eq] at h
  obtain ⟨h1, h2, h3, h4, h5, h6, h7⟩ := h
  exact ⟨exfB_ok h1, h2, h3, h4, h5, h6, h7⟩
theorem iniB_ok {K : Frag} {C : Addr} (h : iniB K C = true) : findIn K (.ref C) "__init__" = some (some (.ref (He.ma K C "__init__"))) ∧ isFn K (.ref (He.ma K C "__init__")) = true := by
  unfold iniB eqO at h
  simp only [Bool.and_eq_true, decide_eq_true_eq] at h
  exact h
/-- tests one behind the other, each found again by its place -/
theorem all_at {ts : List Bool} (h : (ts.all id) = true) (i : Nat) {b : Bool} (e : ts[i]? = some b) : b = true := by
  exact List.all_eq_true.mp h b (List.mem_of_getElem? e)
end My

section

namespace My
open PySem L2
structure Md (K : PySem.W.Frag) (mg : Str → Option Value) (C_InvalidName C_InvalidCount C_InvalidNumber C_InvalidMany C_InvalidRatio C_InvalidKinds C_InvalidLink C_InvalidEnd C_InvalidModel C_InvalidTotal C_InvalidPair C_InvalidRow C_InvalidPairs C_InvalidDatabase C_InvalidWay C_InvalidSizes C_InvalidTold C_InvalidText C_InvalidClaim C_InvalidCommand C_EmptyBy C_UnknownKind C_UnknownLink C_UnknownRow C_UnknownThing C_Apart C_Taken C_Empty C_NotLet C_Lacking C_NothingToUndo C_CommandFailed C_TooMany C_EachError C_MissingError C_StateError C_LimitError : Addr) : Prop where
  b_isinstance : mg "isinstance" = none
  b_int : mg "int" = none
  b_min : mg "min" = none
  b_max : mg "max" = none
  b_abs : mg "abs" = none
  b_divmod : mg "divmod" = none
  b_len : mg "len" = none
  b_range : mg "range" = none
  b_all : mg "all" = none
  b_repr : mg "repr" = none
  b_enumerate : mg "enumerate" = none
  b_ValueError : mg "ValueError" = none
  b_LookupError : mg "LookupError" = none
  b_RuntimeError : mg "RuntimeError" = none
  b_ArithmeticError : mg "ArithmeticError" = none
  b_KeyError : mg "KeyError" = none
  b_IndexError : mg "IndexError" = none
  f__law_rng : ∃ (f : Addr) (fd : FuncData), FunD K "_law_rng" "_law_rng" (defArgs st__law_rng) (defBody st__law_rng) (defScope st__law_rng) [] [] f fd ∧ mg "_law_rng" = some (.ref f)
  f__law_draw : ∃ (f : Addr) (fd : FuncData), FunD K "_law_draw" "_law_draw" (defArgs st__law_draw) (defBody st__law_draw) (defScope st__law_draw) [] [] f fd ∧ mg "_law_draw" = some (.ref f)
  f__law_choice : ∃ (f : Addr) (fd : FuncData), FunD K "_law_choice" "_law_choice" (defArgs st__law_choice) (defBody st__law_choice) (defScope st__law_choice) [] [] f fd ∧ mg "_law_choice" = some (.ref f)
  f__law_first : ∃ (f : Addr) (fd : FuncData), FunD K "_law_first" "_law_first" (defArgs st__law_first) (defBody st__law_first) (defScope st__law_first) [] [] f fd ∧ mg "_law_first" = some (.ref f)
  f__law_second : ∃ (f : Addr) (fd : FuncData), FunD K "_law_second" "_law_second" (defArgs st__law_second) (defBody st__law_second) (defScope st__law_second) [] [] f fd ∧ mg "_law_second" = some (.ref f)
  f__law_third : ∃ (f : Addr) (fd : FuncData), FunD K "_law_third" "_law_third" (defArgs st__law_third) (defBody st__law_third) (defScope st__law_third) [] [] f fd ∧ mg "_law_third" = some (.ref f)
  f__law_first_named : ∃ (f : Addr) (fd : FuncData), FunD K "_law_first_named" "_law_first_named" (defArgs st__law_first_named) (defBody st__law_first_named) (defScope st__law_first_named) [] [] f fd ∧ mg "_law_first_named" = some (.ref f)
  f__law_second_named : ∃ (f : Addr) (fd : FuncData), FunD K "_law_second_named" "_law_second_named" (defArgs st__law_second_named) (defBody st__law_second_named) (defScope st__law_second_named) [] [] f fd ∧ mg "_law_second_named" = some (.ref f)
  f__law_third_named : ∃ (f : Addr) (fd : FuncData), FunD K "_law_third_named" "_law_third_named" (defArgs st__law_third_named) (defBody st__law_third_named) (defScope st__law_third_named) [] [] f fd ∧ mg "_law_third_named" = some (.ref f)
  f__law_made : ∃ (f : Addr) (fd : FuncData), FunD K "_law_made" "_law_made" (defArgs st__law_made) (defBody st__law_made) (defScope st__law_made) [] [] f fd ∧ mg "_law_made" = some (.ref f)
  f__law_named : ∃ (f : Addr) (fd : FuncData), FunD K "_law_named" "_law_named" (defArgs st__law_named) (defBody st__law_named) (defScope st__law_named) [] [] f fd ∧ mg "_law_named" = some (.ref f)
  f__law_flags : ∃ (f : Addr) (fd : FuncData), FunD K "_law_flags" "_law_flags" (defArgs st__law_flags) (defBody st__law_flags) (defScope st__law_flags) [] [] f fd ∧ mg "_law_flags" = some (.ref f)
  f__law_bases : ∃ (f : Addr) (fd : FuncData), FunD K "_law_bases" "_law_bases" (defArgs st__law_bases) (defBody st__law_bases) (defScope st__law_bases) [] [] f fd ∧ mg "_law_bases" = some (.ref f)
  f__law_kept : ∃ (f : Addr) (fd : FuncData), FunD K "_law_kept" "_law_kept" (defArgs st__law_kept) (defBody st__law_kept) (defScope st__law_kept) [] [] f fd ∧ mg "_law_kept" = some (.ref f)
  f__law_last_kept : ∃ (f : Addr) (fd : FuncData), FunD K "_law_last_kept" "_law_last_kept" (defArgs st__law_last_kept) (defBody st__law_last_kept) (defScope st__law_last_kept) [] [] f fd ∧ mg "_law_last_kept" = some (.ref f)
  f__law_one_right : ∃ (f : Addr) (fd : FuncData), FunD K "_law_one_right" "_law_one_right" (defArgs st__law_one_right) (defBody st__law_one_right) (defScope st__law_one_right) [] [] f fd ∧ mg "_law_one_right" = some (.ref f)
  f__law_grounds_right : ∃ (f : Addr) (fd : FuncData), FunD K "_law_grounds_right" "_law_grounds_right" (defArgs st__law_grounds_right) (defBody st__law_grounds_right) (defScope st__law_grounds_right) [] [] f fd ∧ mg "_law_grounds_right" = some (.ref f)
  nd_exc : [C_InvalidName, C_InvalidCount, C_InvalidNumber, C_InvalidMany, C_InvalidRatio, C_InvalidKinds, C_InvalidLink, C_InvalidEnd, C_InvalidModel, C_InvalidTotal, C_InvalidPair, C_InvalidRow, C_InvalidPairs, C_InvalidDatabase, C_InvalidWay, C_InvalidSizes, C_InvalidTold, C_InvalidText, C_InvalidClaim, C_InvalidCommand, C_EmptyBy, C_UnknownKind, C_UnknownLink, C_UnknownRow, C_UnknownThing, C_Apart, C_Taken, C_Empty, C_NotLet, C_Lacking, C_NothingToUndo, C_CommandFailed, C_TooMany, C_EachError, C_MissingError, C_StateError, C_LimitError].Nodup
  hn_exc : PySem.W.specialIn K (.builtin "object.__class__") "__get__" = some (some (.builtin "getset_descriptor.__get__"))
  ht_exc : PySem.W.takesIn K (.builtin "object.__class__") = some true
  m_InvalidName : mg "InvalidName" = some (.ref C_InvalidName)
  x_InvalidName : ExF K C_InvalidName [.ref C_InvalidName, .ref C_EachError, .type "ValueError", .type "Exception", .type "BaseException", .type "object"] "ValueError.__new__"
  i_InvalidName : ∃ (f : Addr) (fd : FuncData), PySem.W.findIn K (.ref C_InvalidName) "__init__" = some (some (.ref f)) ∧ PySem.W.isFn K (.ref f) = true ∧ FunD K "__init__" "InvalidName.__init__" (defArgs st_InvalidName___init__) (defBody st_InvalidName___init__) (defScope st_InvalidName___init__) [] [] f fd
  n_InvalidName_value : NoAttr K C_InvalidName "value"
  m_InvalidCount : mg "InvalidCount" = some (.ref C_InvalidCount)
  x_InvalidCount : ExF K C_InvalidCount [.ref C_InvalidCount, .ref C_EachError, .type "ValueError", .type "Exception", .type "BaseException", .type "object"] "ValueError.__new__"
  i_InvalidCount : ∃ (f : Addr) (fd : FuncData), PySem.W.findIn K (.ref C_InvalidCount) "__init__" = some (some (.ref f)) ∧ PySem.W.isFn K (.ref f) = true ∧ FunD K "__init__" "InvalidCount.__init__" (defArgs st_InvalidCount___init__) (defBody st_InvalidCount___init__) (defScope st_InvalidCount___init__) [] [] f fd
  n_InvalidCount_value : NoAttr K C_InvalidCount "value"
  m_InvalidNumber : mg "InvalidNumber" = some (.ref C_InvalidNumber)
  x_InvalidNumber : ExF K C_InvalidNumber [.ref C_InvalidNumber, .ref C_EachError, .type "ValueError", .type "Exception", .type "BaseException", .type "object"] "ValueError.__new__"
  i_InvalidNumber : ∃ (f : Addr) (fd : FuncData), PySem.W.findIn K (.ref C_InvalidNumber) "__init__" = some (some (.ref f)) ∧ PySem.W.isFn K (.ref f) = true ∧ FunD K "__init__" "InvalidNumber.__init__" (defArgs st_InvalidNumber___init__) (defBody st_InvalidNumber___init__) (defScope st_InvalidNumber___init__) [] [] f fd
  n_InvalidNumber_value : NoAttr K C_InvalidNumber "value"
  m_InvalidMany : mg "InvalidMany" = some (.ref C_InvalidMany)
  x_InvalidMany : ExF K C_InvalidMany [.ref C_InvalidMany, .ref C_EachError, .type "ValueError", .type "Exception", .type "BaseException", .type "object"] "ValueError.__new__"
  i_InvalidMany : ∃ (f : Addr) (fd : FuncData), PySem.W.findIn K (.ref C_InvalidMany) "__init__" = some (some (.ref f)) ∧ PySem.W.isFn K (.ref f) = true ∧ FunD K "__init__" "InvalidMany.__init__" (defArgs st_InvalidMany___init__) (defBody st_InvalidMany___init__) (defScope st_InvalidMany___init__) [] [] f fd
  n_InvalidMany_value : NoAttr K C_InvalidMany "value"
  m_InvalidRatio : mg "InvalidRatio" = some (.ref C_InvalidRatio)
  x_InvalidRatio : ExF K C_InvalidRatio [.ref C_InvalidRatio, .ref C_EachError, .type "ValueError", .type "Exception", .type "BaseException", .type "object"] "ValueError.__new__"
  i_InvalidRatio : ∃ (f : Addr) (fd : FuncData), PySem.W.findIn K (.ref C_InvalidRatio) "__init__" = some (some (.ref f)) ∧ PySem.W.isFn K (.ref f) = true ∧ FunD K "__init__" "InvalidRatio.__init__" (defArgs st_InvalidRatio___init__) (defBody st_InvalidRatio___init__) (defScope st_InvalidRatio___init__) [] [] f fd
  n_InvalidRatio_value : NoAttr K C_InvalidRatio "value"
  m_InvalidKinds : mg "InvalidKinds" = some (.ref C_InvalidKinds)
  x_InvalidKinds : ExF K C_InvalidKinds [.ref C_InvalidKinds, .ref C_EachError, .type "ValueError", .type "Exception", .type "BaseException", .type "object"] "ValueError.__new__"
  i_InvalidKinds : ∃ (f : Addr) (fd : FuncData), PySem.W.findIn K (.ref C_InvalidKinds) "__init__" = some (some (.ref f)) ∧ PySem.W.isFn K (.ref f) = true ∧ FunD K "__init__" "InvalidKinds.__init__" (defArgs st_InvalidKinds___init__) (defBody st_InvalidKinds___init__) (defScope st_InvalidKinds___init__) [] [] f fd
  n_InvalidKinds_position : NoAttr K C_InvalidKinds "position"
  m_InvalidLink : mg "InvalidLink" = some (.ref C_InvalidLink)
  x_InvalidLink : ExF K C_InvalidLink [.ref C_InvalidLink, .ref C_EachError, .type "ValueError", .type "Exception", .type "BaseException", .type "object"] "ValueError.__new__"
  i_InvalidLink : ∃ (f : Addr) (fd : FuncData), PySem.W.findIn K (.ref C_InvalidLink) "__init__" = some (some (.ref f)) ∧ PySem.W.isFn K (.ref f) = true ∧ FunD K "__init__" "InvalidLink.__init__" (defArgs st_InvalidLink___init__) (defBody st_InvalidLink___init__) (defScope st_InvalidLink___init__) [] [] f fd
  n_InvalidLink_value : NoAttr K C_InvalidLink "value"
  m_InvalidEnd : mg "InvalidEnd" = some (.ref C_InvalidEnd)
  x_InvalidEnd : ExF K C_InvalidEnd [.ref C_InvalidEnd, .ref C_EachError, .type "ValueError", .type "Exception", .type "BaseException", .type "object"] "ValueError.__new__"
  i_InvalidEnd : ∃ (f : Addr) (fd : FuncData), PySem.W.findIn K (.ref C_InvalidEnd) "__init__" = some (some (.ref f)) ∧ PySem.W.isFn K (.ref f) = true ∧ FunD K "__init__" "InvalidEnd.__init__" (defArgs st_InvalidEnd___init__) (defBody st_InvalidEnd___init__) (defScope st_InvalidEnd___init__) [] [] f fd
  n_InvalidEnd_value : NoAttr K C_InvalidEnd "value"
  m_InvalidModel : mg "InvalidModel" = some (.ref C_InvalidModel)
  x_InvalidModel : ExF K C_InvalidModel [.ref C_InvalidModel, .ref C_EachError, .type "ValueError", .type "Exception", .type "BaseException", .type "object"] "ValueError.__new__"
  i_InvalidModel : ∃ (f : Addr) (fd : FuncData), PySem.W.findIn K (.ref C_InvalidModel) "__init__" = some (some (.ref f)) ∧ PySem.W.isFn K (.ref f) = true ∧ FunD K "__init__" "InvalidModel.__init__" (defArgs st_InvalidModel___init__) (defBody st_InvalidModel___init__) (defScope st_InvalidModel___init__) [] [] f fd
  n_InvalidModel_value : NoAttr K C_InvalidModel "value"
  m_InvalidTotal : mg "InvalidTotal" = some (.ref C_InvalidTotal)
  x_InvalidTotal : ExF K C_InvalidTotal [.ref C_InvalidTotal, .ref C_EachError, .type "ValueError", .type "Exception", .type "BaseException", .type "object"] "ValueError.__new__"
  i_InvalidTotal : ∃ (f : Addr) (fd : FuncData), PySem.W.findIn K (.ref C_InvalidTotal) "__init__" = some (some (.ref f)) ∧ PySem.W.isFn K (.ref f) = true ∧ FunD K "__init__" "InvalidTotal.__init__" (defArgs st_InvalidTotal___init__) (defBody st_InvalidTotal___init__) (defScope st_InvalidTotal___init__) [] [] f fd
  n_InvalidTotal_value : NoAttr K C_InvalidTotal "value"
  m_InvalidPair : mg "InvalidPair" = some (.ref C_InvalidPair)
  x_InvalidPair : ExF K C_InvalidPair [.ref C_InvalidPair, .ref C_EachError, .type "ValueError", .type "Exception", .type "BaseException", .type "object"] "ValueError.__new__"
  i_InvalidPair : ∃ (f : Addr) (fd : FuncData), PySem.W.findIn K (.ref C_InvalidPair) "__init__" = some (some (.ref f)) ∧ PySem.W.isFn K (.ref f) = true ∧ FunD K "__init__" "InvalidPair.__init__" (defArgs st_InvalidPair___init__) (defBody st_InvalidPair___init__) (defScope st_InvalidPair___init__) [] [] f fd
  n_InvalidPair_value : NoAttr K C_InvalidPair "value"
  m_InvalidRow : mg "InvalidRow" = some (.ref C_InvalidRow)
  x_InvalidRow : ExF K C_InvalidRow [.ref C_InvalidRow, .ref C_EachError, .type "ValueError", .type "Exception", .type "BaseException", .type "object"] "ValueError.__new__"
  i_InvalidRow : ∃ (f : Addr) (fd : FuncData), PySem.W.findIn K (.ref C_InvalidRow) "__init__" = some (some (.ref f)) ∧ PySem.W.isFn K (.ref f) = true ∧ FunD K "__init__" "InvalidRow.__init__" (defArgs st_InvalidRow___init__) (defBody st_InvalidRow___init__) (defScope st_InvalidRow___init__) [] [] f fd
  n_InvalidRow_value : NoAttr K C_InvalidRow "value"
  m_InvalidPairs : mg "InvalidPairs" = some (.ref C_InvalidPairs)
  x_InvalidPairs : ExF K C_InvalidPairs [.ref C_InvalidPairs, .ref C_EachError, .type "ValueError", .type "Exception", .type "BaseException", .type "object"] "ValueError.__new__"
  i_InvalidPairs : ∃ (f : Addr) (fd : FuncData), PySem.W.findIn K (.ref C_InvalidPairs) "__init__" = some (some (.ref f)) ∧ PySem.W.isFn K (.ref f) = true ∧ FunD K "__init__" "InvalidPairs.__init__" (defArgs st_InvalidPairs___init__) (defBody st_InvalidPairs___init__) (defScope st_InvalidPairs___init__) [] [] f fd
  n_InvalidPairs_link : NoAttr K C_InvalidPairs "link"
  n_InvalidPairs_position : NoAttr K C_InvalidPairs "position"
  m_InvalidDatabase : mg "InvalidDatabase" = some (.ref C_InvalidDatabase)
  x_InvalidDatabase : ExF K C_InvalidDatabase [.ref C_InvalidDatabase, .ref C_EachError, .type "ValueError", .type "Exception", .type "BaseException", .type "object"] "ValueError.__new__"
  i_InvalidDatabase : ∃ (f : Addr) (fd : FuncData), PySem.W.findIn K (.ref C_InvalidDatabase) "__init__" = some (some (.ref f)) ∧ PySem.W.isFn K (.ref f) = true ∧ FunD K "__init__" "InvalidDatabase.__init__" (defArgs st_InvalidDatabase___init__) (defBody st_InvalidDatabase___init__) (defScope st_InvalidDatabase___init__) [] [] f fd
  n_InvalidDatabase_value : NoAttr K C_InvalidDatabase "value"
  m_InvalidWay : mg "InvalidWay" = some (.ref C_InvalidWay)
  x_InvalidWay : ExF K C_InvalidWay [.ref C_InvalidWay, .ref C_EachError, .type "ValueError", .type "Exception", .type "BaseException", .type "object"] "ValueError.__new__"
  i_InvalidWay : ∃ (f : Addr) (fd : FuncData), PySem.W.findIn K (.ref C_InvalidWay) "__init__" = some (some (.ref f)) ∧ PySem.W.isFn K (.ref f) = true ∧ FunD K "__init__" "InvalidWay.__init__" (defArgs st_InvalidWay___init__) (defBody st_InvalidWay___init__) (defScope st_InvalidWay___init__) [] [] f fd
  n_InvalidWay_value : NoAttr K C_InvalidWay "value"
  m_InvalidSizes : mg "InvalidSizes" = some (.ref C_InvalidSizes)
  x_InvalidSizes : ExF K C_InvalidSizes [.ref C_InvalidSizes, .ref C_EachError, .type "ValueError", .type "Exception", .type "BaseException", .type "object"] "ValueError.__new__"
  i_InvalidSizes : ∃ (f : Addr) (fd : FuncData), PySem.W.findIn K (.ref C_InvalidSizes) "__init__" = some (some (.ref f)) ∧ PySem.W.isFn K (.ref f) = true ∧ FunD K "__init__" "InvalidSizes.__init__" (defArgs st_InvalidSizes___init__) (defBody st_InvalidSizes___init__) (defScope st_InvalidSizes___init__) [] [] f fd
  n_InvalidSizes_value : NoAttr K C_InvalidSizes "value"
  m_InvalidTold : mg "InvalidTold" = some (.ref C_InvalidTold)
  x_InvalidTold : ExF K C_InvalidTold [.ref C_InvalidTold, .ref C_EachError, .type "ValueError", .type "Exception", .type "BaseException", .type "object"] "ValueError.__new__"
  i_InvalidTold : ∃ (f : Addr) (fd : FuncData), PySem.W.findIn K (.ref C_InvalidTold) "__init__" = some (some (.ref f)) ∧ PySem.W.isFn K (.ref f) = true ∧ FunD K "__init__" "InvalidTold.__init__" (defArgs st_InvalidTold___init__) (defBody st_InvalidTold___init__) (defScope st_InvalidTold___init__) [] [] f fd
  n_InvalidTold_value : NoAttr K C_InvalidTold "value"
  m_InvalidText : mg "InvalidText" = some (.ref C_InvalidText)
  x_InvalidText : ExF K C_InvalidText [.ref C_InvalidText, .ref C_EachError, .type "ValueError", .type "Exception", .type "BaseException", .type "object"] "ValueError.__new__"
  i_InvalidText : ∃ (f : Addr) (fd : FuncData), PySem.W.findIn K (.ref C_InvalidText) "__init__" = some (some (.ref f)) ∧ PySem.W.isFn K (.ref f) = true ∧ FunD K "__init__" "InvalidText.__init__" (defArgs st_InvalidText___init__) (defBody st_InvalidText___init__) (defScope st_InvalidText___init__) [] [] f fd
  n_InvalidText_line : NoAttr K C_InvalidText "line"
  m_InvalidClaim : mg "InvalidClaim" = some (.ref C_InvalidClaim)
  x_InvalidClaim : ExF K C_InvalidClaim [.ref C_InvalidClaim, .ref C_EachError, .type "ValueError", .type "Exception", .type "BaseException", .type "object"] "ValueError.__new__"
  i_InvalidClaim : ∃ (f : Addr) (fd : FuncData), PySem.W.findIn K (.ref C_InvalidClaim) "__init__" = some (some (.ref f)) ∧ PySem.W.isFn K (.ref f) = true ∧ FunD K "__init__" "InvalidClaim.__init__" (defArgs st_InvalidClaim___init__) (defBody st_InvalidClaim___init__) (defScope st_InvalidClaim___init__) [] [] f fd
  n_InvalidClaim_value : NoAttr K C_InvalidClaim "value"
  m_InvalidCommand : mg "InvalidCommand" = some (.ref C_InvalidCommand)
  x_InvalidCommand : ExF K C_InvalidCommand [.ref C_InvalidCommand, .ref C_EachError, .type "ValueError", .type "Exception", .type "BaseException", .type "object"] "ValueError.__new__"
  i_InvalidCommand : ∃ (f : Addr) (fd : FuncData), PySem.W.findIn K (.ref C_InvalidCommand) "__init__" = some (some (.ref f)) ∧ PySem.W.isFn K (.ref f) = true ∧ FunD K "__init__" "InvalidCommand.__init__" (defArgs st_InvalidCommand___init__) (defBody st_InvalidCommand___init__) (defScope st_InvalidCommand___init__) [] [] f fd
  n_InvalidCommand_value : NoAttr K C_InvalidCommand "value"
  m_EmptyBy : mg "EmptyBy" = some (.ref C_EmptyBy)
  x_EmptyBy : ExF K C_EmptyBy [.ref C_EmptyBy, .ref C_EachError, .type "ValueError", .type "Exception", .type "BaseException", .type "object"] "ValueError.__new__"
  i_EmptyBy : ∃ (f : Addr) (fd : FuncData), PySem.W.findIn K (.ref C_EmptyBy) "__init__" = some (some (.ref f)) ∧ PySem.W.isFn K (.ref f) = true ∧ FunD K "__init__" "EmptyBy.__init__" (defArgs st_EmptyBy___init__) (defBody st_EmptyBy___init__) (defScope st_EmptyBy___init__) [] [] f fd
  n_EmptyBy_paper : NoAttr K C_EmptyBy "paper"
  m_UnknownKind : mg "UnknownKind" = some (.ref C_UnknownKind)
  x_UnknownKind : ExF K C_UnknownKind [.ref C_UnknownKind, .ref C_MissingError, .type "LookupError", .type "Exception", .type "BaseException", .type "object"] "LookupError.__new__"
  i_UnknownKind : ∃ (f : Addr) (fd : FuncData), PySem.W.findIn K (.ref C_UnknownKind) "__init__" = some (some (.ref f)) ∧ PySem.W.isFn K (.ref f) = true ∧ FunD K "__init__" "UnknownKind.__init__" (defArgs st_UnknownKind___init__) (defBody st_UnknownKind___init__) (defScope st_UnknownKind___init__) [] [] f fd
  n_UnknownKind_value : NoAttr K C_UnknownKind "value"
  m_UnknownLink : mg "UnknownLink" = some (.ref C_UnknownLink)
  x_UnknownLink : ExF K C_UnknownLink [.ref C_UnknownLink, .ref C_MissingError, .type "LookupError", .type "Exception", .type "BaseException", .type "object"] "LookupError.__new__"
  i_UnknownLink : ∃ (f : Addr) (fd : FuncData), PySem.W.findIn K (.ref C_UnknownLink) "__init__" = some (some (.ref f)) ∧ PySem.W.isFn K (.ref f) = true ∧ FunD K "__init__" "UnknownLink.__init__" (defArgs st_UnknownLink___init__) (defBody st_UnknownLink___init__) (defScope st_UnknownLink___init__) [] [] f fd
  n_UnknownLink_value : NoAttr K C_UnknownLink "value"
  m_UnknownRow : mg "UnknownRow" = some (.ref C_UnknownRow)
  x_UnknownRow : ExF K C_UnknownRow [.ref C_UnknownRow, .ref C_MissingError, .type "LookupError", .type "Exception", .type "BaseException", .type "object"] "LookupError.__new__"
  i_UnknownRow : ∃ (f : Addr) (fd : FuncData), PySem.W.findIn K (.ref C_UnknownRow) "__init__" = some (some (.ref f)) ∧ PySem.W.isFn K (.ref f) = true ∧ FunD K "__init__" "UnknownRow.__init__" (defArgs st_UnknownRow___init__) (defBody st_UnknownRow___init__) (defScope st_UnknownRow___init__) [] [] f fd
  n_UnknownRow_value : NoAttr K C_UnknownRow "value"
  m_UnknownThing : mg "UnknownThing" = some (.ref C_UnknownThing)
  x_UnknownThing : ExF K C_UnknownThing [.ref C_UnknownThing, .ref C_MissingError, .type "LookupError", .type "Exception", .type "BaseException", .type "object"] "LookupError.__new__"
  i_UnknownThing : ∃ (f : Addr) (fd : FuncData), PySem.W.findIn K (.ref C_UnknownThing) "__init__" = some (some (.ref f)) ∧ PySem.W.isFn K (.ref f) = true ∧ FunD K "__init__" "UnknownThing.__init__" (defArgs st_UnknownThing___init__) (defBody st_UnknownThing___init__) (defScope st_UnknownThing___init__) [] [] f fd
  n_UnknownThing_value : NoAttr K C_UnknownThing "value"
  m_Apart : mg "Apart" = some (.ref C_Apart)
  x_Apart : ExF K C_Apart [.ref C_Apart, .ref C_StateError, .type "RuntimeError", .type "Exception", .type "BaseException", .type "object"] "RuntimeError.__new__"
  i_Apart : ∃ (f : Addr) (fd : FuncData), PySem.W.findIn K (.ref C_Apart) "__init__" = some (some (.ref f)) ∧ PySem.W.isFn K (.ref f) = true ∧ FunD K "__init__" "Apart.__init__" (defArgs st_Apart___init__) (defBody st_Apart___init__) (defScope st_Apart___init__) [] [] f fd
  n_Apart_one : NoAttr K C_Apart "one"
  n_Apart_other : NoAttr K C_Apart "other"
  m_Taken : mg "Taken" = some (.ref C_Taken)
  x_Taken : ExF K C_Taken [.ref C_Taken, .ref C_StateError, .type "RuntimeError", .type "Exception", .type "BaseException", .type "object"] "RuntimeError.__new__"
  i_Taken : ∃ (f : Addr) (fd : FuncData), PySem.W.findIn K (.ref C_Taken) "__init__" = some (some (.ref f)) ∧ PySem.W.isFn K (.ref f) = true ∧ FunD K "__init__" "Taken.__init__" (defArgs st_Taken___init__) (defBody st_Taken___init__) (defScope st_Taken___init__) [] [] f fd
  n_Taken_value : NoAttr K C_Taken "value"
  m_Empty : mg "Empty" = some (.ref C_Empty)
  x_Empty : ExF K C_Empty [.ref C_Empty, .ref C_StateError, .type "RuntimeError", .type "Exception", .type "BaseException", .type "object"] "RuntimeError.__new__"
  i_Empty : ∃ (f : Addr) (fd : FuncData), PySem.W.findIn K (.ref C_Empty) "__init__" = some (some (.ref f)) ∧ PySem.W.isFn K (.ref f) = true ∧ FunD K "__init__" "Empty.__init__" (defArgs st_Empty___init__) (defBody st_Empty___init__) (defScope st_Empty___init__) [] [] f fd
  n_Empty_kind : NoAttr K C_Empty "kind"
  n_Empty_paper : NoAttr K C_Empty "paper"
  m_NotLet : mg "NotLet" = some (.ref C_NotLet)
  x_NotLet : ExF K C_NotLet [.ref C_NotLet, .ref C_StateError, .type "RuntimeError", .type "Exception", .type "BaseException", .type "object"] "RuntimeError.__new__"
  i_NotLet : ∃ (f : Addr) (fd : FuncData), PySem.W.findIn K (.ref C_NotLet) "__init__" = some (some (.ref f)) ∧ PySem.W.isFn K (.ref f) = true ∧ FunD K "__init__" "NotLet.__init__" (defArgs st_NotLet___init__) (defBody st_NotLet___init__) (defScope st_NotLet___init__) [] [] f fd
  n_NotLet_link : NoAttr K C_NotLet "link"
  n_NotLet_line : NoAttr K C_NotLet "line"
  m_Lacking : mg "Lacking" = some (.ref C_Lacking)
  x_Lacking : ExF K C_Lacking [.ref C_Lacking, .ref C_StateError, .type "RuntimeError", .type "Exception", .type "BaseException", .type "object"] "RuntimeError.__new__"
  i_Lacking : ∃ (f : Addr) (fd : FuncData), PySem.W.findIn K (.ref C_Lacking) "__init__" = some (some (.ref f)) ∧ PySem.W.isFn K (.ref f) = true ∧ FunD K "__init__" "Lacking.__init__" (defArgs st_Lacking___init__) (defBody st_Lacking___init__) (defScope st_Lacking___init__) [] [] f fd
  n_Lacking_obstacle : NoAttr K C_Lacking "obstacle"
  m_NothingToUndo : mg "NothingToUndo" = some (.ref C_NothingToUndo)
  x_NothingToUndo : ExF K C_NothingToUndo [.ref C_NothingToUndo, .ref C_StateError, .type "RuntimeError", .type "Exception", .type "BaseException", .type "object"] "RuntimeError.__new__"
  q_NothingToUndo : PySem.W.excIn K C_NothingToUndo [.type "RuntimeError", .type "Exception", .type "BaseException", .type "object"] "RuntimeError.__new__" = true
  m_CommandFailed : mg "CommandFailed" = some (.ref C_CommandFailed)
  x_CommandFailed : ExF K C_CommandFailed [.ref C_CommandFailed, .ref C_StateError, .type "RuntimeError", .type "Exception", .type "BaseException", .type "object"] "RuntimeError.__new__"
  i_CommandFailed : ∃ (f : Addr) (fd : FuncData), PySem.W.findIn K (.ref C_CommandFailed) "__init__" = some (some (.ref f)) ∧ PySem.W.isFn K (.ref f) = true ∧ FunD K "__init__" "CommandFailed.__init__" (defArgs st_CommandFailed___init__) (defBody st_CommandFailed___init__) (defScope st_CommandFailed___init__) [] [] f fd
  n_CommandFailed_position : NoAttr K C_CommandFailed "position"
  m_TooMany : mg "TooMany" = some (.ref C_TooMany)
  x_TooMany : ExF K C_TooMany [.ref C_TooMany, .ref C_LimitError, .type "ArithmeticError", .type "Exception", .type "BaseException", .type "object"] "ArithmeticError.__new__"
  i_TooMany : ∃ (f : Addr) (fd : FuncData), PySem.W.findIn K (.ref C_TooMany) "__init__" = some (some (.ref f)) ∧ PySem.W.isFn K (.ref f) = true ∧ FunD K "__init__" "TooMany.__init__" (defArgs st_TooMany___init__) (defBody st_TooMany___init__) (defScope st_TooMany___init__) [] [] f fd
  n_TooMany_what : NoAttr K C_TooMany "what"
  n_TooMany_limit : NoAttr K C_TooMany "limit"
  m_EachError : mg "EachError" = some (.ref C_EachError)
  x_EachError : ExF K C_EachError [.ref C_EachError, .type "ValueError", .type "Exception", .type "BaseException", .type "object"] "ValueError.__new__"
  q_EachError : PySem.W.excIn K C_EachError [.type "ValueError", .type "Exception", .type "BaseException", .type "object"] "ValueError.__new__" = true
  m_MissingError : mg "MissingError" = some (.ref C_MissingError)
  x_MissingError : ExF K C_MissingError [.ref C_MissingError, .type "LookupError", .type "Exception", .type "BaseException", .type "object"] "LookupError.__new__"
  q_MissingError : PySem.W.excIn K C_MissingError [.type "LookupError", .type "Exception", .type "BaseException", .type "object"] "LookupError.__new__" = true
  m_StateError : mg "StateError" = some (.ref C_StateError)
  x_StateError : ExF K C_StateError [.ref C_StateError, .type "RuntimeError", .type "Exception", .type "BaseException", .type "object"] "RuntimeError.__new__"
  q_StateError : PySem.W.excIn K C_StateError [.type "RuntimeError", .type "Exception", .type "BaseException", .type "object"] "RuntimeError.__new__" = true
  m_LimitError : mg "LimitError" = some (.ref C_LimitError)
  x_LimitError : ExF K C_LimitError [.ref C_LimitError, .type "ArithmeticError", .type "Exception", .type "BaseException", .type "object"] "ArithmeticError.__new__"
  q_LimitError : PySem.W.excIn K C_LimitError [.type "ArithmeticError", .type "Exception", .type "BaseException", .type "object"] "ArithmeticError.__new__" = true
/-! ### the classes, by their numbers -/
def flds : Nat → List Str
  | 5 => ["position"]
  | 12 => ["link", "position"]
  | 17 => ["line"]
  | 20 => ["paper"]
  | 25 => ["one", "other"]
  | 27 => ["kind", "paper"]
  | 28 => ["link", "line"]
  | 29 => ["obstacle"]
  | 30 => []
  | 31 => ["position"]
  | 32 => ["what", "limit"]
  | _ => ["value"]
def fsOf (v0 v1 : V) : List Str → List (Str × V)
  | [n] => [(n, v0)]
  | [n, m] => [(m, v1), (n, v0)]
  | _ => []
/-- the exception of the class with this number, made of v0 and v1 -/
def ExAt (cl : List Addr) (H : Hp) (a : Addr) (t : Nat) (v0 v1 : V) : Prop := ∃ C, cl[t]? = some C ∧ ((flds t = [] ∧ H a = some (exo a C none)) ∨ ∃ dd, flds t ≠ [] ∧ H a = some (exo a C (some dd)) ∧ H dd = some (exd dd (fsOf v0 v1 (flds t))))
theorem ExAt.same {cl : List Addr} {H H' : Hp} {a : Addr} {t : Nat} {v0 v1 : V} (h : ExAt cl H a t v0 v1) (s : Same H H') : ExAt cl H' a t v0 v1 := by
  obtain ⟨C, e, ⟨f, h⟩ | ⟨dd, f, h, g⟩⟩ := h
  · exact ⟨C, e, .inl ⟨f, s _ _ h⟩⟩
  · exact ⟨C, e, .inr ⟨dd, f, s _ _ h, s _ _ g⟩⟩
theorem ExAt.is {cl : List Addr} {H : Hp} {a : Addr} {t : Nat} {v0 v1 : V} (h : ExAt cl H a t v0 v1) : ∃ C, cl[t]? = some C ∧ IsExo H a C := by
  obtain ⟨C, e, ⟨f, h⟩ | ⟨dd, f, h, g⟩⟩ := h
  · exact ⟨C, e, .inl h⟩
  · exact ⟨C, e, .inr ⟨dd, _, h, g⟩⟩
def spE1 (C : Addr) (n : Str) : Sp := fun vs H Q _ => ∃ (a : Addr) (y : V), vs = [.ref a, y] ∧ H a = some (exo a C none) ∧ ∀ d, H d = none → d ≠ a → Q .non (L2.upd (L2.upd H d (exd d [(n, y)])) a (exo a C (some d)))
def spE2 (C : Addr) (n m : Str) : Sp := fun vs H Q _ => ∃ (a : Addr) (y z : V), vs = [.ref a, y, z] ∧ H a = some (exo a C none) ∧ ∀ d, H d = none → d ≠ a → Q .non (L2.upd (L2.upd (L2.upd H d (exd d [(n, y)])) a (exo a C (some d))) d (exd d [(m, z), (n, y)]))
theorem vals_rev : ∀ {xs : List V} {us : List Value}, Vals xs us → Vals xs.reverse us.reverse
  | _, _, .nil => .nil
  | _, _, .cons r t => by
    rw [List.reverse_cons, List.reverse_cons]
    exact (vals_rev t).append (.cons r .nil)
end My
open My L2 PySem
open My L2 PySem
local macro_rules | `(tactic| walk_at "as") => `(tactic| with_reducible assumption)
local macro_rules | `(tactic| walk_at "hp") => `(tactic| first
  | walk_at "as" | exact upd_same
  | (rw [upd_ne (by walk_at "ne")]; walk_at "hp")
  | (refine But.get (by walk_at "as") ?hp1 ?hp2; (case hp1 => walk_at "hp"); (case hp2 => walk_at "ne"))
  | (refine My.Same.get (by walk_at "as") ?hp1; (case hp1 => walk_at "hp")))
local macro_rules | `(tactic| walk_at "ne") => `(tactic| first
  | walk_at "as" | exact Ne.symm (by walk_at "as")
  | (refine' ne_of_none ?ne1 ?ne2; (case ne2 => walk_at "as"); (case ne1 => walk_at "hp"))
  | (refine' Ne.symm (ne_of_none ?ne1 ?ne2); (case ne2 => walk_at "as"); (case ne1 => walk_at "hp"))
  | exact ne_of (by walk_at "hp") (by walk_at "hp") (by intro z; cases z))
local macro_rules | `(tactic| walk_at "sd") => `(tactic| first
  | walk_at "as" | omega | decide | exact ⟨by omega, by omega⟩ | exact .inl ⟨by omega, by omega⟩ | exact .inr ⟨by omega, by omega⟩ | exact divp_wide (by walk_at "as") (by walk_at "as") | exact Sm.cmul (by walk_at "as") (by walk_at "as") | exact cmul_small (by omega) (by omega) (by omega) (by omega) | exact ⟨by omega, by decide⟩)
local macro_rules | `(tactic| walk_at "bt") => `(tactic| first
  | walk_at "as" | exact But.refl _ _ | exact Same.but (by walk_at "as")
  | (refine But.trans ?bt1 But.at; (case bt1 => walk_at "bt"))
  | (refine But.trans ?bt1 (But.new (by first | walk_at "as" | walk_at "hp")); (case bt1 => walk_at "bt"))
  | (refine But.trans ?bt1 (by walk_at "as"); (case bt1 => walk_at "bt"))
  | (refine But.trans ?bt1 (Same.but (by walk_at "as")); (case bt1 => walk_at "bt")))
local macro_rules | `(tactic| walk_at "sm") => `(tactic| first
  | walk_at "as" | exact My.Same.rfl' _
  | (refine' My.Same.at_ ?sm1 ?sm2; (case sm1 => walk_at "as"); (case sm2 => walk_at "sm"))
  | (refine' My.Same.tr ?sm1 (My.Same.new ?sm2); (case sm2 => walk_at "as"); (case sm1 => walk_at "sm"))
  | (refine' My.Same.tr ?sm1 ?sm2; (case sm2 => walk_at "as"); (case sm1 => walk_at "sm")))
local macro_rules | `(tactic| walk_at "sz") => `(tactic| first
  | assumption | exact lt_size (by rfl) | exact le_size (by rfl) | (rw [sizeLine_eq]; omega)
  | (rw [sizeLine_eq]; simp only [List.length_append, List.length_map, List.length_cons, List.length_nil]; omega))
local macro_rules | `(tactic| walk_at "few") => `(tactic| (repeat refine few_put ?_); exact few0)
local macro_rules | `(tactic| walk_at "rd1") => `(tactic| first
  | (with_reducible show tVar _ _ _ _); refine s_var rfl ?_
  | with_reducible refine s_c ?_ | with_reducible refine s_op ?_ | with_reducible refine s_un ?_
  | with_reducible refine s_cons ?_ | with_reducible refine s_nil ?_ | with_reducible refine s_cb ?_
  | with_reducible refine s_test ?_ | with_reducible refine s_B ?_ | with_reducible refine s_not ?_ | with_reducible refine s_and ?_ | with_reducible refine s_or ?_
  | with_reducible refine s_if ?_ | with_reducible refine s_notV ?_ | with_reducible refine s_andV ?_ | with_reducible refine s_orV ?_
  | with_reducible refine s_orT ?_ | with_reducible refine s_andT ?_ | with_reducible refine s_chain ?_
  | with_reducible refine s_isi_int ?_ | with_reducible refine s_isi_int_bool ?_ | with_reducible refine s_isi_str ?_
  | with_reducible refine iteT ?_ | with_reducible refine iteF ?_ | with_reducible refine iteNT ?_ | with_reducible refine iteNF ?_
  | with_reducible refine s_isN ?_ | with_reducible refine s_notN ?_
  | ((with_reducible refine' s_2setE ?g1 ?_); (case g1 => first | (dsimp only [List.set, L2.wipe, List.map, List.foldl]; done) | (dsimp only [List.set, L2.wipe, List.map, List.foldl]; rfl)))
  | with_reducible refine s_seq ?_ | with_reducible refine s_ifS ?_ | with_reducible refine s_asg ?_ | with_reducible refine s_ret ?_ | with_reducible refine s_drop ?_ | with_reducible refine s_next ?_
  | ((with_reducible refine' s_gnameE ?g1 ?_); (case g1 => first | (dsimp only [List.set, L2.wipe, List.map, List.foldl]; done) | (dsimp only [List.set, L2.wipe, List.map, List.foldl]; rfl)))
  | with_reducible refine s_gsub ?_ | with_reducible refine s_gcons ?_ | with_reducible refine s_gnil ?_
  | (with_reducible show gTup _ _ _ _ _ _ _); refine s_gtup (by walk_at "hp") rfl ?_
  | with_reducible refine s_eqI ?_ | with_reducible refine s_neI ?_ | with_reducible refine s_eqS ?_ | with_reducible refine s_neB ?_ | with_reducible refine s_eqB ?_ | with_reducible refine s_neSr ?_ | with_reducible refine s_neS ?_
  | with_reducible refine s_I0 ?_
  | (with_reducible show rI _ _ _ _ _ _); refine s_I (by walk_at "sd") ?_
  | (with_reducible show rIxL _ _ _ _ _); refine s_ixL (by walk_at "hp") rfl ?_
  | (with_reducible show rIxT _ _ _ _ _); refine s_ixT (by walk_at "hp") rfl ?_
  | (with_reducible show rSetL _ _ _ _ _); refine s_setL (by walk_at "hp") rfl ?_
  | with_reducible refine s_prop ?_
  | (with_reducible show _ ≤ sizeLine ∧ _); refine ⟨le_size (by rfl), ?_⟩
  | with_reducible refine ite_NN ?_ | with_reducible refine ite_IN ?_ | with_reducible refine ite_nNN ?_ | with_reducible refine ite_nIN ?_ | with_reducible refine ite_RN ?_ | with_reducible refine ite_nRN ?_
  | with_reducible refine s_sfld ?_
  | ((with_reducible refine' ⟨_, _, _, _, rfl, ?fp1, ?fp2, ?fp3, ?fp4, ?_⟩); (case fp1 => walk_at "hp"); (case fp2 => assumption); (case fp3 => assumption); (case fp4 => walk_at "few"))
  | with_reducible refine s_fldE ?_
  | ((with_reducible refine' ⟨_, _, _, _, _, rfl, ?fp1, ?fp2, ?fp3, ?fp4, ?_⟩); (case fp1 => walk_at "hp"); (case fp2 => assumption); (case fp3 => assumption); (case fp4 => rfl))
  | with_reducible refine s_bm ?_ | with_reducible refine s_bm0 ?_
  | ((with_reducible refine' s_tyL ?ty1 ?_); (case ty1 => walk_at "hp"))
  | ((with_reducible refine' s_append ?ap1 ?ap2 ?_); (case ap1 => walk_at "hp"); (case ap2 => walk_at "sz"))
  | ((with_reducible refine' s_extend ?ap1 ?ap2 ?ap3 ?_); (case ap1 => walk_at "hp"); (case ap2 => walk_at "hp"); (case ap3 => walk_at "sz"))
  | with_reducible refine s_for (fun _ _ => ?_) | with_reducible refine s_lc ?_ | with_reducible refine s_iList ?_ | with_reducible refine s_iTup ?_ | with_reducible refine s_iRng1 ?_ | with_reducible refine s_iRng2 ?_
  | with_reducible refine s_yes ?_ | with_reducible refine s_par ?_
  | with_reducible refine s_make ?_ | with_reducible refine s_meth ?_
  | with_reducible refine s_tup ?_ | with_reducible refine s_lst ?_ | with_reducible refine s_call ?_
  | with_reducible refine ⟨rfl, ?_⟩
  | with_reducible refine ⟨_, rfl, ?_⟩
  | ((with_reducible refine' ⟨_, _, rfl, ?sd1, ?_⟩); (case sd1 => walk_at "sd"))
  | with_reducible refine ⟨_, _, rfl, ?_⟩
  | with_reducible refine .inl ⟨_, rfl, ?_⟩
  | dsimp only [List.set]
  | walk_at "rdx"
  | (refine fun _ _ => ?_))
local macro_rules | `(tactic| walk_at "rd") => `(tactic| repeat (first
  | (with_reducible show tVar _ _ _ _); refine s_var rfl ?_
  | with_reducible refine s_c ?_ | with_reducible refine s_op ?_ | with_reducible refine s_un ?_
  | with_reducible refine s_cons ?_ | with_reducible refine s_nil ?_ | with_reducible refine s_cb ?_
  | with_reducible refine s_test ?_ | with_reducible refine s_B ?_ | with_reducible refine s_not ?_ | with_reducible refine s_and ?_ | with_reducible refine s_or ?_
  | with_reducible refine s_if ?_ | with_reducible refine s_notV ?_ | with_reducible refine s_andV ?_ | with_reducible refine s_orV ?_
  | with_reducible refine s_orT ?_ | with_reducible refine s_andT ?_ | with_reducible refine s_chain ?_
  | with_reducible refine s_isi_int ?_ | with_reducible refine s_isi_int_bool ?_ | with_reducible refine s_isi_str ?_
  | with_reducible refine iteT ?_ | with_reducible refine iteF ?_ | with_reducible refine iteNT ?_ | with_reducible refine iteNF ?_
  | with_reducible refine s_isN ?_ | with_reducible refine s_notN ?_
  | ((with_reducible refine' s_2setE ?g1 ?_); (case g1 => first | (dsimp only [List.set, L2.wipe, List.map, List.foldl]; done) | (dsimp only [List.set, L2.wipe, List.map, List.foldl]; rfl)))
  | with_reducible refine s_seq ?_ | with_reducible refine s_ifS ?_ | with_reducible refine s_asg ?_ | with_reducible refine s_ret ?_ | with_reducible refine s_drop ?_ | with_reducible refine s_next ?_
  | ((with_reducible refine' s_gnameE ?g1 ?_); (case g1 => first | (dsimp only [List.set, L2.wipe, List.map, List.foldl]; done) | (dsimp only [List.set, L2.wipe, List.map, List.foldl]; rfl)))
  | with_reducible refine s_gsub ?_ | with_reducible refine s_gcons ?_ | with_reducible refine s_gnil ?_
  | (with_reducible show gTup _ _ _ _ _ _ _); refine s_gtup (by walk_at "hp") rfl ?_
  | with_reducible refine s_eqI ?_ | with_reducible refine s_neI ?_ | with_reducible refine s_eqS ?_ | with_reducible refine s_neB ?_ | with_reducible refine s_eqB ?_ | with_reducible refine s_neSr ?_ | with_reducible refine s_neS ?_
  | with_reducible refine s_I0 ?_
  | (with_reducible show rI _ _ _ _ _ _); refine s_I (by walk_at "sd") ?_
  | (with_reducible show rIxL _ _ _ _ _); refine s_ixL (by walk_at "hp") rfl ?_
  | (with_reducible show rIxT _ _ _ _ _); refine s_ixT (by walk_at "hp") rfl ?_
  | (with_reducible show rSetL _ _ _ _ _); refine s_setL (by walk_at "hp") rfl ?_
  | with_reducible refine s_prop ?_
  | (with_reducible show _ ≤ sizeLine ∧ _); refine ⟨le_size (by rfl), ?_⟩
  | with_reducible refine ite_NN ?_ | with_reducible refine ite_IN ?_ | with_reducible refine ite_nNN ?_ | with_reducible refine ite_nIN ?_ | with_reducible refine ite_RN ?_ | with_reducible refine ite_nRN ?_
  | with_reducible refine s_sfld ?_
  | ((with_reducible refine' ⟨_, _, _, _, rfl, ?fp1, ?fp2, ?fp3, ?fp4, ?_⟩); (case fp1 => walk_at "hp"); (case fp2 => assumption); (case fp3 => assumption); (case fp4 => walk_at "few"))
  | with_reducible refine s_fldE ?_
  | ((with_reducible refine' ⟨_, _, _, _, _, rfl, ?fp1, ?fp2, ?fp3, ?fp4, ?_⟩); (case fp1 => walk_at "hp"); (case fp2 => assumption); (case fp3 => assumption); (case fp4 => rfl))
  | with_reducible refine s_bm ?_ | with_reducible refine s_bm0 ?_
  | ((with_reducible refine' s_tyL ?ty1 ?_); (case ty1 => walk_at "hp"))
  | ((with_reducible refine' s_append ?ap1 ?ap2 ?_); (case ap1 => walk_at "hp"); (case ap2 => walk_at "sz"))
  | ((with_reducible refine' s_extend ?ap1 ?ap2 ?ap3 ?_); (case ap1 => walk_at "hp"); (case ap2 => walk_at "hp"); (case ap3 => walk_at "sz"))
  | with_reducible refine s_for (fun _ _ => ?_) | with_reducible refine s_lc ?_ | with_reducible refine s_iList ?_ | with_reducible refine s_iTup ?_ | with_reducible refine s_iRng1 ?_ | with_reducible refine s_iRng2 ?_
  | with_reducible refine s_yes ?_ | with_reducible refine s_par ?_
  | with_reducible refine s_make ?_ | with_reducible refine s_meth ?_
  | with_reducible refine s_tup ?_ | with_reducible refine s_lst ?_ | with_reducible refine s_call ?_
  | with_reducible refine ⟨rfl, ?_⟩
  | with_reducible refine ⟨_, rfl, ?_⟩
  | ((with_reducible refine' ⟨_, _, rfl, ?sd1, ?_⟩); (case sd1 => walk_at "sd"))
  | with_reducible refine ⟨_, _, rfl, ?_⟩
  | with_reducible refine .inl ⟨_, rfl, ?_⟩
  | dsimp only [List.set]
  | walk_at "rdx"
  | (refine fun _ _ => ?_)))

local macro_rules | `(tactic| walk_at "rdx") => `(tactic| first | with_reducible refine s_ostG ?_ | with_reducible refine s_mkE ?_ | with_reducible refine s_mkEK ?_ | with_reducible refine s_xf ?_ | with_reducible refine s_lstN ?_)
local macro_rules | `(tactic| walk_at "cl") => `(tactic| repeat (first | walk_at "rd1" | (refine ite_d (fun h => absurd h (by decide)) (fun _ => ?_)) | (refine ite_d (fun _ => ?_) (fun h => absurd rfl h))))

namespace My
open PySem L2
section
variable {P : Program} {w : World} {K : PySem.W.Frag} {mg : Str → Option Value} {base : Heap} {C_InvalidName C_InvalidCount C_InvalidNumber C_InvalidMany C_InvalidRatio C_InvalidKinds C_InvalidLink C_InvalidEnd C_InvalidModel C_InvalidTotal C_InvalidPair C_InvalidRow C_InvalidPairs C_InvalidDatabase C_InvalidWay C_InvalidSizes C_InvalidTold C_InvalidText C_InvalidClaim C_InvalidCommand C_EmptyBy C_UnknownKind C_UnknownLink C_UnknownRow C_UnknownThing C_Apart C_Taken C_Empty C_NotLet C_Lacking C_NothingToUndo C_CommandFailed C_TooMany C_EachError C_MissingError C_StateError C_LimitError : Addr}
theorem ex_InvalidName (M : Md K mg C_InvalidName C_InvalidCount C_InvalidNumber C_InvalidMany C_InvalidRatio C_InvalidKinds C_InvalidLink C_InvalidEnd C_InvalidModel C_InvalidTotal C_InvalidPair C_InvalidRow C_InvalidPairs C_InvalidDatabase C_InvalidWay C_InvalidSizes C_InvalidTold C_InvalidText C_InvalidClaim C_InvalidCommand C_EmptyBy C_UnknownKind C_UnknownLink C_UnknownRow C_UnknownThing C_Apart C_Taken C_Empty C_NotLet C_Lacking C_NothingToUndo C_CommandFailed C_TooMany C_EachError C_MissingError C_StateError C_LimitError) : ExcC K C_InvalidName := M.x_InvalidName.exc (ups _ _ "ValueError") M.hn_exc M.ht_exc
theorem xf_InvalidName (M : Md K mg C_InvalidName C_InvalidCount C_InvalidNumber C_InvalidMany C_InvalidRatio C_InvalidKinds C_InvalidLink C_InvalidEnd C_InvalidModel C_InvalidTotal C_InvalidPair C_InvalidRow C_InvalidPairs C_InvalidDatabase C_InvalidWay C_InvalidSizes C_InvalidTold C_InvalidText C_InvalidClaim C_InvalidCommand C_EmptyBy C_UnknownKind C_UnknownLink C_UnknownRow C_UnknownThing C_Apart C_Taken C_Empty C_NotLet C_Lacking C_NothingToUndo C_CommandFailed C_TooMany C_EachError C_MissingError C_StateError C_LimitError) : XfC K C_InvalidName := M.x_InvalidName.xf (ups _ _ "ValueError")
theorem ox_InvalidName (M : Md K mg C_InvalidName C_InvalidCount C_InvalidNumber C_InvalidMany C_InvalidRatio C_InvalidKinds C_InvalidLink C_InvalidEnd C_InvalidModel C_InvalidTotal C_InvalidPair C_InvalidRow C_InvalidPairs C_InvalidDatabase C_InvalidWay C_InvalidSizes C_InvalidTold C_InvalidText C_InvalidClaim C_InvalidCommand C_EmptyBy C_UnknownKind C_UnknownLink C_UnknownRow C_UnknownThing C_Apart C_Taken C_Empty C_NotLet C_Lacking C_NothingToUndo C_CommandFailed C_TooMany C_EachError C_MissingError C_StateError C_LimitError) : OexG K C_InvalidName := M.x_InvalidName.oex (ups _ _ "ValueError") PySem.F.excBase_ValueError PySem.F.store_ValueError
theorem ok_InvalidName (M : Md K mg C_InvalidName C_InvalidCount C_InvalidNumber C_InvalidMany C_InvalidRatio C_InvalidKinds C_InvalidLink C_InvalidEnd C_InvalidModel C_InvalidTotal C_InvalidPair C_InvalidRow C_InvalidPairs C_InvalidDatabase C_InvalidWay C_InvalidSizes C_InvalidTold C_InvalidText C_InvalidClaim C_InvalidCommand C_EmptyBy C_UnknownKind C_UnknownLink C_UnknownRow C_UnknownThing C_Apart C_Taken C_Empty C_NotLet C_Lacking C_NothingToUndo C_CommandFailed C_TooMany C_EachError C_MissingError C_StateError C_LimitError) {f : Addr} {fd : FuncData} (F : FunD K "__init__" "InvalidName.__init__" (defArgs st_InvalidName___init__) (defBody st_InvalidName___init__) (defScope st_InvalidName___init__) [] [] f fd) : FnG P w K mg base CX0 1 f fd ["self", "value"] (spE1 C_InvalidName "value") := by
  refine fnG_body F sc_InvalidName___init__ (fun vs H Q E h => ?_) (fun cdv A outer s H vs Q E hr h => ?_)
  · obtain ⟨a, y, rfl, _⟩ := h
    rfl
  · obtain ⟨a, y, rfl, ha, q⟩ := h
    have T := ox_InvalidName M
    have n0 := M.n_InvalidName_value
    refine ⟨_, (pss_one (ps_ostG (pv 0) (pv 1) rfl)), ?_⟩
    refine st_eq (σ := [some _, some _]) rfl ?_
    walk_at "rd"
    refine ⟨a, C_InvalidName, rfl, T, n0, .inl ⟨ha, fun d nd ne => ?_⟩⟩
    walk_at "rd"
    exact q d nd ne
theorem c_InvalidName (M : Md K mg C_InvalidName C_InvalidCount C_InvalidNumber C_InvalidMany C_InvalidRatio C_InvalidKinds C_InvalidLink C_InvalidEnd C_InvalidModel C_InvalidTotal C_InvalidPair C_InvalidRow C_InvalidPairs C_InvalidDatabase C_InvalidWay C_InvalidSizes C_InvalidTold C_InvalidText C_InvalidClaim C_InvalidCommand C_EmptyBy C_UnknownKind C_UnknownLink C_UnknownRow C_UnknownThing C_Apart C_Taken C_Empty C_NotLet C_Lacking C_NothingToUndo C_CommandFailed C_TooMany C_EachError C_MissingError C_StateError C_LimitError) : Exn P w K mg base "InvalidName" C_InvalidName 1 ["self", "value"] (spE1 C_InvalidName "value") := by
  obtain ⟨f, fd, iC, fC, F⟩ := M.i_InvalidName
  exact ⟨f, fd, ox_InvalidName M, iC, fC, ok_InvalidName M F, M.m_InvalidName, F.bindsN fun _ _ _ _ _ _ us hl => match us, hl with | [_, _], _ => rfl⟩
theorem k_InvalidName (M : Md K mg C_InvalidName C_InvalidCount C_InvalidNumber C_InvalidMany C_InvalidRatio C_InvalidKinds C_InvalidLink C_InvalidEnd C_InvalidModel C_InvalidTotal C_InvalidPair C_InvalidRow C_InvalidPairs C_InvalidDatabase C_InvalidWay C_InvalidSizes C_InvalidTold C_InvalidText C_InvalidClaim C_InvalidCommand C_EmptyBy C_UnknownKind C_UnknownLink C_UnknownRow C_UnknownThing C_Apart C_Taken C_Empty C_NotLet C_Lacking C_NothingToUndo C_CommandFailed C_TooMany C_EachError C_MissingError C_StateError C_LimitError) : Exk P w K mg base "InvalidName" C_InvalidName 1 ["value"] (fun vs zs => vs ++ zs.reverse) (spE1 C_InvalidName "value") := by
  obtain ⟨f, fd, iC, fC, F⟩ := M.i_InvalidName
  exact ⟨f, fd, _, _, ox_InvalidName M, iC, fC, ok_InvalidName M F, M.m_InvalidName, kbn0 F 1 ["value"] (fun vs zs => vs ++ zs.reverse) (fun r1 r2 => r1.append (vals_rev r2)) fun _ _ _ _ _ _ us ws l1 l2 => match us, ws, l1, l2 with | [_], [_], _, _ => rfl⟩
theorem ex_InvalidCount (M : Md K mg C_InvalidName C_InvalidCount C_InvalidNumber C_InvalidMany C_InvalidRatio C_InvalidKinds C_InvalidLink C_InvalidEnd C_InvalidModel C_InvalidTotal C_InvalidPair C_InvalidRow C_InvalidPairs C_InvalidDatabase C_InvalidWay C_InvalidSizes C_InvalidTold C_InvalidText C_InvalidClaim C_InvalidCommand C_EmptyBy C_UnknownKind C_UnknownLink C_UnknownRow C_UnknownThing C_Apart C_Taken C_Empty C_NotLet C_Lacking C_NothingToUndo C_CommandFailed C_TooMany C_EachError C_MissingError C_StateError C_LimitError) : ExcC K C_InvalidCount := M.x_InvalidCount.exc (ups _ _ "ValueError") M.hn_exc M.ht_exc
theorem xf_InvalidCount (M : Md K mg C_InvalidName C_InvalidCount C_InvalidNumber C_InvalidMany C_InvalidRatio C_InvalidKinds C_InvalidLink C_InvalidEnd C_InvalidModel C_InvalidTotal C_InvalidPair C_InvalidRow C_InvalidPairs C_InvalidDatabase C_InvalidWay C_InvalidSizes C_InvalidTold C_InvalidText C_InvalidClaim C_InvalidCommand C_EmptyBy C_UnknownKind C_UnknownLink C_UnknownRow C_UnknownThing C_Apart C_Taken C_Empty C_NotLet C_Lacking C_NothingToUndo C_CommandFailed C_TooMany C_EachError C_MissingError C_StateError C_LimitError) : XfC K C_InvalidCount := M.x_InvalidCount.xf (ups _ _ "ValueError")
theorem ox_InvalidCount (M : Md K mg C_InvalidName C_InvalidCount C_InvalidNumber C_InvalidMany C_InvalidRatio C_InvalidKinds C_InvalidLink C_InvalidEnd C_InvalidModel C_InvalidTotal C_InvalidPair C_InvalidRow C_InvalidPairs C_InvalidDatabase C_InvalidWay C_InvalidSizes C_InvalidTold C_InvalidText C_InvalidClaim C_InvalidCommand C_EmptyBy C_UnknownKind C_UnknownLink C_UnknownRow C_UnknownThing C_Apart C_Taken C_Empty C_NotLet C_Lacking C_NothingToUndo C_CommandFailed C_TooMany C_EachError C_MissingError C_StateError C_LimitError) : OexG K C_InvalidCount := M.x_InvalidCount.oex (ups _ _ "ValueError") PySem.F.excBase_ValueError PySem.F.store_ValueError
theorem ok_InvalidCount (M : Md K mg C_InvalidName C_InvalidCount C_InvalidNumber C_InvalidMany C_InvalidRatio C_InvalidKinds C_InvalidLink C_InvalidEnd C_InvalidModel C_InvalidTotal C_InvalidPair C_InvalidRow C_InvalidPairs C_InvalidDatabase C_InvalidWay C_InvalidSizes C_InvalidTold C_InvalidText C_InvalidClaim C_InvalidCommand C_EmptyBy C_UnknownKind C_UnknownLink C_UnknownRow C_UnknownThing C_Apart C_Taken C_Empty C_NotLet C_Lacking C_NothingToUndo C_CommandFailed C_TooMany C_EachError C_MissingError C_StateError C_LimitError) {f : Addr} {fd : FuncData} (F : FunD K "__init__" "InvalidCount.__init__" (defArgs st_InvalidCount___init__) (defBody st_InvalidCount___init__) (defScope st_InvalidCount___init__) [] [] f fd) : FnG P w K mg base CX0 1 f fd ["self", "value"] (spE1 C_InvalidCount "value") := by
  refine fnG_body F sc_InvalidCount___init__ (fun vs H Q E h => ?_) (fun cdv A outer s H vs Q E hr h => ?_)
  · obtain ⟨a, y, rfl, _⟩ := h
    rfl
  · obtain ⟨a, y, rfl, ha, q⟩ := h
    have T := ox_InvalidCount M
    have n0 := M.n_InvalidCount_value
    refine ⟨_, (pss_one (ps_ostG (pv 0) (pv 1) rfl)), ?_⟩
    refine st_eq (σ := [some _, some _]) rfl ?_
    walk_at "rd"
    refine ⟨a, C_InvalidCount, rfl, T, n0, .inl ⟨ha, fun d nd ne => ?_⟩⟩
    walk_at "rd"
    exact q d nd ne
theorem c_InvalidCount (M : Md K mg C_InvalidName C_InvalidCount C_InvalidNumber C_InvalidMany C_InvalidRatio C_InvalidKinds C_InvalidLink C_InvalidEnd C_InvalidModel C_InvalidTotal C_InvalidPair C_InvalidRow C_InvalidPairs C_InvalidDatabase C_InvalidWay C_InvalidSizes C_InvalidTold C_InvalidText C_InvalidClaim C_InvalidCommand C_EmptyBy C_UnknownKind C_UnknownLink C_UnknownRow C_UnknownThing C_Apart C_Taken C_Empty C_NotLet C_Lacking C_NothingToUndo C_CommandFailed C_TooMany C_EachError C_MissingError C_StateError C_LimitError) : Exn P w K mg base "InvalidCount" C_InvalidCount 1 ["self", "value"] (spE1 C_InvalidCount "value") := by
  obtain ⟨f, fd, iC, fC, F⟩ := M.i_InvalidCount
  exact ⟨f, fd, ox_InvalidCount M, iC, fC, ok_InvalidCount M F, M.m_InvalidCount, F.bindsN fun _ _ _ _ _ _ us hl => match us, hl with | [_, _], _ => rfl⟩
theorem k_InvalidCount (M : Md K mg C_InvalidName C_InvalidCount C_InvalidNumber C_InvalidMany C_InvalidRatio C_InvalidKinds C_InvalidLink C_InvalidEnd C_InvalidModel C_InvalidTotal C_InvalidPair C_InvalidRow C_InvalidPairs C_InvalidDatabase C_InvalidWay C_InvalidSizes C_InvalidTold C_InvalidText C_InvalidClaim C_InvalidCommand C_EmptyBy C_UnknownKind C_UnknownLink C_UnknownRow C_UnknownThing C_Apart C_Taken C_Empty C_NotLet C_Lacking C_NothingToUndo C_CommandFailed C_TooMany C_EachError C_MissingError C_StateError C_LimitError) : Exk P w K mg base "InvalidCount" C_InvalidCount 1 ["value"] (fun vs zs => vs ++ zs.reverse) (spE1 C_InvalidCount "value") := by
  obtain ⟨f, fd, iC, fC, F⟩ := M.i_InvalidCount
  exact ⟨f, fd, _, _, ox_InvalidCount M, iC, fC, ok_InvalidCount M F, M.m_InvalidCount, kbn0 F 1 ["value"] (fun vs zs => vs ++ zs.reverse) (fun r1 r2 => r1.append (vals_rev r2)) fun _ _ _ _ _ _ us ws l1 l2 => match us, ws, l1, l2 with | [_], [_], _, _ => rfl⟩
theorem ex_InvalidNumber (M : Md K mg C_InvalidName C_InvalidCount C_InvalidNumber C_InvalidMany C_InvalidRatio C_InvalidKinds C_InvalidLink C_InvalidEnd C_InvalidModel C_InvalidTotal C_InvalidPair C_InvalidRow C_InvalidPairs C_InvalidDatabase C_InvalidWay C_InvalidSizes C_InvalidTold C_InvalidText C_InvalidClaim C_InvalidCommand C_EmptyBy C_UnknownKind C_UnknownLink C_UnknownRow C_UnknownThing C_Apart C_Taken C_Empty C_NotLet C_Lacking C_NothingToUndo C_CommandFailed C_TooMany C_EachError C_MissingError C_StateError C_LimitError) : ExcC K C_InvalidNumber := M.x_InvalidNumber.exc (ups _ _ "ValueError") M.hn_exc M.ht_exc
theorem xf_InvalidNumber (M : Md K mg C_InvalidName C_InvalidCount C_InvalidNumber C_InvalidMany C_InvalidRatio C_InvalidKinds C_InvalidLink C_InvalidEnd C_InvalidModel C_InvalidTotal C_InvalidPair C_InvalidRow C_InvalidPairs C_InvalidDatabase C_InvalidWay C_InvalidSizes C_InvalidTold C_InvalidText C_InvalidClaim C_InvalidCommand C_EmptyBy C_UnknownKind C_UnknownLink C_UnknownRow C_UnknownThing C_Apart C_Taken C_Empty C_NotLet C_Lacking C_NothingToUndo C_CommandFailed C_TooMany C_EachError C_MissingError C_StateError C_LimitError) : XfC K C_InvalidNumber := M.x_InvalidNumber.xf (ups _ _ "ValueError")
theorem ox_InvalidNumber (M : Md K mg C_InvalidName C_InvalidCount C_InvalidNumber C_InvalidMany C_InvalidRatio C_InvalidKinds C_InvalidLink C_InvalidEnd C_InvalidModel C_InvalidTotal C_InvalidPair C_InvalidRow C_InvalidPairs C_InvalidDatabase C_InvalidWay C_InvalidSizes C_InvalidTold C_InvalidText C_InvalidClaim C_InvalidCommand C_EmptyBy C_UnknownKind C_UnknownLink C_UnknownRow C_UnknownThing C_Apart C_Taken C_Empty C_NotLet C_Lacking C_NothingToUndo C_CommandFailed C_TooMany C_EachError C_MissingError C_StateError C_LimitError) : OexG K C_InvalidNumber := M.x_InvalidNumber.oex (ups _ _ "ValueError") PySem.F.excBase_ValueError PySem.F.store_ValueError
theorem ok_InvalidNumber (M : Md K mg C_InvalidName C_InvalidCount C_InvalidNumber C_InvalidMany C_InvalidRatio C_InvalidKinds C_InvalidLink C_InvalidEnd C_InvalidModel C_InvalidTotal C_InvalidPair C_InvalidRow C_InvalidPairs C_InvalidDatabase C_InvalidWay C_InvalidSizes C_InvalidTold C_InvalidText C_InvalidClaim C_InvalidCommand C_EmptyBy C_UnknownKind C_UnknownLink C_UnknownRow C_UnknownThing C_Apart C_Taken C_Empty C_NotLet C_Lacking C_NothingToUndo C_CommandFailed C_TooMany C_EachError C_MissingError C_StateError C_LimitError) {f : Addr} {fd : FuncData} (F : FunD K "__init__" "InvalidNumber.__init__" (defArgs st_InvalidNumber___init__) (defBody st_InvalidNumber___init__) (defScope st_InvalidNumber___init__) [] [] f fd) : FnG P w K mg base CX0 1 f fd ["self", "value"] (spE1 C_InvalidNumber "value") := by
  refine fnG_body F sc_InvalidNumber___init__ (fun vs H Q E h => ?_) (fun cdv A outer s H vs Q E hr h => ?_)
  · obtain ⟨a, y, rfl, _⟩ := h
    rfl
  · obtain ⟨a, y, rfl, ha, q⟩ := h
    have T := ox_InvalidNumber M
    have n0 := M.n_InvalidNumber_value
    refine ⟨_, (pss_one (ps_ostG (pv 0) (pv 1) rfl)), ?_⟩
    refine st_eq (σ := [some _, some _]) rfl ?_
    walk_at "rd"
    refine ⟨a, C_InvalidNumber, rfl, T, n0, .inl ⟨ha, fun d nd ne => ?_⟩⟩
    walk_at "rd"
    exact q d nd ne
theorem c_InvalidNumber (M : Md K mg C_InvalidName C_InvalidCount C_InvalidNumber C_InvalidMany C_InvalidRatio C_InvalidKinds C_InvalidLink C_InvalidEnd C_InvalidModel C_InvalidTotal C_InvalidPair C_InvalidRow C_InvalidPairs C_InvalidDatabase C_InvalidWay C_InvalidSizes C_InvalidTold C_InvalidText C_InvalidClaim C_InvalidCommand C_EmptyBy C_UnknownKind C_UnknownLink C_UnknownRow C_UnknownThing C_Apart C_Taken C_Empty C_NotLet C_Lacking C_NothingToUndo C_CommandFailed C_TooMany C_EachError C_MissingError C_StateError C_LimitError) : Exn P w K mg base "InvalidNumber" C_InvalidNumber 1 ["self", "value"] (spE1 C_InvalidNumber "value") := by
  obtain ⟨f, fd, iC, fC, F⟩ := M.i_InvalidNumber
  exact ⟨f, fd, ox_InvalidNumber M, iC, fC, ok_InvalidNumber M F, M.m_InvalidNumber, F.bindsN fun _ _ _ _ _ _ us hl => match us, hl with | [_, _], _ => rfl⟩
theorem k_InvalidNumber (M : Md K mg C_InvalidName C_InvalidCount C_InvalidNumber C_InvalidMany C_InvalidRatio C_InvalidKinds C_InvalidLink C_InvalidEnd C_InvalidModel C_InvalidTotal C_InvalidPair C_InvalidRow C_InvalidPairs C_InvalidDatabase C_InvalidWay C_InvalidSizes C_InvalidTold C_InvalidText C_InvalidClaim C_InvalidCommand C_EmptyBy C_UnknownKind C_UnknownLink C_UnknownRow C_UnknownThing C_Apart C_Taken C_Empty C_NotLet C_Lacking C_NothingToUndo C_CommandFailed C_TooMany C_EachError C_MissingError C_StateError C_LimitError) : Exk P w K mg base "InvalidNumber" C_InvalidNumber 1 ["value"] (fun vs zs => vs ++ zs.reverse) (spE1 C_InvalidNumber "value") := by
  obtain ⟨f, fd, iC, fC, F⟩ := M.i_InvalidNumber
  exact ⟨f, fd, _, _, ox_InvalidNumber M, iC, fC, ok_InvalidNumber M F, M.m_InvalidNumber, kbn0 F 1 ["value"] (fun vs zs => vs ++ zs.reverse) (fun r1 r2 => r1.append (vals_rev r2)) fun _ _ _ _ _ _ us ws l1 l2 => match us, ws, l1, l2 with | [_], [_], _, _ => rfl⟩
theorem ex_InvalidMany (M : Md K mg C_InvalidName C_InvalidCount C_InvalidNumber C_InvalidMany C_InvalidRatio C_InvalidKinds C_InvalidLink C_InvalidEnd C_InvalidModel C_InvalidTotal C_InvalidPair C_InvalidRow C_InvalidPairs C_InvalidDatabase C_InvalidWay C_InvalidSizes C_InvalidTold C_InvalidText C_InvalidClaim C_InvalidCommand C_EmptyBy C_UnknownKind C_UnknownLink C_UnknownRow C_UnknownThing C_Apart C_Taken C_Empty C_NotLet C_Lacking C_NothingToUndo C_CommandFailed C_TooMany C_EachError C_MissingError C_StateError C_LimitError) : ExcC K C_InvalidMany := M.x_InvalidMany.exc (ups _ _ "ValueError") M.hn_exc M.ht_exc
theorem xf_InvalidMany (M : Md K mg C_InvalidName C_InvalidCount C_InvalidNumber C_InvalidMany C_InvalidRatio C_InvalidKinds C_InvalidLink C_InvalidEnd C_InvalidModel C_InvalidTotal C_InvalidPair C_InvalidRow C_InvalidPairs C_InvalidDatabase C_InvalidWay C_InvalidSizes C_InvalidTold C_InvalidText C_InvalidClaim C_InvalidCommand C_EmptyBy C_UnknownKind C_UnknownLink C_UnknownRow C_UnknownThing C_Apart C_Taken C_Empty C_NotLet C_Lacking C_NothingToUndo C_CommandFailed C_TooMany C_EachError C_MissingError C_StateError C_LimitError) : XfC K C_InvalidMany := M.x_InvalidMany.xf (ups _ _ "ValueError")
theorem ox_InvalidMany (M : Md K mg C_InvalidName C_InvalidCount C_InvalidNumber C_InvalidMany C_InvalidRatio C_InvalidKinds C_InvalidLink C_InvalidEnd C_InvalidModel C_InvalidTotal C_InvalidPair C_InvalidRow C_InvalidPairs C_InvalidDatabase C_InvalidWay C_InvalidSizes C_InvalidTold C_InvalidText C_InvalidClaim C_InvalidCommand C_EmptyBy C_UnknownKind C_UnknownLink C_UnknownRow C_UnknownThing C_Apart C_Taken C_Empty C_NotLet C_Lacking C_NothingToUndo C_CommandFailed C_TooMany C_EachError C_MissingError C_StateError C_LimitError) : OexG K C_InvalidMany := M.x_InvalidMany.oex (ups _ _ "ValueError") PySem.F.excBase_ValueError PySem.F.store_ValueError
theorem ok_InvalidMany (M : Md K mg C_InvalidName C_InvalidCount C_InvalidNumber C_InvalidMany C_InvalidRatio C_InvalidKinds C_InvalidLink C_InvalidEnd C_InvalidModel C_InvalidTotal C_InvalidPair C_InvalidRow C_InvalidPairs C_InvalidDatabase C_InvalidWay C_InvalidSizes C_InvalidTold C_InvalidText C_InvalidClaim C_InvalidCommand C_EmptyBy C_UnknownKind C_UnknownLink C_UnknownRow C_UnknownThing C_Apart C_Taken C_Empty C_NotLet C_Lacking C_NothingToUndo C_CommandFailed C_TooMany C_EachError C_MissingError C_StateError C_LimitError) {f : Addr} {fd : FuncData} (F : FunD K "__init__" "InvalidMany.__init__" (defArgs st_InvalidMany___init__) (defBody st_InvalidMany___init__) (defScope st_InvalidMany___init__) [] [] f fd) : FnG P w K mg base CX0 1 f fd ["self", "value"] (spE1 C_InvalidMany "value") := by
  refine fnG_body F sc_InvalidMany___init__ (fun vs H Q E h => ?_) (fun cdv A outer s H vs Q E hr h => ?_)
  · obtain ⟨a, y, rfl, _⟩ := h
    rfl
  · obtain ⟨a, y, rfl, ha, q⟩ := h
    have T := ox_InvalidMany M
    have n0 := M.n_InvalidMany_value
    refine ⟨_, (pss_one (ps_ostG (pv 0) (pv 1) rfl)), ?_⟩
    refine st_eq (σ := [some _, some _]) rfl ?_
    walk_at "rd"
    refine ⟨a, C_InvalidMany, rfl, T, n0, .inl ⟨ha, fun d nd ne => ?_⟩⟩
    walk_at "rd"
    exact q d nd ne
theorem c_InvalidMany (M : Md K mg C_InvalidName C_InvalidCount C_InvalidNumber C_InvalidMany C_InvalidRatio C_InvalidKinds C_InvalidLink C_InvalidEnd C_InvalidModel C_InvalidTotal C_InvalidPair C_InvalidRow C_InvalidPairs C_InvalidDatabase C_InvalidWay C_InvalidSizes C_InvalidTold C_InvalidText C_InvalidClaim C_InvalidCommand C_EmptyBy C_UnknownKind C_UnknownLink C_UnknownRow C_UnknownThing C_Apart C_Taken C_Empty C_NotLet C_Lacking C_NothingToUndo C_CommandFailed C_TooMany C_EachError C_MissingError C_StateError C_LimitError) : Exn P w K mg base "InvalidMany" C_InvalidMany 1 ["self", "value"] (spE1 C_InvalidMany "value") := by
  obtain ⟨f, fd, iC, fC, F⟩ := M.i_InvalidMany
  exact ⟨f, fd, ox_InvalidMany M, iC, fC, ok_InvalidMany M F, M.m_InvalidMany, F.bindsN fun _ _ _ _ _ _ us hl => match us, hl with | [_, _], _ => rfl⟩
theorem k_InvalidMany (M : Md K mg C_InvalidName C_InvalidCount C_InvalidNumber C_InvalidMany C_InvalidRatio C_InvalidKinds C_InvalidLink C_InvalidEnd C_InvalidModel C_InvalidTotal C_InvalidPair C_InvalidRow C_InvalidPairs C_InvalidDatabase C_InvalidWay C_InvalidSizes C_InvalidTold C_InvalidText C_InvalidClaim C_InvalidCommand C_EmptyBy C_UnknownKind C_UnknownLink C_UnknownRow C_UnknownThing C_Apart C_Taken C_Empty C_NotLet C_Lacking C_NothingToUndo C_CommandFailed C_TooMany C_EachError C_MissingError C_StateError C_LimitError) : Exk P w K mg base "InvalidMany" C_InvalidMany 1 ["value"] (fun vs zs => vs ++ zs.reverse) (spE1 C_InvalidMany "value") := by
  obtain ⟨f, fd, iC, fC, F⟩ := M.i_InvalidMany
  exact ⟨f, fd, _, _, ox_InvalidMany M, iC, fC, ok_InvalidMany M F, M.m_InvalidMany, kbn0 F 1 ["value"] (fun vs zs => vs ++ zs.reverse) (fun r1 r2 => r1.append (vals_rev r2)) fun _ _ _ _ _ _ us ws l1 l2 => match us, ws, l1, l2 with | [_], [_], _, _ => rfl⟩
theorem ex_InvalidRatio (M : Md K mg C_InvalidName C_InvalidCount C_InvalidNumber C_InvalidMany C_InvalidRatio C_InvalidKinds C_InvalidLink C_InvalidEnd C_InvalidModel C_InvalidTotal C_InvalidPair C_InvalidRow C_InvalidPairs C_InvalidDatabase C_InvalidWay C_InvalidSizes C_InvalidTold C_InvalidText C_InvalidClaim C_InvalidCommand C_EmptyBy C_UnknownKind C_UnknownLink C_UnknownRow C_UnknownThing C_Apart C_Taken C_Empty C_NotLet C_Lacking C_NothingToUndo C_CommandFailed C_TooMany C_EachError C_MissingError C_StateError C_LimitError) : ExcC K C_InvalidRatio := M.x_InvalidRatio.exc (ups _ _ "ValueError") M.hn_exc M.ht_exc
theorem xf_InvalidRatio (M : Md K mg C_InvalidName C_InvalidCount C_InvalidNumber C_InvalidMany C_InvalidRatio C_InvalidKinds C_InvalidLink C_InvalidEnd C_InvalidModel C_InvalidTotal C_InvalidPair C_InvalidRow C_InvalidPairs C_InvalidDatabase C_InvalidWay C_InvalidSizes C_InvalidTold C_InvalidText C_InvalidClaim C_InvalidCommand C_EmptyBy C_UnknownKind C_UnknownLink C_UnknownRow C_UnknownThing C_Apart C_Taken C_Empty C_NotLet C_Lacking C_NothingToUndo C_CommandFailed C_TooMany C_EachError C_MissingError C_StateError C_LimitError) : XfC K C_InvalidRatio := M.x_InvalidRatio.xf (ups _ _ "ValueError")
theorem ox_InvalidRatio (M : Md K mg C_InvalidName C_InvalidCount C_InvalidNumber C_InvalidMany C_InvalidRatio C_InvalidKinds C_InvalidLink C_InvalidEnd C_InvalidModel C_InvalidTotal C_InvalidPair C_InvalidRow C_InvalidPairs C_InvalidDatabase C_InvalidWay C_InvalidSizes C_InvalidTold C_InvalidText C_InvalidClaim C_InvalidCommand C_EmptyBy C_UnknownKind C_UnknownLink C_UnknownRow C_UnknownThing C_Apart C_Taken C_Empty C_NotLet C_Lacking C_NothingToUndo C_CommandFailed C_TooMany C_EachError C_MissingError C_StateError C_LimitError) : OexG K C_InvalidRatio := M.x_InvalidRatio.oex (ups _ _ "ValueError") PySem.F.excBase_ValueError PySem.F.store_ValueError
theorem ok_InvalidRatio (M : Md K mg C_InvalidName C_InvalidCount C_InvalidNumber C_InvalidMany C_InvalidRatio C_InvalidKinds C_InvalidLink C_InvalidEnd C_InvalidModel C_InvalidTotal C_InvalidPair C_InvalidRow C_InvalidPairs C_InvalidDatabase C_InvalidWay C_InvalidSizes C_InvalidTold C_InvalidText C_InvalidClaim C_InvalidCommand C_EmptyBy C_UnknownKind C_UnknownLink C_UnknownRow C_UnknownThing C_Apart C_Taken C_Empty C_NotLet C_Lacking C_NothingToUndo C_CommandFailed C_TooMany C_EachError C_MissingError C_StateError C_LimitError) {f : Addr} {fd : FuncData} (F : FunD K "__init__" "InvalidRatio.__init__" (defArgs st_InvalidRatio___init__) (defBody st_InvalidRatio___init__) (defScope st_InvalidRatio___init__) [] [] f fd) : FnG P w K mg base CX0 1 f fd ["self", "value"] (spE1 C_InvalidRatio "value") := by
  refine fnG_body F sc_InvalidRatio___init__ (fun vs H Q E h => ?_) (fun cdv A outer s H vs Q E hr h => ?_)
  · obtain ⟨a, y, rfl, _⟩ := h
    rfl
  · obtain ⟨a, y, rfl, ha, q⟩ := h
    have T := ox_InvalidRatio M
    have n0 := M.n_InvalidRatio_value
    refine ⟨_, (pss_one (ps_ostG (pv 0) (pv 1) rfl)), ?_⟩
    refine st_eq (σ := [some _, some _]) rfl ?_
    walk_at "rd"
    refine ⟨a, C_InvalidRatio, rfl, T, n0, .inl ⟨ha, fun d nd ne => ?_⟩⟩
    walk_at "rd"
    exact q d nd ne
theorem c_InvalidRatio (M : Md K mg C_InvalidName C_InvalidCount C_InvalidNumber C_InvalidMany C_InvalidRatio C_InvalidKinds C_InvalidLink C_InvalidEnd C_InvalidModel C_InvalidTotal C_InvalidPair C_InvalidRow C_InvalidPairs C_InvalidDatabase C_InvalidWay C_InvalidSizes C_InvalidTold C_InvalidText C_InvalidClaim C_InvalidCommand C_EmptyBy C_UnknownKind C_UnknownLink C_UnknownRow C_UnknownThing C_Apart C_Taken C_Empty C_NotLet C_Lacking C_NothingToUndo C_CommandFailed C_TooMany C_EachError C_MissingError C_StateError C_LimitError) : Exn P w K mg base "InvalidRatio" C_InvalidRatio 1 ["self", "value"] (spE1 C_InvalidRatio "value") := by
  obtain ⟨f, fd, iC, fC, F⟩ := M.i_InvalidRatio
  exact ⟨f, fd, ox_InvalidRatio M, iC, fC, ok_InvalidRatio M F, M.m_InvalidRatio, F.bindsN fun _ _ _ _ _ _ us hl => match us, hl with | [_, _], _ => rfl⟩
theorem k_InvalidRatio (M : Md K mg C_InvalidName C_InvalidCount C_InvalidNumber C_InvalidMany C_InvalidRatio C_InvalidKinds C_InvalidLink C_InvalidEnd C_InvalidModel C_InvalidTotal C_InvalidPair C_InvalidRow C_InvalidPairs C_InvalidDatabase C_InvalidWay C_InvalidSizes C_InvalidTold C_InvalidText C_InvalidClaim C_InvalidCommand C_EmptyBy C_UnknownKind C_UnknownLink C_UnknownRow C_UnknownThing C_Apart C_Taken C_Empty C_NotLet C_Lacking C_NothingToUndo C_CommandFailed C_TooMany C_EachError C_MissingError C_StateError C_LimitError) : Exk P w K mg base "InvalidRatio" C_InvalidRatio 1 ["value"] (fun vs zs => vs ++ zs.reverse) (spE1 C_InvalidRatio "value") := by
  obtain ⟨f, fd, iC, fC, F⟩ := M.i_InvalidRatio
  exact ⟨f, fd, _, _, ox_InvalidRatio M, iC, fC, ok_InvalidRatio M F, M.m_InvalidRatio, kbn0 F 1 ["value"] (fun vs zs => vs ++ zs.reverse) (fun r1 r2 => r1.append (vals_rev r2)) fun _ _ _ _ _ _ us ws l1 l2 => match us, ws, l1, l2 with | [_], [_], _, _ => rfl⟩
theorem ex_InvalidKinds (M : Md K mg C_InvalidName C_InvalidCount C_InvalidNumber C_InvalidMany C_InvalidRatio C_InvalidKinds C_InvalidLink C_InvalidEnd C_InvalidModel C_InvalidTotal C_InvalidPair C_InvalidRow C_InvalidPairs C_InvalidDatabase C_InvalidWay C_InvalidSizes C_InvalidTold C_InvalidText C_InvalidClaim C_InvalidCommand C_EmptyBy C_UnknownKind C_UnknownLink C_UnknownRow C_UnknownThing C_Apart C_Taken C_Empty C_NotLet C_Lacking C_NothingToUndo C_CommandFailed C_TooMany C_EachError C_MissingError C_StateError C_LimitError) : ExcC K C_InvalidKinds := M.x_InvalidKinds.exc (ups _ _ "ValueError") M.hn_exc M.ht_exc
theorem xf_InvalidKinds (M : Md K mg C_InvalidName C_InvalidCount C_InvalidNumber C_InvalidMany C_InvalidRatio C_InvalidKinds C_InvalidLink C_InvalidEnd C_InvalidModel C_InvalidTotal C_InvalidPair C_InvalidRow C_InvalidPairs C_InvalidDatabase C_InvalidWay C_InvalidSizes C_InvalidTold C_InvalidText C_InvalidClaim C_InvalidCommand C_EmptyBy C_UnknownKind C_UnknownLink C_UnknownRow C_UnknownThing C_Apart C_Taken C_Empty C_NotLet C_Lacking C_NothingToUndo C_CommandFailed C_TooMany C_EachError C_MissingError C_StateError C_LimitError) : XfC K C_InvalidKinds := M.x_InvalidKinds.xf (ups _ _ "ValueError")
theorem ox_InvalidKinds (M : Md K mg C_InvalidName C_InvalidCount C_InvalidNumber C_InvalidMany C_InvalidRatio C_InvalidKinds C_InvalidLink C_InvalidEnd C_InvalidModel C_InvalidTotal C_InvalidPair C_InvalidRow C_InvalidPairs C_InvalidDatabase C_InvalidWay C_InvalidSizes C_InvalidTold C_InvalidText C_InvalidClaim C_InvalidCommand C_EmptyBy C_UnknownKind C_UnknownLink C_UnknownRow C_UnknownThing C_Apart C_Taken C_Empty C_NotLet C_Lacking C_NothingToUndo C_CommandFailed C_TooMany C_EachError C_MissingError C_StateError C_LimitError) : OexG K C_InvalidKinds := M.x_InvalidKinds.oex (ups _ _ "ValueError") PySem.F.excBase_ValueError PySem.F.store_ValueError
theorem ok_InvalidKinds (M : Md K mg C_InvalidName C_InvalidCount C_InvalidNumber C_InvalidMany C_InvalidRatio C_InvalidKinds C_InvalidLink C_InvalidEnd C_InvalidModel C_InvalidTotal C_InvalidPair C_InvalidRow C_InvalidPairs C_InvalidDatabase C_InvalidWay C_InvalidSizes C_InvalidTold C_InvalidText C_InvalidClaim C_InvalidCommand C_EmptyBy C_UnknownKind C_UnknownLink C_UnknownRow C_UnknownThing C_Apart C_Taken C_Empty C_NotLet C_Lacking C_NothingToUndo C_CommandFailed C_TooMany C_EachError C_MissingError C_StateError C_LimitError) {f : Addr} {fd : FuncData} (F : FunD K "__init__" "InvalidKinds.__init__" (defArgs st_InvalidKinds___init__) (defBody st_InvalidKinds___init__) (defScope st_InvalidKinds___init__) [] [] f fd) : FnG P w K mg base CX0 1 f fd ["self", "position"] (spE1 C_InvalidKinds "position") := by
  refine fnG_body F sc_InvalidKinds___init__ (fun vs H Q E h => ?_) (fun cdv A outer s H vs Q E hr h => ?_)
  · obtain ⟨a, y, rfl, _⟩ := h
    rfl
  · obtain ⟨a, y, rfl, ha, q⟩ := h
    have T := ox_InvalidKinds M
    have n0 := M.n_InvalidKinds_position
    refine ⟨_, (pss_one (ps_ostG (pv 0) (pv 1) rfl)), ?_⟩
    refine st_eq (σ := [some _, some _]) rfl ?_
    walk_at "rd"
    refine ⟨a, C_InvalidKinds, rfl, T, n0, .inl ⟨ha, fun d nd ne => ?_⟩⟩
    walk_at "rd"
    exact q d nd ne
theorem c_InvalidKinds (M : Md K mg C_InvalidName C_InvalidCount C_InvalidNumber C_InvalidMany C_InvalidRatio C_InvalidKinds C_InvalidLink C_InvalidEnd C_InvalidModel C_InvalidTotal C_InvalidPair C_InvalidRow C_InvalidPairs C_InvalidDatabase C_InvalidWay C_InvalidSizes C_InvalidTold C_InvalidText C_InvalidClaim C_InvalidCommand C_EmptyBy C_UnknownKind C_UnknownLink C_UnknownRow C_UnknownThing C_Apart C_Taken C_Empty C_NotLet C_Lacking C_NothingToUndo C_CommandFailed C_TooMany C_EachError C_MissingError C_StateError C_LimitError) : Exn P w K mg base "InvalidKinds" C_InvalidKinds 1 ["self", "position"] (spE1 C_InvalidKinds "position") := by
  obtain ⟨f, fd, iC, fC, F⟩ := M.i_InvalidKinds
  exact ⟨f, fd, ox_InvalidKinds M, iC, fC, ok_InvalidKinds M F, M.m_InvalidKinds, F.bindsN fun _ _ _ _ _ _ us hl => match us, hl with | [_, _], _ => rfl⟩
theorem k_InvalidKinds (M : Md K mg C_InvalidName C_InvalidCount C_InvalidNumber C_InvalidMany C_InvalidRatio C_InvalidKinds C_InvalidLink C_InvalidEnd C_InvalidModel C_InvalidTotal C_InvalidPair C_InvalidRow C_InvalidPairs C_InvalidDatabase C_InvalidWay C_InvalidSizes C_InvalidTold C_InvalidText C_InvalidClaim C_InvalidCommand C_EmptyBy C_UnknownKind C_UnknownLink C_UnknownRow C_UnknownThing C_Apart C_Taken C_Empty C_NotLet C_Lacking C_NothingToUndo C_CommandFailed C_TooMany C_EachError C_MissingError C_StateError C_LimitError) : Exk P w K mg base "InvalidKinds" C_InvalidKinds 1 ["position"] (fun vs zs => vs ++ zs.reverse) (spE1 C_InvalidKinds "position") := by
  obtain ⟨f, fd, iC, fC, F⟩ := M.i_InvalidKinds
  exact ⟨f, fd, _, _, ox_InvalidKinds M, iC, fC, ok_InvalidKinds M F, M.m_InvalidKinds, kbn0 F 1 ["position"] (fun vs zs => vs ++ zs.reverse) (fun r1 r2 => r1.append (vals_rev r2)) fun _ _ _ _ _ _ us ws l1 l2 => match us, ws, l1, l2 with | [_], [_], _, _ => rfl⟩
theorem ex_InvalidLink (M : Md K mg C_InvalidName C_InvalidCount C_InvalidNumber C_InvalidMany C_InvalidRatio C_InvalidKinds C_InvalidLink C_InvalidEnd C_InvalidModel C_InvalidTotal C_InvalidPair C_InvalidRow C_InvalidPairs C_InvalidDatabase C_InvalidWay C_InvalidSizes C_InvalidTold C_InvalidText C_InvalidClaim C_InvalidCommand C_EmptyBy C_UnknownKind C_UnknownLink C_UnknownRow C_UnknownThing C_Apart C_Taken C_Empty C_NotLet C_Lacking C_NothingToUndo C_CommandFailed C_TooMany C_EachError C_MissingError C_StateError C_LimitError) : ExcC K C_InvalidLink := M.x_InvalidLink.exc (ups _ _ "ValueError") M.hn_exc M.ht_exc
theorem xf_InvalidLink (M : Md K mg C_InvalidName C_InvalidCount C_InvalidNumber C_InvalidMany C_InvalidRatio C_InvalidKinds C_InvalidLink C_InvalidEnd C_InvalidModel C_InvalidTotal C_InvalidPair C_InvalidRow C_InvalidPairs C_InvalidDatabase C_InvalidWay C_InvalidSizes C_InvalidTold C_InvalidText C_InvalidClaim C_InvalidCommand C_EmptyBy C_UnknownKind C_UnknownLink C_UnknownRow C_UnknownThing C_Apart C_Taken C_Empty C_NotLet C_Lacking C_NothingToUndo C_CommandFailed C_TooMany C_EachError C_MissingError C_StateError C_LimitError) : XfC K C_InvalidLink := M.x_InvalidLink.xf (ups _ _ "ValueError")
theorem ox_InvalidLink (M : Md K mg C_InvalidName C_InvalidCount C_InvalidNumber C_InvalidMany C_InvalidRatio C_InvalidKinds C_InvalidLink C_InvalidEnd C_InvalidModel C_InvalidTotal C_InvalidPair C_InvalidRow C_InvalidPairs C_InvalidDatabase C_InvalidWay C_InvalidSizes C_InvalidTold C_InvalidText C_InvalidClaim C_InvalidCommand C_EmptyBy C_UnknownKind C_UnknownLink C_UnknownRow C_UnknownThing C_Apart C_Taken C_Empty C_NotLet C_Lacking C_NothingToUndo C_CommandFailed C_TooMany C_EachError C_MissingError C_StateError C_LimitError) : OexG K C_InvalidLink := M.x_InvalidLink.oex (ups _ _ "ValueError") PySem.F.excBase_ValueError PySem.F.store_ValueError
theorem ok_InvalidLink (M : Md K mg C_InvalidName C_InvalidCount C_InvalidNumber C_InvalidMany C_InvalidRatio C_InvalidKinds C_InvalidLink C_InvalidEnd C_InvalidModel C_InvalidTotal C_InvalidPair C_InvalidRow C_InvalidPairs C_InvalidDatabase C_InvalidWay C_InvalidSizes C_InvalidTold C_InvalidText C_InvalidClaim C_InvalidCommand C_EmptyBy C_UnknownKind C_UnknownLink C_UnknownRow C_UnknownThing C_Apart C_Taken C_Empty C_NotLet C_Lacking C_NothingToUndo C_CommandFailed C_TooMany C_EachError C_MissingError C_StateError C_LimitError) {f : Addr} {fd : FuncData} (F : FunD K "__init__" "InvalidLink.__init__" (defArgs st_InvalidLink___init__) (defBody st_InvalidLink___init__) (defScope st_InvalidLink___init__) [] [] f fd) : FnG P w K mg base CX0 1 f fd ["self", "value"] (spE1 C_InvalidLink "value") := by
  refine fnG_body F sc_InvalidLink___init__ (fun vs H Q E h => ?_) (fun cdv A outer s H vs Q E hr h => ?_)
  · obtain ⟨a, y, rfl, _⟩ := h
    rfl
  · obtain ⟨a, y, rfl, ha, q⟩ := h
    have T := ox_InvalidLink M
    have n0 := M.n_InvalidLink_value
    refine ⟨_, (pss_one (ps_ostG (pv 0) (pv 1) rfl)), ?_⟩
    refine st_eq (σ := [some _, some _]) rfl ?_
    walk_at "rd"
    refine ⟨a, C_InvalidLink, rfl, T, n0, .inl ⟨ha, fun d nd ne => ?_⟩⟩
    walk_at "rd"
    exact q d nd ne
theorem c_InvalidLink (M : Md K mg C_InvalidName C_InvalidCount C_InvalidNumber C_InvalidMany C_InvalidRatio C_InvalidKinds C_InvalidLink C_InvalidEnd C_InvalidModel C_InvalidTotal C_InvalidPair C_InvalidRow C_InvalidPairs C_InvalidDatabase C_InvalidWay C_InvalidSizes C_InvalidTold C_InvalidText C_InvalidClaim C_InvalidCommand C_EmptyBy C_UnknownKind C_UnknownLink C_UnknownRow C_UnknownThing C_Apart C_Taken C_Empty C_NotLet C_Lacking C_NothingToUndo C_CommandFailed C_TooMany C_EachError C_MissingError C_StateError C_LimitError) : Exn P w K mg base "InvalidLink" C_InvalidLink 1 ["self", "value"] (spE1 C_InvalidLink "value") := by
  obtain ⟨f, fd, iC, fC, F⟩ := M.i_InvalidLink
  exact ⟨f, fd, ox_InvalidLink M, iC, fC, ok_InvalidLink M F, M.m_InvalidLink, F.bindsN fun _ _ _ _ _ _ us hl => match us, hl with | [_, _], _ => rfl⟩
theorem k_InvalidLink (M : Md K mg C_InvalidName C_InvalidCount C_InvalidNumber C_InvalidMany C_InvalidRatio C_InvalidKinds C_InvalidLink C_InvalidEnd C_InvalidModel C_InvalidTotal C_InvalidPair C_InvalidRow C_InvalidPairs C_InvalidDatabase C_InvalidWay C_InvalidSizes C_InvalidTold C_InvalidText C_InvalidClaim C_InvalidCommand C_EmptyBy C_UnknownKind C_UnknownLink C_UnknownRow C_UnknownThing C_Apart C_Taken C_Empty C_NotLet C_Lacking C_NothingToUndo C_CommandFailed C_TooMany C_EachError C_MissingError C_StateError C_LimitError) : Exk P w K mg base "InvalidLink" C_InvalidLink 1 ["value"] (fun vs zs => vs ++ zs.reverse) (spE1 C_InvalidLink "value") := by
  obtain ⟨f, fd, iC, fC, F⟩ := M.i_InvalidLink
  exact ⟨f, fd, _, _, ox_InvalidLink M, iC, fC, ok_InvalidLink M F, M.m_InvalidLink, kbn0 F 1 ["value"] (fun vs zs => vs ++ zs.reverse) (fun r1 r2 => r1.append (vals_rev r2)) fun _ _ _ _ _ _ us ws l1 l2 => match us, ws, l1, l2 with | [_], [_], _, _ => rfl⟩
theorem ex_InvalidEnd (M : Md K mg C_InvalidName C_InvalidCount C_InvalidNumber C_InvalidMany C_InvalidRatio C_InvalidKinds C_InvalidLink C_InvalidEnd C_InvalidModel C_InvalidTotal C_InvalidPair C_InvalidRow C_InvalidPairs C_InvalidDatabase C_InvalidWay C_InvalidSizes C_InvalidTold C_InvalidText C_InvalidClaim C_InvalidCommand C_EmptyBy C_UnknownKind C_UnknownLink C_UnknownRow C_UnknownThing C_Apart C_Taken C_Empty C_NotLet C_Lacking C_NothingToUndo C_CommandFailed C_TooMany C_EachError C_MissingError C_StateError C_LimitError) : ExcC K C_InvalidEnd := M.x_InvalidEnd.exc (ups _ _ "ValueError") M.hn_exc M.ht_exc
theorem xf_InvalidEnd (M : Md K mg C_InvalidName C_InvalidCount C_InvalidNumber C_InvalidMany C_InvalidRatio C_InvalidKinds C_InvalidLink C_InvalidEnd C_InvalidModel C_InvalidTotal C_InvalidPair C_InvalidRow C_InvalidPairs C_InvalidDatabase C_InvalidWay C_InvalidSizes C_InvalidTold C_InvalidText C_InvalidClaim C_InvalidCommand C_EmptyBy C_UnknownKind C_UnknownLink C_UnknownRow C_UnknownThing C_Apart C_Taken C_Empty C_NotLet C_Lacking C_NothingToUndo C_CommandFailed C_TooMany C_EachError C_MissingError C_StateError C_LimitError) : XfC K C_InvalidEnd := M.x_InvalidEnd.xf (ups _ _ "ValueError")
theorem ox_InvalidEnd (M : Md K mg C_InvalidName C_InvalidCount C_InvalidNumber C_InvalidMany C_InvalidRatio C_InvalidKinds C_InvalidLink C_InvalidEnd C_InvalidModel C_InvalidTotal C_InvalidPair C_InvalidRow C_InvalidPairs C_InvalidDatabase C_InvalidWay C_InvalidSizes C_InvalidTold C_InvalidText C_InvalidClaim C_InvalidCommand C_EmptyBy C_UnknownKind C_UnknownLink C_UnknownRow C_UnknownThing C_Apart C_Taken C_Empty C_NotLet C_Lacking C_NothingToUndo C_CommandFailed C_TooMany C_EachError C_MissingError C_StateError C_LimitError) : OexG K C_InvalidEnd := M.x_InvalidEnd.oex (ups _ _ "ValueError") PySem.F.excBase_ValueError PySem.F.store_ValueError
theorem ok_InvalidEnd (M : Md K mg C_InvalidName C_InvalidCount C_InvalidNumber C_InvalidMany C_InvalidRatio C_InvalidKinds C_InvalidLink C_InvalidEnd C_InvalidModel C_InvalidTotal C_InvalidPair C_InvalidRow C_InvalidPairs C_InvalidDatabase C_InvalidWay C_InvalidSizes C_InvalidTold C_InvalidText C_InvalidClaim C_InvalidCommand C_EmptyBy C_UnknownKind C_UnknownLink C_UnknownRow C_UnknownThing C_Apart C_Taken C_Empty C_NotLet C_Lacking C_NothingToUndo C_CommandFailed C_TooMany C_EachError C_MissingError C_StateError C_LimitError) {f : Addr} {fd : FuncData} (F : FunD K "__init__" "InvalidEnd.__init__" (defArgs st_InvalidEnd___init__) (defBody st_InvalidEnd___init__) (defScope st_InvalidEnd___init__) [] [] f fd) : FnG P w K mg base CX0 1 f fd ["self", "value"] (spE1 C_InvalidEnd "value") := by
  refine fnG_body F sc_InvalidEnd___init__ (fun vs H Q E h => ?_) (fun cdv A outer s H vs Q E hr h => ?_)
  · obtain ⟨a, y, rfl, _⟩ := h
    rfl
  · obtain ⟨a, y, rfl, ha, q⟩ := h
    have T := ox_InvalidEnd M
    have n0 := M.n_InvalidEnd_value
    refine ⟨_, (pss_one (ps_ostG (pv 0) (pv 1) rfl)), ?_⟩
    refine st_eq (σ := [some _, some _]) rfl ?_
    walk_at "rd"
    refine ⟨a, C_InvalidEnd, rfl, T, n0, .inl ⟨ha, fun d nd ne => ?_⟩⟩
    walk_at "rd"
    exact q d nd ne
theorem c_InvalidEnd (M : Md K mg C_InvalidName C_InvalidCount C_InvalidNumber C_InvalidMany C_InvalidRatio C_InvalidKinds C_InvalidLink C_InvalidEnd C_InvalidModel C_InvalidTotal C_InvalidPair C_InvalidRow C_InvalidPairs C_InvalidDatabase C_InvalidWay C_InvalidSizes C_InvalidTold C_InvalidText C_InvalidClaim C_InvalidCommand C_EmptyBy C_UnknownKind C_UnknownLink C_UnknownRow C_UnknownThing C_Apart C_Taken C_Empty C_NotLet C_Lacking C_NothingToUndo C_CommandFailed C_TooMany C_EachError C_MissingError C_StateError C_LimitError) : Exn P w K mg base "InvalidEnd" C_InvalidEnd 1 ["self", "value"] (spE1 C_InvalidEnd "value") := by
  obtain ⟨f, fd, iC, fC, F⟩ := M.i_InvalidEnd
  exact ⟨f, fd, ox_InvalidEnd M, iC, fC, ok_InvalidEnd M F, M.m_InvalidEnd, F.bindsN fun _ _ _ _ _ _ us hl => match us, hl with | [_, _], _ => rfl⟩
theorem k_InvalidEnd (M : Md K mg C_InvalidName C_InvalidCount C_InvalidNumber C_InvalidMany C_InvalidRatio C_InvalidKinds C_InvalidLink C_InvalidEnd C_InvalidModel C_InvalidTotal C_InvalidPair C_InvalidRow C_InvalidPairs C_InvalidDatabase C_InvalidWay C_InvalidSizes C_InvalidTold C_InvalidText C_InvalidClaim C_InvalidCommand C_EmptyBy C_UnknownKind C_UnknownLink C_UnknownRow C_UnknownThing C_Apart C_Taken C_Empty C_NotLet C_Lacking C_NothingToUndo C_CommandFailed C_TooMany C_EachError C_MissingError C_StateError C_LimitError) : Exk P w K mg base "InvalidEnd" C_InvalidEnd 1 ["value"] (fun vs zs => vs ++ zs.reverse) (spE1 C_InvalidEnd "value") := by
  obtain ⟨f, fd, iC, fC, F⟩ := M.i_InvalidEnd
  exact ⟨f, fd, _, _, ox_InvalidEnd M, iC, fC, ok_InvalidEnd M F, M.m_InvalidEnd, kbn0 F 1 ["value"] (fun vs zs => vs ++ zs.reverse) (fun r1 r2 => r1.append (vals_rev r2)) fun _ _ _ _ _ _ us ws l1 l2 => match us, ws, l1, l2 with | [_], [_], _, _ => rfl⟩
theorem ex_InvalidModel (M : Md K mg C_InvalidName C_InvalidCount C_InvalidNumber C_InvalidMany C_InvalidRatio C_InvalidKinds C_InvalidLink C_InvalidEnd C_InvalidModel C_InvalidTotal C_InvalidPair C_InvalidRow C_InvalidPairs C_InvalidDatabase C_InvalidWay C_InvalidSizes C_InvalidTold C_InvalidText C_InvalidClaim C_InvalidCommand C_EmptyBy C_UnknownKind C_UnknownLink C_UnknownRow C_UnknownThing C_Apart C_Taken C_Empty C_NotLet C_Lacking C_NothingToUndo C_CommandFailed C_TooMany C_EachError C_MissingError C_StateError C_LimitError) : ExcC K C_InvalidModel := M.x_InvalidModel.exc (ups _ _ "ValueError") M.hn_exc M.ht_exc
theorem xf_InvalidModel (M : Md K mg C_InvalidName C_InvalidCount C_InvalidNumber C_InvalidMany C_InvalidRatio C_InvalidKinds C_InvalidLink C_InvalidEnd C_InvalidModel C_InvalidTotal C_InvalidPair C_InvalidRow C_InvalidPairs C_InvalidDatabase C_InvalidWay C_InvalidSizes C_InvalidTold C_InvalidText C_InvalidClaim C_InvalidCommand C_EmptyBy C_UnknownKind C_UnknownLink C_UnknownRow C_UnknownThing C_Apart C_Taken C_Empty C_NotLet C_Lacking C_NothingToUndo C_CommandFailed C_TooMany C_EachError C_MissingError C_StateError C_LimitError) : XfC K C_InvalidModel := M.x_InvalidModel.xf (ups _ _ "ValueError")
theorem ox_InvalidModel (M : Md K mg C_InvalidName C_InvalidCount C_InvalidNumber C_InvalidMany C_InvalidRatio C_InvalidKinds C_InvalidLink C_InvalidEnd C_InvalidModel C_InvalidTotal C_InvalidPair C_InvalidRow C_InvalidPairs C_InvalidDatabase C_InvalidWay C_InvalidSizes C_InvalidTold C_InvalidText C_InvalidClaim C_InvalidCommand C_EmptyBy C_UnknownKind C_UnknownLink C_UnknownRow C_UnknownThing C_Apart C_Taken C_Empty C_NotLet C_Lacking C_NothingToUndo C_CommandFailed C_TooMany C_EachError C_MissingError C_StateError C_LimitError) : OexG K C_InvalidModel := M.x_InvalidModel.oex (ups _ _ "ValueError") PySem.F.excBase_ValueError PySem.F.store_ValueError
theorem ok_InvalidModel (M : Md K mg C_InvalidName C_InvalidCount C_InvalidNumber C_InvalidMany C_InvalidRatio C_InvalidKinds C_InvalidLink C_InvalidEnd C_InvalidModel C_InvalidTotal C_InvalidPair C_InvalidRow C_InvalidPairs C_InvalidDatabase C_InvalidWay C_InvalidSizes C_InvalidTold C_InvalidText C_InvalidClaim C_InvalidCommand C_EmptyBy C_UnknownKind C_UnknownLink C_UnknownRow C_UnknownThing C_Apart C_Taken C_Empty C_NotLet C_Lacking C_NothingToUndo C_CommandFailed C_TooMany C_EachError C_MissingError C_StateError C_LimitError) {f : Addr} {fd : FuncData} (F : FunD K "__init__" "InvalidModel.__init__" (defArgs st_InvalidModel___init__) (defBody st_InvalidModel___init__) (defScope st_InvalidModel___init__) [] [] f fd) : FnG P w K mg base CX0 1 f fd ["self", "value"] (spE1 C_InvalidModel "value") := by
  refine fnG_body F sc_InvalidModel___init__ (fun vs H Q E h => ?_) (fun cdv A outer s H vs Q E hr h => ?_)
  · obtain ⟨a, y, rfl, _⟩ := h
    rfl
  · obtain ⟨a, y, rfl, ha, q⟩ := h
    have T := ox_InvalidModel M
    have n0 := M.n_InvalidModel_value
    refine ⟨_, (pss_one (ps_ostG (pv 0) (pv 1) rfl)), ?_⟩
    refine st_eq (σ := [some _, some _]) rfl ?_
    walk_at "rd"
    refine ⟨a, C_InvalidModel, rfl, T, n0, .inl ⟨ha, fun d nd ne => ?_⟩⟩
    walk_at "rd"
    exact q d nd ne
theorem c_InvalidModel (M : Md K mg C_InvalidName C_InvalidCount C_InvalidNumber C_InvalidMany C_InvalidRatio C_InvalidKinds C_InvalidLink C_InvalidEnd C_InvalidModel C_InvalidTotal C_InvalidPair C_InvalidRow C_InvalidPairs C_InvalidDatabase C_InvalidWay C_InvalidSizes C_InvalidTold C_InvalidText C_InvalidClaim C_InvalidCommand C_EmptyBy C_UnknownKind C_UnknownLink C_UnknownRow C_UnknownThing C_Apart C_Taken C_Empty C_NotLet C_Lacking C_NothingToUndo C_CommandFailed C_TooMany C_EachError C_MissingError C_StateError C_LimitError) : Exn P w K mg base "InvalidModel" C_InvalidModel 1 ["self", "value"] (spE1 C_InvalidModel "value") := by
  obtain ⟨f, fd, iC, fC, F⟩ := M.i_InvalidModel
  exact ⟨f, fd, ox_InvalidModel M, iC, fC, ok_InvalidModel M F, M.m_InvalidModel, F.bindsN fun _ _ _ _ _ _ us hl => match us, hl with | [_, _], _ => rfl⟩
theorem k_InvalidModel (M : Md K mg C_InvalidName C_InvalidCount C_InvalidNumber C_InvalidMany C_InvalidRatio C_InvalidKinds C_InvalidLink C_InvalidEnd C_InvalidModel C_InvalidTotal C_InvalidPair C_InvalidRow C_InvalidPairs C_InvalidDatabase C_InvalidWay C_InvalidSizes C_InvalidTold C_InvalidText C_InvalidClaim C_InvalidCommand C_EmptyBy C_UnknownKind C_UnknownLink C_UnknownRow C_UnknownThing C_Apart C_Taken C_Empty C_NotLet C_Lacking C_NothingToUndo C_CommandFailed C_TooMany C_EachError C_MissingError C_StateError C_LimitError) : Exk P w K mg base "InvalidModel" C_InvalidModel 1 ["value"] (fun vs zs => vs ++ zs.reverse) (spE1 C_InvalidModel "value") := by
  obtain ⟨f, fd, iC, fC, F⟩ := M.i_InvalidModel
  exact ⟨f, fd, _, _, ox_InvalidModel M, iC, fC, ok_InvalidModel M F, M.m_InvalidModel, kbn0 F 1 ["value"] (fun vs zs => vs ++ zs.reverse) (fun r1 r2 => r1.append (vals_rev r2)) fun _ _ _ _ _ _ us ws l1 l2 => match us, ws, l1, l2 with | [_], [_], _, _ => rfl⟩
theorem ex_InvalidTotal (M : Md K mg C_InvalidName C_InvalidCount C_InvalidNumber C_InvalidMany C_InvalidRatio C_InvalidKinds C_InvalidLink C_InvalidEnd C_InvalidModel C_InvalidTotal C_InvalidPair C_InvalidRow C_InvalidPairs C_InvalidDatabase C_InvalidWay C_InvalidSizes C_InvalidTold C_InvalidText C_InvalidClaim C_InvalidCommand C_EmptyBy C_UnknownKind C_UnknownLink C_UnknownRow C_UnknownThing C_Apart C_Taken C_Empty C_NotLet C_Lacking C_NothingToUndo C_CommandFailed C_TooMany C_EachError C_MissingError C_StateError C_LimitError) : ExcC K C_InvalidTotal := M.x_InvalidTotal.exc (ups _ _ "ValueError") M.hn_exc M.ht_exc
theorem xf_InvalidTotal (M : Md K mg C_InvalidName C_InvalidCount C_InvalidNumber C_InvalidMany C_InvalidRatio C_InvalidKinds C_InvalidLink C_InvalidEnd C_InvalidModel C_InvalidTotal C_InvalidPair C_InvalidRow C_InvalidPairs C_InvalidDatabase C_InvalidWay C_InvalidSizes C_InvalidTold C_InvalidText C_InvalidClaim C_InvalidCommand C_EmptyBy C_UnknownKind C_UnknownLink C_UnknownRow C_UnknownThing C_Apart C_Taken C_Empty C_NotLet C_Lacking C_NothingToUndo C_CommandFailed C_TooMany C_EachError C_MissingError C_StateError C_LimitError) : XfC K C_InvalidTotal := M.x_InvalidTotal.xf (ups _ _ "ValueError")
theorem ox_InvalidTotal (M : Md K mg C_InvalidName C_InvalidCount C_InvalidNumber C_InvalidMany C_InvalidRatio C_InvalidKinds C_InvalidLink C_InvalidEnd C_InvalidModel C_InvalidTotal C_InvalidPair C_InvalidRow C_InvalidPairs C_InvalidDatabase C_InvalidWay C_InvalidSizes C_InvalidTold C_InvalidText C_InvalidClaim C_InvalidCommand C_EmptyBy C_UnknownKind C_UnknownLink C_UnknownRow C_UnknownThing C_Apart C_Taken C_Empty C_NotLet C_Lacking C_NothingToUndo C_CommandFailed C_TooMany C_EachError C_MissingError C_StateError C_LimitError) : OexG K C_InvalidTotal := M.x_InvalidTotal.oex (ups _ _ "ValueError") PySem.F.excBase_ValueError PySem.F.store_ValueError
theorem ok_InvalidTotal (M : Md K mg C_InvalidName C_InvalidCount C_InvalidNumber C_InvalidMany C_InvalidRatio C_InvalidKinds C_InvalidLink C_InvalidEnd C_InvalidModel C_InvalidTotal C_InvalidPair C_InvalidRow C_InvalidPairs C_InvalidDatabase C_InvalidWay C_InvalidSizes C_InvalidTold C_InvalidText C_InvalidClaim C_InvalidCommand C_EmptyBy C_UnknownKind C_UnknownLink C_UnknownRow C_UnknownThing C_Apart C_Taken C_Empty C_NotLet C_Lacking C_NothingToUndo C_CommandFailed C_TooMany C_EachError C_MissingError C_StateError C_LimitError) {f : Addr} {fd : FuncData} (F : FunD K "__init__" "InvalidTotal.__init__" (defArgs st_InvalidTotal___init__) (defBody st_InvalidTotal___init__) (defScope st_InvalidTotal___init__) [] [] f fd) : FnG P w K mg base CX0 1 f fd ["self", "value"] (spE1 C_InvalidTotal "value") := by
  refine fnG_body F sc_InvalidTotal___init__ (fun vs H Q E h => ?_) (fun cdv A outer s H vs Q E hr h => ?_)
  · obtain ⟨a, y, rfl, _⟩ := h
    rfl
  · obtain ⟨a, y, rfl, ha, q⟩ := h
    have T := ox_InvalidTotal M
    have n0 := M.n_InvalidTotal_value
    refine ⟨_, (pss_one (ps_ostG (pv 0) (pv 1) rfl)), ?_⟩
    refine st_eq (σ := [some _, some _]) rfl ?_
    walk_at "rd"
    refine ⟨a, C_InvalidTotal, rfl, T, n0, .inl ⟨ha, fun d nd ne => ?_⟩⟩
    walk_at "rd"
    exact q d nd ne
theorem c_InvalidTotal (M : Md K mg C_InvalidName C_InvalidCount C_InvalidNumber C_InvalidMany C_InvalidRatio C_InvalidKinds C_InvalidLink C_InvalidEnd C_InvalidModel C_InvalidTotal C_InvalidPair C_InvalidRow C_InvalidPairs C_InvalidDatabase C_InvalidWay C_InvalidSizes C_InvalidTold C_InvalidText C_InvalidClaim C_InvalidCommand C_EmptyBy C_UnknownKind C_UnknownLink C_UnknownRow C_UnknownThing C_Apart C_Taken C_Empty C_NotLet C_Lacking C_NothingToUndo C_CommandFailed C_TooMany C_EachError C_MissingError C_StateError C_LimitError) : Exn P w K mg base "InvalidTotal" C_InvalidTotal 1 ["self", "value"] (spE1 C_InvalidTotal "value") := by
  obtain ⟨f, fd, iC, fC, F⟩ := M.i_InvalidTotal
  exact ⟨f, fd, ox_InvalidTotal M, iC, fC, ok_InvalidTotal M F, M.m_InvalidTotal, F.bindsN fun _ _ _ _ _ _ us hl => match us, hl with | [_, _], _ => rfl⟩
theorem k_InvalidTotal (M : Md K mg C_InvalidName C_InvalidCount C_InvalidNumber C_InvalidMany C_InvalidRatio C_InvalidKinds C_InvalidLink C_InvalidEnd C_InvalidModel C_InvalidTotal C_InvalidPair C_InvalidRow C_InvalidPairs C_InvalidDatabase C_InvalidWay C_InvalidSizes C_InvalidTold C_InvalidText C_InvalidClaim C_InvalidCommand C_EmptyBy C_UnknownKind C_UnknownLink C_UnknownRow C_UnknownThing C_Apart C_Taken C_Empty C_NotLet C_Lacking C_NothingToUndo C_CommandFailed C_TooMany C_EachError C_MissingError C_StateError C_LimitError) : Exk P w K mg base "InvalidTotal" C_InvalidTotal 1 ["value"] (fun vs zs => vs ++ zs.reverse) (spE1 C_InvalidTotal "value") := by
  obtain ⟨f, fd, iC, fC, F⟩ := M.i_InvalidTotal
  exact ⟨f, fd, _, _, ox_InvalidTotal M, iC, fC, ok_InvalidTotal M F, M.m_InvalidTotal, kbn0 F 1 ["value"] (fun vs zs => vs ++ zs.reverse) (fun r1 r2 => r1.append (vals_rev r2)) fun _ _ _ _ _ _ us ws l1 l2 => match us, ws, l1, l2 with | [_], [_], _, _ => rfl⟩
theorem ex_InvalidPair (M : Md K mg C_InvalidName C_InvalidCount C_InvalidNumber C_InvalidMany C_InvalidRatio C_InvalidKinds C_InvalidLink C_InvalidEnd C_InvalidModel C_InvalidTotal C_InvalidPair C_InvalidRow C_InvalidPairs C_InvalidDatabase C_InvalidWay C_InvalidSizes C_InvalidTold C_InvalidText C_InvalidClaim C_InvalidCommand C_EmptyBy C_UnknownKind C_UnknownLink C_UnknownRow C_UnknownThing C_Apart C_Taken C_Empty C_NotLet C_Lacking C_NothingToUndo C_CommandFailed C_TooMany C_EachError C_MissingError C_StateError C_LimitError) : ExcC K C_InvalidPair := M.x_InvalidPair.exc (ups _ _ "ValueError") M.hn_exc M.ht_exc
theorem xf_InvalidPair (M : Md K mg C_InvalidName C_InvalidCount C_InvalidNumber C_InvalidMany C_InvalidRatio C_InvalidKinds C_InvalidLink C_InvalidEnd C_InvalidModel C_InvalidTotal C_InvalidPair C_InvalidRow C_InvalidPairs C_InvalidDatabase C_InvalidWay C_InvalidSizes C_InvalidTold C_InvalidText C_InvalidClaim C_InvalidCommand C_EmptyBy C_UnknownKind C_UnknownLink C_UnknownRow C_UnknownThing C_Apart C_Taken C_Empty C_NotLet C_Lacking C_NothingToUndo C_CommandFailed C_TooMany C_EachError C_MissingError C_StateError C_LimitError) : XfC K C_InvalidPair := M.x_InvalidPair.xf (ups _ _ "ValueError")
theorem ox_InvalidPair (M : Md K mg C_InvalidName C_InvalidCount C_InvalidNumber C_InvalidMany C_InvalidRatio C_InvalidKinds C_InvalidLink C_InvalidEnd C_InvalidModel C_InvalidTotal C_InvalidPair C_InvalidRow C_InvalidPairs C_InvalidDatabase C_InvalidWay C_InvalidSizes C_InvalidTold C_InvalidText C_InvalidClaim C_InvalidCommand C_EmptyBy C_UnknownKind C_UnknownLink C_UnknownRow C_UnknownThing C_Apart C_Taken C_Empty C_NotLet C_Lacking C_NothingToUndo C_CommandFailed C_TooMany C_EachError C_MissingError C_StateError C_LimitError) : OexG K C_InvalidPair := M.x_InvalidPair.oex (ups _ _ "ValueError") PySem.F.excBase_ValueError PySem.F.store_ValueError
theorem ok_InvalidPair (M : Md K mg C_InvalidName C_InvalidCount C_InvalidNumber C_InvalidMany C_InvalidRatio C_InvalidKinds C_InvalidLink C_InvalidEnd C_InvalidModel C_InvalidTotal C_InvalidPair C_InvalidRow C_InvalidPairs C_InvalidDatabase C_InvalidWay C_InvalidSizes C_InvalidTold C_InvalidText C_InvalidClaim C_InvalidCommand C_EmptyBy C_UnknownKind C_UnknownLink C_UnknownRow C_UnknownThing C_Apart C_Taken C_Empty C_NotLet C_Lacking C_NothingToUndo C_CommandFailed C_TooMany C_EachError C_MissingError C_StateError C_LimitError) {f : Addr} {fd : FuncData} (F : FunD K "__init__" "InvalidPair.__init__" (defArgs st_InvalidPair___init__) (defBody st_InvalidPair___init__) (defScope st_InvalidPair___init__) [] [] f fd) : FnG P w K mg base CX0 1 f fd ["self", "value"] (spE1 C_InvalidPair "value") := by
  refine fnG_body F sc_InvalidPair___init__ (fun vs H Q E h => ?_) (fun cdv A outer s H vs Q E hr h => ?_)
  · obtain ⟨a, y, rfl, _⟩ := h
    rfl
  · obtain ⟨a, y, rfl, ha, q⟩ := h
    have T := ox_InvalidPair M
    have n0 := M.n_InvalidPair_value
    refine ⟨_, (pss_one (ps_ostG (pv 0) (pv 1) rfl)), ?_⟩
    refine st_eq (σ := [some _, some _]) rfl ?_
    walk_at "rd"
    refine ⟨a, C_InvalidPair, rfl, T, n0, .inl ⟨ha, fun d nd ne => ?_⟩⟩
    walk_at "rd"
    exact q d nd ne
theorem c_InvalidPair (M : Md K mg C_InvalidName C_InvalidCount C_InvalidNumber C_InvalidMany C_InvalidRatio C_InvalidKinds C_InvalidLink C_InvalidEnd C_InvalidModel C_InvalidTotal C_InvalidPair C_InvalidRow C_InvalidPairs C_InvalidDatabase C_InvalidWay C_InvalidSizes C_InvalidTold C_InvalidText C_InvalidClaim C_InvalidCommand C_EmptyBy C_UnknownKind C_UnknownLink C_UnknownRow C_UnknownThing C_Apart C_Taken C_Empty C_NotLet C_Lacking C_NothingToUndo C_CommandFailed C_TooMany C_EachError C_MissingError C_StateError C_LimitError) : Exn P w K mg base "InvalidPair" C_InvalidPair 1 ["self", "value"] (spE1 C_InvalidPair "value") := by
  obtain ⟨f, fd, iC, fC, F⟩ := M.i_InvalidPair
  exact ⟨f, fd, ox_InvalidPair M, iC, fC, ok_InvalidPair M F, M.m_InvalidPair, F.bindsN fun _ _ _ _ _ _ us hl => match us, hl with | [_, _], _ => rfl⟩
theorem k_InvalidPair (M : Md K mg C_InvalidName C_InvalidCount C_InvalidNumber C_InvalidMany C_InvalidRatio C_InvalidKinds C_InvalidLink C_InvalidEnd C_InvalidModel C_InvalidTotal C_InvalidPair C_InvalidRow C_InvalidPairs C_InvalidDatabase C_InvalidWay C_InvalidSizes C_InvalidTold C_InvalidText C_InvalidClaim C_InvalidCommand C_EmptyBy C_UnknownKind C_UnknownLink C_UnknownRow C_UnknownThing C_Apart C_Taken C_Empty C_NotLet C_Lacking C_NothingToUndo C_CommandFailed C_TooMany C_EachError C_MissingError C_StateError C_LimitError) : Exk P w K mg base "InvalidPair" C_InvalidPair 1 ["value"] (fun vs zs => vs ++ zs.reverse) (spE1 C_InvalidPair "value") := by
  obtain ⟨f, fd, iC, fC, F⟩ := M.i_InvalidPair
  exact ⟨f, fd, _, _, ox_InvalidPair M, iC, fC, ok_InvalidPair M F, M.m_InvalidPair, kbn0 F 1 ["value"] (fun vs zs => vs ++ zs.reverse) (fun r1 r2 => r1.append (vals_rev r2)) fun _ _ _ _ _ _ us ws l1 l2 => match us, ws, l1, l2 with | [_], [_], _, _ => rfl⟩
theorem ex_InvalidRow (M : Md K mg C_InvalidName C_InvalidCount C_InvalidNumber C_InvalidMany C_InvalidRatio C_InvalidKinds C_InvalidLink C_InvalidEnd C_InvalidModel C_InvalidTotal C_InvalidPair C_InvalidRow C_InvalidPairs C_InvalidDatabase C_InvalidWay C_InvalidSizes C_InvalidTold C_InvalidText C_InvalidClaim C_InvalidCommand C_EmptyBy C_UnknownKind C_UnknownLink C_UnknownRow C_UnknownThing C_Apart C_Taken C_Empty C_NotLet C_Lacking C_NothingToUndo C_CommandFailed C_TooMany C_EachError C_MissingError C_StateError C_LimitError) : ExcC K C_InvalidRow := M.x_InvalidRow.exc (ups _ _ "ValueError") M.hn_exc M.ht_exc
theorem xf_InvalidRow (M : Md K mg C_InvalidName C_InvalidCount C_InvalidNumber C_InvalidMany C_InvalidRatio C_InvalidKinds C_InvalidLink C_InvalidEnd C_InvalidModel C_InvalidTotal C_InvalidPair C_InvalidRow C_InvalidPairs C_InvalidDatabase C_InvalidWay C_InvalidSizes C_InvalidTold C_InvalidText C_InvalidClaim C_InvalidCommand C_EmptyBy C_UnknownKind C_UnknownLink C_UnknownRow C_UnknownThing C_Apart C_Taken C_Empty C_NotLet C_Lacking C_NothingToUndo C_CommandFailed C_TooMany C_EachError C_MissingError C_StateError C_LimitError) : XfC K C_InvalidRow := M.x_InvalidRow.xf (ups _ _ "ValueError")
theorem ox_InvalidRow (M : Md K mg C_InvalidName C_InvalidCount C_InvalidNumber C_InvalidMany C_InvalidRatio C_InvalidKinds C_InvalidLink C_InvalidEnd C_InvalidModel C_InvalidTotal C_InvalidPair C_InvalidRow C_InvalidPairs C_InvalidDatabase C_InvalidWay C_InvalidSizes C_InvalidTold C_InvalidText C_InvalidClaim C_InvalidCommand C_EmptyBy C_UnknownKind C_UnknownLink C_UnknownRow C_UnknownThing C_Apart C_Taken C_Empty C_NotLet C_Lacking C_NothingToUndo C_CommandFailed C_TooMany C_EachError C_MissingError C_StateError C_LimitError) : OexG K C_InvalidRow := M.x_InvalidRow.oex (ups _ _ "ValueError") PySem.F.excBase_ValueError PySem.F.store_ValueError
theorem ok_InvalidRow (M : Md K mg C_InvalidName C_InvalidCount C_InvalidNumber C_InvalidMany C_InvalidRatio C_InvalidKinds C_InvalidLink C_InvalidEnd C_InvalidModel C_InvalidTotal C_InvalidPair C_InvalidRow C_InvalidPairs C_InvalidDatabase C_InvalidWay C_InvalidSizes C_InvalidTold C_InvalidText C_InvalidClaim C_InvalidCommand C_EmptyBy C_UnknownKind C_UnknownLink C_UnknownRow C_UnknownThing C_Apart C_Taken C_Empty C_NotLet C_Lacking C_NothingToUndo C_CommandFailed C_TooMany C_EachError C_MissingError C_StateError C_LimitError) {f : Addr} {fd : FuncData} (F : FunD K "__init__" "InvalidRow.__init__" (defArgs st_InvalidRow___init__) (defBody st_InvalidRow___init__) (defScope st_InvalidRow___init__) [] [] f fd) : FnG P w K mg base CX0 1 f fd ["self", "value"] (spE1 C_InvalidRow "value") := by
  refine fnG_body F sc_InvalidRow___init__ (fun vs H Q E h => ?_) (fun cdv A outer s H vs Q E hr h => ?_)
  · obtain ⟨a, y, rfl, _⟩ := h
    rfl
  · obtain ⟨a, y, rfl, ha, q⟩ := h
    have T := ox_InvalidRow M
    have n0 := M.n_InvalidRow_value
    refine ⟨_, (pss_one (ps_ostG (pv 0) (pv 1) rfl)), ?_⟩
    refine st_eq (σ := [some _, some _]) rfl ?_
    walk_at "rd"
    refine ⟨a, C_InvalidRow, rfl, T, n0, .inl ⟨ha, fun d nd ne => ?_⟩⟩
    walk_at "rd"
    exact q d nd ne
theorem c_InvalidRow (M : Md K mg C_InvalidName C_InvalidCount C_InvalidNumber C_InvalidMany C_InvalidRatio C_InvalidKinds C_InvalidLink C_InvalidEnd C_InvalidModel C_InvalidTotal C_InvalidPair C_InvalidRow C_InvalidPairs C_InvalidDatabase C_InvalidWay C_InvalidSizes C_InvalidTold C_InvalidText C_InvalidClaim C_InvalidCommand C_EmptyBy C_UnknownKind C_UnknownLink C_UnknownRow C_UnknownThing C_Apart C_Taken C_Empty C_NotLet C_Lacking C_NothingToUndo C_CommandFailed C_TooMany C_EachError C_MissingError C_StateError C_LimitError) : Exn P w K mg base "InvalidRow" C_InvalidRow 1 ["self", "value"] (spE1 C_InvalidRow "value") := by
  obtain ⟨f, fd, iC, fC, F⟩ := M.i_InvalidRow
  exact ⟨f, fd, ox_InvalidRow M, iC, fC, ok_InvalidRow M F, M.m_InvalidRow, F.bindsN fun _ _ _ _ _ _ us hl => match us, hl with | [_, _], _ => rfl⟩
theorem k_InvalidRow (M : Md K mg C_InvalidName C_InvalidCount C_InvalidNumber C_InvalidMany C_InvalidRatio C_InvalidKinds C_InvalidLink C_InvalidEnd C_InvalidModel C_InvalidTotal C_InvalidPair C_InvalidRow C_InvalidPairs C_InvalidDatabase C_InvalidWay C_InvalidSizes C_InvalidTold C_InvalidText C_InvalidClaim C_InvalidCommand C_EmptyBy C_UnknownKind C_UnknownLink C_UnknownRow C_UnknownThing C_Apart C_Taken C_Empty C_NotLet C_Lacking C_NothingToUndo C_CommandFailed C_TooMany C_EachError C_MissingError C_StateError C_LimitError) : Exk P w K mg base "InvalidRow" C_InvalidRow 1 ["value"] (fun vs zs => vs ++ zs.reverse) (spE1 C_InvalidRow "value") := by
  obtain ⟨f, fd, iC, fC, F⟩ := M.i_InvalidRow
  exact ⟨f, fd, _, _, ox_InvalidRow M, iC, fC, ok_InvalidRow M F, M.m_InvalidRow, kbn0 F 1 ["value"] (fun vs zs => vs ++ zs.reverse) (fun r1 r2 => r1.append (vals_rev r2)) fun _ _ _ _ _ _ us ws l1 l2 => match us, ws, l1, l2 with | [_], [_], _, _ => rfl⟩
theorem ex_InvalidPairs (M : Md K mg C_InvalidName C_InvalidCount C_InvalidNumber C_InvalidMany C_InvalidRatio C_InvalidKinds C_InvalidLink C_InvalidEnd C_InvalidModel C_InvalidTotal C_InvalidPair C_InvalidRow C_InvalidPairs C_InvalidDatabase C_InvalidWay C_InvalidSizes C_InvalidTold C_InvalidText C_InvalidClaim C_InvalidCommand C_EmptyBy C_UnknownKind C_UnknownLink C_UnknownRow C_UnknownThing C_Apart C_Taken C_Empty C_NotLet C_Lacking C_NothingToUndo C_CommandFailed C_TooMany C_EachError C_MissingError C_StateError C_LimitError) : ExcC K C_InvalidPairs := M.x_InvalidPairs.exc (ups _ _ "ValueError") M.hn_exc M.ht_exc
theorem xf_InvalidPairs (M : Md K mg C_InvalidName C_InvalidCount C_InvalidNumber C_InvalidMany C_InvalidRatio C_InvalidKinds C_InvalidLink C_InvalidEnd C_InvalidModel C_InvalidTotal C_InvalidPair C_InvalidRow C_InvalidPairs C_InvalidDatabase C_InvalidWay C_InvalidSizes C_InvalidTold C_InvalidText C_InvalidClaim C_InvalidCommand C_EmptyBy C_UnknownKind C_UnknownLink C_UnknownRow C_UnknownThing C_Apart C_Taken C_Empty C_NotLet C_Lacking C_NothingToUndo C_CommandFailed C_TooMany C_EachError C_MissingError C_StateError C_LimitError) : XfC K C_InvalidPairs := M.x_InvalidPairs.xf (ups _ _ "ValueError")
theorem ox_InvalidPairs (M : Md K mg C_InvalidName C_InvalidCount C_InvalidNumber C_InvalidMany C_InvalidRatio C_InvalidKinds C_InvalidLink C_InvalidEnd C_InvalidModel C_InvalidTotal C_InvalidPair C_InvalidRow C_InvalidPairs C_InvalidDatabase C_InvalidWay C_InvalidSizes C_InvalidTold C_InvalidText C_InvalidClaim C_InvalidCommand C_EmptyBy C_UnknownKind C_UnknownLink C_UnknownRow C_UnknownThing C_Apart C_Taken C_Empty C_NotLet C_Lacking C_NothingToUndo C_CommandFailed C_TooMany C_EachError C_MissingError C_StateError C_LimitError) : OexG K C_InvalidPairs := M.x_InvalidPairs.oex (ups _ _ "ValueError") PySem.F.excBase_ValueError PySem.F.store_ValueError
theorem ok_InvalidPairs (M : Md K mg C_InvalidName C_InvalidCount C_InvalidNumber C_InvalidMany C_InvalidRatio C_InvalidKinds C_InvalidLink C_InvalidEnd C_InvalidModel C_InvalidTotal C_InvalidPair C_InvalidRow C_InvalidPairs C_InvalidDatabase C_InvalidWay C_InvalidSizes C_InvalidTold C_InvalidText C_InvalidClaim C_InvalidCommand C_EmptyBy C_UnknownKind C_UnknownLink C_UnknownRow C_UnknownThing C_Apart C_Taken C_Empty C_NotLet C_Lacking C_NothingToUndo C_CommandFailed C_TooMany C_EachError C_MissingError C_StateError C_LimitError) {f : Addr} {fd : FuncData} (F : FunD K "__init__" "InvalidPairs.__init__" (defArgs st_InvalidPairs___init__) (defBody st_InvalidPairs___init__) (defScope st_InvalidPairs___init__) [] [] f fd) : FnG P w K mg base CX0 1 f fd ["self", "link", "position"] (spE2 C_InvalidPairs "link" "position") := by
  refine fnG_body F sc_InvalidPairs___init__ (fun vs H Q E h => ?_) (fun cdv A outer s H vs Q E hr h => ?_)
  · obtain ⟨a, y, z, rfl, _⟩ := h
    rfl
  · obtain ⟨a, y, z, rfl, ha, q⟩ := h
    have T := ox_InvalidPairs M
    have n0 := M.n_InvalidPairs_link
    have n1 := M.n_InvalidPairs_position
    refine ⟨_, (pss_cons (ps_ostG (pv 0) (pv 1) rfl) (pss_one (ps_ostG (pv 0) (pv 2) rfl))), ?_⟩
    refine st_eq (σ := [some _, some _, some _]) rfl ?_
    walk_at "rd"
    refine ⟨a, C_InvalidPairs, rfl, T, n0, .inl ⟨ha, fun d nd ne => ?_⟩⟩
    walk_at "rd"
    refine ⟨a, C_InvalidPairs, rfl, T, n1, .inr ⟨d, _, upd_same, (upd_ne ne).trans upd_same, by simp, ?_⟩⟩
    walk_at "rd"
    exact q d nd ne
theorem c_InvalidPairs (M : Md K mg C_InvalidName C_InvalidCount C_InvalidNumber C_InvalidMany C_InvalidRatio C_InvalidKinds C_InvalidLink C_InvalidEnd C_InvalidModel C_InvalidTotal C_InvalidPair C_InvalidRow C_InvalidPairs C_InvalidDatabase C_InvalidWay C_InvalidSizes C_InvalidTold C_InvalidText C_InvalidClaim C_InvalidCommand C_EmptyBy C_UnknownKind C_UnknownLink C_UnknownRow C_UnknownThing C_Apart C_Taken C_Empty C_NotLet C_Lacking C_NothingToUndo C_CommandFailed C_TooMany C_EachError C_MissingError C_StateError C_LimitError) : Exn P w K mg base "InvalidPairs" C_InvalidPairs 1 ["self", "link", "position"] (spE2 C_InvalidPairs "link" "position") := by
  obtain ⟨f, fd, iC, fC, F⟩ := M.i_InvalidPairs
  exact ⟨f, fd, ox_InvalidPairs M, iC, fC, ok_InvalidPairs M F, M.m_InvalidPairs, F.bindsN fun _ _ _ _ _ _ us hl => match us, hl with | [_, _, _], _ => rfl⟩
theorem k_InvalidPairs (M : Md K mg C_InvalidName C_InvalidCount C_InvalidNumber C_InvalidMany C_InvalidRatio C_InvalidKinds C_InvalidLink C_InvalidEnd C_InvalidModel C_InvalidTotal C_InvalidPair C_InvalidRow C_InvalidPairs C_InvalidDatabase C_InvalidWay C_InvalidSizes C_InvalidTold C_InvalidText C_InvalidClaim C_InvalidCommand C_EmptyBy C_UnknownKind C_UnknownLink C_UnknownRow C_UnknownThing C_Apart C_Taken C_Empty C_NotLet C_Lacking C_NothingToUndo C_CommandFailed C_TooMany C_EachError C_MissingError C_StateError C_LimitError) : Exk P w K mg base "InvalidPairs" C_InvalidPairs 1 ["position", "link"] (fun vs zs => vs ++ zs.reverse) (spE2 C_InvalidPairs "link" "position") := by
  obtain ⟨f, fd, iC, fC, F⟩ := M.i_InvalidPairs
  exact ⟨f, fd, _, _, ox_InvalidPairs M, iC, fC, ok_InvalidPairs M F, M.m_InvalidPairs, kbn0 F 1 ["position", "link"] (fun vs zs => vs ++ zs.reverse) (fun r1 r2 => r1.append (vals_rev r2)) fun _ _ _ _ _ _ us ws l1 l2 => match us, ws, l1, l2 with | [_], [_, _], _, _ => rfl⟩
theorem ex_InvalidDatabase (M : Md K mg C_InvalidName C_InvalidCount C_InvalidNumber C_InvalidMany C_InvalidRatio C_InvalidKinds C_InvalidLink C_InvalidEnd C_InvalidModel C_InvalidTotal C_InvalidPair C_InvalidRow C_InvalidPairs C_InvalidDatabase C_InvalidWay C_InvalidSizes C_InvalidTold C_InvalidText C_InvalidClaim C_InvalidCommand C_EmptyBy C_UnknownKind C_UnknownLink C_UnknownRow C_UnknownThing C_Apart C_Taken C_Empty C_NotLet C_Lacking C_NothingToUndo C_CommandFailed C_TooMany C_EachError C_MissingError C_StateError C_LimitError) : ExcC K C_InvalidDatabase := M.x_InvalidDatabase.exc (ups _ _ "ValueError") M.hn_exc M.ht_exc
theorem xf_InvalidDatabase (M : Md K mg C_InvalidName C_InvalidCount C_InvalidNumber C_InvalidMany C_InvalidRatio C_InvalidKinds C_InvalidLink C_InvalidEnd C_InvalidModel C_InvalidTotal C_InvalidPair C_InvalidRow C_InvalidPairs C_InvalidDatabase C_InvalidWay C_InvalidSizes C_InvalidTold C_InvalidText C_InvalidClaim C_InvalidCommand C_EmptyBy C_UnknownKind C_UnknownLink C_UnknownRow C_UnknownThing C_Apart C_Taken C_Empty C_NotLet C_Lacking C_NothingToUndo C_CommandFailed C_TooMany C_EachError C_MissingError C_StateError C_LimitError) : XfC K C_InvalidDatabase := M.x_InvalidDatabase.xf (ups _ _ "ValueError")
theorem ox_InvalidDatabase (M : Md K mg C_InvalidName C_InvalidCount C_InvalidNumber C_InvalidMany C_InvalidRatio C_InvalidKinds C_InvalidLink C_InvalidEnd C_InvalidModel C_InvalidTotal C_InvalidPair C_InvalidRow C_InvalidPairs C_InvalidDatabase C_InvalidWay C_InvalidSizes C_InvalidTold C_InvalidText C_InvalidClaim C_InvalidCommand C_EmptyBy C_UnknownKind C_UnknownLink C_UnknownRow C_UnknownThing C_Apart C_Taken C_Empty C_NotLet C_Lacking C_NothingToUndo C_CommandFailed C_TooMany C_EachError C_MissingError C_StateError C_LimitError) : OexG K C_InvalidDatabase := M.x_InvalidDatabase.oex (ups _ _ "ValueError") PySem.F.excBase_ValueError PySem.F.store_ValueError
theorem ok_InvalidDatabase (M : Md K mg C_InvalidName C_InvalidCount C_InvalidNumber C_InvalidMany C_InvalidRatio C_InvalidKinds C_InvalidLink C_InvalidEnd C_InvalidModel C_InvalidTotal C_InvalidPair C_InvalidRow C_InvalidPairs C_InvalidDatabase C_InvalidWay C_InvalidSizes C_InvalidTold C_InvalidText C_InvalidClaim C_InvalidCommand C_EmptyBy C_UnknownKind C_UnknownLink C_UnknownRow C_UnknownThing C_Apart C_Taken C_Empty C_NotLet C_Lacking C_NothingToUndo C_CommandFailed C_TooMany C_EachError C_MissingError C_StateError C_LimitError) {f : Addr} {fd : FuncData} (F : FunD K "__init__" "InvalidDatabase.__init__" (defArgs st_InvalidDatabase___init__) (defBody st_InvalidDatabase___init__) (defScope st_InvalidDatabase___init__) [] [] f fd) : FnG P w K mg base CX0 1 f fd ["self", "value"] (spE1 C_InvalidDatabase "value") := by
  refine fnG_body F sc_InvalidDatabase___init__ (fun vs H Q E h => ?_) (fun cdv A outer s H vs Q E hr h => ?_)
  · obtain ⟨a, y, rfl, _⟩ := h
    rfl
  · obtain ⟨a, y, rfl, ha, q⟩ := h
    have T := ox_InvalidDatabase M
    have n0 := M.n_InvalidDatabase_value
    refine ⟨_, (pss_one (ps_ostG (pv 0) (pv 1) rfl)), ?_⟩
    refine st_eq (σ := [some _, some _]) rfl ?_
    walk_at "rd"
    refine ⟨a, C_InvalidDatabase, rfl, T, n0, .inl ⟨ha, fun d nd ne => ?_⟩⟩
    walk_at "rd"
    exact q d nd ne
theorem c_InvalidDatabase (M : Md K mg C_InvalidName C_InvalidCount C_InvalidNumber C_InvalidMany C_InvalidRatio C_InvalidKinds C_InvalidLink C_InvalidEnd C_InvalidModel C_InvalidTotal C_InvalidPair C_InvalidRow C_InvalidPairs C_InvalidDatabase C_InvalidWay C_InvalidSizes C_InvalidTold C_InvalidText C_InvalidClaim C_InvalidCommand C_EmptyBy C_UnknownKind C_UnknownLink C_UnknownRow C_UnknownThing C_Apart C_Taken C_Empty C_NotLet C_Lacking C_NothingToUndo C_CommandFailed C_TooMany C_EachError C_MissingError C_StateError C_LimitError) : Exn P w K mg base "InvalidDatabase" C_InvalidDatabase 1 ["self", "value"] (spE1 C_InvalidDatabase "value") := by
  obtain ⟨f, fd, iC, fC, F⟩ := M.i_InvalidDatabase
  exact ⟨f, fd, ox_InvalidDatabase M, iC, fC, ok_InvalidDatabase M F, M.m_InvalidDatabase, F.bindsN fun _ _ _ _ _ _ us hl => match us, hl with | [_, _], _ => rfl⟩
theorem k_InvalidDatabase (M : Md K mg C_InvalidName C_InvalidCount C_InvalidNumber C_InvalidMany C_InvalidRatio C_InvalidKinds C_InvalidLink C_InvalidEnd C_InvalidModel C_InvalidTotal C_InvalidPair C_InvalidRow C_InvalidPairs C_InvalidDatabase C_InvalidWay C_InvalidSizes C_InvalidTold C_InvalidText C_InvalidClaim C_InvalidCommand C_EmptyBy C_UnknownKind C_UnknownLink C_UnknownRow C_UnknownThing C_Apart C_Taken C_Empty C_NotLet C_Lacking C_NothingToUndo C_CommandFailed C_TooMany C_EachError C_MissingError C_StateError C_LimitError) : Exk P w K mg base "InvalidDatabase" C_InvalidDatabase 1 ["value"] (fun vs zs => vs ++ zs.reverse) (spE1 C_InvalidDatabase "value") := by
  obtain ⟨f, fd, iC, fC, F⟩ := M.i_InvalidDatabase
  exact ⟨f, fd, _, _, ox_InvalidDatabase M, iC, fC, ok_InvalidDatabase M F, M.m_InvalidDatabase, kbn0 F 1 ["value"] (fun vs zs => vs ++ zs.reverse) (fun r1 r2 => r1.append (vals_rev r2)) fun _ _ _ _ _ _ us ws l1 l2 => match us, ws, l1, l2 with | [_], [_], _, _ => rfl⟩
theorem ex_InvalidWay (M : Md K mg C_InvalidName C_InvalidCount C_InvalidNumber C_InvalidMany C_InvalidRatio C_InvalidKinds C_InvalidLink C_InvalidEnd C_InvalidModel C_InvalidTotal C_InvalidPair C_InvalidRow C_InvalidPairs C_InvalidDatabase C_InvalidWay C_InvalidSizes C_InvalidTold C_InvalidText C_InvalidClaim C_InvalidCommand C_EmptyBy C_UnknownKind C_UnknownLink C_UnknownRow C_UnknownThing C_Apart C_Taken C_Empty C_NotLet C_Lacking C_NothingToUndo C_CommandFailed C_TooMany C_EachError C_MissingError C_StateError C_LimitError) : ExcC K C_InvalidWay := M.x_InvalidWay.exc (ups _ _ "ValueError") M.hn_exc M.ht_exc
theorem xf_InvalidWay (M : Md K mg C_InvalidName C_InvalidCount C_InvalidNumber C_InvalidMany C_InvalidRatio C_InvalidKinds C_InvalidLink C_InvalidEnd C_InvalidModel C_InvalidTotal C_InvalidPair C_InvalidRow C_InvalidPairs C_InvalidDatabase C_InvalidWay C_InvalidSizes C_InvalidTold C_InvalidText C_InvalidClaim C_InvalidCommand C_EmptyBy C_UnknownKind C_UnknownLink C_UnknownRow C_UnknownThing C_Apart C_Taken C_Empty C_NotLet C_Lacking C_NothingToUndo C_CommandFailed C_TooMany C_EachError C_MissingError C_StateError C_LimitError) : XfC K C_InvalidWay := M.x_InvalidWay.xf (ups _ _ "ValueError")
theorem ox_InvalidWay (M : Md K mg C_InvalidName C_InvalidCount C_InvalidNumber C_InvalidMany C_InvalidRatio C_InvalidKinds C_InvalidLink C_InvalidEnd C_InvalidModel C_InvalidTotal C_InvalidPair C_InvalidRow C_InvalidPairs C_InvalidDatabase C_InvalidWay C_InvalidSizes C_InvalidTold C_InvalidText C_InvalidClaim C_InvalidCommand C_EmptyBy C_UnknownKind C_UnknownLink C_UnknownRow C_UnknownThing C_Apart C_Taken C_Empty C_NotLet C_Lacking C_NothingToUndo C_CommandFailed C_TooMany C_EachError C_MissingError C_StateError C_LimitError) : OexG K C_InvalidWay := M.x_InvalidWay.oex (ups _ _ "ValueError") PySem.F.excBase_ValueError PySem.F.store_ValueError
theorem ok_InvalidWay (M : Md K mg C_InvalidName C_InvalidCount C_InvalidNumber C_InvalidMany C_InvalidRatio C_InvalidKinds C_InvalidLink C_InvalidEnd C_InvalidModel C_InvalidTotal C_InvalidPair C_InvalidRow C_InvalidPairs C_InvalidDatabase C_InvalidWay C_InvalidSizes C_InvalidTold C_InvalidText C_InvalidClaim C_InvalidCommand C_EmptyBy C_UnknownKind C_UnknownLink C_UnknownRow C_UnknownThing C_Apart C_Taken C_Empty C_NotLet C_Lacking C_NothingToUndo C_CommandFailed C_TooMany C_EachError C_MissingError C_StateError C_LimitError) {f : Addr} {fd : FuncData} (F : FunD K "__init__" "InvalidWay.__init__" (defArgs st_InvalidWay___init__) (defBody st_InvalidWay___init__) (defScope st_InvalidWay___init__) [] [] f fd) : FnG P w K mg base CX0 1 f fd ["self", "value"] (spE1 C_InvalidWay "value") := by
  refine fnG_body F sc_InvalidWay___init__ (fun vs H Q E h => ?_) (fun cdv A outer s H vs Q E hr h => ?_)
  · obtain ⟨a, y, rfl, _⟩ := h
    rfl
  · obtain ⟨a, y, rfl, ha, q⟩ := h
    have T := ox_InvalidWay M
    have n0 := M.n_InvalidWay_value
    refine ⟨_, (pss_one (ps_ostG (pv 0) (pv 1) rfl)), ?_⟩
    refine st_eq (σ := [some _, some _]) rfl ?_
    walk_at "rd"
    refine ⟨a, C_InvalidWay, rfl, T, n0, .inl ⟨ha, fun d nd ne => ?_⟩⟩
    walk_at "rd"
    exact q d nd ne
theorem c_InvalidWay (M : Md K mg C_InvalidName C_InvalidCount C_InvalidNumber C_InvalidMany C_InvalidRatio C_InvalidKinds C_InvalidLink C_InvalidEnd C_InvalidModel C_InvalidTotal C_InvalidPair C_InvalidRow C_InvalidPairs C_InvalidDatabase C_InvalidWay C_InvalidSizes C_InvalidTold C_InvalidText C_InvalidClaim C_InvalidCommand C_EmptyBy C_UnknownKind C_UnknownLink C_UnknownRow C_UnknownThing C_Apart C_Taken C_Empty C_NotLet C_Lacking C_NothingToUndo C_CommandFailed C_TooMany C_EachError C_MissingError C_StateError C_LimitError) : Exn P w K mg base "InvalidWay" C_InvalidWay 1 ["self", "value"] (spE1 C_InvalidWay "value") := by
  obtain ⟨f, fd, iC, fC, F⟩ := M.i_InvalidWay
  exact ⟨f, fd, ox_InvalidWay M, iC, fC, ok_InvalidWay M F, M.m_InvalidWay, F.bindsN fun _ _ _ _ _ _ us hl => match us, hl with | [_, _], _ => rfl⟩
theorem k_InvalidWay (M : Md K mg C_InvalidName C_InvalidCount C_InvalidNumber C_InvalidMany C_InvalidRatio C_InvalidKinds C_InvalidLink C_InvalidEnd C_InvalidModel C_InvalidTotal C_InvalidPair C_InvalidRow C_InvalidPairs C_InvalidDatabase C_InvalidWay C_InvalidSizes C_InvalidTold C_InvalidText C_InvalidClaim C_InvalidCommand C_EmptyBy C_UnknownKind C_UnknownLink C_UnknownRow C_UnknownThing C_Apart C_Taken C_Empty C_NotLet C_Lacking C_NothingToUndo C_CommandFailed C_TooMany C_EachError C_MissingError C_StateError C_LimitError) : Exk P w K mg base "InvalidWay" C_InvalidWay 1 ["value"] (fun vs zs => vs ++ zs.reverse) (spE1 C_InvalidWay "value") := by
  obtain ⟨f, fd, iC, fC, F⟩ := M.i_InvalidWay
  exact ⟨f, fd, _, _, ox_InvalidWay M, iC, fC, ok_InvalidWay M F, M.m_InvalidWay, kbn0 F 1 ["value"] (fun vs zs => vs ++ zs.reverse) (fun r1 r2 => r1.append (vals_rev r2)) fun _ _ _ _ _ _ us ws l1 l2 => match us, ws, l1, l2 with | [_], [_], _, _ => rfl⟩
theorem ex_InvalidSizes (M : Md K mg C_InvalidName C_InvalidCount C_InvalidNumber C_InvalidMany C_InvalidRatio C_InvalidKinds C_InvalidLink C_InvalidEnd C_InvalidModel C_InvalidTotal C_InvalidPair C_InvalidRow C_InvalidPairs C_InvalidDatabase C_InvalidWay C_InvalidSizes C_InvalidTold C_InvalidText C_InvalidClaim C_InvalidCommand C_EmptyBy C_UnknownKind C_UnknownLink C_UnknownRow C_UnknownThing C_Apart C_Taken C_Empty C_NotLet C_Lacking C_NothingToUndo C_CommandFailed C_TooMany C_EachError C_MissingError C_StateError C_LimitError) : ExcC K C_InvalidSizes := M.x_InvalidSizes.exc (ups _ _ "ValueError") M.hn_exc M.ht_exc
theorem xf_InvalidSizes (M : Md K mg C_InvalidName C_InvalidCount C_InvalidNumber C_InvalidMany C_InvalidRatio C_InvalidKinds C_InvalidLink C_InvalidEnd C_InvalidModel C_InvalidTotal C_InvalidPair C_InvalidRow C_InvalidPairs C_InvalidDatabase C_InvalidWay C_InvalidSizes C_InvalidTold C_InvalidText C_InvalidClaim C_InvalidCommand C_EmptyBy C_UnknownKind C_UnknownLink C_UnknownRow C_UnknownThing C_Apart C_Taken C_Empty C_NotLet C_Lacking C_NothingToUndo C_CommandFailed C_TooMany C_EachError C_MissingError C_StateError C_LimitError) : XfC K C_InvalidSizes := M.x_InvalidSizes.xf (ups _ _ "ValueError")
theorem ox_InvalidSizes (M : Md K mg C_InvalidName C_InvalidCount C_InvalidNumber C_InvalidMany C_InvalidRatio C_InvalidKinds C_InvalidLink C_InvalidEnd C_InvalidModel C_InvalidTotal C_InvalidPair C_InvalidRow C_InvalidPairs C_InvalidDatabase C_InvalidWay C_InvalidSizes C_InvalidTold C_InvalidText C_InvalidClaim C_InvalidCommand C_EmptyBy C_UnknownKind C_UnknownLink C_UnknownRow C_UnknownThing C_Apart C_Taken C_Empty C_NotLet C_Lacking C_NothingToUndo C_CommandFailed C_TooMany C_EachError C_MissingError C_StateError C_LimitError) : OexG K C_InvalidSizes := M.x_InvalidSizes.oex (ups _ _ "ValueError") PySem.F.excBase_ValueError PySem.F.store_ValueError
theorem ok_InvalidSizes (M : Md K mg C_InvalidName C_InvalidCount C_InvalidNumber C_InvalidMany C_InvalidRatio C_InvalidKinds C_InvalidLink C_InvalidEnd C_InvalidModel C_InvalidTotal C_InvalidPair C_InvalidRow C_InvalidPairs C_InvalidDatabase C_InvalidWay C_InvalidSizes C_InvalidTold C_InvalidText C_InvalidClaim C_InvalidCommand C_EmptyBy C_UnknownKind C_UnknownLink C_UnknownRow C_UnknownThing C_Apart C_Taken C_Empty C_NotLet C_Lacking C_NothingToUndo C_CommandFailed C_TooMany C_EachError C_MissingError C_StateError C_LimitError) {f : Addr} {fd : FuncData} (F : FunD K "__init__" "InvalidSizes.__init__" (defArgs st_InvalidSizes___init__) (defBody st_InvalidSizes___init__) (defScope st_InvalidSizes___init__) [] [] f fd) : FnG P w K mg base CX0 1 f fd ["self", "value"] (spE1 C_InvalidSizes "value") := by
  refine fnG_body F sc_InvalidSizes___init__ (fun vs H Q E h => ?_) (fun cdv A outer s H vs Q E hr h => ?_)
  · obtain ⟨a, y, rfl, _⟩ := h
    rfl
  · obtain ⟨a, y, rfl, ha, q⟩ := h
    have T := ox_InvalidSizes M
    have n0 := M.n_InvalidSizes_value
    refine ⟨_, (pss_one (ps_ostG (pv 0) (pv 1) rfl)), ?_⟩
    refine st_eq (σ := [some _, some _]) rfl ?_
    walk_at "rd"
    refine ⟨a, C_InvalidSizes, rfl, T, n0, .inl ⟨ha, fun d nd ne => ?_⟩⟩
    walk_at "rd"
    exact q d nd ne
theorem c_InvalidSizes (M : Md K mg C_InvalidName C_InvalidCount C_InvalidNumber C_InvalidMany C_InvalidRatio C_InvalidKinds C_InvalidLink C_InvalidEnd C_InvalidModel C_InvalidTotal C_InvalidPair C_InvalidRow C_InvalidPairs C_InvalidDatabase C_InvalidWay C_InvalidSizes C_InvalidTold C_InvalidText C_InvalidClaim C_InvalidCommand C_EmptyBy C_UnknownKind C_UnknownLink C_UnknownRow C_UnknownThing C_Apart C_Taken C_Empty C_NotLet C_Lacking C_NothingToUndo C_CommandFailed C_TooMany C_EachError C_MissingError C_StateError C_LimitError) : Exn P w K mg base "InvalidSizes" C_InvalidSizes 1 ["self", "value"] (spE1 C_InvalidSizes "value") := by
  obtain ⟨f, fd, iC, fC, F⟩ := M.i_InvalidSizes
  exact ⟨f, fd, ox_InvalidSizes M, iC, fC, ok_InvalidSizes M F, M.m_InvalidSizes, F.bindsN fun _ _ _ _ _ _ us hl => match us, hl with | [_, _], _ => rfl⟩
theorem k_InvalidSizes (M : Md K mg C_InvalidName C_InvalidCount C_InvalidNumber C_InvalidMany C_InvalidRatio C_InvalidKinds C_InvalidLink C_InvalidEnd C_InvalidModel C_InvalidTotal C_InvalidPair C_InvalidRow C_InvalidPairs C_InvalidDatabase C_InvalidWay C_InvalidSizes C_InvalidTold C_InvalidText C_InvalidClaim C_InvalidCommand C_EmptyBy C_UnknownKind C_UnknownLink C_UnknownRow C_UnknownThing C_Apart C_Taken C_Empty C_NotLet C_Lacking C_NothingToUndo C_CommandFailed C_TooMany C_EachError C_MissingError C_StateError C_LimitError) : Exk P w K mg base "InvalidSizes" C_InvalidSizes 1 ["value"] (fun vs zs => vs ++ zs.reverse) (spE1 C_InvalidSizes "value") := by
  obtain ⟨f, fd, iC, fC, F⟩ := M.i_InvalidSizes
  exact ⟨f, fd, _, _, ox_InvalidSizes M, iC, fC, ok_InvalidSizes M F, M.m_InvalidSizes, kbn0 F 1 ["value"] (fun vs zs => vs ++ zs.reverse) (fun r1 r2 => r1.append (vals_rev r2)) fun _ _ _ _ _ _ us ws l1 l2 => match us, ws, l1, l2 with | [_], [_], _, _ => rfl⟩
theorem ex_InvalidTold (M : Md K mg C_InvalidName C_InvalidCount C_InvalidNumber C_InvalidMany C_InvalidRatio C_InvalidKinds C_InvalidLink C_InvalidEnd C_InvalidModel C_InvalidTotal C_InvalidPair C_InvalidRow C_InvalidPairs C_InvalidDatabase C_InvalidWay C_InvalidSizes C_InvalidTold C_InvalidText C_InvalidClaim C_InvalidCommand C_EmptyBy C_UnknownKind C_UnknownLink C_UnknownRow C_UnknownThing C_Apart C_Taken C_Empty C_NotLet C_Lacking C_NothingToUndo C_CommandFailed C_TooMany C_EachError C_MissingError C_StateError C_LimitError) : ExcC K C_InvalidTold := M.x_InvalidTold.exc (ups _ _ "ValueError") M.hn_exc M.ht_exc
theorem xf_InvalidTold (M : Md K mg C_InvalidName C_InvalidCount C_InvalidNumber C_InvalidMany C_InvalidRatio C_InvalidKinds C_InvalidLink C_InvalidEnd C_InvalidModel C_InvalidTotal C_InvalidPair C_InvalidRow C_InvalidPairs C_InvalidDatabase C_InvalidWay C_InvalidSizes C_InvalidTold C_InvalidText C_InvalidClaim C_InvalidCommand C_EmptyBy C_UnknownKind C_UnknownLink C_UnknownRow C_UnknownThing C_Apart C_Taken C_Empty C_NotLet C_Lacking C_NothingToUndo C_CommandFailed C_TooMany C_EachError C_MissingError C_StateError C_LimitError) : XfC K C_InvalidTold := M.x_InvalidTold.xf (ups _ _ "ValueError")
theorem ox_InvalidTold (M : Md K mg C_InvalidName C_InvalidCount C_InvalidNumber C_InvalidMany C_InvalidRatio C_InvalidKinds C_InvalidLink C_InvalidEnd C_InvalidModel C_InvalidTotal C_InvalidPair C_InvalidRow C_InvalidPairs C_InvalidDatabase C_InvalidWay C_InvalidSizes C_InvalidTold C_InvalidText C_InvalidClaim C_InvalidCommand C_EmptyBy C_UnknownKind C_UnknownLink C_UnknownRow C_UnknownThing C_Apart C_Taken C_Empty C_NotLet C_Lacking C_NothingToUndo C_CommandFailed C_TooMany C_EachError C_MissingError C_StateError C_LimitError) : OexG K C_InvalidTold := M.x_InvalidTold.oex (ups _ _ "ValueError") PySem.F.excBase_ValueError PySem.F.store_ValueError
theorem ok_InvalidTold (M : Md K mg C_InvalidName C_InvalidCount C_InvalidNumber C_InvalidMany C_InvalidRatio C_InvalidKinds C_InvalidLink C_InvalidEnd C_InvalidModel C_InvalidTotal C_InvalidPair C_InvalidRow C_InvalidPairs C_InvalidDatabase C_InvalidWay C_InvalidSizes C_InvalidTold C_InvalidText C_InvalidClaim C_InvalidCommand C_EmptyBy C_UnknownKind C_UnknownLink C_UnknownRow C_UnknownThing C_Apart C_Taken C_Empty C_NotLet C_Lacking C_NothingToUndo C_CommandFailed C_TooMany C_EachError C_MissingError C_StateError C_LimitError) {f : Addr} {fd : FuncData} (F : FunD K "__init__" "InvalidTold.__init__" (defArgs st_InvalidTold___init__) (defBody st_InvalidTold___init__) (defScope st_InvalidTold___init__) [] [] f fd) : FnG P w K mg base CX0 1 f fd ["self", "value"] (spE1 C_InvalidTold "value") := by
  refine fnG_body F sc_InvalidTold___init__ (fun vs H Q E h => ?_) (fun cdv A outer s H vs Q E hr h => ?_)
  · obtain ⟨a, y, rfl, _⟩ := h
    rfl
  · obtain ⟨a, y, rfl, ha, q⟩ := h
    have T := ox_InvalidTold M
    have n0 := M.n_InvalidTold_value
    refine ⟨_, (pss_one (ps_ostG (pv 0) (pv 1) rfl)), ?_⟩
    refine st_eq (σ := [some _, some _]) rfl ?_
    walk_at "rd"
    refine ⟨a, C_InvalidTold, rfl, T, n0, .inl ⟨ha, fun d nd ne => ?_⟩⟩
    walk_at "rd"
    exact q d nd ne
theorem c_InvalidTold (M : Md K mg C_InvalidName C_InvalidCount C_InvalidNumber C_InvalidMany C_InvalidRatio C_InvalidKinds C_InvalidLink C_InvalidEnd C_InvalidModel C_InvalidTotal C_InvalidPair C_InvalidRow C_InvalidPairs C_InvalidDatabase C_InvalidWay C_InvalidSizes C_InvalidTold C_InvalidText C_InvalidClaim C_InvalidCommand C_EmptyBy C_UnknownKind C_UnknownLink C_UnknownRow C_UnknownThing C_Apart C_Taken C_Empty C_NotLet C_Lacking C_NothingToUndo C_CommandFailed C_TooMany C_EachError C_MissingError C_StateError C_LimitError) : Exn P w K mg base "InvalidTold" C_InvalidTold 1 ["self", "value"] (spE1 C_InvalidTold "value") := by
  obtain ⟨f, fd, iC, fC, F⟩ := M.i_InvalidTold
  exact ⟨f, fd, ox_InvalidTold M, iC, fC, ok_InvalidTold M F, M.m_InvalidTold, F.bindsN fun _ _ _ _ _ _ us hl => match us, hl with | [_, _], _ => rfl⟩
theorem k_InvalidTold (M : Md K mg C_InvalidName C_InvalidCount C_InvalidNumber C_InvalidMany C_InvalidRatio C_InvalidKinds C_InvalidLink C_InvalidEnd C_InvalidModel C_InvalidTotal C_InvalidPair C_InvalidRow C_InvalidPairs C_InvalidDatabase C_InvalidWay C_InvalidSizes C_InvalidTold C_InvalidText C_InvalidClaim C_InvalidCommand C_EmptyBy C_UnknownKind C_UnknownLink C_UnknownRow C_UnknownThing C_Apart C_Taken C_Empty C_NotLet C_Lacking C_NothingToUndo C_CommandFailed C_TooMany C_EachError C_MissingError C_StateError C_LimitError) : Exk P w K mg base "InvalidTold" C_InvalidTold 1 ["value"] (fun vs zs => vs ++ zs.reverse) (spE1 C_InvalidTold "value") := by
  obtain ⟨f, fd, iC, fC, F⟩ := M.i_InvalidTold
  exact ⟨f, fd, _, _, ox_InvalidTold M, iC, fC, ok_InvalidTold M F, M.m_InvalidTold, kbn0 F 1 ["value"] (fun vs zs => vs ++ zs.reverse) (fun r1 r2 => r1.append (vals_rev r2)) fun _ _ _ _ _ _ us ws l1 l2 => match us, ws, l1, l2 with | [_], [_], _, _ => rfl⟩
theorem ex_InvalidText (M : Md K mg C_InvalidName C_InvalidCount C_InvalidNumber C_InvalidMany C_InvalidRatio C_InvalidKinds C_InvalidLink C_InvalidEnd C_InvalidModel C_InvalidTotal C_InvalidPair C_InvalidRow C_InvalidPairs C_InvalidDatabase C_InvalidWay C_InvalidSizes C_InvalidTold C_InvalidText C_InvalidClaim C_InvalidCommand C_EmptyBy C_UnknownKind C_UnknownLink C_UnknownRow C_UnknownThing C_Apart C_Taken C_Empty C_NotLet C_Lacking C_NothingToUndo C_CommandFailed C_TooMany C_EachError C_MissingError C_StateError C_LimitError) : ExcC K C_InvalidText := M.x_InvalidText.exc (ups _ _ "ValueError") M.hn_exc M.ht_exc
theorem xf_InvalidText (M : Md K mg C_InvalidName C_InvalidCount C_InvalidNumber C_InvalidMany C_InvalidRatio C_InvalidKinds C_InvalidLink C_InvalidEnd C_InvalidModel C_InvalidTotal C_InvalidPair C_InvalidRow C_InvalidPairs C_InvalidDatabase C_InvalidWay C_InvalidSizes C_InvalidTold C_InvalidText C_InvalidClaim C_InvalidCommand C_EmptyBy C_UnknownKind C_UnknownLink C_UnknownRow C_UnknownThing C_Apart C_Taken C_Empty C_NotLet C_Lacking C_NothingToUndo C_CommandFailed C_TooMany C_EachError C_MissingError C_StateError C_LimitError) : XfC K C_InvalidText := M.x_InvalidText.xf (ups _ _ "ValueError")
theorem ox_InvalidText (M : Md K mg C_InvalidName C_InvalidCount C_InvalidNumber C_InvalidMany C_InvalidRatio C_InvalidKinds C_InvalidLink C_InvalidEnd C_InvalidModel C_InvalidTotal C_InvalidPair C_InvalidRow C_InvalidPairs C_InvalidDatabase C_InvalidWay C_InvalidSizes C_InvalidTold C_InvalidText C_InvalidClaim C_InvalidCommand C_EmptyBy C_UnknownKind C_UnknownLink C_UnknownRow C_UnknownThing C_Apart C_Taken C_Empty C_NotLet C_Lacking C_NothingToUndo C_CommandFailed C_TooMany C_EachError C_MissingError C_StateError C_LimitError) : OexG K C_InvalidText := M.x_InvalidText.oex (ups _ _ "ValueError") PySem.F.excBase_ValueError PySem.F.store_ValueError
theorem ok_InvalidText (M : Md K mg C_InvalidName C_InvalidCount C_InvalidNumber C_InvalidMany C_InvalidRatio C_InvalidKinds C_InvalidLink C_InvalidEnd C_InvalidModel C_InvalidTotal C_InvalidPair C_InvalidRow C_InvalidPairs C_InvalidDatabase C_InvalidWay C_InvalidSizes C_InvalidTold C_InvalidText C_InvalidClaim C_InvalidCommand C_EmptyBy C_UnknownKind C_UnknownLink C_UnknownRow C_UnknownThing C_Apart C_Taken C_Empty C_NotLet C_Lacking C_NothingToUndo C_CommandFailed C_TooMany C_EachError C_MissingError C_StateError C_LimitError) {f : Addr} {fd : FuncData} (F : FunD K "__init__" "InvalidText.__init__" (defArgs st_InvalidText___init__) (defBody st_InvalidText___init__) (defScope st_InvalidText___init__) [] [] f fd) : FnG P w K mg base CX0 1 f fd ["self", "line"] (spE1 C_InvalidText "line") := by
  refine fnG_body F sc_InvalidText___init__ (fun vs H Q E h => ?_) (fun cdv A outer s H vs Q E hr h => ?_)
  · obtain ⟨a, y, rfl, _⟩ := h
    rfl
  · obtain ⟨a, y, rfl, ha, q⟩ := h
    have T := ox_InvalidText M
    have n0 := M.n_InvalidText_line
    refine ⟨_, (pss_one (ps_ostG (pv 0) (pv 1) rfl)), ?_⟩
    refine st_eq (σ := [some _, some _]) rfl ?_
    walk_at "rd"
    refine ⟨a, C_InvalidText, rfl, T, n0, .inl ⟨ha, fun d nd ne => ?_⟩⟩
    walk_at "rd"
    exact q d nd ne
theorem c_InvalidText (M : Md K mg C_InvalidName C_InvalidCount C_InvalidNumber C_InvalidMany C_InvalidRatio C_InvalidKinds C_InvalidLink C_InvalidEnd C_InvalidModel C_InvalidTotal C_InvalidPair C_InvalidRow C_InvalidPairs C_InvalidDatabase C_InvalidWay C_InvalidSizes C_InvalidTold C_InvalidText C_InvalidClaim C_InvalidCommand C_EmptyBy C_UnknownKind C_UnknownLink C_UnknownRow C_UnknownThing C_Apart C_Taken C_Empty C_NotLet C_Lacking C_NothingToUndo C_CommandFailed C_TooMany C_EachError C_MissingError C_StateError C_LimitError) : Exn P w K mg base "InvalidText" C_InvalidText 1 ["self", "line"] (spE1 C_InvalidText "line") := by
  obtain ⟨f, fd, iC, fC, F⟩ := M.i_InvalidText
  exact ⟨f, fd, ox_InvalidText M, iC, fC, ok_InvalidText M F, M.m_InvalidText, F.bindsN fun _ _ _ _ _ _ us hl => match us, hl with | [_, _], _ => rfl⟩
theorem k_InvalidText (M : Md K mg C_InvalidName C_InvalidCount C_InvalidNumber C_InvalidMany C_InvalidRatio C_InvalidKinds C_InvalidLink C_InvalidEnd C_InvalidModel C_InvalidTotal C_InvalidPair C_InvalidRow C_InvalidPairs C_InvalidDatabase C_InvalidWay C_InvalidSizes C_InvalidTold C_InvalidText C_InvalidClaim C_InvalidCommand C_EmptyBy C_UnknownKind C_UnknownLink C_UnknownRow C_UnknownThing C_Apart C_Taken C_Empty C_NotLet C_Lacking C_NothingToUndo C_CommandFailed C_TooMany C_EachError C_MissingError C_StateError C_LimitError) : Exk P w K mg base "InvalidText" C_InvalidText 1 ["line"] (fun vs zs => vs ++ zs.reverse) (spE1 C_InvalidText "line") := by
  obtain ⟨f, fd, iC, fC, F⟩ := M.i_InvalidText
  exact ⟨f, fd, _, _, ox_InvalidText M, iC, fC, ok_InvalidText M F, M.m_InvalidText, kbn0 F 1 ["line"] (fun vs zs => vs ++ zs.reverse) (fun r1 r2 => r1.append (vals_rev r2)) fun _ _ _ _ _ _ us ws l1 l2 => match us, ws, l1, l2 with | [_], [_], _, _ => rfl⟩
theorem ex_InvalidClaim (M : Md K mg C_InvalidName C_InvalidCount C_InvalidNumber C_InvalidMany C_InvalidRatio C_InvalidKinds C_InvalidLink C_InvalidEnd C_InvalidModel C_InvalidTotal C_InvalidPair C_InvalidRow C_InvalidPairs C_InvalidDatabase C_InvalidWay C_InvalidSizes C_InvalidTold C_InvalidText C_InvalidClaim C_InvalidCommand C_EmptyBy C_UnknownKind C_UnknownLink C_UnknownRow C_UnknownThing C_Apart C_Taken C_Empty C_NotLet C_Lacking C_NothingToUndo C_CommandFailed C_TooMany C_EachError C_MissingError C_StateError C_LimitError) : ExcC K C_InvalidClaim := M.x_InvalidClaim.exc (ups _ _ "ValueError") M.hn_exc M.ht_exc
theorem xf_InvalidClaim (M : Md K mg C_InvalidName C_InvalidCount C_InvalidNumber C_InvalidMany C_InvalidRatio C_InvalidKinds C_InvalidLink C_InvalidEnd C_InvalidModel C_InvalidTotal C_InvalidPair C_InvalidRow C_InvalidPairs C_InvalidDatabase C_InvalidWay C_InvalidSizes C_InvalidTold C_InvalidText C_InvalidClaim C_InvalidCommand C_EmptyBy C_UnknownKind C_UnknownLink C_UnknownRow C_UnknownThing C_Apart C_Taken C_Empty C_NotLet C_Lacking C_NothingToUndo C_CommandFailed C_TooMany C_EachError C_MissingError C_StateError C_LimitError) : XfC K C_InvalidClaim := M.x_InvalidClaim.xf (ups _ _ "ValueError")
theorem ox_InvalidClaim (M : Md K mg C_InvalidName C_InvalidCount C_InvalidNumber C_InvalidMany C_InvalidRatio C_InvalidKinds C_InvalidLink C_InvalidEnd C_InvalidModel C_InvalidTotal C_InvalidPair C_InvalidRow C_InvalidPairs C_InvalidDatabase C_InvalidWay C_InvalidSizes C_InvalidTold C_InvalidText C_InvalidClaim C_InvalidCommand C_EmptyBy C_UnknownKind C_UnknownLink C_UnknownRow C_UnknownThing C_Apart C_Taken C_Empty C_NotLet C_Lacking C_NothingToUndo C_CommandFailed C_TooMany C_EachError C_MissingError C_StateError C_LimitError) : OexG K C_InvalidClaim := M.x_InvalidClaim.oex (ups _ _ "ValueError") PySem.F.excBase_ValueError PySem.F.store_ValueError
theorem ok_InvalidClaim (M : Md K mg C_InvalidName C_InvalidCount C_InvalidNumber C_InvalidMany C_InvalidRatio C_InvalidKinds C_InvalidLink C_InvalidEnd C_InvalidModel C_InvalidTotal C_InvalidPair C_InvalidRow C_InvalidPairs C_InvalidDatabase C_InvalidWay C_InvalidSizes C_InvalidTold C_InvalidText C_InvalidClaim C_InvalidCommand C_EmptyBy C_UnknownKind C_UnknownLink C_UnknownRow C_UnknownThing C_Apart C_Taken C_Empty C_NotLet C_Lacking C_NothingToUndo C_CommandFailed C_TooMany C_EachError C_MissingError C_StateError C_LimitError) {f : Addr} {fd : FuncData} (F : FunD K "__init__" "InvalidClaim.__init__" (defArgs st_InvalidClaim___init__) (defBody st_InvalidClaim___init__) (defScope st_InvalidClaim___init__) [] [] f fd) : FnG P w K mg base CX0 1 f fd ["self", "value"] (spE1 C_InvalidClaim "value") := by
  refine fnG_body F sc_InvalidClaim___init__ (fun vs H Q E h => ?_) (fun cdv A outer s H vs Q E hr h => ?_)
  · obtain ⟨a, y, rfl, _⟩ := h
    rfl
  · obtain ⟨a, y, rfl, ha, q⟩ := h
    have T := ox_InvalidClaim M
    have n0 := M.n_InvalidClaim_value
    refine ⟨_, (pss_one (ps_ostG (pv 0) (pv 1) rfl)), ?_⟩
    refine st_eq (σ := [some _, some _]) rfl ?_
    walk_at "rd"
    refine ⟨a, C_InvalidClaim, rfl, T, n0, .inl ⟨ha, fun d nd ne => ?_⟩⟩
    walk_at "rd"
    exact q d nd ne
theorem c_InvalidClaim (M : Md K mg C_InvalidName C_InvalidCount C_InvalidNumber C_InvalidMany C_InvalidRatio C_InvalidKinds C_InvalidLink C_InvalidEnd C_InvalidModel C_InvalidTotal C_InvalidPair C_InvalidRow C_InvalidPairs C_InvalidDatabase C_InvalidWay C_InvalidSizes C_InvalidTold C_InvalidText C_InvalidClaim C_InvalidCommand C_EmptyBy C_UnknownKind C_UnknownLink C_UnknownRow C_UnknownThing C_Apart C_Taken C_Empty C_NotLet C_Lacking C_NothingToUndo C_CommandFailed C_TooMany C_EachError C_MissingError C_StateError C_LimitError) : Exn P w K mg base "InvalidClaim" C_InvalidClaim 1 ["self", "value"] (spE1 C_InvalidClaim "value") := by
  obtain ⟨f, fd, iC, fC, F⟩ := M.i_InvalidClaim
  exact ⟨f, fd, ox_InvalidClaim M, iC, fC, ok_InvalidClaim M F, M.m_InvalidClaim, F.bindsN fun _ _ _ _ _ _ us hl => match us, hl with | [_, _], _ => rfl⟩
theorem k_InvalidClaim (M : Md K mg C_InvalidName C_InvalidCount C_InvalidNumber C_InvalidMany C_InvalidRatio C_InvalidKinds C_InvalidLink C_InvalidEnd C_InvalidModel C_InvalidTotal C_InvalidPair C_InvalidRow C_InvalidPairs C_InvalidDatabase C_InvalidWay C_InvalidSizes C_InvalidTold C_InvalidText C_InvalidClaim C_InvalidCommand C_EmptyBy C_UnknownKind C_UnknownLink C_UnknownRow C_UnknownThing C_Apart C_Taken C_Empty C_NotLet C_Lacking C_NothingToUndo C_CommandFailed C_TooMany C_EachError C_MissingError C_StateError C_LimitError) : Exk P w K mg base "InvalidClaim" C_InvalidClaim 1 ["value"] (fun vs zs => vs ++ zs.reverse) (spE1 C_InvalidClaim "value") := by
  obtain ⟨f, fd, iC, fC, F⟩ := M.i_InvalidClaim
  exact ⟨f, fd, _, _, ox_InvalidClaim M, iC, fC, ok_InvalidClaim M F, M.m_InvalidClaim, kbn0 F 1 ["value"] (fun vs zs => vs ++ zs.reverse) (fun r1 r2 => r1.append (vals_rev r2)) fun _ _ _ _ _ _ us ws l1 l2 => match us, ws, l1, l2 with | [_], [_], _, _ => rfl⟩
theorem ex_InvalidCommand (M : Md K mg C_InvalidName C_InvalidCount C_InvalidNumber C_InvalidMany C_InvalidRatio C_InvalidKinds C_InvalidLink C_InvalidEnd C_InvalidModel C_InvalidTotal C_InvalidPair C_InvalidRow C_InvalidPairs C_InvalidDatabase C_InvalidWay C_InvalidSizes C_InvalidTold C_InvalidText C_InvalidClaim C_InvalidCommand C_EmptyBy C_UnknownKind C_UnknownLink C_UnknownRow C_UnknownThing C_Apart C_Taken C_Empty C_NotLet C_Lacking C_NothingToUndo C_CommandFailed C_TooMany C_EachError C_MissingError C_StateError C_LimitError) : ExcC K C_InvalidCommand := M.x_InvalidCommand.exc (ups _ _ "ValueError") M.hn_exc M.ht_exc
theorem xf_InvalidCommand (M : Md K mg C_InvalidName C_InvalidCount C_InvalidNumber C_InvalidMany C_InvalidRatio C_InvalidKinds C_InvalidLink C_InvalidEnd C_InvalidModel C_InvalidTotal C_InvalidPair C_InvalidRow C_InvalidPairs C_InvalidDatabase C_InvalidWay C_InvalidSizes C_InvalidTold C_InvalidText C_InvalidClaim C_InvalidCommand C_EmptyBy C_UnknownKind C_UnknownLink C_UnknownRow C_UnknownThing C_Apart C_Taken C_Empty C_NotLet C_Lacking C_NothingToUndo C_CommandFailed C_TooMany C_EachError C_MissingError C_StateError C_LimitError) : XfC K C_InvalidCommand := M.x_InvalidCommand.xf (ups _ _ "ValueError")
theorem ox_InvalidCommand (M : Md K mg C_InvalidName C_InvalidCount C_InvalidNumber C_InvalidMany C_InvalidRatio C_InvalidKinds C_InvalidLink C_InvalidEnd C_InvalidModel C_InvalidTotal C_InvalidPair C_InvalidRow C_InvalidPairs C_InvalidDatabase C_InvalidWay C_InvalidSizes C_InvalidTold C_InvalidText C_InvalidClaim C_InvalidCommand C_EmptyBy C_UnknownKind C_UnknownLink C_UnknownRow C_UnknownThing C_Apart C_Taken C_Empty C_NotLet C_Lacking C_NothingToUndo C_CommandFailed C_TooMany C_EachError C_MissingError C_StateError C_LimitError) : OexG K C_InvalidCommand := M.x_InvalidCommand.oex (ups _ _ "ValueError") PySem.F.excBase_ValueError PySem.F.store_ValueError
theorem ok_InvalidCommand (M : Md K mg C_InvalidName C_InvalidCount C_InvalidNumber C_InvalidMany C_InvalidRatio C_InvalidKinds C_InvalidLink C_InvalidEnd C_InvalidModel C_InvalidTotal C_InvalidPair C_InvalidRow C_InvalidPairs C_InvalidDatabase C_InvalidWay C_InvalidSizes C_InvalidTold C_InvalidText C_InvalidClaim C_InvalidCommand C_EmptyBy C_UnknownKind C_UnknownLink C_UnknownRow C_UnknownThing C_Apart C_Taken C_Empty C_NotLet C_Lacking C_NothingToUndo C_CommandFailed C_TooMany C_EachError C_MissingError C_StateError C_LimitError) {f : Addr} {fd : FuncData} (F : FunD K "__init__" "InvalidCommand.__init__" (defArgs st_InvalidCommand___init__) (defBody st_InvalidCommand___init__) (defScope st_InvalidCommand___init__) [] [] f fd) : FnG P w K mg base CX0 1 f fd ["self", "value"] (spE1 C_InvalidCommand "value") := by
  refine fnG_body F sc_InvalidCommand___init__ (fun vs H Q E h => ?_) (fun cdv A outer s H vs Q E hr h => ?_)
  · obtain ⟨a, y, rfl, _⟩ := h
    rfl
  · obtain ⟨a, y, rfl, ha, q⟩ := h
    have T := ox_InvalidCommand M
    have n0 := M.n_InvalidCommand_value
    refine ⟨_, (pss_one (ps_ostG (pv 0) (pv 1) rfl)), ?_⟩
    refine st_eq (σ := [some _, some _]) rfl ?_
    walk_at "rd"
    refine ⟨a, C_InvalidCommand, rfl, T, n0, .inl ⟨ha, fun d nd ne => ?_⟩⟩
    walk_at "rd"
    exact q d nd ne
theorem c_InvalidCommand (M : Md K mg C_InvalidName C_InvalidCount C_InvalidNumber C_InvalidMany C_InvalidRatio C_InvalidKinds C_InvalidLink C_InvalidEnd C_InvalidModel C_InvalidTotal C_InvalidPair C_InvalidRow C_InvalidPairs C_InvalidDatabase C_InvalidWay C_InvalidSizes C_InvalidTold C_InvalidText C_InvalidClaim C_InvalidCommand C_EmptyBy C_UnknownKind C_UnknownLink C_UnknownRow C_UnknownThing C_Apart C_Taken C_Empty C_NotLet C_Lacking C_NothingToUndo C_CommandFailed C_TooMany C_EachError C_MissingError C_StateError C_LimitError) : Exn P w K mg base "InvalidCommand" C_InvalidCommand 1 ["self", "value"] (spE1 C_InvalidCommand "value") := by
  obtain ⟨f, fd, iC, fC, F⟩ := M.i_InvalidCommand
  exact ⟨f, fd, ox_InvalidCommand M, iC, fC, ok_InvalidCommand M F, M.m_InvalidCommand, F.bindsN fun _ _ _ _ _ _ us hl => match us, hl with | [_, _], _ => rfl⟩
theorem k_InvalidCommand (M : Md K mg C_InvalidName C_InvalidCount C_InvalidNumber C_InvalidMany C_InvalidRatio C_InvalidKinds C_InvalidLink C_InvalidEnd C_InvalidModel C_InvalidTotal C_InvalidPair C_InvalidRow C_InvalidPairs C_InvalidDatabase C_InvalidWay C_InvalidSizes C_InvalidTold C_InvalidText C_InvalidClaim C_InvalidCommand C_EmptyBy C_UnknownKind C_UnknownLink C_UnknownRow C_UnknownThing C_Apart C_Taken C_Empty C_NotLet C_Lacking C_NothingToUndo C_CommandFailed C_TooMany C_EachError C_MissingError C_StateError C_LimitError) : Exk P w K mg base "InvalidCommand" C_InvalidCommand 1 ["value"] (fun vs zs => vs ++ zs.reverse) (spE1 C_InvalidCommand "value") := by
  obtain ⟨f, fd, iC, fC, F⟩ := M.i_InvalidCommand
  exact ⟨f, fd, _, _, ox_InvalidCommand M, iC, fC, ok_InvalidCommand M F, M.m_InvalidCommand, kbn0 F 1 ["value"] (fun vs zs => vs ++ zs.reverse) (fun r1 r2 => r1.append (vals_rev r2)) fun _ _ _ _ _ _ us ws l1 l2 => match us, ws, l1, l2 with | [_], [_], _, _ => rfl⟩
theorem ex_EmptyBy (M : Md K mg C_InvalidName C_InvalidCount C_InvalidNumber C_InvalidMany C_InvalidRatio C_InvalidKinds C_InvalidLink C_InvalidEnd C_InvalidModel C_InvalidTotal C_InvalidPair C_InvalidRow C_InvalidPairs C_InvalidDatabase C_InvalidWay C_InvalidSizes C_InvalidTold C_InvalidText C_InvalidClaim C_InvalidCommand C_EmptyBy C_UnknownKind C_UnknownLink C_UnknownRow C_UnknownThing C_Apart C_Taken C_Empty C_NotLet C_Lacking C_NothingToUndo C_CommandFailed C_TooMany C_EachError C_MissingError C_StateError C_LimitError) : ExcC K C_EmptyBy := M.x_EmptyBy.exc (ups _ _ "ValueError") M.hn_exc M.ht_exc
theorem xf_EmptyBy (M : Md K mg C_InvalidName C_InvalidCount C_InvalidNumber C_InvalidMany C_InvalidRatio C_InvalidKinds C_InvalidLink C_InvalidEnd C_InvalidModel C_InvalidTotal C_InvalidPair C_InvalidRow C_InvalidPairs C_InvalidDatabase C_InvalidWay C_InvalidSizes C_InvalidTold C_InvalidText C_InvalidClaim C_InvalidCommand C_EmptyBy C_UnknownKind C_UnknownLink C_UnknownRow C_UnknownThing C_Apart C_Taken C_Empty C_NotLet C_Lacking C_NothingToUndo C_CommandFailed C_TooMany C_EachError C_MissingError C_StateError C_LimitError) : XfC K C_EmptyBy := M.x_EmptyBy.xf (ups _ _ "ValueError")
theorem ox_EmptyBy (M : Md K mg C_InvalidName C_InvalidCount C_InvalidNumber C_InvalidMany C_InvalidRatio C_InvalidKinds C_InvalidLink C_InvalidEnd C_InvalidModel C_InvalidTotal C_InvalidPair C_InvalidRow C_InvalidPairs C_InvalidDatabase C_InvalidWay C_InvalidSizes C_InvalidTold C_InvalidText C_InvalidClaim C_InvalidCommand C_EmptyBy C_UnknownKind C_UnknownLink C_UnknownRow C_UnknownThing C_Apart C_Taken C_Empty C_NotLet C_Lacking C_NothingToUndo C_CommandFailed C_TooMany C_EachError C_MissingError C_StateError C_LimitError) : OexG K C_EmptyBy := M.x_EmptyBy.oex (ups _ _ "ValueError") PySem.F.excBase_ValueError PySem.F.store_ValueError
theorem ok_EmptyBy (M : Md K mg C_InvalidName C_InvalidCount C_InvalidNumber C_InvalidMany C_InvalidRatio C_InvalidKinds C_InvalidLink C_InvalidEnd C_InvalidModel C_InvalidTotal C_InvalidPair C_InvalidRow C_InvalidPairs C_InvalidDatabase C_InvalidWay C_InvalidSizes C_InvalidTold C_InvalidText C_InvalidClaim C_InvalidCommand C_EmptyBy C_UnknownKind C_UnknownLink C_UnknownRow C_UnknownThing C_Apart C_Taken C_Empty C_NotLet C_Lacking C_NothingToUndo C_CommandFailed C_TooMany C_EachError C_MissingError C_StateError C_LimitError) {f : Addr} {fd : FuncData} (F : FunD K "__init__" "EmptyBy.__init__" (defArgs st_EmptyBy___init__) (defBody st_EmptyBy___init__) (defScope st_EmptyBy___init__) [] [] f fd) : FnG P w K mg base CX0 1 f fd ["self", "paper"] (spE1 C_EmptyBy "paper") := by
  refine fnG_body F sc_EmptyBy___init__ (fun vs H Q E h => ?_) (fun cdv A outer s H vs Q E hr h => ?_)
  · obtain ⟨a, y, rfl, _⟩ := h
    rfl
  · obtain ⟨a, y, rfl, ha, q⟩ := h
    have T := ox_EmptyBy M
    have n0 := M.n_EmptyBy_paper
    refine ⟨_, (pss_one (ps_ostG (pv 0) (pv 1) rfl)), ?_⟩
    refine st_eq (σ := [some _, some _]) rfl ?_
    walk_at "rd"
    refine ⟨a, C_EmptyBy, rfl, T, n0, .inl ⟨ha, fun d nd ne => ?_⟩⟩
    walk_at "rd"
    exact q d nd ne
theorem c_EmptyBy (M : Md K mg C_InvalidName C_InvalidCount C_InvalidNumber C_InvalidMany C_InvalidRatio C_InvalidKinds C_InvalidLink C_InvalidEnd C_InvalidModel C_InvalidTotal C_InvalidPair C_InvalidRow C_InvalidPairs C_InvalidDatabase C_InvalidWay C_InvalidSizes C_InvalidTold C_InvalidText C_InvalidClaim C_InvalidCommand C_EmptyBy C_UnknownKind C_UnknownLink C_UnknownRow C_UnknownThing C_Apart C_Taken C_Empty C_NotLet C_Lacking C_NothingToUndo C_CommandFailed C_TooMany C_EachError C_MissingError C_StateError C_LimitError) : Exn P w K mg base "EmptyBy" C_EmptyBy 1 ["self", "paper"] (spE1 C_EmptyBy "paper") := by
  obtain ⟨f, fd, iC, fC, F⟩ := M.i_EmptyBy
  exact ⟨f, fd, ox_EmptyBy M, iC, fC, ok_EmptyBy M F, M.m_EmptyBy, F.bindsN fun _ _ _ _ _ _ us hl => match us, hl with | [_, _], _ => rfl⟩
theorem k_EmptyBy (M : Md K mg C_InvalidName C_InvalidCount C_InvalidNumber C_InvalidMany C_InvalidRatio C_InvalidKinds C_InvalidLink C_InvalidEnd C_InvalidModel C_InvalidTotal C_InvalidPair C_InvalidRow C_InvalidPairs C_InvalidDatabase C_InvalidWay C_InvalidSizes C_InvalidTold C_InvalidText C_InvalidClaim C_InvalidCommand C_EmptyBy C_UnknownKind C_UnknownLink C_UnknownRow C_UnknownThing C_Apart C_Taken C_Empty C_NotLet C_Lacking C_NothingToUndo C_CommandFailed C_TooMany C_EachError C_MissingError C_StateError C_LimitError) : Exk P w K mg base "EmptyBy" C_EmptyBy 1 ["paper"] (fun vs zs => vs ++ zs.reverse) (spE1 C_EmptyBy "paper") := by
  obtain ⟨f, fd, iC, fC, F⟩ := M.i_EmptyBy
  exact ⟨f, fd, _, _, ox_EmptyBy M, iC, fC, ok_EmptyBy M F, M.m_EmptyBy, kbn0 F 1 ["paper"] (fun vs zs => vs ++ zs.reverse) (fun r1 r2 => r1.append (vals_rev r2)) fun _ _ _ _ _ _ us ws l1 l2 => match us, ws, l1, l2 with | [_], [_], _, _ => rfl⟩
theorem ex_UnknownKind (M : Md K mg C_InvalidName C_InvalidCount C_InvalidNumber C_InvalidMany C_InvalidRatio C_InvalidKinds C_InvalidLink C_InvalidEnd C_InvalidModel C_InvalidTotal C_InvalidPair C_InvalidRow C_InvalidPairs C_InvalidDatabase C_InvalidWay C_InvalidSizes C_InvalidTold C_InvalidText C_InvalidClaim C_InvalidCommand C_EmptyBy C_UnknownKind C_UnknownLink C_UnknownRow C_UnknownThing C_Apart C_Taken C_Empty C_NotLet C_Lacking C_NothingToUndo C_CommandFailed C_TooMany C_EachError C_MissingError C_StateError C_LimitError) : ExcC K C_UnknownKind := M.x_UnknownKind.exc (ups _ _ "LookupError") M.hn_exc M.ht_exc
theorem xf_UnknownKind (M : Md K mg C_InvalidName C_InvalidCount C_InvalidNumber C_InvalidMany C_InvalidRatio C_InvalidKinds C_InvalidLink C_InvalidEnd C_InvalidModel C_InvalidTotal C_InvalidPair C_InvalidRow C_InvalidPairs C_InvalidDatabase C_InvalidWay C_InvalidSizes C_InvalidTold C_InvalidText C_InvalidClaim C_InvalidCommand C_EmptyBy C_UnknownKind C_UnknownLink C_UnknownRow C_UnknownThing C_Apart C_Taken C_Empty C_NotLet C_Lacking C_NothingToUndo C_CommandFailed C_TooMany C_EachError C_MissingError C_StateError C_LimitError) : XfC K C_UnknownKind := M.x_UnknownKind.xf (ups _ _ "LookupError")
theorem ox_UnknownKind (M : Md K mg C_InvalidName C_InvalidCount C_InvalidNumber C_InvalidMany C_InvalidRatio C_InvalidKinds C_InvalidLink C_InvalidEnd C_InvalidModel C_InvalidTotal C_InvalidPair C_InvalidRow C_InvalidPairs C_InvalidDatabase C_InvalidWay C_InvalidSizes C_InvalidTold C_InvalidText C_InvalidClaim C_InvalidCommand C_EmptyBy C_UnknownKind C_UnknownLink C_UnknownRow C_UnknownThing C_Apart C_Taken C_Empty C_NotLet C_Lacking C_NothingToUndo C_CommandFailed C_TooMany C_EachError C_MissingError C_StateError C_LimitError) : OexG K C_UnknownKind := M.x_UnknownKind.oex (ups _ _ "LookupError") PySem.F.excBase_LookupError PySem.F.store_LookupError
theorem ok_UnknownKind (M : Md K mg C_InvalidName C_InvalidCount C_InvalidNumber C_InvalidMany C_InvalidRatio C_InvalidKinds C_InvalidLink C_InvalidEnd C_InvalidModel C_InvalidTotal C_InvalidPair C_InvalidRow C_InvalidPairs C_InvalidDatabase C_InvalidWay C_InvalidSizes C_InvalidTold C_InvalidText C_InvalidClaim C_InvalidCommand C_EmptyBy C_UnknownKind C_UnknownLink C_UnknownRow C_UnknownThing C_Apart C_Taken C_Empty C_NotLet C_Lacking C_NothingToUndo C_CommandFailed C_TooMany C_EachError C_MissingError C_StateError C_LimitError) {f : Addr} {fd : FuncData} (F : FunD K "__init__" "UnknownKind.__init__" (defArgs st_UnknownKind___init__) (defBody st_UnknownKind___init__) (defScope st_UnknownKind___init__) [] [] f fd) : FnG P w K mg base CX0 1 f fd ["self", "value"] (spE1 C_UnknownKind "value") := by
  refine fnG_body F sc_UnknownKind___init__ (fun vs H Q E h => ?_) (fun cdv A outer s H vs Q E hr h => ?_)
  · obtain ⟨a, y, rfl, _⟩ := h
    rfl
  · obtain ⟨a, y, rfl, ha, q⟩ := h
    have T := ox_UnknownKind M
    have n0 := M.n_UnknownKind_value
    refine ⟨_, (pss_one (ps_ostG (pv 0) (pv 1) rfl)), ?_⟩
    refine st_eq (σ := [some _, some _]) rfl ?_
    walk_at "rd"
    refine ⟨a, C_UnknownKind, rfl, T, n0, .inl ⟨ha, fun d nd ne => ?_⟩⟩
    walk_at "rd"
    exact q d nd ne
theorem c_UnknownKind (M : Md K mg C_InvalidName C_InvalidCount C_InvalidNumber C_InvalidMany C_InvalidRatio C_InvalidKinds C_InvalidLink C_InvalidEnd C_InvalidModel C_InvalidTotal C_InvalidPair C_InvalidRow C_InvalidPairs C_InvalidDatabase C_InvalidWay C_InvalidSizes C_InvalidTold C_InvalidText C_InvalidClaim C_InvalidCommand C_EmptyBy C_UnknownKind C_UnknownLink C_UnknownRow C_UnknownThing C_Apart C_Taken C_Empty C_NotLet C_Lacking C_NothingToUndo C_CommandFailed C_TooMany C_EachError C_MissingError C_StateError C_LimitError) : Exn P w K mg base "UnknownKind" C_UnknownKind 1 ["self", "value"] (spE1 C_UnknownKind "value") := by
  obtain ⟨f, fd, iC, fC, F⟩ := M.i_UnknownKind
  exact ⟨f, fd, ox_UnknownKind M, iC, fC, ok_UnknownKind M F, M.m_UnknownKind, F.bindsN fun _ _ _ _ _ _ us hl => match us, hl with | [_, _], _ => rfl⟩
theorem k_UnknownKind (M : Md K mg C_InvalidName C_InvalidCount C_InvalidNumber C_InvalidMany C_InvalidRatio C_InvalidKinds C_InvalidLink C_InvalidEnd C_InvalidModel C_InvalidTotal C_InvalidPair C_InvalidRow C_InvalidPairs C_InvalidDatabase C_InvalidWay C_InvalidSizes C_InvalidTold C_InvalidText C_InvalidClaim C_InvalidCommand C_EmptyBy C_UnknownKind C_UnknownLink C_UnknownRow C_UnknownThing C_Apart C_Taken C_Empty C_NotLet C_Lacking C_NothingToUndo C_CommandFailed C_TooMany C_EachError C_MissingError C_StateError C_LimitError) : Exk P w K mg base "UnknownKind" C_UnknownKind 1 ["value"] (fun vs zs => vs ++ zs.reverse) (spE1 C_UnknownKind "value") := by
  obtain ⟨f, fd, iC, fC, F⟩ := M.i_UnknownKind
  exact ⟨f, fd, _, _, ox_UnknownKind M, iC, fC, ok_UnknownKind M F, M.m_UnknownKind, kbn0 F 1 ["value"] (fun vs zs => vs ++ zs.reverse) (fun r1 r2 => r1.append (vals_rev r2)) fun _ _ _ _ _ _ us ws l1 l2 => match us, ws, l1, l2 with | [_], [_], _, _ => rfl⟩
theorem ex_UnknownLink (M : Md K mg C_InvalidName C_InvalidCount C_InvalidNumber C_InvalidMany C_InvalidRatio C_InvalidKinds C_InvalidLink C_InvalidEnd C_InvalidModel C_InvalidTotal C_InvalidPair C_InvalidRow C_InvalidPairs C_InvalidDatabase C_InvalidWay C_InvalidSizes C_InvalidTold C_InvalidText C_InvalidClaim C_InvalidCommand C_EmptyBy C_UnknownKind C_UnknownLink C_UnknownRow C_UnknownThing C_Apart C_Taken C_Empty C_NotLet C_Lacking C_NothingToUndo C_CommandFailed C_TooMany C_EachError C_MissingError C_StateError C_LimitError) : ExcC K C_UnknownLink := M.x_UnknownLink.exc (ups _ _ "LookupError") M.hn_exc M.ht_exc
theorem xf_UnknownLink (M : Md K mg C_InvalidName C_InvalidCount C_InvalidNumber C_InvalidMany C_InvalidRatio C_InvalidKinds C_InvalidLink C_InvalidEnd C_InvalidModel C_InvalidTotal C_InvalidPair C_InvalidRow C_InvalidPairs C_InvalidDatabase C_InvalidWay C_InvalidSizes C_InvalidTold C_InvalidText C_InvalidClaim C_InvalidCommand C_EmptyBy C_UnknownKind C_UnknownLink C_UnknownRow C_UnknownThing C_Apart C_Taken C_Empty C_NotLet C_Lacking C_NothingToUndo C_CommandFailed C_TooMany C_EachError C_MissingError C_StateError C_LimitError) : XfC K C_UnknownLink := M.x_UnknownLink.xf (ups _ _ "LookupError")
theorem ox_UnknownLink (M : Md K mg C_InvalidName C_InvalidCount C_InvalidNumber C_InvalidMany C_InvalidRatio C_InvalidKinds C_InvalidLink C_InvalidEnd C_InvalidModel C_InvalidTotal C_InvalidPair C_InvalidRow C_InvalidPairs C_InvalidDatabase C_InvalidWay C_InvalidSizes C_InvalidTold C_InvalidText C_InvalidClaim C_InvalidCommand C_EmptyBy C_UnknownKind C_UnknownLink C_UnknownRow C_UnknownThing C_Apart C_Taken C_Empty C_NotLet C_Lacking C_NothingToUndo C_CommandFailed C_TooMany C_EachError C_MissingError C_StateError C_LimitError) : OexG K C_UnknownLink := M.x_UnknownLink.oex (ups _ _ "LookupError") PySem.F.excBase_LookupError PySem.F.store_LookupError
theorem ok_UnknownLink (M : Md K mg C_InvalidName C_InvalidCount C_InvalidNumber C_InvalidMany C_InvalidRatio C_InvalidKinds C_InvalidLink C_InvalidEnd C_InvalidModel C_InvalidTotal C_InvalidPair C_InvalidRow C_InvalidPairs C_InvalidDatabase C_InvalidWay C_InvalidSizes C_InvalidTold C_InvalidText C_InvalidClaim C_InvalidCommand C_EmptyBy C_UnknownKind C_UnknownLink C_UnknownRow C_UnknownThing C_Apart C_Taken C_Empty C_NotLet C_Lacking C_NothingToUndo C_CommandFailed C_TooMany C_EachError C_MissingError C_StateError C_LimitError) {f : Addr} {fd : FuncData} (F : FunD K "__init__" "UnknownLink.__init__" (defArgs st_UnknownLink___init__) (defBody st_UnknownLink___init__) (defScope st_UnknownLink___init__) [] [] f fd) : FnG P w K mg base CX0 1 f fd ["self", "value"] (spE1 C_UnknownLink "value") := by
  refine fnG_body F sc_UnknownLink___init__ (fun vs H Q E h => ?_) (fun cdv A outer s H vs Q E hr h => ?_)
  · obtain ⟨a, y, rfl, _⟩ := h
    rfl
  · obtain ⟨a, y, rfl, ha, q⟩ := h
    have T := ox_UnknownLink M
    have n0 := M.n_UnknownLink_value
    refine ⟨_, (pss_one (ps_ostG (pv 0) (pv 1) rfl)), ?_⟩
    refine st_eq (σ := [some _, some _]) rfl ?_
    walk_at "rd"
    refine ⟨a, C_UnknownLink, rfl, T, n0, .inl ⟨ha, fun d nd ne => ?_⟩⟩
    walk_at "rd"
    exact q d nd ne
theorem c_UnknownLink (M : Md K mg C_InvalidName C_InvalidCount C_InvalidNumber C_InvalidMany C_InvalidRatio C_InvalidKinds C_InvalidLink C_InvalidEnd C_InvalidModel C_InvalidTotal C_InvalidPair C_InvalidRow C_InvalidPairs C_InvalidDatabase C_InvalidWay C_InvalidSizes C_InvalidTold C_InvalidText C_InvalidClaim C_InvalidCommand C_EmptyBy C_UnknownKind C_UnknownLink C_UnknownRow C_UnknownThing C_Apart C_Taken C_Empty C_NotLet C_Lacking C_NothingToUndo C_CommandFailed C_TooMany C_EachError C_MissingError C_StateError C_LimitError) : Exn P w K mg base "UnknownLink" C_UnknownLink 1 ["self", "value"] (spE1 C_UnknownLink "value") := by
  obtain ⟨f, fd, iC, fC, F⟩ := M.i_UnknownLink
  exact ⟨f, fd, ox_UnknownLink M, iC, fC, ok_UnknownLink M F, M.m_UnknownLink, F.bindsN fun _ _ _ _ _ _ us hl => match us, hl with | [_, _], _ => rfl⟩
theorem k_UnknownLink (M : Md K mg C_InvalidName C_InvalidCount C_InvalidNumber C_InvalidMany C_InvalidRatio C_InvalidKinds C_InvalidLink C_InvalidEnd C_InvalidModel C_InvalidTotal C_InvalidPair C_InvalidRow C_InvalidPairs C_InvalidDatabase C_InvalidWay C_InvalidSizes C_InvalidTold C_InvalidText C_InvalidClaim C_InvalidCommand C_EmptyBy C_UnknownKind C_UnknownLink C_UnknownRow C_UnknownThing C_Apart C_Taken C_Empty C_NotLet C_Lacking C_NothingToUndo C_CommandFailed C_TooMany C_EachError C_MissingError C_StateError C_LimitError) : Exk P w K mg base "UnknownLink" C_UnknownLink 1 ["value"] (fun vs zs => vs ++ zs.reverse) (spE1 C_UnknownLink "value") := by
  obtain ⟨f, fd, iC, fC, F⟩ := M.i_UnknownLink
  exact ⟨f, fd, _, _, ox_UnknownLink M, iC, fC, ok_UnknownLink M F, M.m_UnknownLink, kbn0 F 1 ["value"] (fun vs zs => vs ++ zs.reverse) (fun r1 r2 => r1.append (vals_rev r2)) fun _ _ _ _ _ _ us ws l1 l2 => match us, ws, l1, l2 with | [_], [_], _, _ => rfl⟩
theorem ex_UnknownRow (M : Md K mg C_InvalidName C_InvalidCount C_InvalidNumber C_InvalidMany C_InvalidRatio C_InvalidKinds C_InvalidLink C_InvalidEnd C_InvalidModel C_InvalidTotal C_InvalidPair C_InvalidRow C_InvalidPairs C_InvalidDatabase C_InvalidWay C_InvalidSizes C_InvalidTold C_InvalidText C_InvalidClaim C_InvalidCommand C_EmptyBy C_UnknownKind C_UnknownLink C_UnknownRow C_UnknownThing C_Apart C_Taken C_Empty C_NotLet C_Lacking C_NothingToUndo C_CommandFailed C_TooMany C_EachError C_MissingError C_StateError C_LimitError) : ExcC K C_UnknownRow := M.x_UnknownRow.exc (ups _ _ "LookupError") M.hn_exc M.ht_exc
theorem xf_UnknownRow (M : Md K mg C_InvalidName C_InvalidCount C_InvalidNumber C_InvalidMany C_InvalidRatio C_InvalidKinds C_InvalidLink C_InvalidEnd C_InvalidModel C_InvalidTotal C_InvalidPair C_InvalidRow C_InvalidPairs C_InvalidDatabase C_InvalidWay C_InvalidSizes C_InvalidTold C_InvalidText C_InvalidClaim C_InvalidCommand C_EmptyBy C_UnknownKind C_UnknownLink C_UnknownRow C_UnknownThing C_Apart C_Taken C_Empty C_NotLet C_Lacking C_NothingToUndo C_CommandFailed C_TooMany C_EachError C_MissingError C_StateError C_LimitError) : XfC K C_UnknownRow := M.x_UnknownRow.xf (ups _ _ "LookupError")
theorem ox_UnknownRow (M : Md K mg C_InvalidName C_InvalidCount C_InvalidNumber C_InvalidMany C_InvalidRatio C_InvalidKinds C_InvalidLink C_InvalidEnd C_InvalidModel C_InvalidTotal C_InvalidPair C_InvalidRow C_InvalidPairs C_InvalidDatabase C_InvalidWay C_InvalidSizes C_InvalidTold C_InvalidText C_InvalidClaim C_InvalidCommand C_EmptyBy C_UnknownKind C_UnknownLink C_UnknownRow C_UnknownThing C_Apart C_Taken C_Empty C_NotLet C_Lacking C_NothingToUndo C_CommandFailed C_TooMany C_EachError C_MissingError C_StateError C_LimitError) : OexG K C_UnknownRow := M.x_UnknownRow.oex (ups _ _ "LookupError") PySem.F.excBase_LookupError PySem.F.store_LookupError
theorem ok_UnknownRow (M : Md K mg C_InvalidName C_InvalidCount C_InvalidNumber C_InvalidMany C_InvalidRatio C_InvalidKinds C_InvalidLink C_InvalidEnd C_InvalidModel C_InvalidTotal C_InvalidPair C_InvalidRow C_InvalidPairs C_InvalidDatabase C_InvalidWay C_InvalidSizes C_InvalidTold C_InvalidText C_InvalidClaim C_InvalidCommand C_EmptyBy C_UnknownKind C_UnknownLink C_UnknownRow C_UnknownThing C_Apart C_Taken C_Empty C_NotLet C_Lacking C_NothingToUndo C_CommandFailed C_TooMany C_EachError C_MissingError C_StateError C_LimitError) {f : Addr} {fd : FuncData} (F : FunD K "__init__" "UnknownRow.__init__" (defArgs st_UnknownRow___init__) (defBody st_UnknownRow___init__) (defScope st_UnknownRow___init__) [] [] f fd) : FnG P w K mg base CX0 1 f fd ["self", "value"] (spE1 C_UnknownRow "value") := by
  refine fnG_body F sc_UnknownRow___init__ (fun vs H Q E h => ?_) (fun cdv A outer s H vs Q E hr h => ?_)
  · obtain ⟨a, y, rfl, _⟩ := h
    rfl
  · obtain ⟨a, y, rfl, ha, q⟩ := h
    have T := ox_UnknownRow M
    have n0 := M.n_UnknownRow_value
    refine ⟨_, (pss_one (ps_ostG (pv 0) (pv 1) rfl)), ?_⟩
    refine st_eq (σ := [some _, some _]) rfl ?_
    walk_at "rd"
    refine ⟨a, C_UnknownRow, rfl, T, n0, .inl ⟨ha, fun d nd ne => ?_⟩⟩
    walk_at "rd"
    exact q d nd ne
theorem c_UnknownRow (M : Md K mg C_InvalidName C_InvalidCount C_InvalidNumber C_InvalidMany C_InvalidRatio C_InvalidKinds C_InvalidLink C_InvalidEnd C_InvalidModel C_InvalidTotal C_InvalidPair C_InvalidRow C_InvalidPairs C_InvalidDatabase C_InvalidWay C_InvalidSizes C_InvalidTold C_InvalidText C_InvalidClaim C_InvalidCommand C_EmptyBy C_UnknownKind C_UnknownLink C_UnknownRow C_UnknownThing C_Apart C_Taken C_Empty C_NotLet C_Lacking C_NothingToUndo C_CommandFailed C_TooMany C_EachError C_MissingError C_StateError C_LimitError) : Exn P w K mg base "UnknownRow" C_UnknownRow 1 ["self", "value"] (spE1 C_UnknownRow "value") := by
  obtain ⟨f, fd, iC, fC, F⟩ := M.i_UnknownRow
  exact ⟨f, fd, ox_UnknownRow M, iC, fC, ok_UnknownRow M F, M.m_UnknownRow, F.bindsN fun _ _ _ _ _ _ us hl => match us, hl with | [_, _], _ => rfl⟩
theorem k_UnknownRow (M : Md K mg C_InvalidName C_InvalidCount C_InvalidNumber C_InvalidMany C_InvalidRatio C_InvalidKinds C_InvalidLink C_InvalidEnd C_InvalidModel C_InvalidTotal C_InvalidPair C_InvalidRow C_InvalidPairs C_InvalidDatabase C_InvalidWay C_InvalidSizes C_InvalidTold C_InvalidText C_InvalidClaim C_InvalidCommand C_EmptyBy C_UnknownKind C_UnknownLink C_UnknownRow C_UnknownThing C_Apart C_Taken C_Empty C_NotLet C_Lacking C_NothingToUndo C_CommandFailed C_TooMany C_EachError C_MissingError C_StateError C_LimitError) : Exk P w K mg base "UnknownRow" C_UnknownRow 1 ["value"] (fun vs zs => vs ++ zs.reverse) (spE1 C_UnknownRow "value") := by
  obtain ⟨f, fd, iC, fC, F⟩ := M.i_UnknownRow
  exact ⟨f, fd, _, _, ox_UnknownRow M, iC, fC, ok_UnknownRow M F, M.m_UnknownRow, kbn0 F 1 ["value"] (fun vs zs => vs ++ zs.reverse) (fun r1 r2 => r1.append (vals_rev r2)) fun _ _ _ _ _ _ us ws l1 l2 => match us, ws, l1, l2 with | [_], [_], _, _ => rfl⟩
theorem ex_UnknownThing (M : Md K mg C_InvalidName C_InvalidCount C_InvalidNumber C_InvalidMany C_InvalidRatio C_InvalidKinds C_InvalidLink C_InvalidEnd C_InvalidModel C_InvalidTotal C_InvalidPair C_InvalidRow C_InvalidPairs C_InvalidDatabase C_InvalidWay C_InvalidSizes C_InvalidTold C_InvalidText C_InvalidClaim C_InvalidCommand C_EmptyBy C_UnknownKind C_UnknownLink C_UnknownRow C_UnknownThing C_Apart C_Taken C_Empty C_NotLet C_Lacking C_NothingToUndo C_CommandFailed C_TooMany C_EachError C_MissingError C_StateError C_LimitError) : ExcC K C_UnknownThing := M.x_UnknownThing.exc (ups _ _ "LookupError") M.hn_exc M.ht_exc
theorem xf_UnknownThing (M : Md K mg C_InvalidName C_InvalidCount C_InvalidNumber C_InvalidMany C_InvalidRatio C_InvalidKinds C_InvalidLink C_InvalidEnd C_InvalidModel C_InvalidTotal C_InvalidPair C_InvalidRow C_InvalidPairs C_InvalidDatabase C_InvalidWay C_InvalidSizes C_InvalidTold C_InvalidText C_InvalidClaim C_InvalidCommand C_EmptyBy C_UnknownKind C_UnknownLink C_UnknownRow C_UnknownThing C_Apart C_Taken C_Empty C_NotLet C_Lacking C_NothingToUndo C_CommandFailed C_TooMany C_EachError C_MissingError C_StateError C_LimitError) : XfC K C_UnknownThing := M.x_UnknownThing.xf (ups _ _ "LookupError")
theorem ox_UnknownThing (M : Md K mg C_InvalidName C_InvalidCount C_InvalidNumber C_InvalidMany C_InvalidRatio C_InvalidKinds C_InvalidLink C_InvalidEnd C_InvalidModel C_InvalidTotal C_InvalidPair C_InvalidRow C_InvalidPairs C_InvalidDatabase C_InvalidWay C_InvalidSizes C_InvalidTold C_InvalidText C_InvalidClaim C_InvalidCommand C_EmptyBy C_UnknownKind C_UnknownLink C_UnknownRow C_UnknownThing C_Apart C_Taken C_Empty C_NotLet C_Lacking C_NothingToUndo C_CommandFailed C_TooMany C_EachError C_MissingError C_StateError C_LimitError) : OexG K C_UnknownThing := M.x_UnknownThing.oex (ups _ _ "LookupError") PySem.F.excBase_LookupError PySem.F.store_LookupError
theorem ok_UnknownThing (M : Md K mg C_InvalidName C_InvalidCount C_InvalidNumber C_InvalidMany C_InvalidRatio C_InvalidKinds C_InvalidLink C_InvalidEnd C_InvalidModel C_InvalidTotal C_InvalidPair C_InvalidRow C_InvalidPairs C_InvalidDatabase C_InvalidWay C_InvalidSizes C_InvalidTold C_InvalidText C_InvalidClaim C_InvalidCommand C_EmptyBy C_UnknownKind C_UnknownLink C_UnknownRow C_UnknownThing C_Apart C_Taken C_Empty C_NotLet C_Lacking C_NothingToUndo C_CommandFailed C_TooMany C_EachError C_MissingError C_StateError C_LimitError) {f : Addr} {fd : FuncData} (F : FunD K "__init__" "UnknownThing.__init__" (defArgs st_UnknownThing___init__) (defBody st_UnknownThing___init__) (defScope st_UnknownThing___init__) [] [] f fd) : FnG P w K mg base CX0 1 f fd ["self", "value"] (spE1 C_UnknownThing "value") := by
  refine fnG_body F sc_UnknownThing___init__ (fun vs H Q E h => ?_) (fun cdv A outer s H vs Q E hr h => ?_)
  · obtain ⟨a, y, rfl, _⟩ := h
    rfl
  · obtain ⟨a, y, rfl, ha, q⟩ := h
    have T := ox_UnknownThing M
    have n0 := M.n_UnknownThing_value
    refine ⟨_, (pss_one (ps_ostG (pv 0) (pv 1) rfl)), ?_⟩
    refine st_eq (σ := [some _, some _]) rfl ?_
    walk_at "rd"
    refine ⟨a, C_UnknownThing, rfl, T, n0, .inl ⟨ha, fun d nd ne => ?_⟩⟩
    walk_at "rd"
    exact q d nd ne
theorem c_UnknownThing (M : Md K mg C_InvalidName C_InvalidCount C_InvalidNumber C_InvalidMany C_InvalidRatio C_InvalidKinds C_InvalidLink C_InvalidEnd C_InvalidModel C_InvalidTotal C_InvalidPair C_InvalidRow C_InvalidPairs C_InvalidDatabase C_InvalidWay C_InvalidSizes C_InvalidTold C_InvalidText C_InvalidClaim C_InvalidCommand C_EmptyBy C_UnknownKind C_UnknownLink C_UnknownRow C_UnknownThing C_Apart C_Taken C_Empty C_NotLet C_Lacking C_NothingToUndo C_CommandFailed C_TooMany C_EachError C_MissingError C_StateError C_LimitError) : Exn P w K mg base "UnknownThing" C_UnknownThing 1 ["self", "value"] (spE1 C_UnknownThing "value") := by
  obtain ⟨f, fd, iC, fC, F⟩ := M.i_UnknownThing
  exact ⟨f, fd, ox_UnknownThing M, iC, fC, ok_UnknownThing M F, M.m_UnknownThing, F.bindsN fun _ _ _ _ _ _ us hl => match us, hl with | [_, _], _ => rfl⟩
theorem k_UnknownThing (M : Md K mg C_InvalidName C_InvalidCount C_InvalidNumber C_InvalidMany C_InvalidRatio C_InvalidKinds C_InvalidLink C_InvalidEnd C_InvalidModel C_InvalidTotal C_InvalidPair C_InvalidRow C_InvalidPairs C_InvalidDatabase C_InvalidWay C_InvalidSizes C_InvalidTold C_InvalidText C_InvalidClaim C_InvalidCommand C_EmptyBy C_UnknownKind C_UnknownLink C_UnknownRow C_UnknownThing C_Apart C_Taken C_Empty C_NotLet C_Lacking C_NothingToUndo C_CommandFailed C_TooMany C_EachError C_MissingError C_StateError C_LimitError) : Exk P w K mg base "UnknownThing" C_UnknownThing 1 ["value"] (fun vs zs => vs ++ zs.reverse) (spE1 C_UnknownThing "value") := by
  obtain ⟨f, fd, iC, fC, F⟩ := M.i_UnknownThing
  exact ⟨f, fd, _, _, ox_UnknownThing M, iC, fC, ok_UnknownThing M F, M.m_UnknownThing, kbn0 F 1 ["value"] (fun vs zs => vs ++ zs.reverse) (fun r1 r2 => r1.append (vals_rev r2)) fun _ _ _ _ _ _ us ws l1 l2 => match us, ws, l1, l2 with | [_], [_], _, _ => rfl⟩
theorem ex_Apart (M : Md K mg C_InvalidName C_InvalidCount C_InvalidNumber C_InvalidMany C_InvalidRatio C_InvalidKinds C_InvalidLink C_InvalidEnd C_InvalidModel C_InvalidTotal C_InvalidPair C_InvalidRow C_InvalidPairs C_InvalidDatabase C_InvalidWay C_InvalidSizes C_InvalidTold C_InvalidText C_InvalidClaim C_InvalidCommand C_EmptyBy C_UnknownKind C_UnknownLink C_UnknownRow C_UnknownThing C_Apart C_Taken C_Empty C_NotLet C_Lacking C_NothingToUndo C_CommandFailed C_TooMany C_EachError C_MissingError C_StateError C_LimitError) : ExcC K C_Apart := M.x_Apart.exc (ups _ _ "RuntimeError") M.hn_exc M.ht_exc
theorem xf_Apart (M : Md K mg C_InvalidName C_InvalidCount C_InvalidNumber C_InvalidMany C_InvalidRatio C_InvalidKinds C_InvalidLink C_InvalidEnd C_InvalidModel C_InvalidTotal C_InvalidPair C_InvalidRow C_InvalidPairs C_InvalidDatabase C_InvalidWay C_InvalidSizes C_InvalidTold C_InvalidText C_InvalidClaim C_InvalidCommand C_EmptyBy C_UnknownKind C_UnknownLink C_UnknownRow C_UnknownThing C_Apart C_Taken C_Empty C_NotLet C_Lacking C_NothingToUndo C_CommandFailed C_TooMany C_EachError C_MissingError C_StateError C_LimitError) : XfC K C_Apart := M.x_Apart.xf (ups _ _ "RuntimeError")
theorem ox_Apart (M : Md K mg C_InvalidName C_InvalidCount C_InvalidNumber C_InvalidMany C_InvalidRatio C_InvalidKinds C_InvalidLink C_InvalidEnd C_InvalidModel C_InvalidTotal C_InvalidPair C_InvalidRow C_InvalidPairs C_InvalidDatabase C_InvalidWay C_InvalidSizes C_InvalidTold C_InvalidText C_InvalidClaim C_InvalidCommand C_EmptyBy C_UnknownKind C_UnknownLink C_UnknownRow C_UnknownThing C_Apart C_Taken C_Empty C_NotLet C_Lacking C_NothingToUndo C_CommandFailed C_TooMany C_EachError C_MissingError C_StateError C_LimitError) : OexG K C_Apart := M.x_Apart.oex (ups _ _ "RuntimeError") PySem.F.excBase_RuntimeError PySem.F.store_RuntimeError
theorem ok_Apart (M : Md K mg C_InvalidName C_InvalidCount C_InvalidNumber C_InvalidMany C_InvalidRatio C_InvalidKinds C_InvalidLink C_InvalidEnd C_InvalidModel C_InvalidTotal C_InvalidPair C_InvalidRow C_InvalidPairs C_InvalidDatabase C_InvalidWay C_InvalidSizes C_InvalidTold C_InvalidText C_InvalidClaim C_InvalidCommand C_EmptyBy C_UnknownKind C_UnknownLink C_UnknownRow C_UnknownThing C_Apart C_Taken C_Empty C_NotLet C_Lacking C_NothingToUndo C_CommandFailed C_TooMany C_EachError C_MissingError C_StateError C_LimitError) {f : Addr} {fd : FuncData} (F : FunD K "__init__" "Apart.__init__" (defArgs st_Apart___init__) (defBody st_Apart___init__) (defScope st_Apart___init__) [] [] f fd) : FnG P w K mg base CX0 1 f fd ["self", "one", "other"] (spE2 C_Apart "one" "other") := by
  refine fnG_body F sc_Apart___init__ (fun vs H Q E h => ?_) (fun cdv A outer s H vs Q E hr h => ?_)
  · obtain ⟨a, y, z, rfl, _⟩ := h
    rfl
  · obtain ⟨a, y, z, rfl, ha, q⟩ := h
    have T := ox_Apart M
    have n0 := M.n_Apart_one
    have n1 := M.n_Apart_other
    refine ⟨_, (pss_cons (ps_ostG (pv 0) (pv 1) rfl) (pss_one (ps_ostG (pv 0) (pv 2) rfl))), ?_⟩
    refine st_eq (σ := [some _, some _, some _]) rfl ?_
    walk_at "rd"
    refine ⟨a, C_Apart, rfl, T, n0, .inl ⟨ha, fun d nd ne => ?_⟩⟩
    walk_at "rd"
    refine ⟨a, C_Apart, rfl, T, n1, .inr ⟨d, _, upd_same, (upd_ne ne).trans upd_same, by simp, ?_⟩⟩
    walk_at "rd"
    exact q d nd ne
theorem c_Apart (M : Md K mg C_InvalidName C_InvalidCount C_InvalidNumber C_InvalidMany C_InvalidRatio C_InvalidKinds C_InvalidLink C_InvalidEnd C_InvalidModel C_InvalidTotal C_InvalidPair C_InvalidRow C_InvalidPairs C_InvalidDatabase C_InvalidWay C_InvalidSizes C_InvalidTold C_InvalidText C_InvalidClaim C_InvalidCommand C_EmptyBy C_UnknownKind C_UnknownLink C_UnknownRow C_UnknownThing C_Apart C_Taken C_Empty C_NotLet C_Lacking C_NothingToUndo C_CommandFailed C_TooMany C_EachError C_MissingError C_StateError C_LimitError) : Exn P w K mg base "Apart" C_Apart 1 ["self", "one", "other"] (spE2 C_Apart "one" "other") := by
  obtain ⟨f, fd, iC, fC, F⟩ := M.i_Apart
  exact ⟨f, fd, ox_Apart M, iC, fC, ok_Apart M F, M.m_Apart, F.bindsN fun _ _ _ _ _ _ us hl => match us, hl with | [_, _, _], _ => rfl⟩
theorem k_Apart (M : Md K mg C_InvalidName C_InvalidCount C_InvalidNumber C_InvalidMany C_InvalidRatio C_InvalidKinds C_InvalidLink C_InvalidEnd C_InvalidModel C_InvalidTotal C_InvalidPair C_InvalidRow C_InvalidPairs C_InvalidDatabase C_InvalidWay C_InvalidSizes C_InvalidTold C_InvalidText C_InvalidClaim C_InvalidCommand C_EmptyBy C_UnknownKind C_UnknownLink C_UnknownRow C_UnknownThing C_Apart C_Taken C_Empty C_NotLet C_Lacking C_NothingToUndo C_CommandFailed C_TooMany C_EachError C_MissingError C_StateError C_LimitError) : Exk P w K mg base "Apart" C_Apart 1 ["other", "one"] (fun vs zs => vs ++ zs.reverse) (spE2 C_Apart "one" "other") := by
  obtain ⟨f, fd, iC, fC, F⟩ := M.i_Apart
  exact ⟨f, fd, _, _, ox_Apart M, iC, fC, ok_Apart M F, M.m_Apart, kbn0 F 1 ["other", "one"] (fun vs zs => vs ++ zs.reverse) (fun r1 r2 => r1.append (vals_rev r2)) fun _ _ _ _ _ _ us ws l1 l2 => match us, ws, l1, l2 with | [_], [_, _], _, _ => rfl⟩
theorem ex_Taken (M : Md K mg C_InvalidName C_InvalidCount C_InvalidNumber C_InvalidMany C_InvalidRatio C_InvalidKinds C_InvalidLink C_InvalidEnd C_InvalidModel C_InvalidTotal C_InvalidPair C_InvalidRow C_InvalidPairs C_InvalidDatabase C_InvalidWay C_InvalidSizes C_InvalidTold C_InvalidText C_InvalidClaim C_InvalidCommand C_EmptyBy C_UnknownKind C_UnknownLink C_UnknownRow C_UnknownThing C_Apart C_Taken C_Empty C_NotLet C_Lacking C_NothingToUndo C_CommandFailed C_TooMany C_EachError C_MissingError C_StateError C_LimitError) : ExcC K C_Taken := M.x_Taken.exc (ups _ _ "RuntimeError") M.hn_exc M.ht_exc
theorem xf_Taken (M : Md K mg C_InvalidName C_InvalidCount C_InvalidNumber C_InvalidMany C_InvalidRatio C_InvalidKinds C_InvalidLink C_InvalidEnd C_InvalidModel C_InvalidTotal C_InvalidPair C_InvalidRow C_InvalidPairs C_InvalidDatabase C_InvalidWay C_InvalidSizes C_InvalidTold C_InvalidText C_InvalidClaim C_InvalidCommand C_EmptyBy C_UnknownKind C_UnknownLink C_UnknownRow C_UnknownThing C_Apart C_Taken C_Empty C_NotLet C_Lacking C_NothingToUndo C_CommandFailed C_TooMany C_EachError C_MissingError C_StateError C_LimitError) : XfC K C_Taken := M.x_Taken.xf (ups _ _ "RuntimeError")
theorem ox_Taken (M : Md K mg C_InvalidName C_InvalidCount C_InvalidNumber C_InvalidMany C_InvalidRatio C_InvalidKinds C_InvalidLink C_InvalidEnd C_InvalidModel C_InvalidTotal C_InvalidPair C_InvalidRow C_InvalidPairs C_InvalidDatabase C_InvalidWay C_InvalidSizes C_InvalidTold C_InvalidText C_InvalidClaim C_InvalidCommand C_EmptyBy C_UnknownKind C_UnknownLink C_UnknownRow C_UnknownThing C_Apart C_Taken C_Empty C_NotLet C_Lacking C_NothingToUndo C_CommandFailed C_TooMany C_EachError C_MissingError C_StateError C_LimitError) : OexG K C_Taken := M.x_Taken.oex (ups _ _ "RuntimeError") PySem.F.excBase_RuntimeError PySem.F.store_RuntimeError
theorem ok_Taken (M : Md K mg C_InvalidName C_InvalidCount C_InvalidNumber C_InvalidMany C_InvalidRatio C_InvalidKinds C_InvalidLink C_InvalidEnd C_InvalidModel C_InvalidTotal C_InvalidPair C_InvalidRow C_InvalidPairs C_InvalidDatabase C_InvalidWay C_InvalidSizes C_InvalidTold C_InvalidText C_InvalidClaim C_InvalidCommand C_EmptyBy C_UnknownKind C_UnknownLink C_UnknownRow C_UnknownThing C_Apart C_Taken C_Empty C_NotLet C_Lacking C_NothingToUndo C_CommandFailed C_TooMany C_EachError C_MissingError C_StateError C_LimitError) {f : Addr} {fd : FuncData} (F : FunD K "__init__" "Taken.__init__" (defArgs st_Taken___init__) (defBody st_Taken___init__) (defScope st_Taken___init__) [] [] f fd) : FnG P w K mg base CX0 1 f fd ["self", "value"] (spE1 C_Taken "value") := by
  refine fnG_body F sc_Taken___init__ (fun vs H Q E h => ?_) (fun cdv A outer s H vs Q E hr h => ?_)
  · obtain ⟨a, y, rfl, _⟩ := h
    rfl
  · obtain ⟨a, y, rfl, ha, q⟩ := h
    have T := ox_Taken M
    have n0 := M.n_Taken_value
    refine ⟨_, (pss_one (ps_ostG (pv 0) (pv 1) rfl)), ?_⟩
    refine st_eq (σ := [some _, some _]) rfl ?_
    walk_at "rd"
    refine ⟨a, C_Taken, rfl, T, n0, .inl ⟨ha, fun d nd ne => ?_⟩⟩
    walk_at "rd"
    exact q d nd ne
theorem c_Taken (M : Md K mg C_InvalidName C_InvalidCount C_InvalidNumber C_InvalidMany C_InvalidRatio C_InvalidKinds C_InvalidLink C_InvalidEnd C_InvalidModel C_InvalidTotal C_InvalidPair C_InvalidRow C_InvalidPairs C_InvalidDatabase C_InvalidWay C_InvalidSizes C_InvalidTold C_InvalidText C_InvalidClaim C_InvalidCommand C_EmptyBy C_UnknownKind C_UnknownLink C_UnknownRow C_UnknownThing C_Apart C_Taken C_Empty C_NotLet C_Lacking C_NothingToUndo C_CommandFailed C_TooMany C_EachError C_MissingError C_StateError C_LimitError) : Exn P w K mg base "Taken" C_Taken 1 ["self", "value"] (spE1 C_Taken "value") := by
  obtain ⟨f, fd, iC, fC, F⟩ := M.i_Taken
  exact ⟨f, fd, ox_Taken M, iC, fC, ok_Taken M F, M.m_Taken, F.bindsN fun _ _ _ _ _ _ us hl => match us, hl with | [_, _], _ => rfl⟩
theorem k_Taken (M : Md K mg C_InvalidName C_InvalidCount C_InvalidNumber C_InvalidMany C_InvalidRatio C_InvalidKinds C_InvalidLink C_InvalidEnd C_InvalidModel C_InvalidTotal C_InvalidPair C_InvalidRow C_InvalidPairs C_InvalidDatabase C_InvalidWay C_InvalidSizes C_InvalidTold C_InvalidText C_InvalidClaim C_InvalidCommand C_EmptyBy C_UnknownKind C_UnknownLink C_UnknownRow C_UnknownThing C_Apart C_Taken C_Empty C_NotLet C_Lacking C_NothingToUndo C_CommandFailed C_TooMany C_EachError C_MissingError C_StateError C_LimitError) : Exk P w K mg base "Taken" C_Taken 1 ["value"] (fun vs zs => vs ++ zs.reverse) (spE1 C_Taken "value") := by
  obtain ⟨f, fd, iC, fC, F⟩ := M.i_Taken
  exact ⟨f, fd, _, _, ox_Taken M, iC, fC, ok_Taken M F, M.m_Taken, kbn0 F 1 ["value"] (fun vs zs => vs ++ zs.reverse) (fun r1 r2 => r1.append (vals_rev r2)) fun _ _ _ _ _ _ us ws l1 l2 => match us, ws, l1, l2 with | [_], [_], _, _ => rfl⟩
theorem ex_Empty (M : Md K mg C_InvalidName C_InvalidCount C_InvalidNumber C_InvalidMany C_InvalidRatio C_InvalidKinds C_InvalidLink C_InvalidEnd C_InvalidModel C_InvalidTotal C_InvalidPair C_InvalidRow C_InvalidPairs C_InvalidDatabase C_InvalidWay C_InvalidSizes C_InvalidTold C_InvalidText C_InvalidClaim C_InvalidCommand C_EmptyBy C_UnknownKind C_UnknownLink C_UnknownRow C_UnknownThing C_Apart C_Taken C_Empty C_NotLet C_Lacking C_NothingToUndo C_CommandFailed C_TooMany C_EachError C_MissingError C_StateError C_LimitError) : ExcC K C_Empty := M.x_Empty.exc (ups _ _ "RuntimeError") M.hn_exc M.ht_exc
theorem xf_Empty (M : Md K mg C_InvalidName C_InvalidCount C_InvalidNumber C_InvalidMany C_InvalidRatio C_InvalidKinds C_InvalidLink C_InvalidEnd C_InvalidModel C_InvalidTotal C_InvalidPair C_InvalidRow C_InvalidPairs C_InvalidDatabase C_InvalidWay C_InvalidSizes C_InvalidTold C_InvalidText C_InvalidClaim C_InvalidCommand C_EmptyBy C_UnknownKind C_UnknownLink C_UnknownRow C_UnknownThing C_Apart C_Taken C_Empty C_NotLet C_Lacking C_NothingToUndo C_CommandFailed C_TooMany C_EachError C_MissingError C_StateError C_LimitError) : XfC K C_Empty := M.x_Empty.xf (ups _ _ "RuntimeError")
theorem ox_Empty (M : Md K mg C_InvalidName C_InvalidCount C_InvalidNumber C_InvalidMany C_InvalidRatio C_InvalidKinds C_InvalidLink C_InvalidEnd C_InvalidModel C_InvalidTotal C_InvalidPair C_InvalidRow C_InvalidPairs C_InvalidDatabase C_InvalidWay C_InvalidSizes C_InvalidTold C_InvalidText C_InvalidClaim C_InvalidCommand C_EmptyBy C_UnknownKind C_UnknownLink C_UnknownRow C_UnknownThing C_Apart C_Taken C_Empty C_NotLet C_Lacking C_NothingToUndo C_CommandFailed C_TooMany C_EachError C_MissingError C_StateError C_LimitError) : OexG K C_Empty := M.x_Empty.oex (ups _ _ "RuntimeError") PySem.F.excBase_RuntimeError PySem.F.store_RuntimeError
theorem ok_Empty (M : Md K mg C_InvalidName C_InvalidCount C_InvalidNumber C_InvalidMany C_InvalidRatio C_InvalidKinds C_InvalidLink C_InvalidEnd C_InvalidModel C_InvalidTotal C_InvalidPair C_InvalidRow C_InvalidPairs C_InvalidDatabase C_InvalidWay C_InvalidSizes C_InvalidTold C_InvalidText C_InvalidClaim C_InvalidCommand C_EmptyBy C_UnknownKind C_UnknownLink C_UnknownRow C_UnknownThing C_Apart C_Taken C_Empty C_NotLet C_Lacking C_NothingToUndo C_CommandFailed C_TooMany C_EachError C_MissingError C_StateError C_LimitError) {f : Addr} {fd : FuncData} (F : FunD K "__init__" "Empty.__init__" (defArgs st_Empty___init__) (defBody st_Empty___init__) (defScope st_Empty___init__) [] [] f fd) : FnG P w K mg base CX0 1 f fd ["self", "kind", "paper"] (spE2 C_Empty "kind" "paper") := by
  refine fnG_body F sc_Empty___init__ (fun vs H Q E h => ?_) (fun cdv A outer s H vs Q E hr h => ?_)
  · obtain ⟨a, y, z, rfl, _⟩ := h
    rfl
  · obtain ⟨a, y, z, rfl, ha, q⟩ := h
    have T := ox_Empty M
    have n0 := M.n_Empty_kind
    have n1 := M.n_Empty_paper
    refine ⟨_, (pss_cons (ps_ostG (pv 0) (pv 1) rfl) (pss_one (ps_ostG (pv 0) (pv 2) rfl))), ?_⟩
    refine st_eq (σ := [some _, some _, some _]) rfl ?_
    walk_at "rd"
    refine ⟨a, C_Empty, rfl, T, n0, .inl ⟨ha, fun d nd ne => ?_⟩⟩
    walk_at "rd"
    refine ⟨a, C_Empty, rfl, T, n1, .inr ⟨d, _, upd_same, (upd_ne ne).trans upd_same, by simp, ?_⟩⟩
    walk_at "rd"
    exact q d nd ne
theorem c_Empty (M : Md K mg C_InvalidName C_InvalidCount C_InvalidNumber C_InvalidMany C_InvalidRatio C_InvalidKinds C_InvalidLink C_InvalidEnd C_InvalidModel C_InvalidTotal C_InvalidPair C_InvalidRow C_InvalidPairs C_InvalidDatabase C_InvalidWay C_InvalidSizes C_InvalidTold C_InvalidText C_InvalidClaim C_InvalidCommand C_EmptyBy C_UnknownKind C_UnknownLink C_UnknownRow C_UnknownThing C_Apart C_Taken C_Empty C_NotLet C_Lacking C_NothingToUndo C_CommandFailed C_TooMany C_EachError C_MissingError C_StateError C_LimitError) : Exn P w K mg base "Empty" C_Empty 1 ["self", "kind", "paper"] (spE2 C_Empty "kind" "paper") := by
  obtain ⟨f, fd, iC, fC, F⟩ := M.i_Empty
  exact ⟨f, fd, ox_Empty M, iC, fC, ok_Empty M F, M.m_Empty, F.bindsN fun _ _ _ _ _ _ us hl => match us, hl with | [_, _, _], _ => rfl⟩
theorem k_Empty (M : Md K mg C_InvalidName C_InvalidCount C_InvalidNumber C_InvalidMany C_InvalidRatio C_InvalidKinds C_InvalidLink C_InvalidEnd C_InvalidModel C_InvalidTotal C_InvalidPair C_InvalidRow C_InvalidPairs C_InvalidDatabase C_InvalidWay C_InvalidSizes C_InvalidTold C_InvalidText C_InvalidClaim C_InvalidCommand C_EmptyBy C_UnknownKind C_UnknownLink C_UnknownRow C_UnknownThing C_Apart C_Taken C_Empty C_NotLet C_Lacking C_NothingToUndo C_CommandFailed C_TooMany C_EachError C_MissingError C_StateError C_LimitError) : Exk P w K mg base "Empty" C_Empty 1 ["paper", "kind"] (fun vs zs => vs ++ zs.reverse) (spE2 C_Empty "kind" "paper") := by
  obtain ⟨f, fd, iC, fC, F⟩ := M.i_Empty
  exact ⟨f, fd, _, _, ox_Empty M, iC, fC, ok_Empty M F, M.m_Empty, kbn0 F 1 ["paper", "kind"] (fun vs zs => vs ++ zs.reverse) (fun r1 r2 => r1.append (vals_rev r2)) fun _ _ _ _ _ _ us ws l1 l2 => match us, ws, l1, l2 with | [_], [_, _], _, _ => rfl⟩
theorem ex_NotLet (M : Md K mg C_InvalidName C_InvalidCount C_InvalidNumber C_InvalidMany C_InvalidRatio C_InvalidKinds C_InvalidLink C_InvalidEnd C_InvalidModel C_InvalidTotal C_InvalidPair C_InvalidRow C_InvalidPairs C_InvalidDatabase C_InvalidWay C_InvalidSizes C_InvalidTold C_InvalidText C_InvalidClaim C_InvalidCommand C_EmptyBy C_UnknownKind C_UnknownLink C_UnknownRow C_UnknownThing C_Apart C_Taken C_Empty C_NotLet C_Lacking C_NothingToUndo C_CommandFailed C_TooMany C_EachError C_MissingError C_StateError C_LimitError) : ExcC K C_NotLet := M.x_NotLet.exc (ups _ _ "RuntimeError") M.hn_exc M.ht_exc
theorem xf_NotLet (M : Md K mg C_InvalidName C_InvalidCount C_InvalidNumber C_InvalidMany C_InvalidRatio C_InvalidKinds C_InvalidLink C_InvalidEnd C_InvalidModel C_InvalidTotal C_InvalidPair C_InvalidRow C_InvalidPairs C_InvalidDatabase C_InvalidWay C_InvalidSizes C_InvalidTold C_InvalidText C_InvalidClaim C_InvalidCommand C_EmptyBy C_UnknownKind C_UnknownLink C_UnknownRow C_UnknownThing C_Apart C_Taken C_Empty C_NotLet C_Lacking C_NothingToUndo C_CommandFailed C_TooMany C_EachError C_MissingError C_StateError C_LimitError) : XfC K C_NotLet := M.x_NotLet.xf (ups _ _ "RuntimeError")
theorem ox_NotLet (M : Md K mg C_InvalidName C_InvalidCount C_InvalidNumber C_InvalidMany C_InvalidRatio C_InvalidKinds C_InvalidLink C_InvalidEnd C_InvalidModel C_InvalidTotal C_InvalidPair C_InvalidRow C_InvalidPairs C_InvalidDatabase C_InvalidWay C_InvalidSizes C_InvalidTold C_InvalidText C_InvalidClaim C_InvalidCommand C_EmptyBy C_UnknownKind C_UnknownLink C_UnknownRow C_UnknownThing C_Apart C_Taken C_Empty C_NotLet C_Lacking C_NothingToUndo C_CommandFailed C_TooMany C_EachError C_MissingError C_StateError C_LimitError) : OexG K C_NotLet := M.x_NotLet.oex (ups _ _ "RuntimeError") PySem.F.excBase_RuntimeError PySem.F.store_RuntimeError
theorem ok_NotLet (M : Md K mg C_InvalidName C_InvalidCount C_InvalidNumber C_InvalidMany C_InvalidRatio C_InvalidKinds C_InvalidLink C_InvalidEnd C_InvalidModel C_InvalidTotal C_InvalidPair C_InvalidRow C_InvalidPairs C_InvalidDatabase C_InvalidWay C_InvalidSizes C_InvalidTold C_InvalidText C_InvalidClaim C_InvalidCommand C_EmptyBy C_UnknownKind C_UnknownLink C_UnknownRow C_UnknownThing C_Apart C_Taken C_Empty C_NotLet C_Lacking C_NothingToUndo C_CommandFailed C_TooMany C_EachError C_MissingError C_StateError C_LimitError) {f : Addr} {fd : FuncData} (F : FunD K "__init__" "NotLet.__init__" (defArgs st_NotLet___init__) (defBody st_NotLet___init__) (defScope st_NotLet___init__) [] [] f fd) : FnG P w K mg base CX0 1 f fd ["self", "link", "line"] (spE2 C_NotLet "link" "line") := by
  refine fnG_body F sc_NotLet___init__ (fun vs H Q E h => ?_) (fun cdv A outer s H vs Q E hr h => ?_)
  · obtain ⟨a, y, z, rfl, _⟩ := h
    rfl
  · obtain ⟨a, y, z, rfl, ha, q⟩ := h
    have T := ox_NotLet M
    have n0 := M.n_NotLet_link
    have n1 := M.n_NotLet_line
    refine ⟨_, (pss_cons (ps_ostG (pv 0) (pv 1) rfl) (pss_one (ps_ostG (pv 0) (pv 2) rfl))), ?_⟩
    refine st_eq (σ := [some _, some _, some _]) rfl ?_
    walk_at "rd"
    refine ⟨a, C_NotLet, rfl, T, n0, .inl ⟨ha, fun d nd ne => ?_⟩⟩
    walk_at "rd"
    refine ⟨a, C_NotLet, rfl, T, n1, .inr ⟨d, _, upd_same, (upd_ne ne).trans upd_same, by simp, ?_⟩⟩
    walk_at "rd"
    exact q d nd ne
theorem c_NotLet (M : Md K mg C_InvalidName C_InvalidCount C_InvalidNumber C_InvalidMany C_InvalidRatio C_InvalidKinds C_InvalidLink C_InvalidEnd C_InvalidModel C_InvalidTotal C_InvalidPair C_InvalidRow C_InvalidPairs C_InvalidDatabase C_InvalidWay C_InvalidSizes C_InvalidTold C_InvalidText C_InvalidClaim C_InvalidCommand C_EmptyBy C_UnknownKind C_UnknownLink C_UnknownRow C_UnknownThing C_Apart C_Taken C_Empty C_NotLet C_Lacking C_NothingToUndo C_CommandFailed C_TooMany C_EachError C_MissingError C_StateError C_LimitError) : Exn P w K mg base "NotLet" C_NotLet 1 ["self", "link", "line"] (spE2 C_NotLet "link" "line") := by
  obtain ⟨f, fd, iC, fC, F⟩ := M.i_NotLet
  exact ⟨f, fd, ox_NotLet M, iC, fC, ok_NotLet M F, M.m_NotLet, F.bindsN fun _ _ _ _ _ _ us hl => match us, hl with | [_, _, _], _ => rfl⟩
theorem k_NotLet (M : Md K mg C_InvalidName C_InvalidCount C_InvalidNumber C_InvalidMany C_InvalidRatio C_InvalidKinds C_InvalidLink C_InvalidEnd C_InvalidModel C_InvalidTotal C_InvalidPair C_InvalidRow C_InvalidPairs C_InvalidDatabase C_InvalidWay C_InvalidSizes C_InvalidTold C_InvalidText C_InvalidClaim C_InvalidCommand C_EmptyBy C_UnknownKind C_UnknownLink C_UnknownRow C_UnknownThing C_Apart C_Taken C_Empty C_NotLet C_Lacking C_NothingToUndo C_CommandFailed C_TooMany C_EachError C_MissingError C_StateError C_LimitError) : Exk P w K mg base "NotLet" C_NotLet 1 ["line", "link"] (fun vs zs => vs ++ zs.reverse) (spE2 C_NotLet "link" "line") := by
  obtain ⟨f, fd, iC, fC, F⟩ := M.i_NotLet
  exact ⟨f, fd, _, _, ox_NotLet M, iC, fC, ok_NotLet M F, M.m_NotLet, kbn0 F 1 ["line", "link"] (fun vs zs => vs ++ zs.reverse) (fun r1 r2 => r1.append (vals_rev r2)) fun _ _ _ _ _ _ us ws l1 l2 => match us, ws, l1, l2 with | [_], [_, _], _, _ => rfl⟩
theorem ex_Lacking (M : Md K mg C_InvalidName C_InvalidCount C_InvalidNumber C_InvalidMany C_InvalidRatio C_InvalidKinds C_InvalidLink C_InvalidEnd C_InvalidModel C_InvalidTotal C_InvalidPair C_InvalidRow C_InvalidPairs C_InvalidDatabase C_InvalidWay C_InvalidSizes C_InvalidTold C_InvalidText C_InvalidClaim C_InvalidCommand C_EmptyBy C_UnknownKind C_UnknownLink C_UnknownRow C_UnknownThing C_Apart C_Taken C_Empty C_NotLet C_Lacking C_NothingToUndo C_CommandFailed C_TooMany C_EachError C_MissingError C_StateError C_LimitError) : ExcC K C_Lacking := M.x_Lacking.exc (ups _ _ "RuntimeError") M.hn_exc M.ht_exc
theorem xf_Lacking (M : Md K mg C_InvalidName C_InvalidCount C_InvalidNumber C_InvalidMany C_InvalidRatio C_InvalidKinds C_InvalidLink C_InvalidEnd C_InvalidModel C_InvalidTotal C_InvalidPair C_InvalidRow C_InvalidPairs C_InvalidDatabase C_InvalidWay C_InvalidSizes C_InvalidTold C_InvalidText C_InvalidClaim C_InvalidCommand C_EmptyBy C_UnknownKind C_UnknownLink C_UnknownRow C_UnknownThing C_Apart C_Taken C_Empty C_NotLet C_Lacking C_NothingToUndo C_CommandFailed C_TooMany C_EachError C_MissingError C_StateError C_LimitError) : XfC K C_Lacking := M.x_Lacking.xf (ups _ _ "RuntimeError")
theorem ox_Lacking (M : Md K mg C_InvalidName C_InvalidCount C_InvalidNumber C_InvalidMany C_InvalidRatio C_InvalidKinds C_InvalidLink C_InvalidEnd C_InvalidModel C_InvalidTotal C_InvalidPair C_InvalidRow C_InvalidPairs C_InvalidDatabase C_InvalidWay C_InvalidSizes C_InvalidTold C_InvalidText C_InvalidClaim C_InvalidCommand C_EmptyBy C_UnknownKind C_UnknownLink C_UnknownRow C_UnknownThing C_Apart C_Taken C_Empty C_NotLet C_Lacking C_NothingToUndo C_CommandFailed C_TooMany C_EachError C_MissingError C_StateError C_LimitError) : OexG K C_Lacking := M.x_Lacking.oex (ups _ _ "RuntimeError") PySem.F.excBase_RuntimeError PySem.F.store_RuntimeError
theorem ok_Lacking (M : Md K mg C_InvalidName C_InvalidCount C_InvalidNumber C_InvalidMany C_InvalidRatio C_InvalidKinds C_InvalidLink C_InvalidEnd C_InvalidModel C_InvalidTotal C_InvalidPair C_InvalidRow C_InvalidPairs C_InvalidDatabase C_InvalidWay C_InvalidSizes C_InvalidTold C_InvalidText C_InvalidClaim C_InvalidCommand C_EmptyBy C_UnknownKind C_UnknownLink C_UnknownRow C_UnknownThing C_Apart C_Taken C_Empty C_NotLet C_Lacking C_NothingToUndo C_CommandFailed C_TooMany C_EachError C_MissingError C_StateError C_LimitError) {f : Addr} {fd : FuncData} (F : FunD K "__init__" "Lacking.__init__" (defArgs st_Lacking___init__) (defBody st_Lacking___init__) (defScope st_Lacking___init__) [] [] f fd) : FnG P w K mg base CX0 1 f fd ["self", "obstacle"] (spE1 C_Lacking "obstacle") := by
  refine fnG_body F sc_Lacking___init__ (fun vs H Q E h => ?_) (fun cdv A outer s H vs Q E hr h => ?_)
  · obtain ⟨a, y, rfl, _⟩ := h
    rfl
  · obtain ⟨a, y, rfl, ha, q⟩ := h
    have T := ox_Lacking M
    have n0 := M.n_Lacking_obstacle
    refine ⟨_, (pss_one (ps_ostG (pv 0) (pv 1) rfl)), ?_⟩
    refine st_eq (σ := [some _, some _]) rfl ?_
    walk_at "rd"
    refine ⟨a, C_Lacking, rfl, T, n0, .inl ⟨ha, fun d nd ne => ?_⟩⟩
    walk_at "rd"
    exact q d nd ne
theorem c_Lacking (M : Md K mg C_InvalidName C_InvalidCount C_InvalidNumber C_InvalidMany C_InvalidRatio C_InvalidKinds C_InvalidLink C_InvalidEnd C_InvalidModel C_InvalidTotal C_InvalidPair C_InvalidRow C_InvalidPairs C_InvalidDatabase C_InvalidWay C_InvalidSizes C_InvalidTold C_InvalidText C_InvalidClaim C_InvalidCommand C_EmptyBy C_UnknownKind C_UnknownLink C_UnknownRow C_UnknownThing C_Apart C_Taken C_Empty C_NotLet C_Lacking C_NothingToUndo C_CommandFailed C_TooMany C_EachError C_MissingError C_StateError C_LimitError) : Exn P w K mg base "Lacking" C_Lacking 1 ["self", "obstacle"] (spE1 C_Lacking "obstacle") := by
  obtain ⟨f, fd, iC, fC, F⟩ := M.i_Lacking
  exact ⟨f, fd, ox_Lacking M, iC, fC, ok_Lacking M F, M.m_Lacking, F.bindsN fun _ _ _ _ _ _ us hl => match us, hl with | [_, _], _ => rfl⟩
theorem k_Lacking (M : Md K mg C_InvalidName C_InvalidCount C_InvalidNumber C_InvalidMany C_InvalidRatio C_InvalidKinds C_InvalidLink C_InvalidEnd C_InvalidModel C_InvalidTotal C_InvalidPair C_InvalidRow C_InvalidPairs C_InvalidDatabase C_InvalidWay C_InvalidSizes C_InvalidTold C_InvalidText C_InvalidClaim C_InvalidCommand C_EmptyBy C_UnknownKind C_UnknownLink C_UnknownRow C_UnknownThing C_Apart C_Taken C_Empty C_NotLet C_Lacking C_NothingToUndo C_CommandFailed C_TooMany C_EachError C_MissingError C_StateError C_LimitError) : Exk P w K mg base "Lacking" C_Lacking 1 ["obstacle"] (fun vs zs => vs ++ zs.reverse) (spE1 C_Lacking "obstacle") := by
  obtain ⟨f, fd, iC, fC, F⟩ := M.i_Lacking
  exact ⟨f, fd, _, _, ox_Lacking M, iC, fC, ok_Lacking M F, M.m_Lacking, kbn0 F 1 ["obstacle"] (fun vs zs => vs ++ zs.reverse) (fun r1 r2 => r1.append (vals_rev r2)) fun _ _ _ _ _ _ us ws l1 l2 => match us, ws, l1, l2 with | [_], [_], _, _ => rfl⟩
theorem ex_NothingToUndo (M : Md K mg C_InvalidName C_InvalidCount C_InvalidNumber C_InvalidMany C_InvalidRatio C_InvalidKinds C_InvalidLink C_InvalidEnd C_InvalidModel C_InvalidTotal C_InvalidPair C_InvalidRow C_InvalidPairs C_InvalidDatabase C_InvalidWay C_InvalidSizes C_InvalidTold C_InvalidText C_InvalidClaim C_InvalidCommand C_EmptyBy C_UnknownKind C_UnknownLink C_UnknownRow C_UnknownThing C_Apart C_Taken C_Empty C_NotLet C_Lacking C_NothingToUndo C_CommandFailed C_TooMany C_EachError C_MissingError C_StateError C_LimitError) : ExcC K C_NothingToUndo := M.x_NothingToUndo.exc (ups _ _ "RuntimeError") M.hn_exc M.ht_exc
theorem ex_CommandFailed (M : Md K mg C_InvalidName C_InvalidCount C_InvalidNumber C_InvalidMany C_InvalidRatio C_InvalidKinds C_InvalidLink C_InvalidEnd C_InvalidModel C_InvalidTotal C_InvalidPair C_InvalidRow C_InvalidPairs C_InvalidDatabase C_InvalidWay C_InvalidSizes C_InvalidTold C_InvalidText C_InvalidClaim C_InvalidCommand C_EmptyBy C_UnknownKind C_UnknownLink C_UnknownRow C_UnknownThing C_Apart C_Taken C_Empty C_NotLet C_Lacking C_NothingToUndo C_CommandFailed C_TooMany C_EachError C_MissingError C_StateError C_LimitError) : ExcC K C_CommandFailed := M.x_CommandFailed.exc (ups _ _ "RuntimeError") M.hn_exc M.ht_exc
theorem xf_CommandFailed (M : Md K mg C_InvalidName C_InvalidCount C_InvalidNumber C_InvalidMany C_InvalidRatio C_InvalidKinds C_InvalidLink C_InvalidEnd C_InvalidModel C_InvalidTotal C_InvalidPair C_InvalidRow C_InvalidPairs C_InvalidDatabase C_InvalidWay C_InvalidSizes C_InvalidTold C_InvalidText C_InvalidClaim C_InvalidCommand C_EmptyBy C_UnknownKind C_UnknownLink C_UnknownRow C_UnknownThing C_Apart C_Taken C_Empty C_NotLet C_Lacking C_NothingToUndo C_CommandFailed C_TooMany C_EachError C_MissingError C_StateError C_LimitError) : XfC K C_CommandFailed := M.x_CommandFailed.xf (ups _ _ "RuntimeError")
theorem ox_CommandFailed (M : Md K mg C_InvalidName C_InvalidCount C_InvalidNumber C_InvalidMany C_InvalidRatio C_InvalidKinds C_InvalidLink C_InvalidEnd C_InvalidModel C_InvalidTotal C_InvalidPair C_InvalidRow C_InvalidPairs C_InvalidDatabase C_InvalidWay C_InvalidSizes C_InvalidTold C_InvalidText C_InvalidClaim C_InvalidCommand C_EmptyBy C_UnknownKind C_UnknownLink C_UnknownRow C_UnknownThing C_Apart C_Taken C_Empty C_NotLet C_Lacking C_NothingToUndo C_CommandFailed C_TooMany C_EachError C_MissingError C_StateError C_LimitError) : OexG K C_CommandFailed := M.x_CommandFailed.oex (ups _ _ "RuntimeError") PySem.F.excBase_RuntimeError PySem.F.store_RuntimeError
theorem ok_CommandFailed (M : Md K mg C_InvalidName C_InvalidCount C_InvalidNumber C_InvalidMany C_InvalidRatio C_InvalidKinds C_InvalidLink C_InvalidEnd C_InvalidModel C_InvalidTotal C_InvalidPair C_InvalidRow C_InvalidPairs C_InvalidDatabase C_InvalidWay C_InvalidSizes C_InvalidTold C_InvalidText C_InvalidClaim C_InvalidCommand C_EmptyBy C_UnknownKind C_UnknownLink C_UnknownRow C_UnknownThing C_Apart C_Taken C_Empty C_NotLet C_Lacking C_NothingToUndo C_CommandFailed C_TooMany C_EachError C_MissingError C_StateError C_LimitError) {f : Addr} {fd : FuncData} (F : FunD K "__init__" "CommandFailed.__init__" (defArgs st_CommandFailed___init__) (defBody st_CommandFailed___init__) (defScope st_CommandFailed___init__) [] [] f fd) : FnG P w K mg base CX0 1 f fd ["self", "position"] (spE1 C_CommandFailed "position") := by
  refine fnG_body F sc_CommandFailed___init__ (fun vs H Q E h => ?_) (fun cdv A outer s H vs Q E hr h => ?_)
  · obtain ⟨a, y, rfl, _⟩ := h
    rfl
  · obtain ⟨a, y, rfl, ha, q⟩ := h
    have T := ox_CommandFailed M
    have n0 := M.n_CommandFailed_position
    refine ⟨_, (pss_one (ps_ostG (pv 0) (pv 1) rfl)), ?_⟩
    refine st_eq (σ := [some _, some _]) rfl ?_
    walk_at "rd"
    refine ⟨a, C_CommandFailed, rfl, T, n0, .inl ⟨ha, fun d nd ne => ?_⟩⟩
    walk_at "rd"
    exact q d nd ne
theorem c_CommandFailed (M : Md K mg C_InvalidName C_InvalidCount C_InvalidNumber C_InvalidMany C_InvalidRatio C_InvalidKinds C_InvalidLink C_InvalidEnd C_InvalidModel C_InvalidTotal C_InvalidPair C_InvalidRow C_InvalidPairs C_InvalidDatabase C_InvalidWay C_InvalidSizes C_InvalidTold C_InvalidText C_InvalidClaim C_InvalidCommand C_EmptyBy C_UnknownKind C_UnknownLink C_UnknownRow C_UnknownThing C_Apart C_Taken C_Empty C_NotLet C_Lacking C_NothingToUndo C_CommandFailed C_TooMany C_EachError C_MissingError C_StateError C_LimitError) : Exn P w K mg base "CommandFailed" C_CommandFailed 1 ["self", "position"] (spE1 C_CommandFailed "position") := by
  obtain ⟨f, fd, iC, fC, F⟩ := M.i_CommandFailed
  exact ⟨f, fd, ox_CommandFailed M, iC, fC, ok_CommandFailed M F, M.m_CommandFailed, F.bindsN fun _ _ _ _ _ _ us hl => match us, hl with | [_, _], _ => rfl⟩
theorem k_CommandFailed (M : Md K mg C_InvalidName C_InvalidCount C_InvalidNumber C_InvalidMany C_InvalidRatio C_InvalidKinds C_InvalidLink C_InvalidEnd C_InvalidModel C_InvalidTotal C_InvalidPair C_InvalidRow C_InvalidPairs C_InvalidDatabase C_InvalidWay C_InvalidSizes C_InvalidTold C_InvalidText C_InvalidClaim C_InvalidCommand C_EmptyBy C_UnknownKind C_UnknownLink C_UnknownRow C_UnknownThing C_Apart C_Taken C_Empty C_NotLet C_Lacking C_NothingToUndo C_CommandFailed C_TooMany C_EachError C_MissingError C_StateError C_LimitError) : Exk P w K mg base "CommandFailed" C_CommandFailed 1 ["position"] (fun vs zs => vs ++ zs.reverse) (spE1 C_CommandFailed "position") := by
  obtain ⟨f, fd, iC, fC, F⟩ := M.i_CommandFailed
  exact ⟨f, fd, _, _, ox_CommandFailed M, iC, fC, ok_CommandFailed M F, M.m_CommandFailed, kbn0 F 1 ["position"] (fun vs zs => vs ++ zs.reverse) (fun r1 r2 => r1.append (vals_rev r2)) fun _ _ _ _ _ _ us ws l1 l2 => match us, ws, l1, l2 with | [_], [_], _, _ => rfl⟩
theorem ex_TooMany (M : Md K mg C_InvalidName C_InvalidCount C_InvalidNumber C_InvalidMany C_InvalidRatio C_InvalidKinds C_InvalidLink C_InvalidEnd C_InvalidModel C_InvalidTotal C_InvalidPair C_InvalidRow C_InvalidPairs C_InvalidDatabase C_InvalidWay C_InvalidSizes C_InvalidTold C_InvalidText C_InvalidClaim C_InvalidCommand C_EmptyBy C_UnknownKind C_UnknownLink C_UnknownRow C_UnknownThing C_Apart C_Taken C_Empty C_NotLet C_Lacking C_NothingToUndo C_CommandFailed C_TooMany C_EachError C_MissingError C_StateError C_LimitError) : ExcC K C_TooMany := M.x_TooMany.exc (ups _ _ "ArithmeticError") M.hn_exc M.ht_exc
theorem xf_TooMany (M : Md K mg C_InvalidName C_InvalidCount C_InvalidNumber C_InvalidMany C_InvalidRatio C_InvalidKinds C_InvalidLink C_InvalidEnd C_InvalidModel C_InvalidTotal C_InvalidPair C_InvalidRow C_InvalidPairs C_InvalidDatabase C_InvalidWay C_InvalidSizes C_InvalidTold C_InvalidText C_InvalidClaim C_InvalidCommand C_EmptyBy C_UnknownKind C_UnknownLink C_UnknownRow C_UnknownThing C_Apart C_Taken C_Empty C_NotLet C_Lacking C_NothingToUndo C_CommandFailed C_TooMany C_EachError C_MissingError C_StateError C_LimitError) : XfC K C_TooMany := M.x_TooMany.xf (ups _ _ "ArithmeticError")
theorem ox_TooMany (M : Md K mg C_InvalidName C_InvalidCount C_InvalidNumber C_InvalidMany C_InvalidRatio C_InvalidKinds C_InvalidLink C_InvalidEnd C_InvalidModel C_InvalidTotal C_InvalidPair C_InvalidRow C_InvalidPairs C_InvalidDatabase C_InvalidWay C_InvalidSizes C_InvalidTold C_InvalidText C_InvalidClaim C_InvalidCommand C_EmptyBy C_UnknownKind C_UnknownLink C_UnknownRow C_UnknownThing C_Apart C_Taken C_Empty C_NotLet C_Lacking C_NothingToUndo C_CommandFailed C_TooMany C_EachError C_MissingError C_StateError C_LimitError) : OexG K C_TooMany := M.x_TooMany.oex (ups _ _ "ArithmeticError") PySem.F.excBase_ArithmeticError PySem.F.store_ArithmeticError
theorem ok_TooMany (M : Md K mg C_InvalidName C_InvalidCount C_InvalidNumber C_InvalidMany C_InvalidRatio C_InvalidKinds C_InvalidLink C_InvalidEnd C_InvalidModel C_InvalidTotal C_InvalidPair C_InvalidRow C_InvalidPairs C_InvalidDatabase C_InvalidWay C_InvalidSizes C_InvalidTold C_InvalidText C_InvalidClaim C_InvalidCommand C_EmptyBy C_UnknownKind C_UnknownLink C_UnknownRow C_UnknownThing C_Apart C_Taken C_Empty C_NotLet C_Lacking C_NothingToUndo C_CommandFailed C_TooMany C_EachError C_MissingError C_StateError C_LimitError) {f : Addr} {fd : FuncData} (F : FunD K "__init__" "TooMany.__init__" (defArgs st_TooMany___init__) (defBody st_TooMany___init__) (defScope st_TooMany___init__) [] [] f fd) : FnG P w K mg base CX0 1 f fd ["self", "what", "limit"] (spE2 C_TooMany "what" "limit") := by
  refine fnG_body F sc_TooMany___init__ (fun vs H Q E h => ?_) (fun cdv A outer s H vs Q E hr h => ?_)
  · obtain ⟨a, y, z, rfl, _⟩ := h
    rfl
  · obtain ⟨a, y, z, rfl, ha, q⟩ := h
    have T := ox_TooMany M
    have n0 := M.n_TooMany_what
    have n1 := M.n_TooMany_limit
    refine ⟨_, (pss_cons (ps_ostG (pv 0) (pv 1) rfl) (pss_one (ps_ostG (pv 0) (pv 2) rfl))), ?_⟩
    refine st_eq (σ := [some _, some _, some _]) rfl ?_
    walk_at "rd"
    refine ⟨a, C_TooMany, rfl, T, n0, .inl ⟨ha, fun d nd ne => ?_⟩⟩
    walk_at "rd"
    refine ⟨a, C_TooMany, rfl, T, n1, .inr ⟨d, _, upd_same, (upd_ne ne).trans upd_same, by simp, ?_⟩⟩
    walk_at "rd"
    exact q d nd ne
theorem c_TooMany (M : Md K mg C_InvalidName C_InvalidCount C_InvalidNumber C_InvalidMany C_InvalidRatio C_InvalidKinds C_InvalidLink C_InvalidEnd C_InvalidModel C_InvalidTotal C_InvalidPair C_InvalidRow C_InvalidPairs C_InvalidDatabase C_InvalidWay C_InvalidSizes C_InvalidTold C_InvalidText C_InvalidClaim C_InvalidCommand C_EmptyBy C_UnknownKind C_UnknownLink C_UnknownRow C_UnknownThing C_Apart C_Taken C_Empty C_NotLet C_Lacking C_NothingToUndo C_CommandFailed C_TooMany C_EachError C_MissingError C_StateError C_LimitError) : Exn P w K mg base "TooMany" C_TooMany 1 ["self", "what", "limit"] (spE2 C_TooMany "what" "limit") := by
  obtain ⟨f, fd, iC, fC, F⟩ := M.i_TooMany
  exact ⟨f, fd, ox_TooMany M, iC, fC, ok_TooMany M F, M.m_TooMany, F.bindsN fun _ _ _ _ _ _ us hl => match us, hl with | [_, _, _], _ => rfl⟩
theorem k_TooMany (M : Md K mg C_InvalidName C_InvalidCount C_InvalidNumber C_InvalidMany C_InvalidRatio C_InvalidKinds C_InvalidLink C_InvalidEnd C_InvalidModel C_InvalidTotal C_InvalidPair C_InvalidRow C_InvalidPairs C_InvalidDatabase C_InvalidWay C_InvalidSizes C_InvalidTold C_InvalidText C_InvalidClaim C_InvalidCommand C_EmptyBy C_UnknownKind C_UnknownLink C_UnknownRow C_UnknownThing C_Apart C_Taken C_Empty C_NotLet C_Lacking C_NothingToUndo C_CommandFailed C_TooMany C_EachError C_MissingError C_StateError C_LimitError) : Exk P w K mg base "TooMany" C_TooMany 1 ["limit", "what"] (fun vs zs => vs ++ zs.reverse) (spE2 C_TooMany "what" "limit") := by
  obtain ⟨f, fd, iC, fC, F⟩ := M.i_TooMany
  exact ⟨f, fd, _, _, ox_TooMany M, iC, fC, ok_TooMany M F, M.m_TooMany, kbn0 F 1 ["limit", "what"] (fun vs zs => vs ++ zs.reverse) (fun r1 r2 => r1.append (vals_rev r2)) fun _ _ _ _ _ _ us ws l1 l2 => match us, ws, l1, l2 with | [_], [_, _], _, _ => rfl⟩
theorem ex_EachError (M : Md K mg C_InvalidName C_InvalidCount C_InvalidNumber C_InvalidMany C_InvalidRatio C_InvalidKinds C_InvalidLink C_InvalidEnd C_InvalidModel C_InvalidTotal C_InvalidPair C_InvalidRow C_InvalidPairs C_InvalidDatabase C_InvalidWay C_InvalidSizes C_InvalidTold C_InvalidText C_InvalidClaim C_InvalidCommand C_EmptyBy C_UnknownKind C_UnknownLink C_UnknownRow C_UnknownThing C_Apart C_Taken C_Empty C_NotLet C_Lacking C_NothingToUndo C_CommandFailed C_TooMany C_EachError C_MissingError C_StateError C_LimitError) : ExcC K C_EachError := M.x_EachError.exc (ups0 _ "ValueError") M.hn_exc M.ht_exc
theorem ex_MissingError (M : Md K mg C_InvalidName C_InvalidCount C_InvalidNumber C_InvalidMany C_InvalidRatio C_InvalidKinds C_InvalidLink C_InvalidEnd C_InvalidModel C_InvalidTotal C_InvalidPair C_InvalidRow C_InvalidPairs C_InvalidDatabase C_InvalidWay C_InvalidSizes C_InvalidTold C_InvalidText C_InvalidClaim C_InvalidCommand C_EmptyBy C_UnknownKind C_UnknownLink C_UnknownRow C_UnknownThing C_Apart C_Taken C_Empty C_NotLet C_Lacking C_NothingToUndo C_CommandFailed C_TooMany C_EachError C_MissingError C_StateError C_LimitError) : ExcC K C_MissingError := M.x_MissingError.exc (ups0 _ "LookupError") M.hn_exc M.ht_exc
theorem ex_StateError (M : Md K mg C_InvalidName C_InvalidCount C_InvalidNumber C_InvalidMany C_InvalidRatio C_InvalidKinds C_InvalidLink C_InvalidEnd C_InvalidModel C_InvalidTotal C_InvalidPair C_InvalidRow C_InvalidPairs C_InvalidDatabase C_InvalidWay C_InvalidSizes C_InvalidTold C_InvalidText C_InvalidClaim C_InvalidCommand C_EmptyBy C_UnknownKind C_UnknownLink C_UnknownRow C_UnknownThing C_Apart C_Taken C_Empty C_NotLet C_Lacking C_NothingToUndo C_CommandFailed C_TooMany C_EachError C_MissingError C_StateError C_LimitError) : ExcC K C_StateError := M.x_StateError.exc (ups0 _ "RuntimeError") M.hn_exc M.ht_exc
theorem ex_LimitError (M : Md K mg C_InvalidName C_InvalidCount C_InvalidNumber C_InvalidMany C_InvalidRatio C_InvalidKinds C_InvalidLink C_InvalidEnd C_InvalidModel C_InvalidTotal C_InvalidPair C_InvalidRow C_InvalidPairs C_InvalidDatabase C_InvalidWay C_InvalidSizes C_InvalidTold C_InvalidText C_InvalidClaim C_InvalidCommand C_EmptyBy C_UnknownKind C_UnknownLink C_UnknownRow C_UnknownThing C_Apart C_Taken C_Empty C_NotLet C_Lacking C_NothingToUndo C_CommandFailed C_TooMany C_EachError C_MissingError C_StateError C_LimitError) : ExcC K C_LimitError := M.x_LimitError.exc (ups0 _ "ArithmeticError") M.hn_exc M.ht_exc
end
end My
end
section

open My L2 PySem
open My L2 PySem
local macro_rules | `(tactic| walk_at "as") => `(tactic| with_reducible assumption)
local macro_rules | `(tactic| walk_at "hp") => `(tactic| first
  | walk_at "as" | exact upd_same
  | (rw [upd_ne (by walk_at "ne")]; walk_at "hp")
  | (refine But.get (by walk_at "as") ?hp1 ?hp2; (case hp1 => walk_at "hp"); (case hp2 => walk_at "ne"))
  | (refine My.Same.get (by walk_at "as") ?hp1; (case hp1 => walk_at "hp")))
local macro_rules | `(tactic| walk_at "ne") => `(tactic| first
  | walk_at "as" | exact Ne.symm (by walk_at "as")
  | (refine' ne_of_none ?ne1 ?ne2; (case ne2 => walk_at "as"); (case ne1 => walk_at "hp"))
  | (refine' Ne.symm (ne_of_none ?ne1 ?ne2); (case ne2 => walk_at "as"); (case ne1 => walk_at "hp"))
  | exact ne_of (by walk_at "hp") (by walk_at "hp") (by intro z; cases z))
local macro_rules | `(tactic| walk_at "sd") => `(tactic| first
  | walk_at "as" | omega | decide | exact ⟨by omega, by omega⟩ | exact .inl ⟨by omega, by omega⟩ | exact .inr ⟨by omega, by omega⟩ | exact divp_wide (by walk_at "as") (by walk_at "as") | exact Sm.cmul (by walk_at "as") (by walk_at "as") | exact cmul_small (by omega) (by omega) (by omega) (by omega) | exact ⟨by omega, by decide⟩)
local macro_rules | `(tactic| walk_at "bt") => `(tactic| first
  | walk_at "as" | exact But.refl _ _ | exact Same.but (by walk_at "as")
  | (refine But.trans ?bt1 But.at; (case bt1 => walk_at "bt"))
  | (refine But.trans ?bt1 (But.new (by first | walk_at "as" | walk_at "hp")); (case bt1 => walk_at "bt"))
  | (refine But.trans ?bt1 (by walk_at "as"); (case bt1 => walk_at "bt"))
  | (refine But.trans ?bt1 (Same.but (by walk_at "as")); (case bt1 => walk_at "bt")))
local macro_rules | `(tactic| walk_at "sm") => `(tactic| first
  | walk_at "as" | exact My.Same.rfl' _
  | (refine' My.Same.at_ ?sm1 ?sm2; (case sm1 => walk_at "as"); (case sm2 => walk_at "sm"))
  | (refine' My.Same.tr ?sm1 (My.Same.new ?sm2); (case sm2 => walk_at "as"); (case sm1 => walk_at "sm"))
  | (refine' My.Same.tr ?sm1 ?sm2; (case sm2 => walk_at "as"); (case sm1 => walk_at "sm")))
local macro_rules | `(tactic| walk_at "sz") => `(tactic| first
  | assumption | exact lt_size (by rfl) | exact le_size (by rfl) | (rw [sizeLine_eq]; omega)
  | (rw [sizeLine_eq]; simp only [List.length_append, List.length_map, List.length_cons, List.length_nil]; omega))
local macro_rules | `(tactic| walk_at "few") => `(tactic| (repeat refine few_put ?_); exact few0)
local macro_rules | `(tactic| walk_at "rd1") => `(tactic| first
  | (with_reducible show tVar _ _ _ _); refine s_var rfl ?_
  | with_reducible refine s_c ?_ | with_reducible refine s_op ?_ | with_reducible refine s_un ?_
  | with_reducible refine s_cons ?_ | with_reducible refine s_nil ?_ | with_reducible refine s_cb ?_
  | with_reducible refine s_test ?_ | with_reducible refine s_B ?_ | with_reducible refine s_not ?_ | with_reducible refine s_and ?_ | with_reducible refine s_or ?_
  | with_reducible refine s_if ?_ | with_reducible refine s_notV ?_ | with_reducible refine s_andV ?_ | with_reducible refine s_orV ?_
  | with_reducible refine s_orT ?_ | with_reducible refine s_andT ?_ | with_reducible refine s_chain ?_
  | with_reducible refine s_isi_int ?_ | with_reducible refine s_isi_int_bool ?_ | with_reducible refine s_isi_str ?_
  | with_reducible refine iteT ?_ | with_reducible refine iteF ?_ | with_reducible refine iteNT ?_ | with_reducible refine iteNF ?_
  | with_reducible refine s_isN ?_ | with_reducible refine s_notN ?_
  | ((with_reducible refine' s_2setE ?g1 ?_); (case g1 => first | (dsimp only [List.set, L2.wipe, List.map, List.foldl]; done) | (dsimp only [List.set, L2.wipe, List.map, List.foldl]; rfl)))
  | with_reducible refine s_seq ?_ | with_reducible refine s_ifS ?_ | with_reducible refine s_asg ?_ | with_reducible refine s_ret ?_ | with_reducible refine s_drop ?_ | with_reducible refine s_next ?_
  | ((with_reducible refine' s_gnameE ?g1 ?_); (case g1 => first | (dsimp only [List.set, L2.wipe, List.map, List.foldl]; done) | (dsimp only [List.set, L2.wipe, List.map, List.foldl]; rfl)))
  | with_reducible refine s_gsub ?_ | with_reducible refine s_gcons ?_ | with_reducible refine s_gnil ?_
  | (with_reducible show gTup _ _ _ _ _ _ _); refine s_gtup (by walk_at "hp") rfl ?_
  | with_reducible refine s_eqI ?_ | with_reducible refine s_neI ?_ | with_reducible refine s_eqS ?_ | with_reducible refine s_neB ?_ | with_reducible refine s_eqB ?_ | with_reducible refine s_neSr ?_ | with_reducible refine s_neS ?_
  | with_reducible refine s_I0 ?_
  | (with_reducible show rI _ _ _ _ _ _); refine s_I (by walk_at "sd") ?_
  | (with_reducible show rIxL _ _ _ _ _); refine s_ixL (by walk_at "hp") rfl ?_
  | (with_reducible show rIxT _ _ _ _ _); refine s_ixT (by walk_at "hp") rfl ?_
  | (with_reducible show rSetL _ _ _ _ _); refine s_setL (by walk_at "hp") rfl ?_
  | with_reducible refine s_prop ?_
  | (with_reducible show _ ≤ sizeLine ∧ _); refine ⟨le_size (by rfl), ?_⟩
  | with_reducible refine ite_NN ?_ | with_reducible refine ite_IN ?_ | with_reducible refine ite_nNN ?_ | with_reducible refine ite_nIN ?_ | with_reducible refine ite_RN ?_ | with_reducible refine ite_nRN ?_
  | with_reducible refine s_sfld ?_
  | ((with_reducible refine' ⟨_, _, _, _, rfl, ?fp1, ?fp2, ?fp3, ?fp4, ?_⟩); (case fp1 => walk_at "hp"); (case fp2 => assumption); (case fp3 => assumption); (case fp4 => walk_at "few"))
  | with_reducible refine s_fldE ?_
  | ((with_reducible refine' ⟨_, _, _, _, _, rfl, ?fp1, ?fp2, ?fp3, ?fp4, ?_⟩); (case fp1 => walk_at "hp"); (case fp2 => assumption); (case fp3 => assumption); (case fp4 => rfl))
  | with_reducible refine s_bm ?_ | with_reducible refine s_bm0 ?_
  | ((with_reducible refine' s_tyL ?ty1 ?_); (case ty1 => walk_at "hp"))
  | ((with_reducible refine' s_append ?ap1 ?ap2 ?_); (case ap1 => walk_at "hp"); (case ap2 => walk_at "sz"))
  | ((with_reducible refine' s_extend ?ap1 ?ap2 ?ap3 ?_); (case ap1 => walk_at "hp"); (case ap2 => walk_at "hp"); (case ap3 => walk_at "sz"))
  | with_reducible refine s_for (fun _ _ => ?_) | with_reducible refine s_lc ?_ | with_reducible refine s_iList ?_ | with_reducible refine s_iTup ?_ | with_reducible refine s_iRng1 ?_ | with_reducible refine s_iRng2 ?_
  | with_reducible refine s_yes ?_ | with_reducible refine s_par ?_
  | with_reducible refine s_make ?_ | with_reducible refine s_meth ?_
  | with_reducible refine s_tup ?_ | with_reducible refine s_lst ?_ | with_reducible refine s_call ?_
  | with_reducible refine ⟨rfl, ?_⟩
  | with_reducible refine ⟨_, rfl, ?_⟩
  | ((with_reducible refine' ⟨_, _, rfl, ?sd1, ?_⟩); (case sd1 => walk_at "sd"))
  | with_reducible refine ⟨_, _, rfl, ?_⟩
  | with_reducible refine .inl ⟨_, rfl, ?_⟩
  | dsimp only [List.set]
  | walk_at "rdx"
  | (refine fun _ _ => ?_))
local macro_rules | `(tactic| walk_at "rd") => `(tactic| repeat (first
  | (with_reducible show tVar _ _ _ _); refine s_var rfl ?_
  | with_reducible refine s_c ?_ | with_reducible refine s_op ?_ | with_reducible refine s_un ?_
  | with_reducible refine s_cons ?_ | with_reducible refine s_nil ?_ | with_reducible refine s_cb ?_
  | with_reducible refine s_test ?_ | with_reducible refine s_B ?_ | with_reducible refine s_not ?_ | with_reducible refine s_and ?_ | with_reducible refine s_or ?_
  | with_reducible refine s_if ?_ | with_reducible refine s_notV ?_ | with_reducible refine s_andV ?_ | with_reducible refine s_orV ?_
  | with_reducible refine s_orT ?_ | with_reducible refine s_andT ?_ | with_reducible refine s_chain ?_
  | with_reducible refine s_isi_int ?_ | with_reducible refine s_isi_int_bool ?_ | with_reducible refine s_isi_str ?_
  | with_reducible refine iteT ?_ | with_reducible refine iteF ?_ | with_reducible refine iteNT ?_ | with_reducible refine iteNF ?_
  | with_reducible refine s_isN ?_ | with_reducible refine s_notN ?_
  | ((with_reducible refine' s_2setE ?g1 ?_); (case g1 => first | (dsimp only [List.set, L2.wipe, List.map, List.foldl]; done) | (dsimp only [List.set, L2.wipe, List.map, List.foldl]; rfl)))
  | with_reducible refine s_seq ?_ | with_reducible refine s_ifS ?_ | with_reducible refine s_asg ?_ | with_reducible refine s_ret ?_ | with_reducible refine s_drop ?_ | with_reducible refine s_next ?_
  | ((with_reducible refine' s_gnameE ?g1 ?_); (case g1 => first | (dsimp only [List.set, L2.wipe, List.map, List.foldl]; done) | (dsimp only [List.set, L2.wipe, List.map, List.foldl]; rfl)))
  | with_reducible refine s_gsub ?_ | with_reducible refine s_gcons ?_ | with_reducible refine s_gnil ?_
  | (with_reducible show gTup _ _ _ _ _ _ _); refine s_gtup (by walk_at "hp") rfl ?_
  | with_reducible refine s_eqI ?_ | with_reducible refine s_neI ?_ | with_reducible refine s_eqS ?_ | with_reducible refine s_neB ?_ | with_reducible refine s_eqB ?_ | with_reducible refine s_neSr ?_ | with_reducible refine s_neS ?_
  | with_reducible refine s_I0 ?_
  | (with_reducible show rI _ _ _ _ _ _); refine s_I (by walk_at "sd") ?_
  | (with_reducible show rIxL _ _ _ _ _); refine s_ixL (by walk_at "hp") rfl ?_
  | (with_reducible show rIxT _ _ _ _ _); refine s_ixT (by walk_at "hp") rfl ?_
  | (with_reducible show rSetL _ _ _ _ _); refine s_setL (by walk_at "hp") rfl ?_
  | with_reducible refine s_prop ?_
  | (with_reducible show _ ≤ sizeLine ∧ _); refine ⟨le_size (by rfl), ?_⟩
  | with_reducible refine ite_NN ?_ | with_reducible refine ite_IN ?_ | with_reducible refine ite_nNN ?_ | with_reducible refine ite_nIN ?_ | with_reducible refine ite_RN ?_ | with_reducible refine ite_nRN ?_
  | with_reducible refine s_sfld ?_
  | ((with_reducible refine' ⟨_, _, _, _, rfl, ?fp1, ?fp2, ?fp3, ?fp4, ?_⟩); (case fp1 => walk_at "hp"); (case fp2 => assumption); (case fp3 => assumption); (case fp4 => walk_at "few"))
  | with_reducible refine s_fldE ?_
  | ((with_reducible refine' ⟨_, _, _, _, _, rfl, ?fp1, ?fp2, ?fp3, ?fp4, ?_⟩); (case fp1 => walk_at "hp"); (case fp2 => assumption); (case fp3 => assumption); (case fp4 => rfl))
  | with_reducible refine s_bm ?_ | with_reducible refine s_bm0 ?_
  | ((with_reducible refine' s_tyL ?ty1 ?_); (case ty1 => walk_at "hp"))
  | ((with_reducible refine' s_append ?ap1 ?ap2 ?_); (case ap1 => walk_at "hp"); (case ap2 => walk_at "sz"))
  | ((with_reducible refine' s_extend ?ap1 ?ap2 ?ap3 ?_); (case ap1 => walk_at "hp"); (case ap2 => walk_at "hp"); (case ap3 => walk_at "sz"))
  | with_reducible refine s_for (fun _ _ => ?_) | with_reducible refine s_lc ?_ | with_reducible refine s_iList ?_ | with_reducible refine s_iTup ?_ | with_reducible refine s_iRng1 ?_ | with_reducible refine s_iRng2 ?_
  | with_reducible refine s_yes ?_ | with_reducible refine s_par ?_
  | with_reducible refine s_make ?_ | with_reducible refine s_meth ?_
  | with_reducible refine s_tup ?_ | with_reducible refine s_lst ?_ | with_reducible refine s_call ?_
  | with_reducible refine ⟨rfl, ?_⟩
  | with_reducible refine ⟨_, rfl, ?_⟩
  | ((with_reducible refine' ⟨_, _, rfl, ?sd1, ?_⟩); (case sd1 => walk_at "sd"))
  | with_reducible refine ⟨_, _, rfl, ?_⟩
  | with_reducible refine .inl ⟨_, rfl, ?_⟩
  | dsimp only [List.set]
  | walk_at "rdx"
  | (refine fun _ _ => ?_)))

namespace My
open PySem L2
section
variable {P : Program} {w : World} {K : PySem.W.Frag} {mg : Str → Option Value} {base : Heap} {C_InvalidName C_InvalidCount C_InvalidNumber C_InvalidMany C_InvalidRatio C_InvalidKinds C_InvalidLink C_InvalidEnd C_InvalidModel C_InvalidTotal C_InvalidPair C_InvalidRow C_InvalidPairs C_InvalidDatabase C_InvalidWay C_InvalidSizes C_InvalidTold C_InvalidText C_InvalidClaim C_InvalidCommand C_EmptyBy C_UnknownKind C_UnknownLink C_UnknownRow C_UnknownThing C_Apart C_Taken C_Empty C_NotLet C_Lacking C_NothingToUndo C_CommandFailed C_TooMany C_EachError C_MissingError C_StateError C_LimitError : Addr} (M : Md K mg C_InvalidName C_InvalidCount C_InvalidNumber C_InvalidMany C_InvalidRatio C_InvalidKinds C_InvalidLink C_InvalidEnd C_InvalidModel C_InvalidTotal C_InvalidPair C_InvalidRow C_InvalidPairs C_InvalidDatabase C_InvalidWay C_InvalidSizes C_InvalidTold C_InvalidText C_InvalidClaim C_InvalidCommand C_EmptyBy C_UnknownKind C_UnknownLink C_UnknownRow C_UnknownThing C_Apart C_Taken C_Empty C_NotLet C_Lacking C_NothingToUndo C_CommandFailed C_TooMany C_EachError C_MissingError C_StateError C_LimitError)
include M
omit M
def Pot (H : Hp) (r : Addr) : Prop := ∃ p q : Int, H r = some (.lst [.int p, .int q]) ∧ 0 ≤ p ∧ 0 ≤ q ∧ q < 2147483648
def spPotOf (K : PySem.W.Frag) : Sp := fun vs H Q _ => ∃ (a : Addr) (ns : List Int) (k : Int), vs = [.ref a, .int k] ∧ SqL K H a (ns.map V.int) ∧ 0 ≤ k ∧ k < 1000 ∧ ∀ r H', Same H H' → H r = none → Pot H' r → Q (.ref r) H'
def spDraw : Sp := fun vs H Q _ => ∃ (r : Addr) (n : Int), vs = [.ref r, .int n] ∧ Pot H r ∧ 0 < n ∧ n.natAbs.log2 < 9000 ∧ ∀ d H', But r H H' → Pot H' r → 0 ≤ d → d < n → Q (.int d) H'
include M
theorem c__law_rng : Dn P w K mg base "_law_rng" 1 ["_law_script", "_law_k"] [] (spPotOf K) := by
  refine dnN M.f__law_rng (fun F => ?_) (fun _ _ _ _ _ _ us hl => match us, hl with | [_, _], _ => rfl)
  refine fnG_body F sc__law_rng (fun vs H Q E h => ?_) (fun cdv A outer s H vs Q E hr h => ?_)
  · obtain ⟨a, ns, k, rfl, _⟩ := h
    rfl
  · obtain ⟨a, ns, k, rfl, hS, h0, h1, q⟩ := h
    refine ⟨_, (pss_cons (ps_set (i := 2) sc__law_rng.nd rfl (.inl rfl) (pe_ifExp (pt_cmpR op_lt (pv 1) (pe_callB call_len_seq (by rfl) M.b_len (by decide +kernel) (pa_cons (pv 0) pa_nil)) (nomark _)) (pe_ix ix_list (pv 0) (pv 1) (fun _ _ => rfl)) (pe_op op_add (pe_op op_mulW pe_int (pv 1)) pe_int))) (pss_one (ps_ret (pe_lst (pa_cons (pe_callB (call_max2 rfl) (by rfl) M.b_max (by decide +kernel) (pa_cons pe_int (pa_cons (pe_op op_sub (pe_callB call_abs (by rfl) M.b_abs (by decide +kernel) (pa_cons (pv 2) pa_nil)) (pe_op op_pow pe_int pe_int)) pa_nil))) (pa_cons (pe_op op_add (pe_op op_mod (pe_callTy call_int1 (by rfl) M.b_int (by decide +kernel) (pa_cons (pe_op op_add (pe_op op_add (pe_op op_mulW (pe_op op_mod (pe_callTy call_int1 (by rfl) M.b_int (by decide +kernel) (pa_cons (pe_callB call_abs (by rfl) M.b_abs (by decide +kernel) (pa_cons (pv 2) pa_nil)) pa_nil)) pe_int) pe_int) (pe_op op_mulW pe_int (pv 1))) pe_int) pa_nil)) pe_int) pe_int) pa_nil)))))), ?_⟩
    refine st_eq (σ := [some _, some _, none]) rfl ?_
    walk_at "rd"
    refine ⟨_, _, rfl, .inl hS, ?_⟩
    walk_at "rd"
    refine ite_d (fun hc => ?_) (fun hc => ?_)
    · obtain ⟨c, ec⟩ := atI_ints h0 hc
      walk_at "rd"
      refine ⟨_, _, _, _, rfl, rfl, hS, ec, ?_⟩
      walk_at "rd"
      refine q _ _ (Same.new (by assumption)) (by assumption) ⟨_, _, upd_same, ?_, ?_, ?_⟩
      · split <;> omega
      · omega
      · omega
    · walk_at "rd"
      refine q _ _ (Same.new (by assumption)) (by assumption) ⟨_, _, upd_same, ?_, ?_, ?_⟩
      · split <;> omega
      · omega
      · omega
theorem c__law_draw : Dn P w K mg base "_law_draw" 1 ["_law_rng_here", "_law_sides"] [] spDraw := by
  refine dnN M.f__law_draw (fun F => ?_) (fun _ _ _ _ _ _ us hl => match us, hl with | [_, _], _ => rfl)
  refine fnG_body F sc__law_draw (fun vs H Q E h => ?_) (fun cdv A outer s H vs Q E hr h => ?_)
  · obtain ⟨r, n, rfl, _⟩ := h
    rfl
  · obtain ⟨r, n, rfl, ⟨p, y, e, hp, hy, hz⟩, h0, h1, q⟩ := h
    refine ⟨_, (pss_cons (ps_if (pt_cmpR op_gt (pe_ix ix_list (pv 0) pe_int (fun _ _ => rfl)) pe_int (nomark _)) (pss_cons (ps_asg (pe_callB call_divmodW (by rfl) M.b_divmod (by decide +kernel) (pa_cons (pe_ix ix_list (pv 0) pe_int (fun _ _ => rfl)) (pa_cons (pv 1) pa_nil))) (pg_tup (by rfl) (pgs_cons (pg_sub (pv 0) pe_int set_list) (pgs_cons (pg_name (i := 2) sc__law_draw.nd rfl (.inl rfl)) pgs_nil)))) (pss_one (ps_ret (pv 2)))) pss_nil) (pss_cons (ps_asg (pe_op op_mod (pe_callTy call_int1 (by rfl) M.b_int (by decide +kernel) (pa_cons (pe_op op_add (pe_op op_mulW (pe_ix ix_list (pv 0) pe_int (fun _ _ => rfl)) pe_int) pe_int) pa_nil)) pe_int) (pg_sub (pv 0) pe_int set_list)) (pss_one (ps_ret (pe_op op_mod (pe_callTy call_int1 (by rfl) M.b_int (by decide +kernel) (pa_cons (pe_op op_fdivW (pe_op op_mod (pe_callTy call_int1 (by rfl) M.b_int (by decide +kernel) (pa_cons (pe_op op_mulW (pe_ix ix_list (pv 0) pe_int (fun _ _ => rfl)) (pe_ix ix_list (pv 0) pe_int (fun _ _ => rfl))) pa_nil)) pe_int) pe_int) pa_nil)) (pv 1)))))), ?_⟩
    refine st_eq (σ := [some _, some _, none]) rfl ?_
    walk_at "rd"
    refine ite_d (fun hc => ?_) (fun hc => ?_)
    · walk_at "rd"
      refine q _ _ ((But.new (by assumption)).trans But.at) ⟨_, _, upd_same, ?_, hy, hz⟩ (Int.emod_nonneg _ (by omega)) (Int.emod_lt_of_pos _ h0)
      exact Int.ediv_nonneg hp (by omega)
    · walk_at "rd"
      refine q _ _ But.at ⟨_, _, upd_same, hp, by omega, by omega⟩ (Int.emod_nonneg _ (by omega)) (Int.emod_lt_of_pos _ h0)
omit M
theorem Pot.up {H : Hp} {r p : Addr} {o : HO} (h : Pot H r) (n : H p = none) : Pot (upd H p o) r := by
  obtain ⟨x, y, e, h⟩ := h
  exact ⟨x, y, by rw [upd_ne (ne_of_none e n)]; exact e, h⟩
theorem Pot.ne {H : Hp} {r p : Addr} (h : Pot H r) (n : H p = none) : p ≠ r := by
  obtain ⟨x, y, e, h⟩ := h
  exact (ne_of_none e n).symm
def spPick : Sp := fun vs H Q _ => ∃ (r l : Addr) (xs : List V), vs = [.ref r, .ref l] ∧ H l = some (.lst xs) ∧ l ≠ r ∧ 0 < xs.length ∧ xs.length < 100000 ∧ Pot H r ∧ ∀ v H', v ∈ xs → But r H H' → Pot H' r → Q v H'
include M
theorem c__law_choice : Dn P w K mg base "_law_choice" 2 ["_law_rng_here", "_law_some"] [] spPick := by
  have c__law_draw := c__law_draw (P := P) (w := w) (base := base) M
  refine dnN M.f__law_choice (fun F => ?_) (fun _ _ _ _ _ _ us hl => match us, hl with | [_, _], _ => rfl)
  refine fnG_body F sc__law_choice (fun vs H Q E h => ?_) (fun cdv A outer s H vs Q E hr h => ?_)
  · obtain ⟨r, l, xs, rfl, _⟩ := h
    rfl
  · obtain ⟨r, l, xs, rfl, hl, hn, h0, h1, hp, q⟩ := h
    refine ⟨_, (pss_one (ps_ret (pe_ix ix_list (pv 1) (pe_callD c__law_draw (hr.mono (by decide)) rfl (pa_cons (pv 0) (pa_cons (pe_callB call_len_seq (by rfl) M.b_len (by decide +kernel) (pa_cons (pv 1) pa_nil)) pa_nil))) (fun _ _ => rfl)))), ?_⟩
    refine st_eq (σ := [some _, some _]) rfl ?_
    walk_at "rd"
    refine ⟨_, _, rfl, .inl (SqL.of hl), ?_⟩
    walk_at "rd"
    refine ⟨r, _, rfl, hp, by omega, ?_, fun d H' hb hp' d0 d1 => ?_⟩
    · exact lg (sm62 (by omega) (by omega))
    · obtain ⟨j, rfl⟩ : ∃ j : Nat, d = j := ⟨d.toNat, by omega⟩
      have hj : j < xs.length := by omega
      walk_at "rd"
      refine s_ixL (v := xs[j]) (hb.get hl hn) (atI_nat (by simp [hj])) ?_
      exact q _ _ (List.getElem_mem hj) hb hp'
end
end My
end
section

open My L2 PySem
open My L2 PySem
local macro_rules | `(tactic| walk_at "as") => `(tactic| with_reducible assumption)
local macro_rules | `(tactic| walk_at "hp") => `(tactic| first
  | walk_at "as" | exact upd_same
  | (rw [upd_ne (by walk_at "ne")]; walk_at "hp")
  | (refine But.get (by walk_at "as") ?hp1 ?hp2; (case hp1 => walk_at "hp"); (case hp2 => walk_at "ne"))
  | (refine My.Same.get (by walk_at "as") ?hp1; (case hp1 => walk_at "hp")))
local macro_rules | `(tactic| walk_at "ne") => `(tactic| first
  | walk_at "as" | exact Ne.symm (by walk_at "as")
  | (refine' ne_of_none ?ne1 ?ne2; (case ne2 => walk_at "as"); (case ne1 => walk_at "hp"))
  | (refine' Ne.symm (ne_of_none ?ne1 ?ne2); (case ne2 => walk_at "as"); (case ne1 => walk_at "hp"))
  | exact ne_of (by walk_at "hp") (by walk_at "hp") (by intro z; cases z))
local macro_rules | `(tactic| walk_at "sd") => `(tactic| first
  | walk_at "as" | omega | decide | exact ⟨by omega, by omega⟩ | exact .inl ⟨by omega, by omega⟩ | exact .inr ⟨by omega, by omega⟩ | exact divp_wide (by walk_at "as") (by walk_at "as") | exact Sm.cmul (by walk_at "as") (by walk_at "as") | exact cmul_small (by omega) (by omega) (by omega) (by omega) | exact ⟨by omega, by decide⟩)
local macro_rules | `(tactic| walk_at "bt") => `(tactic| first
  | walk_at "as" | exact But.refl _ _ | exact Same.but (by walk_at "as")
  | (refine But.trans ?bt1 But.at; (case bt1 => walk_at "bt"))
  | (refine But.trans ?bt1 (But.new (by first | walk_at "as" | walk_at "hp")); (case bt1 => walk_at "bt"))
  | (refine But.trans ?bt1 (by walk_at "as"); (case bt1 => walk_at "bt"))
  | (refine But.trans ?bt1 (Same.but (by walk_at "as")); (case bt1 => walk_at "bt")))
local macro_rules | `(tactic| walk_at "sm") => `(tactic| first
  | walk_at "as" | exact My.Same.rfl' _
  | (refine' My.Same.at_ ?sm1 ?sm2; (case sm1 => walk_at "as"); (case sm2 => walk_at "sm"))
  | (refine' My.Same.tr ?sm1 (My.Same.new ?sm2); (case sm2 => walk_at "as"); (case sm1 => walk_at "sm"))
  | (refine' My.Same.tr ?sm1 ?sm2; (case sm2 => walk_at "as"); (case sm1 => walk_at "sm")))
local macro_rules | `(tactic| walk_at "sz") => `(tactic| first
  | assumption | exact lt_size (by rfl) | exact le_size (by rfl) | (rw [sizeLine_eq]; omega)
  | (rw [sizeLine_eq]; simp only [List.length_append, List.length_map, List.length_cons, List.length_nil]; omega))
local macro_rules | `(tactic| walk_at "few") => `(tactic| (repeat refine few_put ?_); exact few0)
local macro_rules | `(tactic| walk_at "rd1") => `(tactic| first
  | (with_reducible show tVar _ _ _ _); refine s_var rfl ?_
  | with_reducible refine s_c ?_ | with_reducible refine s_op ?_ | with_reducible refine s_un ?_
  | with_reducible refine s_cons ?_ | with_reducible refine s_nil ?_ | with_reducible refine s_cb ?_
  | with_reducible refine s_test ?_ | with_reducible refine s_B ?_ | with_reducible refine s_not ?_ | with_reducible refine s_and ?_ | with_reducible refine s_or ?_
  | with_reducible refine s_if ?_ | with_reducible refine s_notV ?_ | with_reducible refine s_andV ?_ | with_reducible refine s_orV ?_
  | with_reducible refine s_orT ?_ | with_reducible refine s_andT ?_ | with_reducible refine s_chain ?_
  | with_reducible refine s_isi_int ?_ | with_reducible refine s_isi_int_bool ?_ | with_reducible refine s_isi_str ?_
  | with_reducible refine iteT ?_ | with_reducible refine iteF ?_ | with_reducible refine iteNT ?_ | with_reducible refine iteNF ?_
  | with_reducible refine s_isN ?_ | with_reducible refine s_notN ?_
  | ((with_reducible refine' s_2setE ?g1 ?_); (case g1 => first | (dsimp only [List.set, L2.wipe, List.map, List.foldl]; done) | (dsimp only [List.set, L2.wipe, List.map, List.foldl]; rfl)))
  | with_reducible refine s_seq ?_ | with_reducible refine s_ifS ?_ | with_reducible refine s_asg ?_ | with_reducible refine s_ret ?_ | with_reducible refine s_drop ?_ | with_reducible refine s_next ?_
  | ((with_reducible refine' s_gnameE ?g1 ?_); (case g1 => first | (dsimp only [List.set, L2.wipe, List.map, List.foldl]; done) | (dsimp only [List.set, L2.wipe, List.map, List.foldl]; rfl)))
  | with_reducible refine s_gsub ?_ | with_reducible refine s_gcons ?_ | with_reducible refine s_gnil ?_
  | (with_reducible show gTup _ _ _ _ _ _ _); refine s_gtup (by walk_at "hp") rfl ?_
  | with_reducible refine s_eqI ?_ | with_reducible refine s_neI ?_ | with_reducible refine s_eqS ?_ | with_reducible refine s_neB ?_ | with_reducible refine s_eqB ?_ | with_reducible refine s_neSr ?_ | with_reducible refine s_neS ?_
  | with_reducible refine s_I0 ?_
  | (with_reducible show rI _ _ _ _ _ _); refine s_I (by walk_at "sd") ?_
  | (with_reducible show rIxL _ _ _ _ _); refine s_ixL (by walk_at "hp") rfl ?_
  | (with_reducible show rIxT _ _ _ _ _); refine s_ixT (by walk_at "hp") rfl ?_
  | (with_reducible show rSetL _ _ _ _ _); refine s_setL (by walk_at "hp") rfl ?_
  | with_reducible refine s_prop ?_
  | (with_reducible show _ ≤ sizeLine ∧ _); refine ⟨le_size (by rfl), ?_⟩
  | with_reducible refine ite_NN ?_ | with_reducible refine ite_IN ?_ | with_reducible refine ite_nNN ?_ | with_reducible refine ite_nIN ?_ | with_reducible refine ite_RN ?_ | with_reducible refine ite_nRN ?_
  | with_reducible refine s_sfld ?_
  | ((with_reducible refine' ⟨_, _, _, _, rfl, ?fp1, ?fp2, ?fp3, ?fp4, ?_⟩); (case fp1 => walk_at "hp"); (case fp2 => assumption); (case fp3 => assumption); (case fp4 => walk_at "few"))
  | with_reducible refine s_fldE ?_
  | ((with_reducible refine' ⟨_, _, _, _, _, rfl, ?fp1, ?fp2, ?fp3, ?fp4, ?_⟩); (case fp1 => walk_at "hp"); (case fp2 => assumption); (case fp3 => assumption); (case fp4 => rfl))
  | with_reducible refine s_bm ?_ | with_reducible refine s_bm0 ?_
  | ((with_reducible refine' s_tyL ?ty1 ?_); (case ty1 => walk_at "hp"))
  | ((with_reducible refine' s_append ?ap1 ?ap2 ?_); (case ap1 => walk_at "hp"); (case ap2 => walk_at "sz"))
  | ((with_reducible refine' s_extend ?ap1 ?ap2 ?ap3 ?_); (case ap1 => walk_at "hp"); (case ap2 => walk_at "hp"); (case ap3 => walk_at "sz"))
  | with_reducible refine s_for (fun _ _ => ?_) | with_reducible refine s_lc ?_ | with_reducible refine s_iList ?_ | with_reducible refine s_iTup ?_ | with_reducible refine s_iRng1 ?_ | with_reducible refine s_iRng2 ?_
  | with_reducible refine s_yes ?_ | with_reducible refine s_par ?_
  | with_reducible refine s_make ?_ | with_reducible refine s_meth ?_
  | with_reducible refine s_tup ?_ | with_reducible refine s_lst ?_ | with_reducible refine s_call ?_
  | with_reducible refine ⟨rfl, ?_⟩
  | with_reducible refine ⟨_, rfl, ?_⟩
  | ((with_reducible refine' ⟨_, _, rfl, ?sd1, ?_⟩); (case sd1 => walk_at "sd"))
  | with_reducible refine ⟨_, _, rfl, ?_⟩
  | with_reducible refine .inl ⟨_, rfl, ?_⟩
  | dsimp only [List.set]
  | walk_at "rdx"
  | (refine fun _ _ => ?_))
local macro_rules | `(tactic| walk_at "rd") => `(tactic| repeat (first
  | (with_reducible show tVar _ _ _ _); refine s_var rfl ?_
  | with_reducible refine s_c ?_ | with_reducible refine s_op ?_ | with_reducible refine s_un ?_
  | with_reducible refine s_cons ?_ | with_reducible refine s_nil ?_ | with_reducible refine s_cb ?_
  | with_reducible refine s_test ?_ | with_reducible refine s_B ?_ | with_reducible refine s_not ?_ | with_reducible refine s_and ?_ | with_reducible refine s_or ?_
  | with_reducible refine s_if ?_ | with_reducible refine s_notV ?_ | with_reducible refine s_andV ?_ | with_reducible refine s_orV ?_
  | with_reducible refine s_orT ?_ | with_reducible refine s_andT ?_ | with_reducible refine s_chain ?_
  | with_reducible refine s_isi_int ?_ | with_reducible refine s_isi_int_bool ?_ | with_reducible refine s_isi_str ?_
  | with_reducible refine iteT ?_ | with_reducible refine iteF ?_ | with_reducible refine iteNT ?_ | with_reducible refine iteNF ?_
  | with_reducible refine s_isN ?_ | with_reducible refine s_notN ?_
  | ((with_reducible refine' s_2setE ?g1 ?_); (case g1 => first | (dsimp only [List.set, L2.wipe, List.map, List.foldl]; done) | (dsimp only [List.set, L2.wipe, List.map, List.foldl]; rfl)))
  | with_reducible refine s_seq ?_ | with_reducible refine s_ifS ?_ | with_reducible refine s_asg ?_ | with_reducible refine s_ret ?_ | with_reducible refine s_drop ?_ | with_reducible refine s_next ?_
  | ((with_reducible refine' s_gnameE ?g1 ?_); (case g1 => first | (dsimp only [List.set, L2.wipe, List.map, List.foldl]; done) | (dsimp only [List.set, L2.wipe, List.map, List.foldl]; rfl)))
  | with_reducible refine s_gsub ?_ | with_reducible refine s_gcons ?_ | with_reducible refine s_gnil ?_
  | (with_reducible show gTup _ _ _ _ _ _ _); refine s_gtup (by walk_at "hp") rfl ?_
  | with_reducible refine s_eqI ?_ | with_reducible refine s_neI ?_ | with_reducible refine s_eqS ?_ | with_reducible refine s_neB ?_ | with_reducible refine s_eqB ?_ | with_reducible refine s_neSr ?_ | with_reducible refine s_neS ?_
  | with_reducible refine s_I0 ?_
  | (with_reducible show rI _ _ _ _ _ _); refine s_I (by walk_at "sd") ?_
  | (with_reducible show rIxL _ _ _ _ _); refine s_ixL (by walk_at "hp") rfl ?_
  | (with_reducible show rIxT _ _ _ _ _); refine s_ixT (by walk_at "hp") rfl ?_
  | (with_reducible show rSetL _ _ _ _ _); refine s_setL (by walk_at "hp") rfl ?_
  | with_reducible refine s_prop ?_
  | (with_reducible show _ ≤ sizeLine ∧ _); refine ⟨le_size (by rfl), ?_⟩
  | with_reducible refine ite_NN ?_ | with_reducible refine ite_IN ?_ | with_reducible refine ite_nNN ?_ | with_reducible refine ite_nIN ?_ | with_reducible refine ite_RN ?_ | with_reducible refine ite_nRN ?_
  | with_reducible refine s_sfld ?_
  | ((with_reducible refine' ⟨_, _, _, _, rfl, ?fp1, ?fp2, ?fp3, ?fp4, ?_⟩); (case fp1 => walk_at "hp"); (case fp2 => assumption); (case fp3 => assumption); (case fp4 => walk_at "few"))
  | with_reducible refine s_fldE ?_
  | ((with_reducible refine' ⟨_, _, _, _, _, rfl, ?fp1, ?fp2, ?fp3, ?fp4, ?_⟩); (case fp1 => walk_at "hp"); (case fp2 => assumption); (case fp3 => assumption); (case fp4 => rfl))
  | with_reducible refine s_bm ?_ | with_reducible refine s_bm0 ?_
  | ((with_reducible refine' s_tyL ?ty1 ?_); (case ty1 => walk_at "hp"))
  | ((with_reducible refine' s_append ?ap1 ?ap2 ?_); (case ap1 => walk_at "hp"); (case ap2 => walk_at "sz"))
  | ((with_reducible refine' s_extend ?ap1 ?ap2 ?ap3 ?_); (case ap1 => walk_at "hp"); (case ap2 => walk_at "hp"); (case ap3 => walk_at "sz"))
  | with_reducible refine s_for (fun _ _ => ?_) | with_reducible refine s_lc ?_ | with_reducible refine s_iList ?_ | with_reducible refine s_iTup ?_ | with_reducible refine s_iRng1 ?_ | with_reducible refine s_iRng2 ?_
  | with_reducible refine s_yes ?_ | with_reducible refine s_par ?_
  | with_reducible refine s_make ?_ | with_reducible refine s_meth ?_
  | with_reducible refine s_tup ?_ | with_reducible refine s_lst ?_ | with_reducible refine s_call ?_
  | with_reducible refine ⟨rfl, ?_⟩
  | with_reducible refine ⟨_, rfl, ?_⟩
  | ((with_reducible refine' ⟨_, _, rfl, ?sd1, ?_⟩); (case sd1 => walk_at "sd"))
  | with_reducible refine ⟨_, _, rfl, ?_⟩
  | with_reducible refine .inl ⟨_, rfl, ?_⟩
  | dsimp only [List.set]
  | walk_at "rdx"
  | (refine fun _ _ => ?_)))

namespace My
open PySem L2
section
variable {P : Program} {w : World} {K : PySem.W.Frag} {mg : Str → Option Value} {base : Heap} {C_InvalidName C_InvalidCount C_InvalidNumber C_InvalidMany C_InvalidRatio C_InvalidKinds C_InvalidLink C_InvalidEnd C_InvalidModel C_InvalidTotal C_InvalidPair C_InvalidRow C_InvalidPairs C_InvalidDatabase C_InvalidWay C_InvalidSizes C_InvalidTold C_InvalidText C_InvalidClaim C_InvalidCommand C_EmptyBy C_UnknownKind C_UnknownLink C_UnknownRow C_UnknownThing C_Apart C_Taken C_Empty C_NotLet C_Lacking C_NothingToUndo C_CommandFailed C_TooMany C_EachError C_MissingError C_StateError C_LimitError : Addr} (M : Md K mg C_InvalidName C_InvalidCount C_InvalidNumber C_InvalidMany C_InvalidRatio C_InvalidKinds C_InvalidLink C_InvalidEnd C_InvalidModel C_InvalidTotal C_InvalidPair C_InvalidRow C_InvalidPairs C_InvalidDatabase C_InvalidWay C_InvalidSizes C_InvalidTold C_InvalidText C_InvalidClaim C_InvalidCommand C_EmptyBy C_UnknownKind C_UnknownLink C_UnknownRow C_UnknownThing C_Apart C_Taken C_Empty C_NotLet C_Lacking C_NothingToUndo C_CommandFailed C_TooMany C_EachError C_MissingError C_StateError C_LimitError)
include M
local macro_rules | `(tactic| walk_at "rdx") => `(tactic| first | with_reducible refine s_ostG ?_ | with_reducible refine s_mkE ?_ | with_reducible refine s_mkEK ?_ | with_reducible refine s_xf ?_ | with_reducible refine s_lstN ?_)
local macro_rules | `(tactic| walk_at "cl") => `(tactic| repeat (first | walk_at "rd1" | (refine ite_d (fun h => absurd h (by decide)) (fun _ => ?_)) | (refine ite_d (fun _ => ?_) (fun h => absurd rfl h))))
omit M
def spMk (cl : List Addr) (lo hi : Nat) : Sp := fun vs H Q _ => ∃ (t : Nat) (l : Addr) (v0 v1 : V), vs = [.int t, .ref l] ∧ lo ≤ t ∧ t ≤ hi ∧ H l = some (.lst [v0, v1]) ∧ ∀ a H', Same H H' → ExAt cl H' a t v0 v1 → Q (.ref a) H'
theorem same2 {H : Hp} {a d : Addr} {o1 o2 o3 : HO} (ha : H a = none) (hd : (L2.upd H a o1) d = none) (ne : d ≠ a) : Same H (L2.upd (L2.upd (L2.upd H a o1) d o2) a o3) := fun c u e => by
  have n1 : c ≠ a := ne_of_none e ha
  have n2 : c ≠ d := ne_of_none e (by rw [upd_ne ne] at hd; exact hd)
  rw [upd_ne n1, upd_ne n2, upd_ne n1]
  exact e
theorem same3 {H : Hp} {a d : Addr} {o1 o2 o3 o4 : HO} (ha : H a = none) (hd : (L2.upd H a o1) d = none) (ne : d ≠ a) : Same H (L2.upd (L2.upd (L2.upd (L2.upd H a o1) d o2) a o3) d o4) := fun c u e => by
  have n2 : c ≠ d := ne_of_none e (by rw [upd_ne ne] at hd; exact hd)
  rw [upd_ne n2]
  exact same2 ha hd ne c u e
include M
theorem c__law_first : Dn P w K mg base "_law_first" 3 ["_law_at", "_law_x"] [] (spMk [C_InvalidName, C_InvalidCount, C_InvalidNumber, C_InvalidMany, C_InvalidRatio, C_InvalidKinds, C_InvalidLink, C_InvalidEnd, C_InvalidModel, C_InvalidTotal, C_InvalidPair, C_InvalidRow, C_InvalidPairs, C_InvalidDatabase, C_InvalidWay, C_InvalidSizes, C_InvalidTold, C_InvalidText, C_InvalidClaim, C_InvalidCommand, C_EmptyBy, C_UnknownKind, C_UnknownLink, C_UnknownRow, C_UnknownThing, C_Apart, C_Taken, C_Empty, C_NotLet, C_Lacking, C_NothingToUndo, C_CommandFailed, C_TooMany] 0 12) := by
  have c_InvalidName := c_InvalidName (P := P) (w := w) (base := base) M
  have c_InvalidCount := c_InvalidCount (P := P) (w := w) (base := base) M
  have c_InvalidNumber := c_InvalidNumber (P := P) (w := w) (base := base) M
  have c_InvalidMany := c_InvalidMany (P := P) (w := w) (base := base) M
  have c_InvalidRatio := c_InvalidRatio (P := P) (w := w) (base := base) M
  have c_InvalidKinds := c_InvalidKinds (P := P) (w := w) (base := base) M
  have c_InvalidLink := c_InvalidLink (P := P) (w := w) (base := base) M
  have c_InvalidEnd := c_InvalidEnd (P := P) (w := w) (base := base) M
  have c_InvalidModel := c_InvalidModel (P := P) (w := w) (base := base) M
  have c_InvalidTotal := c_InvalidTotal (P := P) (w := w) (base := base) M
  have c_InvalidPair := c_InvalidPair (P := P) (w := w) (base := base) M
  have c_InvalidRow := c_InvalidRow (P := P) (w := w) (base := base) M
  have c_InvalidPairs := c_InvalidPairs (P := P) (w := w) (base := base) M
  refine dnN M.f__law_first (fun F => ?_) (fun _ _ _ _ _ _ us hl => match us, hl with | [_, _], _ => rfl)
  refine fnG_body F sc__law_first (fun vs H Q E h => ?_) (fun cdv A outer s H vs Q E hr h => ?_)
  · obtain ⟨t, l, v0, v1, rfl, _⟩ := h
    rfl
  · obtain ⟨t, l, v0, v1, rfl, h0, h1, hl, q⟩ := h
    refine ⟨_, (pss_cons (ps_if (pt_cmpR op_eq (pv 0) pe_int (nomark _)) (pss_one (ps_ret (pe_mkE c_InvalidName (hr.mono (by decide)) rfl (pa_cons (pe_ix ix_list (pv 1) pe_int (fun _ _ => rfl)) pa_nil)))) pss_nil) (pss_cons (ps_if (pt_cmpR op_eq (pv 0) pe_int (nomark _)) (pss_one (ps_ret (pe_mkE c_InvalidCount (hr.mono (by decide)) rfl (pa_cons (pe_ix ix_list (pv 1) pe_int (fun _ _ => rfl)) pa_nil)))) pss_nil) (pss_cons (ps_if (pt_cmpR op_eq (pv 0) pe_int (nomark _)) (pss_one (ps_ret (pe_mkE c_InvalidNumber (hr.mono (by decide)) rfl (pa_cons (pe_ix ix_list (pv 1) pe_int (fun _ _ => rfl)) pa_nil)))) pss_nil) (pss_cons (ps_if (pt_cmpR op_eq (pv 0) pe_int (nomark _)) (pss_one (ps_ret (pe_mkE c_InvalidMany (hr.mono (by decide)) rfl (pa_cons (pe_ix ix_list (pv 1) pe_int (fun _ _ => rfl)) pa_nil)))) pss_nil) (pss_cons (ps_if (pt_cmpR op_eq (pv 0) pe_int (nomark _)) (pss_one (ps_ret (pe_mkE c_InvalidRatio (hr.mono (by decide)) rfl (pa_cons (pe_ix ix_list (pv 1) pe_int (fun _ _ => rfl)) pa_nil)))) pss_nil) (pss_cons (ps_if (pt_cmpR op_eq (pv 0) pe_int (nomark _)) (pss_one (ps_ret (pe_mkE c_InvalidKinds (hr.mono (by decide)) rfl (pa_cons (pe_ix ix_list (pv 1) pe_int (fun _ _ => rfl)) pa_nil)))) pss_nil) (pss_cons (ps_if (pt_cmpR op_eq (pv 0) pe_int (nomark _)) (pss_one (ps_ret (pe_mkE c_InvalidLink (hr.mono (by decide)) rfl (pa_cons (pe_ix ix_list (pv 1) pe_int (fun _ _ => rfl)) pa_nil)))) pss_nil) (pss_cons (ps_if (pt_cmpR op_eq (pv 0) pe_int (nomark _)) (pss_one (ps_ret (pe_mkE c_InvalidEnd (hr.mono (by decide)) rfl (pa_cons (pe_ix ix_list (pv 1) pe_int (fun _ _ => rfl)) pa_nil)))) pss_nil) (pss_cons (ps_if (pt_cmpR op_eq (pv 0) pe_int (nomark _)) (pss_one (ps_ret (pe_mkE c_InvalidModel (hr.mono (by decide)) rfl (pa_cons (pe_ix ix_list (pv 1) pe_int (fun _ _ => rfl)) pa_nil)))) pss_nil) (pss_cons (ps_if (pt_cmpR op_eq (pv 0) pe_int (nomark _)) (pss_one (ps_ret (pe_mkE c_InvalidTotal (hr.mono (by decide)) rfl (pa_cons (pe_ix ix_list (pv 1) pe_int (fun _ _ => rfl)) pa_nil)))) pss_nil) (pss_cons (ps_if (pt_cmpR op_eq (pv 0) pe_int (nomark _)) (pss_one (ps_ret (pe_mkE c_InvalidPair (hr.mono (by decide)) rfl (pa_cons (pe_ix ix_list (pv 1) pe_int (fun _ _ => rfl)) pa_nil)))) pss_nil) (pss_cons (ps_if (pt_cmpR op_eq (pv 0) pe_int (nomark _)) (pss_one (ps_ret (pe_mkE c_InvalidRow (hr.mono (by decide)) rfl (pa_cons (pe_ix ix_list (pv 1) pe_int (fun _ _ => rfl)) pa_nil)))) pss_nil) (pss_one (ps_ret (pe_mkE c_InvalidPairs (hr.mono (by decide)) rfl (pa_cons (pe_ix ix_list (pv 1) pe_int (fun _ _ => rfl)) (pa_cons (pe_ix ix_list (pv 1) pe_int (fun _ _ => rfl)) pa_nil))))))))))))))))), ?_⟩
    refine st_eq (σ := [some _, some _]) rfl ?_
    obtain rfl | rfl | rfl | rfl | rfl | rfl | rfl | rfl | rfl | rfl | rfl | rfl | rfl : t = 0 ∨ t = 1 ∨ t = 2 ∨ t = 3 ∨ t = 4 ∨ t = 5 ∨ t = 6 ∨ t = 7 ∨ t = 8 ∨ t = 9 ∨ t = 10 ∨ t = 11 ∨ t = 12 := by omega
    · walk_at "cl"
      refine ⟨by simp, fun a na => ?_⟩
      refine ⟨a, v0, rfl, upd_same, fun d nd ne => ⟨rfl, ?_⟩⟩
      walk_at "cl"
      exact q a _ (same2 na nd ne) ⟨C_InvalidName, rfl, .inr ⟨d, by decide, upd_same, (upd_ne ne).trans upd_same⟩⟩
    · walk_at "cl"
      refine ⟨by simp, fun a na => ?_⟩
      refine ⟨a, v0, rfl, upd_same, fun d nd ne => ⟨rfl, ?_⟩⟩
      walk_at "cl"
      exact q a _ (same2 na nd ne) ⟨C_InvalidCount, rfl, .inr ⟨d, by decide, upd_same, (upd_ne ne).trans upd_same⟩⟩
    · walk_at "cl"
      refine ⟨by simp, fun a na => ?_⟩
      refine ⟨a, v0, rfl, upd_same, fun d nd ne => ⟨rfl, ?_⟩⟩
      walk_at "cl"
      exact q a _ (same2 na nd ne) ⟨C_InvalidNumber, rfl, .inr ⟨d, by decide, upd_same, (upd_ne ne).trans upd_same⟩⟩
    · walk_at "cl"
      refine ⟨by simp, fun a na => ?_⟩
      refine ⟨a, v0, rfl, upd_same, fun d nd ne => ⟨rfl, ?_⟩⟩
      walk_at "cl"
      exact q a _ (same2 na nd ne) ⟨C_InvalidMany, rfl, .inr ⟨d, by decide, upd_same, (upd_ne ne).trans upd_same⟩⟩
    · walk_at "cl"
      refine ⟨by simp, fun a na => ?_⟩
      refine ⟨a, v0, rfl, upd_same, fun d nd ne => ⟨rfl, ?_⟩⟩
      walk_at "cl"
      exact q a _ (same2 na nd ne) ⟨C_InvalidRatio, rfl, .inr ⟨d, by decide, upd_same, (upd_ne ne).trans upd_same⟩⟩
    · walk_at "cl"
      refine ⟨by simp, fun a na => ?_⟩
      refine ⟨a, v0, rfl, upd_same, fun d nd ne => ⟨rfl, ?_⟩⟩
      walk_at "cl"
      exact q a _ (same2 na nd ne) ⟨C_InvalidKinds, rfl, .inr ⟨d, by decide, upd_same, (upd_ne ne).trans upd_same⟩⟩
    · walk_at "cl"
      refine ⟨by simp, fun a na => ?_⟩
      refine ⟨a, v0, rfl, upd_same, fun d nd ne => ⟨rfl, ?_⟩⟩
      walk_at "cl"
      exact q a _ (same2 na nd ne) ⟨C_InvalidLink, rfl, .inr ⟨d, by decide, upd_same, (upd_ne ne).trans upd_same⟩⟩
    · walk_at "cl"
      refine ⟨by simp, fun a na => ?_⟩
      refine ⟨a, v0, rfl, upd_same, fun d nd ne => ⟨rfl, ?_⟩⟩
      walk_at "cl"
      exact q a _ (same2 na nd ne) ⟨C_InvalidEnd, rfl, .inr ⟨d, by decide, upd_same, (upd_ne ne).trans upd_same⟩⟩
    · walk_at "cl"
      refine ⟨by simp, fun a na => ?_⟩
      refine ⟨a, v0, rfl, upd_same, fun d nd ne => ⟨rfl, ?_⟩⟩
      walk_at "cl"
      exact q a _ (same2 na nd ne) ⟨C_InvalidModel, rfl, .inr ⟨d, by decide, upd_same, (upd_ne ne).trans upd_same⟩⟩
    · walk_at "cl"
      refine ⟨by simp, fun a na => ?_⟩
      refine ⟨a, v0, rfl, upd_same, fun d nd ne => ⟨rfl, ?_⟩⟩
      walk_at "cl"
      exact q a _ (same2 na nd ne) ⟨C_InvalidTotal, rfl, .inr ⟨d, by decide, upd_same, (upd_ne ne).trans upd_same⟩⟩
    · walk_at "cl"
      refine ⟨by simp, fun a na => ?_⟩
      refine ⟨a, v0, rfl, upd_same, fun d nd ne => ⟨rfl, ?_⟩⟩
      walk_at "cl"
      exact q a _ (same2 na nd ne) ⟨C_InvalidPair, rfl, .inr ⟨d, by decide, upd_same, (upd_ne ne).trans upd_same⟩⟩
    · walk_at "cl"
      refine ⟨by simp, fun a na => ?_⟩
      refine ⟨a, v0, rfl, upd_same, fun d nd ne => ⟨rfl, ?_⟩⟩
      walk_at "cl"
      exact q a _ (same2 na nd ne) ⟨C_InvalidRow, rfl, .inr ⟨d, by decide, upd_same, (upd_ne ne).trans upd_same⟩⟩
    · walk_at "cl"
      refine ⟨by simp, fun a na => ?_⟩
      refine ⟨a, v0, v1, rfl, upd_same, fun d nd ne => ⟨rfl, ?_⟩⟩
      walk_at "cl"
      exact q a _ (same3 na nd ne) ⟨C_InvalidPairs, rfl, .inr ⟨d, by decide, (upd_ne ne.symm).trans upd_same, upd_same⟩⟩
theorem c__law_second : Dn P w K mg base "_law_second" 3 ["_law_at", "_law_x"] [] (spMk [C_InvalidName, C_InvalidCount, C_InvalidNumber, C_InvalidMany, C_InvalidRatio, C_InvalidKinds, C_InvalidLink, C_InvalidEnd, C_InvalidModel, C_InvalidTotal, C_InvalidPair, C_InvalidRow, C_InvalidPairs, C_InvalidDatabase, C_InvalidWay, C_InvalidSizes, C_InvalidTold, C_InvalidText, C_InvalidClaim, C_InvalidCommand, C_EmptyBy, C_UnknownKind, C_UnknownLink, C_UnknownRow, C_UnknownThing, C_Apart, C_Taken, C_Empty, C_NotLet, C_Lacking, C_NothingToUndo, C_CommandFailed, C_TooMany] 13 22) := by
  have c_InvalidDatabase := c_InvalidDatabase (P := P) (w := w) (base := base) M
  have c_InvalidWay := c_InvalidWay (P := P) (w := w) (base := base) M
  have c_InvalidSizes := c_InvalidSizes (P := P) (w := w) (base := base) M
  have c_InvalidTold := c_InvalidTold (P := P) (w := w) (base := base) M
  have c_InvalidText := c_InvalidText (P := P) (w := w) (base := base) M
  have c_InvalidClaim := c_InvalidClaim (P := P) (w := w) (base := base) M
  have c_InvalidCommand := c_InvalidCommand (P := P) (w := w) (base := base) M
  have c_EmptyBy := c_EmptyBy (P := P) (w := w) (base := base) M
  have c_UnknownKind := c_UnknownKind (P := P) (w := w) (base := base) M
  have c_UnknownLink := c_UnknownLink (P := P) (w := w) (base := base) M
  refine dnN M.f__law_second (fun F => ?_) (fun _ _ _ _ _ _ us hl => match us, hl with | [_, _], _ => rfl)
  refine fnG_body F sc__law_second (fun vs H Q E h => ?_) (fun cdv A outer s H vs Q E hr h => ?_)
  · obtain ⟨t, l, v0, v1, rfl, _⟩ := h
    rfl
  · obtain ⟨t, l, v0, v1, rfl, h0, h1, hl, q⟩ := h
    refine ⟨_, (pss_cons (ps_if (pt_cmpR op_eq (pv 0) pe_int (nomark _)) (pss_one (ps_ret (pe_mkE c_InvalidDatabase (hr.mono (by decide)) rfl (pa_cons (pe_ix ix_list (pv 1) pe_int (fun _ _ => rfl)) pa_nil)))) pss_nil) (pss_cons (ps_if (pt_cmpR op_eq (pv 0) pe_int (nomark _)) (pss_one (ps_ret (pe_mkE c_InvalidWay (hr.mono (by decide)) rfl (pa_cons (pe_ix ix_list (pv 1) pe_int (fun _ _ => rfl)) pa_nil)))) pss_nil) (pss_cons (ps_if (pt_cmpR op_eq (pv 0) pe_int (nomark _)) (pss_one (ps_ret (pe_mkE c_InvalidSizes (hr.mono (by decide)) rfl (pa_cons (pe_ix ix_list (pv 1) pe_int (fun _ _ => rfl)) pa_nil)))) pss_nil) (pss_cons (ps_if (pt_cmpR op_eq (pv 0) pe_int (nomark _)) (pss_one (ps_ret (pe_mkE c_InvalidTold (hr.mono (by decide)) rfl (pa_cons (pe_ix ix_list (pv 1) pe_int (fun _ _ => rfl)) pa_nil)))) pss_nil) (pss_cons (ps_if (pt_cmpR op_eq (pv 0) pe_int (nomark _)) (pss_one (ps_ret (pe_mkE c_InvalidText (hr.mono (by decide)) rfl (pa_cons (pe_ix ix_list (pv 1) pe_int (fun _ _ => rfl)) pa_nil)))) pss_nil) (pss_cons (ps_if (pt_cmpR op_eq (pv 0) pe_int (nomark _)) (pss_one (ps_ret (pe_mkE c_InvalidClaim (hr.mono (by decide)) rfl (pa_cons (pe_ix ix_list (pv 1) pe_int (fun _ _ => rfl)) pa_nil)))) pss_nil) (pss_cons (ps_if (pt_cmpR op_eq (pv 0) pe_int (nomark _)) (pss_one (ps_ret (pe_mkE c_InvalidCommand (hr.mono (by decide)) rfl (pa_cons (pe_ix ix_list (pv 1) pe_int (fun _ _ => rfl)) pa_nil)))) pss_nil) (pss_cons (ps_if (pt_cmpR op_eq (pv 0) pe_int (nomark _)) (pss_one (ps_ret (pe_mkE c_EmptyBy (hr.mono (by decide)) rfl (pa_cons (pe_ix ix_list (pv 1) pe_int (fun _ _ => rfl)) pa_nil)))) pss_nil) (pss_cons (ps_if (pt_cmpR op_eq (pv 0) pe_int (nomark _)) (pss_one (ps_ret (pe_mkE c_UnknownKind (hr.mono (by decide)) rfl (pa_cons (pe_ix ix_list (pv 1) pe_int (fun _ _ => rfl)) pa_nil)))) pss_nil) (pss_one (ps_ret (pe_mkE c_UnknownLink (hr.mono (by decide)) rfl (pa_cons (pe_ix ix_list (pv 1) pe_int (fun _ _ => rfl)) pa_nil))))))))))))), ?_⟩
    refine st_eq (σ := [some _, some _]) rfl ?_
    obtain rfl | rfl | rfl | rfl | rfl | rfl | rfl | rfl | rfl | rfl : t = 13 ∨ t = 14 ∨ t = 15 ∨ t = 16 ∨ t = 17 ∨ t = 18 ∨ t = 19 ∨ t = 20 ∨ t = 21 ∨ t = 22 := by omega
    · walk_at "cl"
      refine ⟨by simp, fun a na => ?_⟩
      refine ⟨a, v0, rfl, upd_same, fun d nd ne => ⟨rfl, ?_⟩⟩
      walk_at "cl"
      exact q a _ (same2 na nd ne) ⟨C_InvalidDatabase, rfl, .inr ⟨d, by decide, upd_same, (upd_ne ne).trans upd_same⟩⟩
    · walk_at "cl"
      refine ⟨by simp, fun a na => ?_⟩
      refine ⟨a, v0, rfl, upd_same, fun d nd ne => ⟨rfl, ?_⟩⟩
      walk_at "cl"
      exact q a _ (same2 na nd ne) ⟨C_InvalidWay, rfl, .inr ⟨d, by decide, upd_same, (upd_ne ne).trans upd_same⟩⟩
    · walk_at "cl"
      refine ⟨by simp, fun a na => ?_⟩
      refine ⟨a, v0, rfl, upd_same, fun d nd ne => ⟨rfl, ?_⟩⟩
      walk_at "cl"
      exact q a _ (same2 na nd ne) ⟨C_InvalidSizes, rfl, .inr ⟨d, by decide, upd_same, (upd_ne ne).trans upd_same⟩⟩
    · walk_at "cl"
      refine ⟨by simp, fun a na => ?_⟩
      refine ⟨a, v0, rfl, upd_same, fun d nd ne => ⟨rfl, ?_⟩⟩
      walk_at "cl"
      exact q a _ (same2 na nd ne) ⟨C_InvalidTold, rfl, .inr ⟨d, by decide, upd_same, (upd_ne ne).trans upd_same⟩⟩
    · walk_at "cl"
      refine ⟨by simp, fun a na => ?_⟩
      refine ⟨a, v0, rfl, upd_same, fun d nd ne => ⟨rfl, ?_⟩⟩
      walk_at "cl"
      exact q a _ (same2 na nd ne) ⟨C_InvalidText, rfl, .inr ⟨d, by decide, upd_same, (upd_ne ne).trans upd_same⟩⟩
    · walk_at "cl"
      refine ⟨by simp, fun a na => ?_⟩
      refine ⟨a, v0, rfl, upd_same, fun d nd ne => ⟨rfl, ?_⟩⟩
      walk_at "cl"
      exact q a _ (same2 na nd ne) ⟨C_InvalidClaim, rfl, .inr ⟨d, by decide, upd_same, (upd_ne ne).trans upd_same⟩⟩
    · walk_at "cl"
      refine ⟨by simp, fun a na => ?_⟩
      refine ⟨a, v0, rfl, upd_same, fun d nd ne => ⟨rfl, ?_⟩⟩
      walk_at "cl"
      exact q a _ (same2 na nd ne) ⟨C_InvalidCommand, rfl, .inr ⟨d, by decide, upd_same, (upd_ne ne).trans upd_same⟩⟩
    · walk_at "cl"
      refine ⟨by simp, fun a na => ?_⟩
      refine ⟨a, v0, rfl, upd_same, fun d nd ne => ⟨rfl, ?_⟩⟩
      walk_at "cl"
      exact q a _ (same2 na nd ne) ⟨C_EmptyBy, rfl, .inr ⟨d, by decide, upd_same, (upd_ne ne).trans upd_same⟩⟩
    · walk_at "cl"
      refine ⟨by simp, fun a na => ?_⟩
      refine ⟨a, v0, rfl, upd_same, fun d nd ne => ⟨rfl, ?_⟩⟩
      walk_at "cl"
      exact q a _ (same2 na nd ne) ⟨C_UnknownKind, rfl, .inr ⟨d, by decide, upd_same, (upd_ne ne).trans upd_same⟩⟩
    · walk_at "cl"
      refine ⟨by simp, fun a na => ?_⟩
      refine ⟨a, v0, rfl, upd_same, fun d nd ne => ⟨rfl, ?_⟩⟩
      walk_at "cl"
      exact q a _ (same2 na nd ne) ⟨C_UnknownLink, rfl, .inr ⟨d, by decide, upd_same, (upd_ne ne).trans upd_same⟩⟩
theorem c__law_third : Dn P w K mg base "_law_third" 3 ["_law_at", "_law_x"] [] (spMk [C_InvalidName, C_InvalidCount, C_InvalidNumber, C_InvalidMany, C_InvalidRatio, C_InvalidKinds, C_InvalidLink, C_InvalidEnd, C_InvalidModel, C_InvalidTotal, C_InvalidPair, C_InvalidRow, C_InvalidPairs, C_InvalidDatabase, C_InvalidWay, C_InvalidSizes, C_InvalidTold, C_InvalidText, C_InvalidClaim, C_InvalidCommand, C_EmptyBy, C_UnknownKind, C_UnknownLink, C_UnknownRow, C_UnknownThing, C_Apart, C_Taken, C_Empty, C_NotLet, C_Lacking, C_NothingToUndo, C_CommandFailed, C_TooMany] 23 32) := by
  have c_UnknownRow := c_UnknownRow (P := P) (w := w) (base := base) M
  have c_UnknownThing := c_UnknownThing (P := P) (w := w) (base := base) M
  have c_Apart := c_Apart (P := P) (w := w) (base := base) M
  have c_Taken := c_Taken (P := P) (w := w) (base := base) M
  have c_Empty := c_Empty (P := P) (w := w) (base := base) M
  have c_NotLet := c_NotLet (P := P) (w := w) (base := base) M
  have c_Lacking := c_Lacking (P := P) (w := w) (base := base) M
  have c_CommandFailed := c_CommandFailed (P := P) (w := w) (base := base) M
  have c_TooMany := c_TooMany (P := P) (w := w) (base := base) M
  refine dnN M.f__law_third (fun F => ?_) (fun _ _ _ _ _ _ us hl => match us, hl with | [_, _], _ => rfl)
  refine fnG_body F sc__law_third (fun vs H Q E h => ?_) (fun cdv A outer s H vs Q E hr h => ?_)
  · obtain ⟨t, l, v0, v1, rfl, _⟩ := h
    rfl
  · obtain ⟨t, l, v0, v1, rfl, h0, h1, hl, q⟩ := h
    refine ⟨_, (pss_cons (ps_if (pt_cmpR op_eq (pv 0) pe_int (nomark _)) (pss_one (ps_ret (pe_mkE c_UnknownRow (hr.mono (by decide)) rfl (pa_cons (pe_ix ix_list (pv 1) pe_int (fun _ _ => rfl)) pa_nil)))) pss_nil) (pss_cons (ps_if (pt_cmpR op_eq (pv 0) pe_int (nomark _)) (pss_one (ps_ret (pe_mkE c_UnknownThing (hr.mono (by decide)) rfl (pa_cons (pe_ix ix_list (pv 1) pe_int (fun _ _ => rfl)) pa_nil)))) pss_nil) (pss_cons (ps_if (pt_cmpR op_eq (pv 0) pe_int (nomark _)) (pss_one (ps_ret (pe_mkE c_Apart (hr.mono (by decide)) rfl (pa_cons (pe_ix ix_list (pv 1) pe_int (fun _ _ => rfl)) (pa_cons (pe_ix ix_list (pv 1) pe_int (fun _ _ => rfl)) pa_nil))))) pss_nil) (pss_cons (ps_if (pt_cmpR op_eq (pv 0) pe_int (nomark _)) (pss_one (ps_ret (pe_mkE c_Taken (hr.mono (by decide)) rfl (pa_cons (pe_ix ix_list (pv 1) pe_int (fun _ _ => rfl)) pa_nil)))) pss_nil) (pss_cons (ps_if (pt_cmpR op_eq (pv 0) pe_int (nomark _)) (pss_one (ps_ret (pe_mkE c_Empty (hr.mono (by decide)) rfl (pa_cons (pe_ix ix_list (pv 1) pe_int (fun _ _ => rfl)) (pa_cons (pe_ix ix_list (pv 1) pe_int (fun _ _ => rfl)) pa_nil))))) pss_nil) (pss_cons (ps_if (pt_cmpR op_eq (pv 0) pe_int (nomark _)) (pss_one (ps_ret (pe_mkE c_NotLet (hr.mono (by decide)) rfl (pa_cons (pe_ix ix_list (pv 1) pe_int (fun _ _ => rfl)) (pa_cons (pe_ix ix_list (pv 1) pe_int (fun _ _ => rfl)) pa_nil))))) pss_nil) (pss_cons (ps_if (pt_cmpR op_eq (pv 0) pe_int (nomark _)) (pss_one (ps_ret (pe_mkE c_Lacking (hr.mono (by decide)) rfl (pa_cons (pe_ix ix_list (pv 1) pe_int (fun _ _ => rfl)) pa_nil)))) pss_nil) (pss_cons (ps_if (pt_cmpR op_eq (pv 0) pe_int (nomark _)) (pss_one (ps_ret (pe_mkE0 PySem.F.excBase_RuntimeError M.q_NothingToUndo M.m_NothingToUndo M.x_NothingToUndo.kp rfl))) pss_nil) (pss_cons (ps_if (pt_cmpR op_eq (pv 0) pe_int (nomark _)) (pss_one (ps_ret (pe_mkE c_CommandFailed (hr.mono (by decide)) rfl (pa_cons (pe_ix ix_list (pv 1) pe_int (fun _ _ => rfl)) pa_nil)))) pss_nil) (pss_one (ps_ret (pe_mkE c_TooMany (hr.mono (by decide)) rfl (pa_cons (pe_ix ix_list (pv 1) pe_int (fun _ _ => rfl)) (pa_cons (pe_ix ix_list (pv 1) pe_int (fun _ _ => rfl)) pa_nil)))))))))))))), ?_⟩
    refine st_eq (σ := [some _, some _]) rfl ?_
    obtain rfl | rfl | rfl | rfl | rfl | rfl | rfl | rfl | rfl | rfl : t = 23 ∨ t = 24 ∨ t = 25 ∨ t = 26 ∨ t = 27 ∨ t = 28 ∨ t = 29 ∨ t = 30 ∨ t = 31 ∨ t = 32 := by omega
    · walk_at "cl"
      refine ⟨by simp, fun a na => ?_⟩
      refine ⟨a, v0, rfl, upd_same, fun d nd ne => ⟨rfl, ?_⟩⟩
      walk_at "cl"
      exact q a _ (same2 na nd ne) ⟨C_UnknownRow, rfl, .inr ⟨d, by decide, upd_same, (upd_ne ne).trans upd_same⟩⟩
    · walk_at "cl"
      refine ⟨by simp, fun a na => ?_⟩
      refine ⟨a, v0, rfl, upd_same, fun d nd ne => ⟨rfl, ?_⟩⟩
      walk_at "cl"
      exact q a _ (same2 na nd ne) ⟨C_UnknownThing, rfl, .inr ⟨d, by decide, upd_same, (upd_ne ne).trans upd_same⟩⟩
    · walk_at "cl"
      refine ⟨by simp, fun a na => ?_⟩
      refine ⟨a, v0, v1, rfl, upd_same, fun d nd ne => ⟨rfl, ?_⟩⟩
      walk_at "cl"
      exact q a _ (same3 na nd ne) ⟨C_Apart, rfl, .inr ⟨d, by decide, (upd_ne ne.symm).trans upd_same, upd_same⟩⟩
    · walk_at "cl"
      refine ⟨by simp, fun a na => ?_⟩
      refine ⟨a, v0, rfl, upd_same, fun d nd ne => ⟨rfl, ?_⟩⟩
      walk_at "cl"
      exact q a _ (same2 na nd ne) ⟨C_Taken, rfl, .inr ⟨d, by decide, upd_same, (upd_ne ne).trans upd_same⟩⟩
    · walk_at "cl"
      refine ⟨by simp, fun a na => ?_⟩
      refine ⟨a, v0, v1, rfl, upd_same, fun d nd ne => ⟨rfl, ?_⟩⟩
      walk_at "cl"
      exact q a _ (same3 na nd ne) ⟨C_Empty, rfl, .inr ⟨d, by decide, (upd_ne ne.symm).trans upd_same, upd_same⟩⟩
    · walk_at "cl"
      refine ⟨by simp, fun a na => ?_⟩
      refine ⟨a, v0, v1, rfl, upd_same, fun d nd ne => ⟨rfl, ?_⟩⟩
      walk_at "cl"
      exact q a _ (same3 na nd ne) ⟨C_NotLet, rfl, .inr ⟨d, by decide, (upd_ne ne.symm).trans upd_same, upd_same⟩⟩
    · walk_at "cl"
      refine ⟨by simp, fun a na => ?_⟩
      refine ⟨a, v0, rfl, upd_same, fun d nd ne => ⟨rfl, ?_⟩⟩
      walk_at "cl"
      exact q a _ (same2 na nd ne) ⟨C_Lacking, rfl, .inr ⟨d, by decide, upd_same, (upd_ne ne).trans upd_same⟩⟩
    · walk_at "cl"
      rename_i a na
      exact q a _ (My.Same.new na) ⟨C_NothingToUndo, rfl, .inl ⟨rfl, upd_same⟩⟩
    · walk_at "cl"
      refine ⟨by simp, fun a na => ?_⟩
      refine ⟨a, v0, rfl, upd_same, fun d nd ne => ⟨rfl, ?_⟩⟩
      walk_at "cl"
      exact q a _ (same2 na nd ne) ⟨C_CommandFailed, rfl, .inr ⟨d, by decide, upd_same, (upd_ne ne).trans upd_same⟩⟩
    · walk_at "cl"
      refine ⟨by simp, fun a na => ?_⟩
      refine ⟨a, v0, v1, rfl, upd_same, fun d nd ne => ⟨rfl, ?_⟩⟩
      walk_at "cl"
      exact q a _ (same3 na nd ne) ⟨C_TooMany, rfl, .inr ⟨d, by decide, (upd_ne ne.symm).trans upd_same, upd_same⟩⟩
theorem c__law_first_named : Dn P w K mg base "_law_first_named" 3 ["_law_at", "_law_x"] [] (spMk [C_InvalidName, C_InvalidCount, C_InvalidNumber, C_InvalidMany, C_InvalidRatio, C_InvalidKinds, C_InvalidLink, C_InvalidEnd, C_InvalidModel, C_InvalidTotal, C_InvalidPair, C_InvalidRow, C_InvalidPairs, C_InvalidDatabase, C_InvalidWay, C_InvalidSizes, C_InvalidTold, C_InvalidText, C_InvalidClaim, C_InvalidCommand, C_EmptyBy, C_UnknownKind, C_UnknownLink, C_UnknownRow, C_UnknownThing, C_Apart, C_Taken, C_Empty, C_NotLet, C_Lacking, C_NothingToUndo, C_CommandFailed, C_TooMany] 0 12) := by
  have k_InvalidName := k_InvalidName (P := P) (w := w) (base := base) M
  have k_InvalidCount := k_InvalidCount (P := P) (w := w) (base := base) M
  have k_InvalidNumber := k_InvalidNumber (P := P) (w := w) (base := base) M
  have k_InvalidMany := k_InvalidMany (P := P) (w := w) (base := base) M
  have k_InvalidRatio := k_InvalidRatio (P := P) (w := w) (base := base) M
  have k_InvalidKinds := k_InvalidKinds (P := P) (w := w) (base := base) M
  have k_InvalidLink := k_InvalidLink (P := P) (w := w) (base := base) M
  have k_InvalidEnd := k_InvalidEnd (P := P) (w := w) (base := base) M
  have k_InvalidModel := k_InvalidModel (P := P) (w := w) (base := base) M
  have k_InvalidTotal := k_InvalidTotal (P := P) (w := w) (base := base) M
  have k_InvalidPair := k_InvalidPair (P := P) (w := w) (base := base) M
  have k_InvalidRow := k_InvalidRow (P := P) (w := w) (base := base) M
  have k_InvalidPairs := k_InvalidPairs (P := P) (w := w) (base := base) M
  refine dnN M.f__law_first_named (fun F => ?_) (fun _ _ _ _ _ _ us hl => match us, hl with | [_, _], _ => rfl)
  refine fnG_body F sc__law_first_named (fun vs H Q E h => ?_) (fun cdv A outer s H vs Q E hr h => ?_)
  · obtain ⟨t, l, v0, v1, rfl, _⟩ := h
    rfl
  · obtain ⟨t, l, v0, v1, rfl, h0, h1, hl, q⟩ := h
    refine ⟨_, (pss_cons (ps_if (pt_cmpR op_eq (pv 0) pe_int (nomark _)) (pss_one (ps_ret (pe_mkEK k_InvalidName (hr.mono (by decide)) rfl (pk_cons (pe_ix ix_list (pv 1) pe_int (fun _ _ => rfl)) pk_nil)))) pss_nil) (pss_cons (ps_if (pt_cmpR op_eq (pv 0) pe_int (nomark _)) (pss_one (ps_ret (pe_mkEK k_InvalidCount (hr.mono (by decide)) rfl (pk_cons (pe_ix ix_list (pv 1) pe_int (fun _ _ => rfl)) pk_nil)))) pss_nil) (pss_cons (ps_if (pt_cmpR op_eq (pv 0) pe_int (nomark _)) (pss_one (ps_ret (pe_mkEK k_InvalidNumber (hr.mono (by decide)) rfl (pk_cons (pe_ix ix_list (pv 1) pe_int (fun _ _ => rfl)) pk_nil)))) pss_nil) (pss_cons (ps_if (pt_cmpR op_eq (pv 0) pe_int (nomark _)) (pss_one (ps_ret (pe_mkEK k_InvalidMany (hr.mono (by decide)) rfl (pk_cons (pe_ix ix_list (pv 1) pe_int (fun _ _ => rfl)) pk_nil)))) pss_nil) (pss_cons (ps_if (pt_cmpR op_eq (pv 0) pe_int (nomark _)) (pss_one (ps_ret (pe_mkEK k_InvalidRatio (hr.mono (by decide)) rfl (pk_cons (pe_ix ix_list (pv 1) pe_int (fun _ _ => rfl)) pk_nil)))) pss_nil) (pss_cons (ps_if (pt_cmpR op_eq (pv 0) pe_int (nomark _)) (pss_one (ps_ret (pe_mkEK k_InvalidKinds (hr.mono (by decide)) rfl (pk_cons (pe_ix ix_list (pv 1) pe_int (fun _ _ => rfl)) pk_nil)))) pss_nil) (pss_cons (ps_if (pt_cmpR op_eq (pv 0) pe_int (nomark _)) (pss_one (ps_ret (pe_mkEK k_InvalidLink (hr.mono (by decide)) rfl (pk_cons (pe_ix ix_list (pv 1) pe_int (fun _ _ => rfl)) pk_nil)))) pss_nil) (pss_cons (ps_if (pt_cmpR op_eq (pv 0) pe_int (nomark _)) (pss_one (ps_ret (pe_mkEK k_InvalidEnd (hr.mono (by decide)) rfl (pk_cons (pe_ix ix_list (pv 1) pe_int (fun _ _ => rfl)) pk_nil)))) pss_nil) (pss_cons (ps_if (pt_cmpR op_eq (pv 0) pe_int (nomark _)) (pss_one (ps_ret (pe_mkEK k_InvalidModel (hr.mono (by decide)) rfl (pk_cons (pe_ix ix_list (pv 1) pe_int (fun _ _ => rfl)) pk_nil)))) pss_nil) (pss_cons (ps_if (pt_cmpR op_eq (pv 0) pe_int (nomark _)) (pss_one (ps_ret (pe_mkEK k_InvalidTotal (hr.mono (by decide)) rfl (pk_cons (pe_ix ix_list (pv 1) pe_int (fun _ _ => rfl)) pk_nil)))) pss_nil) (pss_cons (ps_if (pt_cmpR op_eq (pv 0) pe_int (nomark _)) (pss_one (ps_ret (pe_mkEK k_InvalidPair (hr.mono (by decide)) rfl (pk_cons (pe_ix ix_list (pv 1) pe_int (fun _ _ => rfl)) pk_nil)))) pss_nil) (pss_cons (ps_if (pt_cmpR op_eq (pv 0) pe_int (nomark _)) (pss_one (ps_ret (pe_mkEK k_InvalidRow (hr.mono (by decide)) rfl (pk_cons (pe_ix ix_list (pv 1) pe_int (fun _ _ => rfl)) pk_nil)))) pss_nil) (pss_one (ps_ret (pe_mkEK k_InvalidPairs (hr.mono (by decide)) rfl (pk_cons (pe_ix ix_list (pv 1) pe_int (fun _ _ => rfl)) (pk_cons (pe_ix ix_list (pv 1) pe_int (fun _ _ => rfl)) pk_nil))))))))))))))))), ?_⟩
    refine st_eq (σ := [some _, some _]) rfl ?_
    obtain rfl | rfl | rfl | rfl | rfl | rfl | rfl | rfl | rfl | rfl | rfl | rfl | rfl : t = 0 ∨ t = 1 ∨ t = 2 ∨ t = 3 ∨ t = 4 ∨ t = 5 ∨ t = 6 ∨ t = 7 ∨ t = 8 ∨ t = 9 ∨ t = 10 ∨ t = 11 ∨ t = 12 := by omega
    · walk_at "cl"
      rename_i a na
      refine ⟨a, v0, rfl, upd_same, fun d nd ne => ⟨rfl, ?_⟩⟩
      walk_at "cl"
      exact q a _ (same2 na nd ne) ⟨C_InvalidName, rfl, .inr ⟨d, by decide, upd_same, (upd_ne ne).trans upd_same⟩⟩
    · walk_at "cl"
      rename_i a na
      refine ⟨a, v0, rfl, upd_same, fun d nd ne => ⟨rfl, ?_⟩⟩
      walk_at "cl"
      exact q a _ (same2 na nd ne) ⟨C_InvalidCount, rfl, .inr ⟨d, by decide, upd_same, (upd_ne ne).trans upd_same⟩⟩
    · walk_at "cl"
      rename_i a na
      refine ⟨a, v0, rfl, upd_same, fun d nd ne => ⟨rfl, ?_⟩⟩
      walk_at "cl"
      exact q a _ (same2 na nd ne) ⟨C_InvalidNumber, rfl, .inr ⟨d, by decide, upd_same, (upd_ne ne).trans upd_same⟩⟩
    · walk_at "cl"
      rename_i a na
      refine ⟨a, v0, rfl, upd_same, fun d nd ne => ⟨rfl, ?_⟩⟩
      walk_at "cl"
      exact q a _ (same2 na nd ne) ⟨C_InvalidMany, rfl, .inr ⟨d, by decide, upd_same, (upd_ne ne).trans upd_same⟩⟩
    · walk_at "cl"
      rename_i a na
      refine ⟨a, v0, rfl, upd_same, fun d nd ne => ⟨rfl, ?_⟩⟩
      walk_at "cl"
      exact q a _ (same2 na nd ne) ⟨C_InvalidRatio, rfl, .inr ⟨d, by decide, upd_same, (upd_ne ne).trans upd_same⟩⟩
    · walk_at "cl"
      rename_i a na
      refine ⟨a, v0, rfl, upd_same, fun d nd ne => ⟨rfl, ?_⟩⟩
      walk_at "cl"
      exact q a _ (same2 na nd ne) ⟨C_InvalidKinds, rfl, .inr ⟨d, by decide, upd_same, (upd_ne ne).trans upd_same⟩⟩
    · walk_at "cl"
      rename_i a na
      refine ⟨a, v0, rfl, upd_same, fun d nd ne => ⟨rfl, ?_⟩⟩
      walk_at "cl"
      exact q a _ (same2 na nd ne) ⟨C_InvalidLink, rfl, .inr ⟨d, by decide, upd_same, (upd_ne ne).trans upd_same⟩⟩
    · walk_at "cl"
      rename_i a na
      refine ⟨a, v0, rfl, upd_same, fun d nd ne => ⟨rfl, ?_⟩⟩
      walk_at "cl"
      exact q a _ (same2 na nd ne) ⟨C_InvalidEnd, rfl, .inr ⟨d, by decide, upd_same, (upd_ne ne).trans upd_same⟩⟩
    · walk_at "cl"
      rename_i a na
      refine ⟨a, v0, rfl, upd_same, fun d nd ne => ⟨rfl, ?_⟩⟩
      walk_at "cl"
      exact q a _ (same2 na nd ne) ⟨C_InvalidModel, rfl, .inr ⟨d, by decide, upd_same, (upd_ne ne).trans upd_same⟩⟩
    · walk_at "cl"
      rename_i a na
      refine ⟨a, v0, rfl, upd_same, fun d nd ne => ⟨rfl, ?_⟩⟩
      walk_at "cl"
      exact q a _ (same2 na nd ne) ⟨C_InvalidTotal, rfl, .inr ⟨d, by decide, upd_same, (upd_ne ne).trans upd_same⟩⟩
    · walk_at "cl"
      rename_i a na
      refine ⟨a, v0, rfl, upd_same, fun d nd ne => ⟨rfl, ?_⟩⟩
      walk_at "cl"
      exact q a _ (same2 na nd ne) ⟨C_InvalidPair, rfl, .inr ⟨d, by decide, upd_same, (upd_ne ne).trans upd_same⟩⟩
    · walk_at "cl"
      rename_i a na
      refine ⟨a, v0, rfl, upd_same, fun d nd ne => ⟨rfl, ?_⟩⟩
      walk_at "cl"
      exact q a _ (same2 na nd ne) ⟨C_InvalidRow, rfl, .inr ⟨d, by decide, upd_same, (upd_ne ne).trans upd_same⟩⟩
    · walk_at "cl"
      rename_i a na
      refine ⟨a, v0, v1, rfl, upd_same, fun d nd ne => ⟨rfl, ?_⟩⟩
      walk_at "cl"
      exact q a _ (same3 na nd ne) ⟨C_InvalidPairs, rfl, .inr ⟨d, by decide, (upd_ne ne.symm).trans upd_same, upd_same⟩⟩
theorem c__law_second_named : Dn P w K mg base "_law_second_named" 3 ["_law_at", "_law_x"] [] (spMk [C_InvalidName, C_InvalidCount, C_InvalidNumber, C_InvalidMany, C_InvalidRatio, C_InvalidKinds, C_InvalidLink, C_InvalidEnd, C_InvalidModel, C_InvalidTotal, C_InvalidPair, C_InvalidRow, C_InvalidPairs, C_InvalidDatabase, C_InvalidWay, C_InvalidSizes, C_InvalidTold, C_InvalidText, C_InvalidClaim, C_InvalidCommand, C_EmptyBy, C_UnknownKind, C_UnknownLink, C_UnknownRow, C_UnknownThing, C_Apart, C_Taken, C_Empty, C_NotLet, C_Lacking, C_NothingToUndo, C_CommandFailed, C_TooMany] 13 22) := by
  have k_InvalidDatabase := k_InvalidDatabase (P := P) (w := w) (base := base) M
  have k_InvalidWay := k_InvalidWay (P := P) (w := w) (base := base) M
  have k_InvalidSizes := k_InvalidSizes (P := P) (w := w) (base := base) M
  have k_InvalidTold := k_InvalidTold (P := P) (w := w) (base := base) M
  have k_InvalidText := k_InvalidText (P := P) (w := w) (base := base) M
  have k_InvalidClaim := k_InvalidClaim (P := P) (w := w) (base := base) M
  have k_InvalidCommand := k_InvalidCommand (P := P) (w := w) (base := base) M
  have k_EmptyBy := k_EmptyBy (P := P) (w := w) (base := base) M
  have k_UnknownKind := k_UnknownKind (P := P) (w := w) (base := base) M
  have k_UnknownLink := k_UnknownLink (P := P) (w := w) (base := base) M
  refine dnN M.f__law_second_named (fun F => ?_) (fun _ _ _ _ _ _ us hl => match us, hl with | [_, _], _ => rfl)
  refine fnG_body F sc__law_second_named (fun vs H Q E h => ?_) (fun cdv A outer s H vs Q E hr h => ?_)
  · obtain ⟨t, l, v0, v1, rfl, _⟩ := h
    rfl
  · obtain ⟨t, l, v0, v1, rfl, h0, h1, hl, q⟩ := h
    refine ⟨_, (pss_cons (ps_if (pt_cmpR op_eq (pv 0) pe_int (nomark _)) (pss_one (ps_ret (pe_mkEK k_InvalidDatabase (hr.mono (by decide)) rfl (pk_cons (pe_ix ix_list (pv 1) pe_int (fun _ _ => rfl)) pk_nil)))) pss_nil) (pss_cons (ps_if (pt_cmpR op_eq (pv 0) pe_int (nomark _)) (pss_one (ps_ret (pe_mkEK k_InvalidWay (hr.mono (by decide)) rfl (pk_cons (pe_ix ix_list (pv 1) pe_int (fun _ _ => rfl)) pk_nil)))) pss_nil) (pss_cons (ps_if (pt_cmpR op_eq (pv 0) pe_int (nomark _)) (pss_one (ps_ret (pe_mkEK k_InvalidSizes (hr.mono (by decide)) rfl (pk_cons (pe_ix ix_list (pv 1) pe_int (fun _ _ => rfl)) pk_nil)))) pss_nil) (pss_cons (ps_if (pt_cmpR op_eq (pv 0) pe_int (nomark _)) (pss_one (ps_ret (pe_mkEK k_InvalidTold (hr.mono (by decide)) rfl (pk_cons (pe_ix ix_list (pv 1) pe_int (fun _ _ => rfl)) pk_nil)))) pss_nil) (pss_cons (ps_if (pt_cmpR op_eq (pv 0) pe_int (nomark _)) (pss_one (ps_ret (pe_mkEK k_InvalidText (hr.mono (by decide)) rfl (pk_cons (pe_ix ix_list (pv 1) pe_int (fun _ _ => rfl)) pk_nil)))) pss_nil) (pss_cons (ps_if (pt_cmpR op_eq (pv 0) pe_int (nomark _)) (pss_one (ps_ret (pe_mkEK k_InvalidClaim (hr.mono (by decide)) rfl (pk_cons (pe_ix ix_list (pv 1) pe_int (fun _ _ => rfl)) pk_nil)))) pss_nil) (pss_cons (ps_if (pt_cmpR op_eq (pv 0) pe_int (nomark _)) (pss_one (ps_ret (pe_mkEK k_InvalidCommand (hr.mono (by decide)) rfl (pk_cons (pe_ix ix_list (pv 1) pe_int (fun _ _ => rfl)) pk_nil)))) pss_nil) (pss_cons (ps_if (pt_cmpR op_eq (pv 0) pe_int (nomark _)) (pss_one (ps_ret (pe_mkEK k_EmptyBy (hr.mono (by decide)) rfl (pk_cons (pe_ix ix_list (pv 1) pe_int (fun _ _ => rfl)) pk_nil)))) pss_nil) (pss_cons (ps_if (pt_cmpR op_eq (pv 0) pe_int (nomark _)) (pss_one (ps_ret (pe_mkEK k_UnknownKind (hr.mono (by decide)) rfl (pk_cons (pe_ix ix_list (pv 1) pe_int (fun _ _ => rfl)) pk_nil)))) pss_nil) (pss_one (ps_ret (pe_mkEK k_UnknownLink (hr.mono (by decide)) rfl (pk_cons (pe_ix ix_list (pv 1) pe_int (fun _ _ => rfl)) pk_nil))))))))))))), ?_⟩
    refine st_eq (σ := [some _, some _]) rfl ?_
    obtain rfl | rfl | rfl | rfl | rfl | rfl | rfl | rfl | rfl | rfl : t = 13 ∨ t = 14 ∨ t = 15 ∨ t = 16 ∨ t = 17 ∨ t = 18 ∨ t = 19 ∨ t = 20 ∨ t = 21 ∨ t = 22 := by omega
    · walk_at "cl"
      rename_i a na
      refine ⟨a, v0, rfl, upd_same, fun d nd ne => ⟨rfl, ?_⟩⟩
      walk_at "cl"
      exact q a _ (same2 na nd ne) ⟨C_InvalidDatabase, rfl, .inr ⟨d, by decide, upd_same, (upd_ne ne).trans upd_same⟩⟩
    · walk_at "cl"
      rename_i a na
      refine ⟨a, v0, rfl, upd_same, fun d nd ne => ⟨rfl, ?_⟩⟩
      walk_at "cl"
      exact q a _ (same2 na nd ne) ⟨C_InvalidWay, rfl, .inr ⟨d, by decide, upd_same, (upd_ne ne).trans upd_same⟩⟩
    · walk_at "cl"
      rename_i a na
      refine ⟨a, v0, rfl, upd_same, fun d nd ne => ⟨rfl, ?_⟩⟩
      walk_at "cl"
      exact q a _ (same2 na nd ne) ⟨C_InvalidSizes, rfl, .inr ⟨d, by decide, upd_same, (upd_ne ne).trans upd_same⟩⟩
    · walk_at "cl"
      rename_i a na
      refine ⟨a, v0, rfl, upd_same, fun d nd ne => ⟨rfl, ?_⟩⟩
      walk_at "cl"
      exact q a _ (same2 na nd ne) ⟨C_InvalidTold, rfl, .inr ⟨d, by decide, upd_same, (upd_ne ne).trans upd_same⟩⟩
    · walk_at "cl"
      rename_i a na
      refine ⟨a, v0, rfl, upd_same, fun d nd ne => ⟨rfl, ?_⟩⟩
      walk_at "cl"
      exact q a _ (same2 na nd ne) ⟨C_InvalidText, rfl, .inr ⟨d, by decide, upd_same, (upd_ne ne).trans upd_same⟩⟩
    · walk_at "cl"
      rename_i a na
      refine ⟨a, v0, rfl, upd_same, fun d nd ne => ⟨rfl, ?_⟩⟩
      walk_at "cl"
      exact q a _ (same2 na nd ne) ⟨C_InvalidClaim, rfl, .inr ⟨d, by decide, upd_same, (upd_ne ne).trans upd_same⟩⟩
    · walk_at "cl"
      rename_i a na
      refine ⟨a, v0, rfl, upd_same, fun d nd ne => ⟨rfl, ?_⟩⟩
      walk_at "cl"
      exact q a _ (same2 na nd ne) ⟨C_InvalidCommand, rfl, .inr ⟨d, by decide, upd_same, (upd_ne ne).trans upd_same⟩⟩
    · walk_at "cl"
      rename_i a na
      refine ⟨a, v0, rfl, upd_same, fun d nd ne => ⟨rfl, ?_⟩⟩
      walk_at "cl"
      exact q a _ (same2 na nd ne) ⟨C_EmptyBy, rfl, .inr ⟨d, by decide, upd_same, (upd_ne ne).trans upd_same⟩⟩
    · walk_at "cl"
      rename_i a na
      refine ⟨a, v0, rfl, upd_same, fun d nd ne => ⟨rfl, ?_⟩⟩
      walk_at "cl"
      exact q a _ (same2 na nd ne) ⟨C_UnknownKind, rfl, .inr ⟨d, by decide, upd_same, (upd_ne ne).trans upd_same⟩⟩
    · walk_at "cl"
      rename_i a na
      refine ⟨a, v0, rfl, upd_same, fun d nd ne => ⟨rfl, ?_⟩⟩
      walk_at "cl"
      exact q a _ (same2 na nd ne) ⟨C_UnknownLink, rfl, .inr ⟨d, by decide, upd_same, (upd_ne ne).trans upd_same⟩⟩
theorem c__law_third_named : Dn P w K mg base "_law_third_named" 3 ["_law_at", "_law_x"] [] (spMk [C_InvalidName, C_InvalidCount, C_InvalidNumber, C_InvalidMany, C_InvalidRatio, C_InvalidKinds, C_InvalidLink, C_InvalidEnd, C_InvalidModel, C_InvalidTotal, C_InvalidPair, C_InvalidRow, C_InvalidPairs, C_InvalidDatabase, C_InvalidWay, C_InvalidSizes, C_InvalidTold, C_InvalidText, C_InvalidClaim, C_InvalidCommand, C_EmptyBy, C_UnknownKind, C_UnknownLink, C_UnknownRow, C_UnknownThing, C_Apart, C_Taken, C_Empty, C_NotLet, C_Lacking, C_NothingToUndo, C_CommandFailed, C_TooMany] 23 32) := by
  have k_UnknownRow := k_UnknownRow (P := P) (w := w) (base := base) M
  have k_UnknownThing := k_UnknownThing (P := P) (w := w) (base := base) M
  have k_Apart := k_Apart (P := P) (w := w) (base := base) M
  have k_Taken := k_Taken (P := P) (w := w) (base := base) M
  have k_Empty := k_Empty (P := P) (w := w) (base := base) M
  have k_NotLet := k_NotLet (P := P) (w := w) (base := base) M
  have k_Lacking := k_Lacking (P := P) (w := w) (base := base) M
  have k_CommandFailed := k_CommandFailed (P := P) (w := w) (base := base) M
  have k_TooMany := k_TooMany (P := P) (w := w) (base := base) M
  refine dnN M.f__law_third_named (fun F => ?_) (fun _ _ _ _ _ _ us hl => match us, hl with | [_, _], _ => rfl)
  refine fnG_body F sc__law_third_named (fun vs H Q E h => ?_) (fun cdv A outer s H vs Q E hr h => ?_)
  · obtain ⟨t, l, v0, v1, rfl, _⟩ := h
    rfl
  · obtain ⟨t, l, v0, v1, rfl, h0, h1, hl, q⟩ := h
    refine ⟨_, (pss_cons (ps_if (pt_cmpR op_eq (pv 0) pe_int (nomark _)) (pss_one (ps_ret (pe_mkEK k_UnknownRow (hr.mono (by decide)) rfl (pk_cons (pe_ix ix_list (pv 1) pe_int (fun _ _ => rfl)) pk_nil)))) pss_nil) (pss_cons (ps_if (pt_cmpR op_eq (pv 0) pe_int (nomark _)) (pss_one (ps_ret (pe_mkEK k_UnknownThing (hr.mono (by decide)) rfl (pk_cons (pe_ix ix_list (pv 1) pe_int (fun _ _ => rfl)) pk_nil)))) pss_nil) (pss_cons (ps_if (pt_cmpR op_eq (pv 0) pe_int (nomark _)) (pss_one (ps_ret (pe_mkEK k_Apart (hr.mono (by decide)) rfl (pk_cons (pe_ix ix_list (pv 1) pe_int (fun _ _ => rfl)) (pk_cons (pe_ix ix_list (pv 1) pe_int (fun _ _ => rfl)) pk_nil))))) pss_nil) (pss_cons (ps_if (pt_cmpR op_eq (pv 0) pe_int (nomark _)) (pss_one (ps_ret (pe_mkEK k_Taken (hr.mono (by decide)) rfl (pk_cons (pe_ix ix_list (pv 1) pe_int (fun _ _ => rfl)) pk_nil)))) pss_nil) (pss_cons (ps_if (pt_cmpR op_eq (pv 0) pe_int (nomark _)) (pss_one (ps_ret (pe_mkEK k_Empty (hr.mono (by decide)) rfl (pk_cons (pe_ix ix_list (pv 1) pe_int (fun _ _ => rfl)) (pk_cons (pe_ix ix_list (pv 1) pe_int (fun _ _ => rfl)) pk_nil))))) pss_nil) (pss_cons (ps_if (pt_cmpR op_eq (pv 0) pe_int (nomark _)) (pss_one (ps_ret (pe_mkEK k_NotLet (hr.mono (by decide)) rfl (pk_cons (pe_ix ix_list (pv 1) pe_int (fun _ _ => rfl)) (pk_cons (pe_ix ix_list (pv 1) pe_int (fun _ _ => rfl)) pk_nil))))) pss_nil) (pss_cons (ps_if (pt_cmpR op_eq (pv 0) pe_int (nomark _)) (pss_one (ps_ret (pe_mkEK k_Lacking (hr.mono (by decide)) rfl (pk_cons (pe_ix ix_list (pv 1) pe_int (fun _ _ => rfl)) pk_nil)))) pss_nil) (pss_cons (ps_if (pt_cmpR op_eq (pv 0) pe_int (nomark _)) (pss_one (ps_ret (pe_mkE0 PySem.F.excBase_RuntimeError M.q_NothingToUndo M.m_NothingToUndo M.x_NothingToUndo.kp rfl))) pss_nil) (pss_cons (ps_if (pt_cmpR op_eq (pv 0) pe_int (nomark _)) (pss_one (ps_ret (pe_mkEK k_CommandFailed (hr.mono (by decide)) rfl (pk_cons (pe_ix ix_list (pv 1) pe_int (fun _ _ => rfl)) pk_nil)))) pss_nil) (pss_one (ps_ret (pe_mkEK k_TooMany (hr.mono (by decide)) rfl (pk_cons (pe_ix ix_list (pv 1) pe_int (fun _ _ => rfl)) (pk_cons (pe_ix ix_list (pv 1) pe_int (fun _ _ => rfl)) pk_nil)))))))))))))), ?_⟩
    refine st_eq (σ := [some _, some _]) rfl ?_
    obtain rfl | rfl | rfl | rfl | rfl | rfl | rfl | rfl | rfl | rfl : t = 23 ∨ t = 24 ∨ t = 25 ∨ t = 26 ∨ t = 27 ∨ t = 28 ∨ t = 29 ∨ t = 30 ∨ t = 31 ∨ t = 32 := by omega
    · walk_at "cl"
      rename_i a na
      refine ⟨a, v0, rfl, upd_same, fun d nd ne => ⟨rfl, ?_⟩⟩
      walk_at "cl"
      exact q a _ (same2 na nd ne) ⟨C_UnknownRow, rfl, .inr ⟨d, by decide, upd_same, (upd_ne ne).trans upd_same⟩⟩
    · walk_at "cl"
      rename_i a na
      refine ⟨a, v0, rfl, upd_same, fun d nd ne => ⟨rfl, ?_⟩⟩
      walk_at "cl"
      exact q a _ (same2 na nd ne) ⟨C_UnknownThing, rfl, .inr ⟨d, by decide, upd_same, (upd_ne ne).trans upd_same⟩⟩
    · walk_at "cl"
      rename_i a na
      refine ⟨a, v0, v1, rfl, upd_same, fun d nd ne => ⟨rfl, ?_⟩⟩
      walk_at "cl"
      exact q a _ (same3 na nd ne) ⟨C_Apart, rfl, .inr ⟨d, by decide, (upd_ne ne.symm).trans upd_same, upd_same⟩⟩
    · walk_at "cl"
      rename_i a na
      refine ⟨a, v0, rfl, upd_same, fun d nd ne => ⟨rfl, ?_⟩⟩
      walk_at "cl"
      exact q a _ (same2 na nd ne) ⟨C_Taken, rfl, .inr ⟨d, by decide, upd_same, (upd_ne ne).trans upd_same⟩⟩
    · walk_at "cl"
      rename_i a na
      refine ⟨a, v0, v1, rfl, upd_same, fun d nd ne => ⟨rfl, ?_⟩⟩
      walk_at "cl"
      exact q a _ (same3 na nd ne) ⟨C_Empty, rfl, .inr ⟨d, by decide, (upd_ne ne.symm).trans upd_same, upd_same⟩⟩
    · walk_at "cl"
      rename_i a na
      refine ⟨a, v0, v1, rfl, upd_same, fun d nd ne => ⟨rfl, ?_⟩⟩
      walk_at "cl"
      exact q a _ (same3 na nd ne) ⟨C_NotLet, rfl, .inr ⟨d, by decide, (upd_ne ne.symm).trans upd_same, upd_same⟩⟩
    · walk_at "cl"
      rename_i a na
      refine ⟨a, v0, rfl, upd_same, fun d nd ne => ⟨rfl, ?_⟩⟩
      walk_at "cl"
      exact q a _ (same2 na nd ne) ⟨C_Lacking, rfl, .inr ⟨d, by decide, upd_same, (upd_ne ne).trans upd_same⟩⟩
    · walk_at "cl"
      rename_i a na
      exact q a _ (My.Same.new na) ⟨C_NothingToUndo, rfl, .inl ⟨rfl, upd_same⟩⟩
    · walk_at "cl"
      rename_i a na
      refine ⟨a, v0, rfl, upd_same, fun d nd ne => ⟨rfl, ?_⟩⟩
      walk_at "cl"
      exact q a _ (same2 na nd ne) ⟨C_CommandFailed, rfl, .inr ⟨d, by decide, upd_same, (upd_ne ne).trans upd_same⟩⟩
    · walk_at "cl"
      rename_i a na
      refine ⟨a, v0, v1, rfl, upd_same, fun d nd ne => ⟨rfl, ?_⟩⟩
      walk_at "cl"
      exact q a _ (same3 na nd ne) ⟨C_TooMany, rfl, .inr ⟨d, by decide, (upd_ne ne.symm).trans upd_same, upd_same⟩⟩
end
end My
end
section

open My L2 PySem
open My L2 PySem
local macro_rules | `(tactic| walk_at "as") => `(tactic| with_reducible assumption)
local macro_rules | `(tactic| walk_at "hp") => `(tactic| first
  | walk_at "as" | exact upd_same
  | (rw [upd_ne (by walk_at "ne")]; walk_at "hp")
  | (refine But.get (by walk_at "as") ?hp1 ?hp2; (case hp1 => walk_at "hp"); (case hp2 => walk_at "ne"))
  | (refine My.Same.get (by walk_at "as") ?hp1; (case hp1 => walk_at "hp")))
local macro_rules | `(tactic| walk_at "ne") => `(tactic| first
  | walk_at "as" | exact Ne.symm (by walk_at "as")
  | (refine' ne_of_none ?ne1 ?ne2; (case ne2 => walk_at "as"); (case ne1 => walk_at "hp"))
  | (refine' Ne.symm (ne_of_none ?ne1 ?ne2); (case ne2 => walk_at "as"); (case ne1 => walk_at "hp"))
  | exact ne_of (by walk_at "hp") (by walk_at "hp") (by intro z; cases z))
local macro_rules | `(tactic| walk_at "sd") => `(tactic| first
  | walk_at "as" | omega | decide | exact ⟨by omega, by omega⟩ | exact .inl ⟨by omega, by omega⟩ | exact .inr ⟨by omega, by omega⟩ | exact divp_wide (by walk_at "as") (by walk_at "as") | exact Sm.cmul (by walk_at "as") (by walk_at "as") | exact cmul_small (by omega) (by omega) (by omega) (by omega) | exact ⟨by omega, by decide⟩)
local macro_rules | `(tactic| walk_at "bt") => `(tactic| first
  | walk_at "as" | exact But.refl _ _ | exact Same.but (by walk_at "as")
  | (refine But.trans ?bt1 But.at; (case bt1 => walk_at "bt"))
  | (refine But.trans ?bt1 (But.new (by first | walk_at "as" | walk_at "hp")); (case bt1 => walk_at "bt"))
  | (refine But.trans ?bt1 (by walk_at "as"); (case bt1 => walk_at "bt"))
  | (refine But.trans ?bt1 (Same.but (by walk_at "as")); (case bt1 => walk_at "bt")))
local macro_rules | `(tactic| walk_at "sm") => `(tactic| first
  | walk_at "as" | exact My.Same.rfl' _
  | (refine' My.Same.at_ ?sm1 ?sm2; (case sm1 => walk_at "as"); (case sm2 => walk_at "sm"))
  | (refine' My.Same.tr ?sm1 (My.Same.new ?sm2); (case sm2 => walk_at "as"); (case sm1 => walk_at "sm"))
  | (refine' My.Same.tr ?sm1 ?sm2; (case sm2 => walk_at "as"); (case sm1 => walk_at "sm")))
local macro_rules | `(tactic| walk_at "sz") => `(tactic| first
  | assumption | exact lt_size (by rfl) | exact le_size (by rfl) | (rw [sizeLine_eq]; omega)
  | (rw [sizeLine_eq]; simp only [List.length_append, List.length_map, List.length_cons, List.length_nil]; omega))
local macro_rules | `(tactic| walk_at "few") => `(tactic| (repeat refine few_put ?_); exact few0)
local macro_rules | `(tactic| walk_at "rd1") => `(tactic| first
  | (with_reducible show tVar _ _ _ _); refine s_var rfl ?_
  | with_reducible refine s_c ?_ | with_reducible refine s_op ?_ | with_reducible refine s_un ?_
  | with_reducible refine s_cons ?_ | with_reducible refine s_nil ?_ | with_reducible refine s_cb ?_
  | with_reducible refine s_test ?_ | with_reducible refine s_B ?_ | with_reducible refine s_not ?_ | with_reducible refine s_and ?_ | with_reducible refine s_or ?_
  | with_reducible refine s_if ?_ | with_reducible refine s_notV ?_ | with_reducible refine s_andV ?_ | with_reducible refine s_orV ?_
  | with_reducible refine s_orT ?_ | with_reducible refine s_andT ?_ | with_reducible refine s_chain ?_
  | with_reducible refine s_isi_int ?_ | with_reducible refine s_isi_int_bool ?_ | with_reducible refine s_isi_str ?_
  | with_reducible refine iteT ?_ | with_reducible refine iteF ?_ | with_reducible refine iteNT ?_ | with_reducible refine iteNF ?_
  | with_reducible refine s_isN ?_ | with_reducible refine s_notN ?_
  | ((with_reducible refine' s_2setE ?g1 ?_); (case g1 => first | (dsimp only [List.set, L2.wipe, List.map, List.foldl]; done) | (dsimp only [List.set, L2.wipe, List.map, List.foldl]; rfl)))
  | with_reducible refine s_seq ?_ | with_reducible refine s_ifS ?_ | with_reducible refine s_asg ?_ | with_reducible refine s_ret ?_ | with_reducible refine s_drop ?_ | with_reducible refine s_next ?_
  | ((with_reducible refine' s_gnameE ?g1 ?_); (case g1 => first | (dsimp only [List.set, L2.wipe, List.map, List.foldl]; done) | (dsimp only [List.set, L2.wipe, List.map, List.foldl]; rfl)))
  | with_reducible refine s_gsub ?_ | with_reducible refine s_gcons ?_ | with_reducible refine s_gnil ?_
  | (with_reducible show gTup _ _ _ _ _ _ _); refine s_gtup (by walk_at "hp") rfl ?_
  | with_reducible refine s_eqI ?_ | with_reducible refine s_neI ?_ | with_reducible refine s_eqS ?_ | with_reducible refine s_neB ?_ | with_reducible refine s_eqB ?_ | with_reducible refine s_neSr ?_ | with_reducible refine s_neS ?_
  | with_reducible refine s_I0 ?_
  | (with_reducible show rI _ _ _ _ _ _); refine s_I (by walk_at "sd") ?_
  | (with_reducible show rIxL _ _ _ _ _); refine s_ixL (by walk_at "hp") rfl ?_
  | (with_reducible show rIxT _ _ _ _ _); refine s_ixT (by walk_at "hp") rfl ?_
  | (with_reducible show rSetL _ _ _ _ _); refine s_setL (by walk_at "hp") rfl ?_
  | with_reducible refine s_prop ?_
  | (with_reducible show _ ≤ sizeLine ∧ _); refine ⟨le_size (by rfl), ?_⟩
  | with_reducible refine ite_NN ?_ | with_reducible refine ite_IN ?_ | with_reducible refine ite_nNN ?_ | with_reducible refine ite_nIN ?_ | with_reducible refine ite_RN ?_ | with_reducible refine ite_nRN ?_
  | with_reducible refine s_sfld ?_
  | ((with_reducible refine' ⟨_, _, _, _, rfl, ?fp1, ?fp2, ?fp3, ?fp4, ?_⟩); (case fp1 => walk_at "hp"); (case fp2 => assumption); (case fp3 => assumption); (case fp4 => walk_at "few"))
  | with_reducible refine s_fldE ?_
  | ((with_reducible refine' ⟨_, _, _, _, _, rfl, ?fp1, ?fp2, ?fp3, ?fp4, ?_⟩); (case fp1 => walk_at "hp"); (case fp2 => assumption); (case fp3 => assumption); (case fp4 => rfl))
  | with_reducible refine s_bm ?_ | with_reducible refine s_bm0 ?_
  | ((with_reducible refine' s_tyL ?ty1 ?_); (case ty1 => walk_at "hp"))
  | ((with_reducible refine' s_append ?ap1 ?ap2 ?_); (case ap1 => walk_at "hp"); (case ap2 => walk_at "sz"))
  | ((with_reducible refine' s_extend ?ap1 ?ap2 ?ap3 ?_); (case ap1 => walk_at "hp"); (case ap2 => walk_at "hp"); (case ap3 => walk_at "sz"))
  | with_reducible refine s_for (fun _ _ => ?_) | with_reducible refine s_lc ?_ | with_reducible refine s_iList ?_ | with_reducible refine s_iTup ?_ | with_reducible refine s_iRng1 ?_ | with_reducible refine s_iRng2 ?_
  | with_reducible refine s_yes ?_ | with_reducible refine s_par ?_
  | with_reducible refine s_make ?_ | with_reducible refine s_meth ?_
  | with_reducible refine s_tup ?_ | with_reducible refine s_lst ?_ | with_reducible refine s_call ?_
  | with_reducible refine ⟨rfl, ?_⟩
  | with_reducible refine ⟨_, rfl, ?_⟩
  | ((with_reducible refine' ⟨_, _, rfl, ?sd1, ?_⟩); (case sd1 => walk_at "sd"))
  | with_reducible refine ⟨_, _, rfl, ?_⟩
  | with_reducible refine .inl ⟨_, rfl, ?_⟩
  | dsimp only [List.set]
  | walk_at "rdx"
  | (refine fun _ _ => ?_))
local macro_rules | `(tactic| walk_at "rd") => `(tactic| repeat (first
  | (with_reducible show tVar _ _ _ _); refine s_var rfl ?_
  | with_reducible refine s_c ?_ | with_reducible refine s_op ?_ | with_reducible refine s_un ?_
  | with_reducible refine s_cons ?_ | with_reducible refine s_nil ?_ | with_reducible refine s_cb ?_
  | with_reducible refine s_test ?_ | with_reducible refine s_B ?_ | with_reducible refine s_not ?_ | with_reducible refine s_and ?_ | with_reducible refine s_or ?_
  | with_reducible refine s_if ?_ | with_reducible refine s_notV ?_ | with_reducible refine s_andV ?_ | with_reducible refine s_orV ?_
  | with_reducible refine s_orT ?_ | with_reducible refine s_andT ?_ | with_reducible refine s_chain ?_
  | with_reducible refine s_isi_int ?_ | with_reducible refine s_isi_int_bool ?_ | with_reducible refine s_isi_str ?_
  | with_reducible refine iteT ?_ | with_reducible refine iteF ?_ | with_reducible refine iteNT ?_ | with_reducible refine iteNF ?_
  | with_reducible refine s_isN ?_ | with_reducible refine s_notN ?_
  | ((with_reducible refine' s_2setE ?g1 ?_); (case g1 => first | (dsimp only [List.set, L2.wipe, List.map, List.foldl]; done) | (dsimp only [List.set, L2.wipe, List.map, List.foldl]; rfl)))
  | with_reducible refine s_seq ?_ | with_reducible refine s_ifS ?_ | with_reducible refine s_asg ?_ | with_reducible refine s_ret ?_ | with_reducible refine s_drop ?_ | with_reducible refine s_next ?_
  | ((with_reducible refine' s_gnameE ?g1 ?_); (case g1 => first | (dsimp only [List.set, L2.wipe, List.map, List.foldl]; done) | (dsimp only [List.set, L2.wipe, List.map, List.foldl]; rfl)))
  | with_reducible refine s_gsub ?_ | with_reducible refine s_gcons ?_ | with_reducible refine s_gnil ?_
  | (with_reducible show gTup _ _ _ _ _ _ _); refine s_gtup (by walk_at "hp") rfl ?_
  | with_reducible refine s_eqI ?_ | with_reducible refine s_neI ?_ | with_reducible refine s_eqS ?_ | with_reducible refine s_neB ?_ | with_reducible refine s_eqB ?_ | with_reducible refine s_neSr ?_ | with_reducible refine s_neS ?_
  | with_reducible refine s_I0 ?_
  | (with_reducible show rI _ _ _ _ _ _); refine s_I (by walk_at "sd") ?_
  | (with_reducible show rIxL _ _ _ _ _); refine s_ixL (by walk_at "hp") rfl ?_
  | (with_reducible show rIxT _ _ _ _ _); refine s_ixT (by walk_at "hp") rfl ?_
  | (with_reducible show rSetL _ _ _ _ _); refine s_setL (by walk_at "hp") rfl ?_
  | with_reducible refine s_prop ?_
  | (with_reducible show _ ≤ sizeLine ∧ _); refine ⟨le_size (by rfl), ?_⟩
  | with_reducible refine ite_NN ?_ | with_reducible refine ite_IN ?_ | with_reducible refine ite_nNN ?_ | with_reducible refine ite_nIN ?_ | with_reducible refine ite_RN ?_ | with_reducible refine ite_nRN ?_
  | with_reducible refine s_sfld ?_
  | ((with_reducible refine' ⟨_, _, _, _, rfl, ?fp1, ?fp2, ?fp3, ?fp4, ?_⟩); (case fp1 => walk_at "hp"); (case fp2 => assumption); (case fp3 => assumption); (case fp4 => walk_at "few"))
  | with_reducible refine s_fldE ?_
  | ((with_reducible refine' ⟨_, _, _, _, _, rfl, ?fp1, ?fp2, ?fp3, ?fp4, ?_⟩); (case fp1 => walk_at "hp"); (case fp2 => assumption); (case fp3 => assumption); (case fp4 => rfl))
  | with_reducible refine s_bm ?_ | with_reducible refine s_bm0 ?_
  | ((with_reducible refine' s_tyL ?ty1 ?_); (case ty1 => walk_at "hp"))
  | ((with_reducible refine' s_append ?ap1 ?ap2 ?_); (case ap1 => walk_at "hp"); (case ap2 => walk_at "sz"))
  | ((with_reducible refine' s_extend ?ap1 ?ap2 ?ap3 ?_); (case ap1 => walk_at "hp"); (case ap2 => walk_at "hp"); (case ap3 => walk_at "sz"))
  | with_reducible refine s_for (fun _ _ => ?_) | with_reducible refine s_lc ?_ | with_reducible refine s_iList ?_ | with_reducible refine s_iTup ?_ | with_reducible refine s_iRng1 ?_ | with_reducible refine s_iRng2 ?_
  | with_reducible refine s_yes ?_ | with_reducible refine s_par ?_
  | with_reducible refine s_make ?_ | with_reducible refine s_meth ?_
  | with_reducible refine s_tup ?_ | with_reducible refine s_lst ?_ | with_reducible refine s_call ?_
  | with_reducible refine ⟨rfl, ?_⟩
  | with_reducible refine ⟨_, rfl, ?_⟩
  | ((with_reducible refine' ⟨_, _, rfl, ?sd1, ?_⟩); (case sd1 => walk_at "sd"))
  | with_reducible refine ⟨_, _, rfl, ?_⟩
  | with_reducible refine .inl ⟨_, rfl, ?_⟩
  | dsimp only [List.set]
  | walk_at "rdx"
  | (refine fun _ _ => ?_)))

namespace My
open PySem L2
section
variable {P : Program} {w : World} {K : PySem.W.Frag} {mg : Str → Option Value} {base : Heap} {C_InvalidName C_InvalidCount C_InvalidNumber C_InvalidMany C_InvalidRatio C_InvalidKinds C_InvalidLink C_InvalidEnd C_InvalidModel C_InvalidTotal C_InvalidPair C_InvalidRow C_InvalidPairs C_InvalidDatabase C_InvalidWay C_InvalidSizes C_InvalidTold C_InvalidText C_InvalidClaim C_InvalidCommand C_EmptyBy C_UnknownKind C_UnknownLink C_UnknownRow C_UnknownThing C_Apart C_Taken C_Empty C_NotLet C_Lacking C_NothingToUndo C_CommandFailed C_TooMany C_EachError C_MissingError C_StateError C_LimitError : Addr} (M : Md K mg C_InvalidName C_InvalidCount C_InvalidNumber C_InvalidMany C_InvalidRatio C_InvalidKinds C_InvalidLink C_InvalidEnd C_InvalidModel C_InvalidTotal C_InvalidPair C_InvalidRow C_InvalidPairs C_InvalidDatabase C_InvalidWay C_InvalidSizes C_InvalidTold C_InvalidText C_InvalidClaim C_InvalidCommand C_EmptyBy C_UnknownKind C_UnknownLink C_UnknownRow C_UnknownThing C_Apart C_Taken C_Empty C_NotLet C_Lacking C_NothingToUndo C_CommandFailed C_TooMany C_EachError C_MissingError C_StateError C_LimitError)
include M
local macro_rules | `(tactic| walk_at "rdx") => `(tactic| first | with_reducible refine s_ostG ?_ | with_reducible refine s_mkE ?_ | with_reducible refine s_mkEK ?_ | with_reducible refine s_xf ?_ | with_reducible refine s_lstN ?_)
local macro_rules | `(tactic| walk_at "cl") => `(tactic| repeat (first | walk_at "rd1" | (refine ite_d (fun h => absurd h (by decide)) (fun _ => ?_)) | (refine ite_d (fun _ => ?_) (fun h => absurd rfl h))))

theorem c__law_made : Dn P w K mg base "_law_made" 4 ["_law_at", "_law_x"] [] (spMk [C_InvalidName, C_InvalidCount, C_InvalidNumber, C_InvalidMany, C_InvalidRatio, C_InvalidKinds, C_InvalidLink, C_InvalidEnd, C_InvalidModel, C_InvalidTotal, C_InvalidPair, C_InvalidRow, C_InvalidPairs, C_InvalidDatabase, C_InvalidWay, C_InvalidSizes, C_InvalidTold, C_InvalidText, C_InvalidClaim, C_InvalidCommand, C_EmptyBy, C_UnknownKind, C_UnknownLink, C_UnknownRow, C_UnknownThing, C_Apart, C_Taken, C_Empty, C_NotLet, C_Lacking, C_NothingToUndo, C_CommandFailed, C_TooMany] 0 32) := by
  have c__law_first := c__law_first (P := P) (w := w) (base := base) M
  have c__law_second := c__law_second (P := P) (w := w) (base := base) M
  have c__law_third := c__law_third (P := P) (w := w) (base := base) M
  refine dnN M.f__law_made (fun F => ?_) (fun _ _ _ _ _ _ us hl => match us, hl with | [_, _], _ => rfl)
  refine fnG_body F sc__law_made (fun vs H Q E h => ?_) (fun cdv A outer s H vs Q E hr h => ?_)
  · obtain ⟨t, l, v0, v1, rfl, _⟩ := h
    rfl
  · obtain ⟨t, l, v0, v1, rfl, h0, h1, hl, q⟩ := h
    refine ⟨_, (pss_cons (ps_if (pt_cmpR op_lt (pv 0) pe_int (nomark _)) (pss_one (ps_ret (pe_callD c__law_first (hr.mono (by decide)) rfl (pa_cons (pv 0) (pa_cons (pv 1) pa_nil))))) pss_nil) (pss_one (ps_ret (pe_ifExp (pt_cmpR op_lt (pv 0) pe_int (nomark _)) (pe_callD c__law_second (hr.mono (by decide)) rfl (pa_cons (pv 0) (pa_cons (pv 1) pa_nil))) (pe_callD c__law_third (hr.mono (by decide)) rfl (pa_cons (pv 0) (pa_cons (pv 1) pa_nil))))))), ?_⟩
    refine st_eq (σ := [some _, some _]) rfl ?_
    walk_at "rd"
    refine ite_d (fun hc => ?_) (fun hc => ?_)
    · walk_at "rd"
      refine ⟨t, l, v0, v1, rfl, by omega, by omega, hl, fun a H' s e => ?_⟩
      walk_at "rd"
      exact q a H' s e
    · walk_at "rd"
      refine ite_d (fun hc2 => ?_) (fun hc2 => ?_)
      · walk_at "rd"
        refine ⟨t, l, v0, v1, rfl, by omega, by omega, hl, fun a H' s e => ?_⟩
        walk_at "rd"
        exact q a H' s e
      · walk_at "rd"
        refine ⟨t, l, v0, v1, rfl, by omega, by omega, hl, fun a H' s e => ?_⟩
        walk_at "rd"
        exact q a H' s e
theorem c__law_named : Dn P w K mg base "_law_named" 4 ["_law_at", "_law_x"] [] (spMk [C_InvalidName, C_InvalidCount, C_InvalidNumber, C_InvalidMany, C_InvalidRatio, C_InvalidKinds, C_InvalidLink, C_InvalidEnd, C_InvalidModel, C_InvalidTotal, C_InvalidPair, C_InvalidRow, C_InvalidPairs, C_InvalidDatabase, C_InvalidWay, C_InvalidSizes, C_InvalidTold, C_InvalidText, C_InvalidClaim, C_InvalidCommand, C_EmptyBy, C_UnknownKind, C_UnknownLink, C_UnknownRow, C_UnknownThing, C_Apart, C_Taken, C_Empty, C_NotLet, C_Lacking, C_NothingToUndo, C_CommandFailed, C_TooMany] 0 32) := by
  have c__law_first_named := c__law_first_named (P := P) (w := w) (base := base) M
  have c__law_second_named := c__law_second_named (P := P) (w := w) (base := base) M
  have c__law_third_named := c__law_third_named (P := P) (w := w) (base := base) M
  refine dnN M.f__law_named (fun F => ?_) (fun _ _ _ _ _ _ us hl => match us, hl with | [_, _], _ => rfl)
  refine fnG_body F sc__law_named (fun vs H Q E h => ?_) (fun cdv A outer s H vs Q E hr h => ?_)
  · obtain ⟨t, l, v0, v1, rfl, _⟩ := h
    rfl
  · obtain ⟨t, l, v0, v1, rfl, h0, h1, hl, q⟩ := h
    refine ⟨_, (pss_cons (ps_if (pt_cmpR op_lt (pv 0) pe_int (nomark _)) (pss_one (ps_ret (pe_callD c__law_first_named (hr.mono (by decide)) rfl (pa_cons (pv 0) (pa_cons (pv 1) pa_nil))))) pss_nil) (pss_one (ps_ret (pe_ifExp (pt_cmpR op_lt (pv 0) pe_int (nomark _)) (pe_callD c__law_second_named (hr.mono (by decide)) rfl (pa_cons (pv 0) (pa_cons (pv 1) pa_nil))) (pe_callD c__law_third_named (hr.mono (by decide)) rfl (pa_cons (pv 0) (pa_cons (pv 1) pa_nil))))))), ?_⟩
    refine st_eq (σ := [some _, some _]) rfl ?_
    walk_at "rd"
    refine ite_d (fun hc => ?_) (fun hc => ?_)
    · walk_at "rd"
      refine ⟨t, l, v0, v1, rfl, by omega, by omega, hl, fun a H' s e => ?_⟩
      walk_at "rd"
      exact q a H' s e
    · walk_at "rd"
      refine ite_d (fun hc2 => ?_) (fun hc2 => ?_)
      · walk_at "rd"
        refine ⟨t, l, v0, v1, rfl, by omega, by omega, hl, fun a H' s e => ?_⟩
        walk_at "rd"
        exact q a H' s e
      · walk_at "rd"
        refine ⟨t, l, v0, v1, rfl, by omega, by omega, hl, fun a H' s e => ?_⟩
        walk_at "rd"
        exact q a H' s e
omit M
/-! ### isinstance, by the classes' numbers -/
/-- the place of the class above it -/
def gOf (u : Nat) : Nat := if u < 21 then 33 else if u < 25 then 34 else if u < 32 then 35 else if u < 33 then 36 else u
def tyG : Nat → String
  | 33 => "ValueError"
  | 34 => "LookupError"
  | 35 => "RuntimeError"
  | _ => "ArithmeticError"
structure Row (K : PySem.W.Frag) (all : List Addr) (u : Nat) (C : Addr) : Prop where
  get : all[u]? = some C
  ex : ExcC K C
  has : ∃ (m bm : List Value) (n : String), ExF K C m n ∧ Ups C m bm ∧ (∀ D : Addr, m.contains (.ref D) = (decide (D = C) || decide (all[gOf u]? = some D))) ∧
    ∀ T : String, m.contains (.type T) = ["" ++ tyG (gOf u), "Exception", "BaseException", "object"].contains T
theorem beqT (a b : String) : (Value.type a == Value.type b) = (a == b) := by
  by_cases h : a = b
  · subst h
    simp
  · rw [beq_false_of_ne h, beq_false_of_ne (fun z => h (Value.type.inj z))]
theorem beqR (a b : Addr) : (Value.ref a == Value.ref b) = decide (a = b) := by
  by_cases h : a = b
  · subst h
    simp
  · rw [decide_eq_false h, beq_false_of_ne (fun z => h (Value.ref.inj z))]
theorem beqRT (a : Addr) (b : String) : (Value.ref a == Value.type b) = false := beq_false_of_ne (fun z => by cases z)
theorem beqTR (a : Addr) (b : String) : (Value.type b == Value.ref a) = false := beq_false_of_ne (fun z => by cases z)
theorem Row.mk1 {all : List Addr} {u : Nat} {C G : Addr} {b n : String} (x : ExF K C (.ref C :: .ref G :: .type b :: [.type "Exception", .type "BaseException", .type "object"]) n) (ex : ExcC K C) (get : all[u]? = some C) (hg : all[gOf u]? = some G) (hb : tyG (gOf u) = b) : Row K all u C := by
  refine ⟨get, ex, _, _, _, x, ups C G b, fun D => ?_, fun T => ?_⟩
  · rw [hg]
    simp only [List.contains_cons, List.contains_nil, beqR, beqRT, beqTR, Bool.or_false]
    congr 1
    by_cases h : D = G
    · subst h
      simp
    · rw [decide_eq_false h, decide_eq_false (fun z => h (Option.some.inj z).symm)]
  · subst hb
    simp only [List.contains_cons, List.contains_nil, beqT, beqTR, beqRT, Bool.false_or, Bool.or_false, String.empty_append]
theorem Row.mk0 {all : List Addr} {u : Nat} {C : Addr} {b n : String} (x : ExF K C (.ref C :: .type b :: [.type "Exception", .type "BaseException", .type "object"]) n) (ex : ExcC K C) (get : all[u]? = some C) (hg : all[gOf u]? = some C) (hb : tyG (gOf u) = b) : Row K all u C := by
  refine ⟨get, ex, _, _, _, x, ups0 C b, fun D => ?_, fun T => ?_⟩
  · rw [hg]
    simp only [List.contains_cons, List.contains_nil, beqR, beqRT, beqTR, Bool.or_false]
    by_cases h : D = C
    · subst h
      simp
    · rw [decide_eq_false h, decide_eq_false (fun z => h (Option.some.inj z).symm)]
      rfl
  · subst hb
    simp only [List.contains_cons, List.contains_nil, beqT, beqTR, beqRT, Bool.false_or, Bool.or_false, String.empty_append]
theorem Row.kit {all : List Addr} {u v : Nat} {C D : Addr} (r : Row K all u C) (r2 : Row K all v D) (nd : all.Nodup) : PySem.W.kitOne K (.ref C) (.ref D) = some (decide (v = u) || decide (v = gOf u)) := by
  obtain ⟨m, bm, n, x, up, hd, _⟩ := r.has
  obtain ⟨m2, bm2, n2, x2, _⟩ := r2.has
  rw [x.kit up x2, hd]
  have lt := (List.getElem?_eq_some_iff.mp r2.get).1
  have e1 : decide (D = C) = decide (v = u) := by
    rw [Bool.eq_iff_iff, decide_eq_true_iff, decide_eq_true_iff]
    constructor
    · intro z
      subst z
      exact (List.getElem?_inj lt nd).mp (r2.get.trans r.get.symm)
    · intro z
      subst z
      exact Option.some.inj (r2.get.symm.trans r.get)
  have e2 : decide (all[gOf u]? = some D) = decide (v = gOf u) := by
    rw [Bool.eq_iff_iff, decide_eq_true_iff, decide_eq_true_iff]
    constructor
    · intro z
      exact (List.getElem?_inj lt nd).mp (r2.get.trans z.symm)
    · intro z
      rw [← z]
      exact r2.get
  rw [e1, e2]
theorem Row.kitT {all : List Addr} {u : Nat} {C : Addr} {T : String} (r : Row K all u C) (h : PySem.W.kitMeta T = true) : PySem.W.kitOne K (.ref C) (.type T) = some (["" ++ tyG (gOf u), "Exception", "BaseException", "object"].contains T) := by
  obtain ⟨m, bm, n, x, up, _, ht⟩ := r.has
  rw [x.kitT up h, ht]
theorem IsExo.same {H H' : Hp} {a C : Addr} (h : IsExo H a C) (s : Same H H') : IsExo H' a C := by
  rcases h with h | ⟨dd, fs, h, g⟩
  · exact .inl (s _ _ h)
  · exact .inr ⟨dd, fs, s _ _ h, s _ _ g⟩
include M
theorem row_InvalidName : Row K [C_InvalidName, C_InvalidCount, C_InvalidNumber, C_InvalidMany, C_InvalidRatio, C_InvalidKinds, C_InvalidLink, C_InvalidEnd, C_InvalidModel, C_InvalidTotal, C_InvalidPair, C_InvalidRow, C_InvalidPairs, C_InvalidDatabase, C_InvalidWay, C_InvalidSizes, C_InvalidTold, C_InvalidText, C_InvalidClaim, C_InvalidCommand, C_EmptyBy, C_UnknownKind, C_UnknownLink, C_UnknownRow, C_UnknownThing, C_Apart, C_Taken, C_Empty, C_NotLet, C_Lacking, C_NothingToUndo, C_CommandFailed, C_TooMany, C_EachError, C_MissingError, C_StateError, C_LimitError] 0 C_InvalidName := .mk1 M.x_InvalidName (ex_InvalidName M) rfl rfl rfl
theorem row_InvalidCount : Row K [C_InvalidName, C_InvalidCount, C_InvalidNumber, C_InvalidMany, C_InvalidRatio, C_InvalidKinds, C_InvalidLink, C_InvalidEnd, C_InvalidModel, C_InvalidTotal, C_InvalidPair, C_InvalidRow, C_InvalidPairs, C_InvalidDatabase, C_InvalidWay, C_InvalidSizes, C_InvalidTold, C_InvalidText, C_InvalidClaim, C_InvalidCommand, C_EmptyBy, C_UnknownKind, C_UnknownLink, C_UnknownRow, C_UnknownThing, C_Apart, C_Taken, C_Empty, C_NotLet, C_Lacking, C_NothingToUndo, C_CommandFailed, C_TooMany, C_EachError, C_MissingError, C_StateError, C_LimitError] 1 C_InvalidCount := .mk1 M.x_InvalidCount (ex_InvalidCount M) rfl rfl rfl
theorem row_InvalidNumber : Row K [C_InvalidName, C_InvalidCount, C_InvalidNumber, C_InvalidMany, C_InvalidRatio, C_InvalidKinds, C_InvalidLink, C_InvalidEnd, C_InvalidModel, C_InvalidTotal, C_InvalidPair, C_InvalidRow, C_InvalidPairs, C_InvalidDatabase, C_InvalidWay, C_InvalidSizes, C_InvalidTold, C_InvalidText, C_InvalidClaim, C_InvalidCommand, C_EmptyBy, C_UnknownKind, C_UnknownLink, C_UnknownRow, C_UnknownThing, C_Apart, C_Taken, C_Empty, C_NotLet, C_Lacking, C_NothingToUndo, C_CommandFailed, C_TooMany, C_EachError, C_MissingError, C_StateError, C_LimitError] 2 C_InvalidNumber := .mk1 M.x_InvalidNumber (ex_InvalidNumber M) rfl rfl rfl
theorem row_InvalidMany : Row K [C_InvalidName, C_InvalidCount, C_InvalidNumber, C_InvalidMany, C_InvalidRatio, C_InvalidKinds, C_InvalidLink, C_InvalidEnd, C_InvalidModel, C_InvalidTotal, C_InvalidPair, C_InvalidRow, C_InvalidPairs, C_InvalidDatabase, C_InvalidWay, C_InvalidSizes, C_InvalidTold, C_InvalidText, C_InvalidClaim, C_InvalidCommand, C_EmptyBy, C_UnknownKind, C_UnknownLink, C_UnknownRow, C_UnknownThing, C_Apart, C_Taken, C_Empty, C_NotLet, C_Lacking, C_NothingToUndo, C_CommandFailed, C_TooMany, C_EachError, C_MissingError, C_StateError, C_LimitError] 3 C_InvalidMany := .mk1 M.x_InvalidMany (ex_InvalidMany M) rfl rfl rfl
theorem row_InvalidRatio : Row K [C_InvalidName, C_InvalidCount, C_InvalidNumber, C_InvalidMany, C_InvalidRatio, C_InvalidKinds, C_InvalidLink, C_InvalidEnd, C_InvalidModel, C_InvalidTotal, C_InvalidPair, C_InvalidRow, C_InvalidPairs, C_InvalidDatabase, C_InvalidWay, C_InvalidSizes, C_InvalidTold, C_InvalidText, C_InvalidClaim, C_InvalidCommand, C_EmptyBy, C_UnknownKind, C_UnknownLink, C_UnknownRow, C_UnknownThing, C_Apart, C_Taken, C_Empty, C_NotLet, C_Lacking, C_NothingToUndo, C_CommandFailed, C_TooMany, C_EachError, C_MissingError, C_StateError, C_LimitError] 4 C_InvalidRatio := .mk1 M.x_InvalidRatio (ex_InvalidRatio M) rfl rfl rfl
theorem row_InvalidKinds : Row K [C_InvalidName, C_InvalidCount, C_InvalidNumber, C_InvalidMany, C_InvalidRatio, C_InvalidKinds, C_InvalidLink, C_InvalidEnd, C_InvalidModel, C_InvalidTotal, C_InvalidPair, C_InvalidRow, C_InvalidPairs, C_InvalidDatabase, C_InvalidWay, C_InvalidSizes, C_InvalidTold, C_InvalidText, C_InvalidClaim, C_InvalidCommand, C_EmptyBy, C_UnknownKind, C_UnknownLink, C_UnknownRow, C_UnknownThing, C_Apart, C_Taken, C_Empty, C_NotLet, C_Lacking, C_NothingToUndo, C_CommandFailed, C_TooMany, C_EachError, C_MissingError, C_StateError, C_LimitError] 5 C_InvalidKinds := .mk1 M.x_InvalidKinds (ex_InvalidKinds M) rfl rfl rfl
theorem row_InvalidLink : Row K [C_InvalidName, C_InvalidCount, C_InvalidNumber, C_InvalidMany, C_InvalidRatio, C_InvalidKinds, C_InvalidLink, C_InvalidEnd, C_InvalidModel, C_InvalidTotal, C_InvalidPair, C_InvalidRow, C_InvalidPairs, C_InvalidDatabase, C_InvalidWay, C_InvalidSizes, C_InvalidTold, C_InvalidText, C_InvalidClaim, C_InvalidCommand, C_EmptyBy, C_UnknownKind, C_UnknownLink, C_UnknownRow, C_UnknownThing, C_Apart, C_Taken, C_Empty, C_NotLet, C_Lacking, C_NothingToUndo, C_CommandFailed, C_TooMany, C_EachError, C_MissingError, C_StateError, C_LimitError] 6 C_InvalidLink := .mk1 M.x_InvalidLink (ex_InvalidLink M) rfl rfl rfl
theorem row_InvalidEnd : Row K [C_InvalidName, C_InvalidCount, C_InvalidNumber, C_InvalidMany, C_InvalidRatio, C_InvalidKinds, C_InvalidLink, C_InvalidEnd, C_InvalidModel, C_InvalidTotal, C_InvalidPair, C_InvalidRow, C_InvalidPairs, C_InvalidDatabase, C_InvalidWay, C_InvalidSizes, C_InvalidTold, C_InvalidText, C_InvalidClaim, C_InvalidCommand, C_EmptyBy, C_UnknownKind, C_UnknownLink, C_UnknownRow, C_UnknownThing, C_Apart, C_Taken, C_Empty, C_NotLet, C_Lacking, C_NothingToUndo, C_CommandFailed, C_TooMany, C_EachError, C_MissingError, C_StateError, C_LimitError] 7 C_InvalidEnd := .mk1 M.x_InvalidEnd (ex_InvalidEnd M) rfl rfl rfl
theorem row_InvalidModel : Row K [C_InvalidName, C_InvalidCount, C_InvalidNumber, C_InvalidMany, C_InvalidRatio, C_InvalidKinds, C_InvalidLink, C_InvalidEnd, C_InvalidModel, C_InvalidTotal, C_InvalidPair, C_InvalidRow, C_InvalidPairs, C_InvalidDatabase, C_InvalidWay, C_InvalidSizes, C_InvalidTold, C_InvalidText, C_InvalidClaim, C_InvalidCommand, C_EmptyBy, C_UnknownKind, C_UnknownLink, C_UnknownRow, C_UnknownThing, C_Apart, C_Taken, C_Empty, C_NotLet, C_Lacking, C_NothingToUndo, C_CommandFailed, C_TooMany, C_EachError, C_MissingError, C_StateError, C_LimitError] 8 C_InvalidModel := .mk1 M.x_InvalidModel (ex_InvalidModel M) rfl rfl rfl
theorem row_InvalidTotal : Row K [C_InvalidName, C_InvalidCount, C_InvalidNumber, C_InvalidMany, C_InvalidRatio, C_InvalidKinds, C_InvalidLink, C_InvalidEnd, C_InvalidModel, C_InvalidTotal, C_InvalidPair, C_InvalidRow, C_InvalidPairs, C_InvalidDatabase, C_InvalidWay, C_InvalidSizes, C_InvalidTold, C_InvalidText, C_InvalidClaim, C_InvalidCommand, C_EmptyBy, C_UnknownKind, C_UnknownLink, C_UnknownRow, C_UnknownThing, C_Apart, C_Taken, C_Empty, C_NotLet, C_Lacking, C_NothingToUndo, C_CommandFailed, C_TooMany, C_EachError, C_MissingError, C_StateError, C_LimitError] 9 C_InvalidTotal := .mk1 M.x_InvalidTotal (ex_InvalidTotal M) rfl rfl rfl
theorem row_InvalidPair : Row K [C_InvalidName, C_InvalidCount, C_InvalidNumber, C_InvalidMany, C_InvalidRatio, C_InvalidKinds, C_InvalidLink, C_InvalidEnd, C_InvalidModel, C_InvalidTotal, C_InvalidPair, C_InvalidRow, C_InvalidPairs, C_InvalidDatabase, C_InvalidWay, C_InvalidSizes, C_InvalidTold, C_InvalidText, C_InvalidClaim, C_InvalidCommand, C_EmptyBy, C_UnknownKind, C_UnknownLink, C_UnknownRow, C_UnknownThing, C_Apart, C_Taken, C_Empty, C_NotLet, C_Lacking, C_NothingToUndo, C_CommandFailed, C_TooMany, C_EachError, C_MissingError, C_StateError, C_LimitError] 10 C_InvalidPair := .mk1 M.x_InvalidPair (ex_InvalidPair M) rfl rfl rfl
theorem row_InvalidRow : Row K [C_InvalidName, C_InvalidCount, C_InvalidNumber, C_InvalidMany, C_InvalidRatio, C_InvalidKinds, C_InvalidLink, C_InvalidEnd, C_InvalidModel, C_InvalidTotal, C_InvalidPair, C_InvalidRow, C_InvalidPairs, C_InvalidDatabase, C_InvalidWay, C_InvalidSizes, C_InvalidTold, C_InvalidText, C_InvalidClaim, C_InvalidCommand, C_EmptyBy, C_UnknownKind, C_UnknownLink, C_UnknownRow, C_UnknownThing, C_Apart, C_Taken, C_Empty, C_NotLet, C_Lacking, C_NothingToUndo, C_CommandFailed, C_TooMany, C_EachError, C_MissingError, C_StateError, C_LimitError] 11 C_InvalidRow := .mk1 M.x_InvalidRow (ex_InvalidRow M) rfl rfl rfl
theorem row_InvalidPairs : Row K [C_InvalidName, C_InvalidCount, C_InvalidNumber, C_InvalidMany, C_InvalidRatio, C_InvalidKinds, C_InvalidLink, C_InvalidEnd, C_InvalidModel, C_InvalidTotal, C_InvalidPair, C_InvalidRow, C_InvalidPairs, C_InvalidDatabase, C_InvalidWay, C_InvalidSizes, C_InvalidTold, C_InvalidText, C_InvalidClaim, C_InvalidCommand, C_EmptyBy, C_UnknownKind, C_UnknownLink, C_UnknownRow, C_UnknownThing, C_Apart, C_Taken, C_Empty, C_NotLet, C_Lacking, C_NothingToUndo, C_CommandFailed, C_TooMany, C_EachError, C_MissingError, C_StateError, C_LimitError] 12 C_InvalidPairs := .mk1 M.x_InvalidPairs (ex_InvalidPairs M) rfl rfl rfl
theorem row_InvalidDatabase : Row K [C_InvalidName, C_InvalidCount, C_InvalidNumber, C_InvalidMany, C_InvalidRatio, C_InvalidKinds, C_InvalidLink, C_InvalidEnd, C_InvalidModel, C_InvalidTotal, C_InvalidPair, C_InvalidRow, C_InvalidPairs, C_InvalidDatabase, C_InvalidWay, C_InvalidSizes, C_InvalidTold, C_InvalidText, C_InvalidClaim, C_InvalidCommand, C_EmptyBy, C_UnknownKind, C_UnknownLink, C_UnknownRow, C_UnknownThing, C_Apart, C_Taken, C_Empty, C_NotLet, C_Lacking, C_NothingToUndo, C_CommandFailed, C_TooMany, C_EachError, C_MissingError, C_StateError, C_LimitError] 13 C_InvalidDatabase := .mk1 M.x_InvalidDatabase (ex_InvalidDatabase M) rfl rfl rfl
theorem row_InvalidWay : Row K [C_InvalidName, C_InvalidCount, C_InvalidNumber, C_InvalidMany, C_InvalidRatio, C_InvalidKinds, C_InvalidLink, C_InvalidEnd, C_InvalidModel, C_InvalidTotal, C_InvalidPair, C_InvalidRow, C_InvalidPairs, C_InvalidDatabase, C_InvalidWay, C_InvalidSizes, C_InvalidTold, C_InvalidText, C_InvalidClaim, C_InvalidCommand, C_EmptyBy, C_UnknownKind, C_UnknownLink, C_UnknownRow, C_UnknownThing, C_Apart, C_Taken, C_Empty, C_NotLet, C_Lacking, C_NothingToUndo, C_CommandFailed, C_TooMany, C_EachError, C_MissingError, C_StateError, C_LimitError] 14 C_InvalidWay := .mk1 M.x_InvalidWay (ex_InvalidWay M) rfl rfl rfl
theorem row_InvalidSizes : Row K [C_InvalidName, C_InvalidCount, C_InvalidNumber, C_InvalidMany, C_InvalidRatio, C_InvalidKinds, C_InvalidLink, C_InvalidEnd, C_InvalidModel, C_InvalidTotal, C_InvalidPair, C_InvalidRow, C_InvalidPairs, C_InvalidDatabase, C_InvalidWay, C_InvalidSizes, C_InvalidTold, C_InvalidText, C_InvalidClaim, C_InvalidCommand, C_EmptyBy, C_UnknownKind, C_UnknownLink, C_UnknownRow, C_UnknownThing, C_Apart, C_Taken, C_Empty, C_NotLet, C_Lacking, C_NothingToUndo, C_CommandFailed, C_TooMany, C_EachError, C_MissingError, C_StateError, C_LimitError] 15 C_InvalidSizes := .mk1 M.x_InvalidSizes (ex_InvalidSizes M) rfl rfl rfl
theorem row_InvalidTold : Row K [C_InvalidName, C_InvalidCount, C_InvalidNumber, C_InvalidMany, C_InvalidRatio, C_InvalidKinds, C_InvalidLink, C_InvalidEnd, C_InvalidModel, C_InvalidTotal, C_InvalidPair, C_InvalidRow, C_InvalidPairs, C_InvalidDatabase, C_InvalidWay, C_InvalidSizes, C_InvalidTold, C_InvalidText, C_InvalidClaim, C_InvalidCommand, C_EmptyBy, C_UnknownKind, C_UnknownLink, C_UnknownRow, C_UnknownThing, C_Apart, C_Taken, C_Empty, C_NotLet, C_Lacking, C_NothingToUndo, C_CommandFailed, C_TooMany, C_EachError, C_MissingError, C_StateError, C_LimitError] 16 C_InvalidTold := .mk1 M.x_InvalidTold (ex_InvalidTold M) rfl rfl rfl
theorem row_InvalidText : Row K [C_InvalidName, C_InvalidCount, C_InvalidNumber, C_InvalidMany, C_InvalidRatio, C_InvalidKinds, C_InvalidLink, C_InvalidEnd, C_InvalidModel, C_InvalidTotal, C_InvalidPair, C_InvalidRow, C_InvalidPairs, C_InvalidDatabase, C_InvalidWay, C_InvalidSizes, C_InvalidTold, C_InvalidText, C_InvalidClaim, C_InvalidCommand, C_EmptyBy, C_UnknownKind, C_UnknownLink, C_UnknownRow, C_UnknownThing, C_Apart, C_Taken, C_Empty, C_NotLet, C_Lacking, C_NothingToUndo, C_CommandFailed, C_TooMany, C_EachError, C_MissingError, C_StateError, C_LimitError] 17 C_InvalidText := .mk1 M.x_InvalidText (ex_InvalidText M) rfl rfl rfl
theorem row_InvalidClaim : Row K [C_InvalidName, C_InvalidCount, C_InvalidNumber, C_InvalidMany, C_InvalidRatio, C_InvalidKinds, C_InvalidLink, C_InvalidEnd, C_InvalidModel, C_InvalidTotal, C_InvalidPair, C_InvalidRow, C_InvalidPairs, C_InvalidDatabase, C_InvalidWay, C_InvalidSizes, C_InvalidTold, C_InvalidText, C_InvalidClaim, C_InvalidCommand, C_EmptyBy, C_UnknownKind, C_UnknownLink, C_UnknownRow, C_UnknownThing, C_Apart, C_Taken, C_Empty, C_NotLet, C_Lacking, C_NothingToUndo, C_CommandFailed, C_TooMany, C_EachError, C_MissingError, C_StateError, C_LimitError] 18 C_InvalidClaim := .mk1 M.x_InvalidClaim (ex_InvalidClaim M) rfl rfl rfl
theorem row_InvalidCommand : Row K [C_InvalidName, C_InvalidCount, C_InvalidNumber, C_InvalidMany, C_InvalidRatio, C_InvalidKinds, C_InvalidLink, C_InvalidEnd, C_InvalidModel, C_InvalidTotal, C_InvalidPair, C_InvalidRow, C_InvalidPairs, C_InvalidDatabase, C_InvalidWay, C_InvalidSizes, C_InvalidTold, C_InvalidText, C_InvalidClaim, C_InvalidCommand, C_EmptyBy, C_UnknownKind, C_UnknownLink, C_UnknownRow, C_UnknownThing, C_Apart, C_Taken, C_Empty, C_NotLet, C_Lacking, C_NothingToUndo, C_CommandFailed, C_TooMany, C_EachError, C_MissingError, C_StateError, C_LimitError] 19 C_InvalidCommand := .mk1 M.x_InvalidCommand (ex_InvalidCommand M) rfl rfl rfl
theorem row_EmptyBy : Row K [C_InvalidName, C_InvalidCount, C_InvalidNumber, C_InvalidMany, C_InvalidRatio, C_InvalidKinds, C_InvalidLink, C_InvalidEnd, C_InvalidModel, C_InvalidTotal, C_InvalidPair, C_InvalidRow, C_InvalidPairs, C_InvalidDatabase, C_InvalidWay, C_InvalidSizes, C_InvalidTold, C_InvalidText, C_InvalidClaim, C_InvalidCommand, C_EmptyBy, C_UnknownKind, C_UnknownLink, C_UnknownRow, C_UnknownThing, C_Apart, C_Taken, C_Empty, C_NotLet, C_Lacking, C_NothingToUndo, C_CommandFailed, C_TooMany, C_EachError, C_MissingError, C_StateError, C_LimitError] 20 C_EmptyBy := .mk1 M.x_EmptyBy (ex_EmptyBy M) rfl rfl rfl
theorem row_UnknownKind : Row K [C_InvalidName, C_InvalidCount, C_InvalidNumber, C_InvalidMany, C_InvalidRatio, C_InvalidKinds, C_InvalidLink, C_InvalidEnd, C_InvalidModel, C_InvalidTotal, C_InvalidPair, C_InvalidRow, C_InvalidPairs, C_InvalidDatabase, C_InvalidWay, C_InvalidSizes, C_InvalidTold, C_InvalidText, C_InvalidClaim, C_InvalidCommand, C_EmptyBy, C_UnknownKind, C_UnknownLink, C_UnknownRow, C_UnknownThing, C_Apart, C_Taken, C_Empty, C_NotLet, C_Lacking, C_NothingToUndo, C_CommandFailed, C_TooMany, C_EachError, C_MissingError, C_StateError, C_LimitError] 21 C_UnknownKind := .mk1 M.x_UnknownKind (ex_UnknownKind M) rfl rfl rfl
theorem row_UnknownLink : Row K [C_InvalidName, C_InvalidCount, C_InvalidNumber, C_InvalidMany, C_InvalidRatio, C_InvalidKinds, C_InvalidLink, C_InvalidEnd, C_InvalidModel, C_InvalidTotal, C_InvalidPair, C_InvalidRow, C_InvalidPairs, C_InvalidDatabase, C_InvalidWay, C_InvalidSizes, C_InvalidTold, C_InvalidText, C_InvalidClaim, C_InvalidCommand, C_EmptyBy, C_UnknownKind, C_UnknownLink, C_UnknownRow, C_UnknownThing, C_Apart, C_Taken, C_Empty, C_NotLet, C_Lacking, C_NothingToUndo, C_CommandFailed, C_TooMany, C_EachError, C_MissingError, C_StateError, C_LimitError] 22 C_UnknownLink := .mk1 M.x_UnknownLink (ex_UnknownLink M) rfl rfl rfl
theorem row_UnknownRow : Row K [C_InvalidName, C_InvalidCount, C_InvalidNumber, C_InvalidMany, C_InvalidRatio, C_InvalidKinds, C_InvalidLink, C_InvalidEnd, C_InvalidModel, C_InvalidTotal, C_InvalidPair, C_InvalidRow, C_InvalidPairs, C_InvalidDatabase, C_InvalidWay, C_InvalidSizes, C_InvalidTold, C_InvalidText, C_InvalidClaim, C_InvalidCommand, C_EmptyBy, C_UnknownKind, C_UnknownLink, C_UnknownRow, C_UnknownThing, C_Apart, C_Taken, C_Empty, C_NotLet, C_Lacking, C_NothingToUndo, C_CommandFailed, C_TooMany, C_EachError, C_MissingError, C_StateError, C_LimitError] 23 C_UnknownRow := .mk1 M.x_UnknownRow (ex_UnknownRow M) rfl rfl rfl
theorem row_UnknownThing : Row K [C_InvalidName, C_InvalidCount, C_InvalidNumber, C_InvalidMany, C_InvalidRatio, C_InvalidKinds, C_InvalidLink, C_InvalidEnd, C_InvalidModel, C_InvalidTotal, C_InvalidPair, C_InvalidRow, C_InvalidPairs, C_InvalidDatabase, C_InvalidWay, C_InvalidSizes, C_InvalidTold, C_InvalidText, C_InvalidClaim, C_InvalidCommand, C_EmptyBy, C_UnknownKind, C_UnknownLink, C_UnknownRow, C_UnknownThing, C_Apart, C_Taken, C_Empty, C_NotLet, C_Lacking, C_NothingToUndo, C_CommandFailed, C_TooMany, C_EachError, C_MissingError, C_StateError, C_LimitError] 24 C_UnknownThing := .mk1 M.x_UnknownThing (ex_UnknownThing M) rfl rfl rfl
theorem row_Apart : Row K [C_InvalidName, C_InvalidCount, C_InvalidNumber, C_InvalidMany, C_InvalidRatio, C_InvalidKinds, C_InvalidLink, C_InvalidEnd, C_InvalidModel, C_InvalidTotal, C_InvalidPair, C_InvalidRow, C_InvalidPairs, C_InvalidDatabase, C_InvalidWay, C_InvalidSizes, C_InvalidTold, C_InvalidText, C_InvalidClaim, C_InvalidCommand, C_EmptyBy, C_UnknownKind, C_UnknownLink, C_UnknownRow, C_UnknownThing, C_Apart, C_Taken, C_Empty, C_NotLet, C_Lacking, C_NothingToUndo, C_CommandFailed, C_TooMany, C_EachError, C_MissingError, C_StateError, C_LimitError] 25 C_Apart := .mk1 M.x_Apart (ex_Apart M) rfl rfl rfl
theorem row_Taken : Row K [C_InvalidName, C_InvalidCount, C_InvalidNumber, C_InvalidMany, C_InvalidRatio, C_InvalidKinds, C_InvalidLink, C_InvalidEnd, C_InvalidModel, C_InvalidTotal, C_InvalidPair, C_InvalidRow, C_InvalidPairs, C_InvalidDatabase, C_InvalidWay, C_InvalidSizes, C_InvalidTold, C_InvalidText, C_InvalidClaim, C_InvalidCommand, C_EmptyBy, C_UnknownKind, C_UnknownLink, C_UnknownRow, C_UnknownThing, C_Apart, C_Taken, C_Empty, C_NotLet, C_Lacking, C_NothingToUndo, C_CommandFailed, C_TooMany, C_EachError, C_MissingError, C_StateError, C_LimitError] 26 C_Taken := .mk1 M.x_Taken (ex_Taken M) rfl rfl rfl
theorem row_Empty : Row K [C_InvalidName, C_InvalidCount, C_InvalidNumber, C_InvalidMany, C_InvalidRatio, C_InvalidKinds, C_InvalidLink, C_InvalidEnd, C_InvalidModel, C_InvalidTotal, C_InvalidPair, C_InvalidRow, C_InvalidPairs, C_InvalidDatabase, C_InvalidWay, C_InvalidSizes, C_InvalidTold, C_InvalidText, C_InvalidClaim, C_InvalidCommand, C_EmptyBy, C_UnknownKind, C_UnknownLink, C_UnknownRow, C_UnknownThing, C_Apart, C_Taken, C_Empty, C_NotLet, C_Lacking, C_NothingToUndo, C_CommandFailed, C_TooMany, C_EachError, C_MissingError, C_StateError, C_LimitError] 27 C_Empty := .mk1 M.x_Empty (ex_Empty M) rfl rfl rfl
theorem row_NotLet : Row K [C_InvalidName, C_InvalidCount, C_InvalidNumber, C_InvalidMany, C_InvalidRatio, C_InvalidKinds, C_InvalidLink, C_InvalidEnd, C_InvalidModel, C_InvalidTotal, C_InvalidPair, C_InvalidRow, C_InvalidPairs, C_InvalidDatabase, C_InvalidWay, C_InvalidSizes, C_InvalidTold, C_InvalidText, C_InvalidClaim, C_InvalidCommand, C_EmptyBy, C_UnknownKind, C_UnknownLink, C_UnknownRow, C_UnknownThing, C_Apart, C_Taken, C_Empty, C_NotLet, C_Lacking, C_NothingToUndo, C_CommandFailed, C_TooMany, C_EachError, C_MissingError, C_StateError, C_LimitError] 28 C_NotLet := .mk1 M.x_NotLet (ex_NotLet M) rfl rfl rfl
theorem row_Lacking : Row K [C_InvalidName, C_InvalidCount, C_InvalidNumber, C_InvalidMany, C_InvalidRatio, C_InvalidKinds, C_InvalidLink, C_InvalidEnd, C_InvalidModel, C_InvalidTotal, C_InvalidPair, C_InvalidRow, C_InvalidPairs, C_InvalidDatabase, C_InvalidWay, C_InvalidSizes, C_InvalidTold, C_InvalidText, C_InvalidClaim, C_InvalidCommand, C_EmptyBy, C_UnknownKind, C_UnknownLink, C_UnknownRow, C_UnknownThing, C_Apart, C_Taken, C_Empty, C_NotLet, C_Lacking, C_NothingToUndo, C_CommandFailed, C_TooMany, C_EachError, C_MissingError, C_StateError, C_LimitError] 29 C_Lacking := .mk1 M.x_Lacking (ex_Lacking M) rfl rfl rfl
theorem row_NothingToUndo : Row K [C_InvalidName, C_InvalidCount, C_InvalidNumber, C_InvalidMany, C_InvalidRatio, C_InvalidKinds, C_InvalidLink, C_InvalidEnd, C_InvalidModel, C_InvalidTotal, C_InvalidPair, C_InvalidRow, C_InvalidPairs, C_InvalidDatabase, C_InvalidWay, C_InvalidSizes, C_InvalidTold, C_InvalidText, C_InvalidClaim, C_InvalidCommand, C_EmptyBy, C_UnknownKind, C_UnknownLink, C_UnknownRow, C_UnknownThing, C_Apart, C_Taken, C_Empty, C_NotLet, C_Lacking, C_NothingToUndo, C_CommandFailed, C_TooMany, C_EachError, C_MissingError, C_StateError, C_LimitError] 30 C_NothingToUndo := .mk1 M.x_NothingToUndo (ex_NothingToUndo M) rfl rfl rfl
theorem row_CommandFailed : Row K [C_InvalidName, C_InvalidCount, C_InvalidNumber, C_InvalidMany, C_InvalidRatio, C_InvalidKinds, C_InvalidLink, C_InvalidEnd, C_InvalidModel, C_InvalidTotal, C_InvalidPair, C_InvalidRow, C_InvalidPairs, C_InvalidDatabase, C_InvalidWay, C_InvalidSizes, C_InvalidTold, C_InvalidText, C_InvalidClaim, C_InvalidCommand, C_EmptyBy, C_UnknownKind, C_UnknownLink, C_UnknownRow, C_UnknownThing, C_Apart, C_Taken, C_Empty, C_NotLet, C_Lacking, C_NothingToUndo, C_CommandFailed, C_TooMany, C_EachError, C_MissingError, C_StateError, C_LimitError] 31 C_CommandFailed := .mk1 M.x_CommandFailed (ex_CommandFailed M) rfl rfl rfl
theorem row_TooMany : Row K [C_InvalidName, C_InvalidCount, C_InvalidNumber, C_InvalidMany, C_InvalidRatio, C_InvalidKinds, C_InvalidLink, C_InvalidEnd, C_InvalidModel, C_InvalidTotal, C_InvalidPair, C_InvalidRow, C_InvalidPairs, C_InvalidDatabase, C_InvalidWay, C_InvalidSizes, C_InvalidTold, C_InvalidText, C_InvalidClaim, C_InvalidCommand, C_EmptyBy, C_UnknownKind, C_UnknownLink, C_UnknownRow, C_UnknownThing, C_Apart, C_Taken, C_Empty, C_NotLet, C_Lacking, C_NothingToUndo, C_CommandFailed, C_TooMany, C_EachError, C_MissingError, C_StateError, C_LimitError] 32 C_TooMany := .mk1 M.x_TooMany (ex_TooMany M) rfl rfl rfl
theorem row_EachError : Row K [C_InvalidName, C_InvalidCount, C_InvalidNumber, C_InvalidMany, C_InvalidRatio, C_InvalidKinds, C_InvalidLink, C_InvalidEnd, C_InvalidModel, C_InvalidTotal, C_InvalidPair, C_InvalidRow, C_InvalidPairs, C_InvalidDatabase, C_InvalidWay, C_InvalidSizes, C_InvalidTold, C_InvalidText, C_InvalidClaim, C_InvalidCommand, C_EmptyBy, C_UnknownKind, C_UnknownLink, C_UnknownRow, C_UnknownThing, C_Apart, C_Taken, C_Empty, C_NotLet, C_Lacking, C_NothingToUndo, C_CommandFailed, C_TooMany, C_EachError, C_MissingError, C_StateError, C_LimitError] 33 C_EachError := .mk0 M.x_EachError (ex_EachError M) rfl rfl rfl
theorem row_MissingError : Row K [C_InvalidName, C_InvalidCount, C_InvalidNumber, C_InvalidMany, C_InvalidRatio, C_InvalidKinds, C_InvalidLink, C_InvalidEnd, C_InvalidModel, C_InvalidTotal, C_InvalidPair, C_InvalidRow, C_InvalidPairs, C_InvalidDatabase, C_InvalidWay, C_InvalidSizes, C_InvalidTold, C_InvalidText, C_InvalidClaim, C_InvalidCommand, C_EmptyBy, C_UnknownKind, C_UnknownLink, C_UnknownRow, C_UnknownThing, C_Apart, C_Taken, C_Empty, C_NotLet, C_Lacking, C_NothingToUndo, C_CommandFailed, C_TooMany, C_EachError, C_MissingError, C_StateError, C_LimitError] 34 C_MissingError := .mk0 M.x_MissingError (ex_MissingError M) rfl rfl rfl
theorem row_StateError : Row K [C_InvalidName, C_InvalidCount, C_InvalidNumber, C_InvalidMany, C_InvalidRatio, C_InvalidKinds, C_InvalidLink, C_InvalidEnd, C_InvalidModel, C_InvalidTotal, C_InvalidPair, C_InvalidRow, C_InvalidPairs, C_InvalidDatabase, C_InvalidWay, C_InvalidSizes, C_InvalidTold, C_InvalidText, C_InvalidClaim, C_InvalidCommand, C_EmptyBy, C_UnknownKind, C_UnknownLink, C_UnknownRow, C_UnknownThing, C_Apart, C_Taken, C_Empty, C_NotLet, C_Lacking, C_NothingToUndo, C_CommandFailed, C_TooMany, C_EachError, C_MissingError, C_StateError, C_LimitError] 35 C_StateError := .mk0 M.x_StateError (ex_StateError M) rfl rfl rfl
theorem row_LimitError : Row K [C_InvalidName, C_InvalidCount, C_InvalidNumber, C_InvalidMany, C_InvalidRatio, C_InvalidKinds, C_InvalidLink, C_InvalidEnd, C_InvalidModel, C_InvalidTotal, C_InvalidPair, C_InvalidRow, C_InvalidPairs, C_InvalidDatabase, C_InvalidWay, C_InvalidSizes, C_InvalidTold, C_InvalidText, C_InvalidClaim, C_InvalidCommand, C_EmptyBy, C_UnknownKind, C_UnknownLink, C_UnknownRow, C_UnknownThing, C_Apart, C_Taken, C_Empty, C_NotLet, C_Lacking, C_NothingToUndo, C_CommandFailed, C_TooMany, C_EachError, C_MissingError, C_StateError, C_LimitError] 36 C_LimitError := .mk0 M.x_LimitError (ex_LimitError M) rfl rfl rfl
theorem row (u : Nat) (h : u < 37) : ∃ C, Row K [C_InvalidName, C_InvalidCount, C_InvalidNumber, C_InvalidMany, C_InvalidRatio, C_InvalidKinds, C_InvalidLink, C_InvalidEnd, C_InvalidModel, C_InvalidTotal, C_InvalidPair, C_InvalidRow, C_InvalidPairs, C_InvalidDatabase, C_InvalidWay, C_InvalidSizes, C_InvalidTold, C_InvalidText, C_InvalidClaim, C_InvalidCommand, C_EmptyBy, C_UnknownKind, C_UnknownLink, C_UnknownRow, C_UnknownThing, C_Apart, C_Taken, C_Empty, C_NotLet, C_Lacking, C_NothingToUndo, C_CommandFailed, C_TooMany, C_EachError, C_MissingError, C_StateError, C_LimitError] u C := by
  match u, h with
  | 0, _ => exact ⟨_, row_InvalidName M⟩
  | 1, _ => exact ⟨_, row_InvalidCount M⟩
  | 2, _ => exact ⟨_, row_InvalidNumber M⟩
  | 3, _ => exact ⟨_, row_InvalidMany M⟩
  | 4, _ => exact ⟨_, row_InvalidRatio M⟩
  | 5, _ => exact ⟨_, row_InvalidKinds M⟩
  | 6, _ => exact ⟨_, row_InvalidLink M⟩
  | 7, _ => exact ⟨_, row_InvalidEnd M⟩
  | 8, _ => exact ⟨_, row_InvalidModel M⟩
  | 9, _ => exact ⟨_, row_InvalidTotal M⟩
  | 10, _ => exact ⟨_, row_InvalidPair M⟩
  | 11, _ => exact ⟨_, row_InvalidRow M⟩
  | 12, _ => exact ⟨_, row_InvalidPairs M⟩
  | 13, _ => exact ⟨_, row_InvalidDatabase M⟩
  | 14, _ => exact ⟨_, row_InvalidWay M⟩
  | 15, _ => exact ⟨_, row_InvalidSizes M⟩
  | 16, _ => exact ⟨_, row_InvalidTold M⟩
  | 17, _ => exact ⟨_, row_InvalidText M⟩
  | 18, _ => exact ⟨_, row_InvalidClaim M⟩
  | 19, _ => exact ⟨_, row_InvalidCommand M⟩
  | 20, _ => exact ⟨_, row_EmptyBy M⟩
  | 21, _ => exact ⟨_, row_UnknownKind M⟩
  | 22, _ => exact ⟨_, row_UnknownLink M⟩
  | 23, _ => exact ⟨_, row_UnknownRow M⟩
  | 24, _ => exact ⟨_, row_UnknownThing M⟩
  | 25, _ => exact ⟨_, row_Apart M⟩
  | 26, _ => exact ⟨_, row_Taken M⟩
  | 27, _ => exact ⟨_, row_Empty M⟩
  | 28, _ => exact ⟨_, row_NotLet M⟩
  | 29, _ => exact ⟨_, row_Lacking M⟩
  | 30, _ => exact ⟨_, row_NothingToUndo M⟩
  | 31, _ => exact ⟨_, row_CommandFailed M⟩
  | 32, _ => exact ⟨_, row_TooMany M⟩
  | 33, _ => exact ⟨_, row_EachError M⟩
  | 34, _ => exact ⟨_, row_MissingError M⟩
  | 35, _ => exact ⟨_, row_StateError M⟩
  | 36, _ => exact ⟨_, row_LimitError M⟩
  | n + 37, h => exact absurd h (by omega)
end
end My
end
section

open My L2 PySem
open My L2 PySem
local macro_rules | `(tactic| walk_at "as") => `(tactic| with_reducible assumption)
local macro_rules | `(tactic| walk_at "hp") => `(tactic| first
  | walk_at "as" | exact upd_same
  | (rw [upd_ne (by walk_at "ne")]; walk_at "hp")
  | (refine But.get (by walk_at "as") ?hp1 ?hp2; (case hp1 => walk_at "hp"); (case hp2 => walk_at "ne"))
  | (refine My.Same.get (by walk_at "as") ?hp1; (case hp1 => walk_at "hp")))
local macro_rules | `(tactic| walk_at "ne") => `(tactic| first
  | walk_at "as" | exact Ne.symm (by walk_at "as")
  | (refine' ne_of_none ?ne1 ?ne2; (case ne2 => walk_at "as"); (case ne1 => walk_at "hp"))
  | (refine' Ne.symm (ne_of_none ?ne1 ?ne2); (case ne2 => walk_at "as"); (case ne1 => walk_at "hp"))
  | exact ne_of (by walk_at "hp") (by walk_at "hp") (by intro z; cases z))
local macro_rules | `(tactic| walk_at "sd") => `(tactic| first
  | walk_at "as" | omega | decide | exact ⟨by omega, by omega⟩ | exact .inl ⟨by omega, by omega⟩ | exact .inr ⟨by omega, by omega⟩ | exact divp_wide (by walk_at "as") (by walk_at "as") | exact Sm.cmul (by walk_at "as") (by walk_at "as") | exact cmul_small (by omega) (by omega) (by omega) (by omega) | exact ⟨by omega, by decide⟩)
local macro_rules | `(tactic| walk_at "bt") => `(tactic| first
  | walk_at "as" | exact But.refl _ _ | exact Same.but (by walk_at "as")
  | (refine But.trans ?bt1 But.at; (case bt1 => walk_at "bt"))
  | (refine But.trans ?bt1 (But.new (by first | walk_at "as" | walk_at "hp")); (case bt1 => walk_at "bt"))
  | (refine But.trans ?bt1 (by walk_at "as"); (case bt1 => walk_at "bt"))
  | (refine But.trans ?bt1 (Same.but (by walk_at "as")); (case bt1 => walk_at "bt")))
local macro_rules | `(tactic| walk_at "sm") => `(tactic| first
  | walk_at "as" | exact My.Same.rfl' _
  | (refine' My.Same.at_ ?sm1 ?sm2; (case sm1 => walk_at "as"); (case sm2 => walk_at "sm"))
  | (refine' My.Same.tr ?sm1 (My.Same.new ?sm2); (case sm2 => walk_at "as"); (case sm1 => walk_at "sm"))
  | (refine' My.Same.tr ?sm1 ?sm2; (case sm2 => walk_at "as"); (case sm1 => walk_at "sm")))
local macro_rules | `(tactic| walk_at "sz") => `(tactic| first
  | assumption | exact lt_size (by rfl) | exact le_size (by rfl) | (rw [sizeLine_eq]; omega)
  | (rw [sizeLine_eq]; simp only [List.length_append, List.length_map, List.length_cons, List.length_nil]; omega))
local macro_rules | `(tactic| walk_at "few") => `(tactic| (repeat refine few_put ?_); exact few0)
local macro_rules | `(tactic| walk_at "rd1") => `(tactic| first
  | (with_reducible show tVar _ _ _ _); refine s_var rfl ?_
  | with_reducible refine s_c ?_ | with_reducible refine s_op ?_ | with_reducible refine s_un ?_
  | with_reducible refine s_cons ?_ | with_reducible refine s_nil ?_ | with_reducible refine s_cb ?_
  | with_reducible refine s_test ?_ | with_reducible refine s_B ?_ | with_reducible refine s_not ?_ | with_reducible refine s_and ?_ | with_reducible refine s_or ?_
  | with_reducible refine s_if ?_ | with_reducible refine s_notV ?_ | with_reducible refine s_andV ?_ | with_reducible refine s_orV ?_
  | with_reducible refine s_orT ?_ | with_reducible refine s_andT ?_ | with_reducible refine s_chain ?_
  | with_reducible refine s_isi_int ?_ | with_reducible refine s_isi_int_bool ?_ | with_reducible refine s_isi_str ?_
  | with_reducible refine iteT ?_ | with_reducible refine iteF ?_ | with_reducible refine iteNT ?_ | with_reducible refine iteNF ?_
  | with_reducible refine s_isN ?_ | with_reducible refine s_notN ?_
  | ((with_reducible refine' s_2setE ?g1 ?_); (case g1 => first | (dsimp only [List.set, L2.wipe, List.map, List.foldl]; done) | (dsimp only [List.set, L2.wipe, List.map, List.foldl]; rfl)))
  | with_reducible refine s_seq ?_ | with_reducible refine s_ifS ?_ | with_reducible refine s_asg ?_ | with_reducible refine s_ret ?_ | with_reducible refine s_drop ?_ | with_reducible refine s_next ?_
  | ((with_reducible refine' s_gnameE ?g1 ?_); (case g1 => first | (dsimp only [List.set, L2.wipe, List.map, List.foldl]; done) | (dsimp only [List.set, L2.wipe, List.map, List.foldl]; rfl)))
  | with_reducible refine s_gsub ?_ | with_reducible refine s_gcons ?_ | with_reducible refine s_gnil ?_
  | (with_reducible show gTup _ _ _ _ _ _ _); refine s_gtup (by walk_at "hp") rfl ?_
  | with_reducible refine s_eqI ?_ | with_reducible refine s_neI ?_ | with_reducible refine s_eqS ?_ | with_reducible refine s_neB ?_ | with_reducible refine s_eqB ?_ | with_reducible refine s_neSr ?_ | with_reducible refine s_neS ?_
  | with_reducible refine s_I0 ?_
  | (with_reducible show rI _ _ _ _ _ _); refine s_I (by walk_at "sd") ?_
  | (with_reducible show rIxL _ _ _ _ _); refine s_ixL (by walk_at "hp") rfl ?_
  | (with_reducible show rIxT _ _ _ _ _); refine s_ixT (by walk_at "hp") rfl ?_
  | (with_reducible show rSetL _ _ _ _ _); refine s_setL (by walk_at "hp") rfl ?_
  | with_reducible refine s_prop ?_
  | (with_reducible show _ ≤ sizeLine ∧ _); refine ⟨le_size (by rfl), ?_⟩
  | with_reducible refine ite_NN ?_ | with_reducible refine ite_IN ?_ | with_reducible refine ite_nNN ?_ | with_reducible refine ite_nIN ?_ | with_reducible refine ite_RN ?_ | with_reducible refine ite_nRN ?_
  | with_reducible refine s_sfld ?_
  | ((with_reducible refine' ⟨_, _, _, _, rfl, ?fp1, ?fp2, ?fp3, ?fp4, ?_⟩); (case fp1 => walk_at "hp"); (case fp2 => assumption); (case fp3 => assumption); (case fp4 => walk_at "few"))
  | with_reducible refine s_fldE ?_
  | ((with_reducible refine' ⟨_, _, _, _, _, rfl, ?fp1, ?fp2, ?fp3, ?fp4, ?_⟩); (case fp1 => walk_at "hp"); (case fp2 => assumption); (case fp3 => assumption); (case fp4 => rfl))
  | with_reducible refine s_bm ?_ | with_reducible refine s_bm0 ?_
  | ((with_reducible refine' s_tyL ?ty1 ?_); (case ty1 => walk_at "hp"))
  | ((with_reducible refine' s_append ?ap1 ?ap2 ?_); (case ap1 => walk_at "hp"); (case ap2 => walk_at "sz"))
  | ((with_reducible refine' s_extend ?ap1 ?ap2 ?ap3 ?_); (case ap1 => walk_at "hp"); (case ap2 => walk_at "hp"); (case ap3 => walk_at "sz"))
  | with_reducible refine s_for (fun _ _ => ?_) | with_reducible refine s_lc ?_ | with_reducible refine s_iList ?_ | with_reducible refine s_iTup ?_ | with_reducible refine s_iRng1 ?_ | with_reducible refine s_iRng2 ?_
  | with_reducible refine s_yes ?_ | with_reducible refine s_par ?_
  | with_reducible refine s_make ?_ | with_reducible refine s_meth ?_
  | with_reducible refine s_tup ?_ | with_reducible refine s_lst ?_ | with_reducible refine s_call ?_
  | with_reducible refine ⟨rfl, ?_⟩
  | with_reducible refine ⟨_, rfl, ?_⟩
  | ((with_reducible refine' ⟨_, _, rfl, ?sd1, ?_⟩); (case sd1 => walk_at "sd"))
  | with_reducible refine ⟨_, _, rfl, ?_⟩
  | with_reducible refine .inl ⟨_, rfl, ?_⟩
  | dsimp only [List.set]
  | walk_at "rdx"
  | (refine fun _ _ => ?_))
local macro_rules | `(tactic| walk_at "rd") => `(tactic| repeat (first
  | (with_reducible show tVar _ _ _ _); refine s_var rfl ?_
  | with_reducible refine s_c ?_ | with_reducible refine s_op ?_ | with_reducible refine s_un ?_
  | with_reducible refine s_cons ?_ | with_reducible refine s_nil ?_ | with_reducible refine s_cb ?_
  | with_reducible refine s_test ?_ | with_reducible refine s_B ?_ | with_reducible refine s_not ?_ | with_reducible refine s_and ?_ | with_reducible refine s_or ?_
  | with_reducible refine s_if ?_ | with_reducible refine s_notV ?_ | with_reducible refine s_andV ?_ | with_reducible refine s_orV ?_
  | with_reducible refine s_orT ?_ | with_reducible refine s_andT ?_ | with_reducible refine s_chain ?_
  | with_reducible refine s_isi_int ?_ | with_reducible refine s_isi_int_bool ?_ | with_reducible refine s_isi_str ?_
  | with_reducible refine iteT ?_ | with_reducible refine iteF ?_ | with_reducible refine iteNT ?_ | with_reducible refine iteNF ?_
  | with_reducible refine s_isN ?_ | with_reducible refine s_notN ?_
  | ((with_reducible refine' s_2setE ?g1 ?_); (case g1 => first | (dsimp only [List.set, L2.wipe, List.map, List.foldl]; done) | (dsimp only [List.set, L2.wipe, List.map, List.foldl]; rfl)))
  | with_reducible refine s_seq ?_ | with_reducible refine s_ifS ?_ | with_reducible refine s_asg ?_ | with_reducible refine s_ret ?_ | with_reducible refine s_drop ?_ | with_reducible refine s_next ?_
  | ((with_reducible refine' s_gnameE ?g1 ?_); (case g1 => first | (dsimp only [List.set, L2.wipe, List.map, List.foldl]; done) | (dsimp only [List.set, L2.wipe, List.map, List.foldl]; rfl)))
  | with_reducible refine s_gsub ?_ | with_reducible refine s_gcons ?_ | with_reducible refine s_gnil ?_
  | (with_reducible show gTup _ _ _ _ _ _ _); refine s_gtup (by walk_at "hp") rfl ?_
  | with_reducible refine s_eqI ?_ | with_reducible refine s_neI ?_ | with_reducible refine s_eqS ?_ | with_reducible refine s_neB ?_ | with_reducible refine s_eqB ?_ | with_reducible refine s_neSr ?_ | with_reducible refine s_neS ?_
  | with_reducible refine s_I0 ?_
  | (with_reducible show rI _ _ _ _ _ _); refine s_I (by walk_at "sd") ?_
  | (with_reducible show rIxL _ _ _ _ _); refine s_ixL (by walk_at "hp") rfl ?_
  | (with_reducible show rIxT _ _ _ _ _); refine s_ixT (by walk_at "hp") rfl ?_
  | (with_reducible show rSetL _ _ _ _ _); refine s_setL (by walk_at "hp") rfl ?_
  | with_reducible refine s_prop ?_
  | (with_reducible show _ ≤ sizeLine ∧ _); refine ⟨le_size (by rfl), ?_⟩
  | with_reducible refine ite_NN ?_ | with_reducible refine ite_IN ?_ | with_reducible refine ite_nNN ?_ | with_reducible refine ite_nIN ?_ | with_reducible refine ite_RN ?_ | with_reducible refine ite_nRN ?_
  | with_reducible refine s_sfld ?_
  | ((with_reducible refine' ⟨_, _, _, _, rfl, ?fp1, ?fp2, ?fp3, ?fp4, ?_⟩); (case fp1 => walk_at "hp"); (case fp2 => assumption); (case fp3 => assumption); (case fp4 => walk_at "few"))
  | with_reducible refine s_fldE ?_
  | ((with_reducible refine' ⟨_, _, _, _, _, rfl, ?fp1, ?fp2, ?fp3, ?fp4, ?_⟩); (case fp1 => walk_at "hp"); (case fp2 => assumption); (case fp3 => assumption); (case fp4 => rfl))
  | with_reducible refine s_bm ?_ | with_reducible refine s_bm0 ?_
  | ((with_reducible refine' s_tyL ?ty1 ?_); (case ty1 => walk_at "hp"))
  | ((with_reducible refine' s_append ?ap1 ?ap2 ?_); (case ap1 => walk_at "hp"); (case ap2 => walk_at "sz"))
  | ((with_reducible refine' s_extend ?ap1 ?ap2 ?ap3 ?_); (case ap1 => walk_at "hp"); (case ap2 => walk_at "hp"); (case ap3 => walk_at "sz"))
  | with_reducible refine s_for (fun _ _ => ?_) | with_reducible refine s_lc ?_ | with_reducible refine s_iList ?_ | with_reducible refine s_iTup ?_ | with_reducible refine s_iRng1 ?_ | with_reducible refine s_iRng2 ?_
  | with_reducible refine s_yes ?_ | with_reducible refine s_par ?_
  | with_reducible refine s_make ?_ | with_reducible refine s_meth ?_
  | with_reducible refine s_tup ?_ | with_reducible refine s_lst ?_ | with_reducible refine s_call ?_
  | with_reducible refine ⟨rfl, ?_⟩
  | with_reducible refine ⟨_, rfl, ?_⟩
  | ((with_reducible refine' ⟨_, _, rfl, ?sd1, ?_⟩); (case sd1 => walk_at "sd"))
  | with_reducible refine ⟨_, _, rfl, ?_⟩
  | with_reducible refine .inl ⟨_, rfl, ?_⟩
  | dsimp only [List.set]
  | walk_at "rdx"
  | (refine fun _ _ => ?_)))

namespace My
open PySem L2
section
variable {P : Program} {w : World} {K : PySem.W.Frag} {mg : Str → Option Value} {base : Heap} {C_InvalidName C_InvalidCount C_InvalidNumber C_InvalidMany C_InvalidRatio C_InvalidKinds C_InvalidLink C_InvalidEnd C_InvalidModel C_InvalidTotal C_InvalidPair C_InvalidRow C_InvalidPairs C_InvalidDatabase C_InvalidWay C_InvalidSizes C_InvalidTold C_InvalidText C_InvalidClaim C_InvalidCommand C_EmptyBy C_UnknownKind C_UnknownLink C_UnknownRow C_UnknownThing C_Apart C_Taken C_Empty C_NotLet C_Lacking C_NothingToUndo C_CommandFailed C_TooMany C_EachError C_MissingError C_StateError C_LimitError : Addr} (M : Md K mg C_InvalidName C_InvalidCount C_InvalidNumber C_InvalidMany C_InvalidRatio C_InvalidKinds C_InvalidLink C_InvalidEnd C_InvalidModel C_InvalidTotal C_InvalidPair C_InvalidRow C_InvalidPairs C_InvalidDatabase C_InvalidWay C_InvalidSizes C_InvalidTold C_InvalidText C_InvalidClaim C_InvalidCommand C_EmptyBy C_UnknownKind C_UnknownLink C_UnknownRow C_UnknownThing C_Apart C_Taken C_Empty C_NotLet C_Lacking C_NothingToUndo C_CommandFailed C_TooMany C_EachError C_MissingError C_StateError C_LimitError)
include M
local macro_rules | `(tactic| walk_at "rdx") => `(tactic| first | with_reducible refine s_ostG ?_ | with_reducible refine s_mkE ?_ | with_reducible refine s_mkEK ?_ | with_reducible refine s_xf ?_ | with_reducible refine s_lstN ?_)
local macro_rules | `(tactic| walk_at "cl") => `(tactic| repeat (first | walk_at "rd1" | (refine ite_d (fun h => absurd h (by decide)) (fun _ => ?_)) | (refine ite_d (fun _ => ?_) (fun h => absurd rfl h))))
omit M
def flagsOf (u : Nat) : List V := (List.range 33).map fun k => V.bl (decide (k = u))
def basesOf (u : Nat) : List V := [V.bl (decide (gOf u = 33)), V.bl (decide (gOf u = 34)), V.bl (decide (gOf u = 35)), V.bl (decide (gOf u = 36)), V.bl (decide (gOf u = 33)), V.bl (decide (gOf u = 34)), V.bl (decide (gOf u = 35)), V.bl (decide (gOf u = 36)), V.bl false, V.bl false]
def spFlags (all : List Addr) (L : Nat → List V) : Sp := fun vs H Q _ => ∃ (a C : Addr) (u : Nat), vs = [.ref a] ∧ all[u]? = some C ∧ IsExo H a C ∧ ∀ p H', Same H H' → H' p = some (.lst (L u)) → Q (.ref p) H'
theorem gOf_ge (u : Nat) : 33 ≤ gOf u := by
  unfold gOf
  split
  · decide
  · split
    · decide
    · split
      · decide
      · split
        · decide
        · omega
theorem leafB {j u : Nat} (h : j < 33) : (decide (j = u) || decide (j = gOf u)) = decide (j = u) := by
  have := gOf_ge u
  rw [decide_eq_false (show ¬ j = gOf u by omega), Bool.or_false]
theorem upB {j u : Nat} (h : 33 ≤ j) (hu : u < 37) : (decide (j = u) || decide (j = gOf u)) = decide (gOf u = j) := by
  rw [Bool.eq_iff_iff, Bool.or_eq_true, decide_eq_true_iff, decide_eq_true_iff, decide_eq_true_iff]
  constructor
  · rintro (rfl | rfl)
    · unfold gOf
      rw [if_neg (by omega), if_neg (by omega), if_neg (by omega), if_neg (by omega)]
    · rfl
  · intro e
    exact .inr e.symm
theorem tyB (u : Nat) (hu : u < 37) : ["" ++ tyG (gOf u), "Exception", "BaseException", "object"].contains "ValueError" = decide (gOf u = 33) ∧ ["" ++ tyG (gOf u), "Exception", "BaseException", "object"].contains "LookupError" = decide (gOf u = 34) ∧
    ["" ++ tyG (gOf u), "Exception", "BaseException", "object"].contains "RuntimeError" = decide (gOf u = 35) ∧ ["" ++ tyG (gOf u), "Exception", "BaseException", "object"].contains "ArithmeticError" = decide (gOf u = 36) ∧
    ["" ++ tyG (gOf u), "Exception", "BaseException", "object"].contains "KeyError" = false ∧ ["" ++ tyG (gOf u), "Exception", "BaseException", "object"].contains "IndexError" = false := by
  have key : ∀ u : Fin 37, ["" ++ tyG (gOf u.1), "Exception", "BaseException", "object"].contains "ValueError" = decide (gOf u.1 = 33) ∧ ["" ++ tyG (gOf u.1), "Exception", "BaseException", "object"].contains "LookupError" = decide (gOf u.1 = 34) ∧
    ["" ++ tyG (gOf u.1), "Exception", "BaseException", "object"].contains "RuntimeError" = decide (gOf u.1 = 35) ∧ ["" ++ tyG (gOf u.1), "Exception", "BaseException", "object"].contains "ArithmeticError" = decide (gOf u.1 = 36) ∧
    ["" ++ tyG (gOf u.1), "Exception", "BaseException", "object"].contains "KeyError" = false ∧ ["" ++ tyG (gOf u.1), "Exception", "BaseException", "object"].contains "IndexError" = false := by decide +kernel
  exact key ⟨u, hu⟩
include M
theorem c__law_flags : Dn P w K mg base "_law_flags" 2 ["_law_e"] [] (spFlags [C_InvalidName, C_InvalidCount, C_InvalidNumber, C_InvalidMany, C_InvalidRatio, C_InvalidKinds, C_InvalidLink, C_InvalidEnd, C_InvalidModel, C_InvalidTotal, C_InvalidPair, C_InvalidRow, C_InvalidPairs, C_InvalidDatabase, C_InvalidWay, C_InvalidSizes, C_InvalidTold, C_InvalidText, C_InvalidClaim, C_InvalidCommand, C_EmptyBy, C_UnknownKind, C_UnknownLink, C_UnknownRow, C_UnknownThing, C_Apart, C_Taken, C_Empty, C_NotLet, C_Lacking, C_NothingToUndo, C_CommandFailed, C_TooMany, C_EachError, C_MissingError, C_StateError, C_LimitError] flagsOf) := by
  refine dnN M.f__law_flags (fun F => ?_) (fun _ _ _ _ _ _ us hl => match us, hl with | [_], _ => rfl)
  refine fnG_body F sc__law_flags (fun vs H Q E h => ?_) (fun cdv A outer s H vs Q E hr h => ?_)
  · obtain ⟨a, C, u, rfl, _⟩ := h
    rfl
  · obtain ⟨a, C, u, rfl, hu, hx, q⟩ := h
    have lt : u < 37 := (List.getElem?_eq_some_iff.mp hu).1
    obtain ⟨C', r⟩ := row M u lt
    cases (Option.some.inj (hu.symm.trans r.get))
    have nd := M.nd_exc
    refine ⟨_, (pss_cons (ps_set (i := 1) sc__law_flags.nd rfl (.inl rfl) (pe_lst (pa_cons (pe_callB call_isX (by rfl) M.b_isinstance (by decide +kernel) (pa_cons (pv 0) (pa_cons (pe_glob (v := .ref C_InvalidName) rfl M.m_InvalidName rfl) pa_nil))) (pa_cons (pe_callB call_isX (by rfl) M.b_isinstance (by decide +kernel) (pa_cons (pv 0) (pa_cons (pe_glob (v := .ref C_InvalidCount) rfl M.m_InvalidCount rfl) pa_nil))) (pa_cons (pe_callB call_isX (by rfl) M.b_isinstance (by decide +kernel) (pa_cons (pv 0) (pa_cons (pe_glob (v := .ref C_InvalidNumber) rfl M.m_InvalidNumber rfl) pa_nil))) pa_nil))))) (pss_cons (ps_expr (pe_bm PySem.F.plainAttrs_list PySem.F.slot_list_extend PySem.F.type_list_extend mt_extend (pv 1) (pa_cons (pe_lst (pa_cons (pe_callB call_isX (by rfl) M.b_isinstance (by decide +kernel) (pa_cons (pv 0) (pa_cons (pe_glob (v := .ref C_InvalidMany) rfl M.m_InvalidMany rfl) pa_nil))) (pa_cons (pe_callB call_isX (by rfl) M.b_isinstance (by decide +kernel) (pa_cons (pv 0) (pa_cons (pe_glob (v := .ref C_InvalidRatio) rfl M.m_InvalidRatio rfl) pa_nil))) (pa_cons (pe_callB call_isX (by rfl) M.b_isinstance (by decide +kernel) (pa_cons (pv 0) (pa_cons (pe_glob (v := .ref C_InvalidKinds) rfl M.m_InvalidKinds rfl) pa_nil))) pa_nil)))) pa_nil))) (pss_cons (ps_expr (pe_bm PySem.F.plainAttrs_list PySem.F.slot_list_extend PySem.F.type_list_extend mt_extend (pv 1) (pa_cons (pe_lst (pa_cons (pe_callB call_isX (by rfl) M.b_isinstance (by decide +kernel) (pa_cons (pv 0) (pa_cons (pe_glob (v := .ref C_InvalidLink) rfl M.m_InvalidLink rfl) pa_nil))) (pa_cons (pe_callB call_isX (by rfl) M.b_isinstance (by decide +kernel) (pa_cons (pv 0) (pa_cons (pe_glob (v := .ref C_InvalidEnd) rfl M.m_InvalidEnd rfl) pa_nil))) (pa_cons (pe_callB call_isX (by rfl) M.b_isinstance (by decide +kernel) (pa_cons (pv 0) (pa_cons (pe_glob (v := .ref C_InvalidModel) rfl M.m_InvalidModel rfl) pa_nil))) pa_nil)))) pa_nil))) (pss_cons (ps_expr (pe_bm PySem.F.plainAttrs_list PySem.F.slot_list_extend PySem.F.type_list_extend mt_extend (pv 1) (pa_cons (pe_lst (pa_cons (pe_callB call_isX (by rfl) M.b_isinstance (by decide +kernel) (pa_cons (pv 0) (pa_cons (pe_glob (v := .ref C_InvalidTotal) rfl M.m_InvalidTotal rfl) pa_nil))) (pa_cons (pe_callB call_isX (by rfl) M.b_isinstance (by decide +kernel) (pa_cons (pv 0) (pa_cons (pe_glob (v := .ref C_InvalidPair) rfl M.m_InvalidPair rfl) pa_nil))) (pa_cons (pe_callB call_isX (by rfl) M.b_isinstance (by decide +kernel) (pa_cons (pv 0) (pa_cons (pe_glob (v := .ref C_InvalidRow) rfl M.m_InvalidRow rfl) pa_nil))) pa_nil)))) pa_nil))) (pss_cons (ps_expr (pe_bm PySem.F.plainAttrs_list PySem.F.slot_list_extend PySem.F.type_list_extend mt_extend (pv 1) (pa_cons (pe_lst (pa_cons (pe_callB call_isX (by rfl) M.b_isinstance (by decide +kernel) (pa_cons (pv 0) (pa_cons (pe_glob (v := .ref C_InvalidPairs) rfl M.m_InvalidPairs rfl) pa_nil))) (pa_cons (pe_callB call_isX (by rfl) M.b_isinstance (by decide +kernel) (pa_cons (pv 0) (pa_cons (pe_glob (v := .ref C_InvalidDatabase) rfl M.m_InvalidDatabase rfl) pa_nil))) (pa_cons (pe_callB call_isX (by rfl) M.b_isinstance (by decide +kernel) (pa_cons (pv 0) (pa_cons (pe_glob (v := .ref C_InvalidWay) rfl M.m_InvalidWay rfl) pa_nil))) pa_nil)))) pa_nil))) (pss_cons (ps_expr (pe_bm PySem.F.plainAttrs_list PySem.F.slot_list_extend PySem.F.type_list_extend mt_extend (pv 1) (pa_cons (pe_lst (pa_cons (pe_callB call_isX (by rfl) M.b_isinstance (by decide +kernel) (pa_cons (pv 0) (pa_cons (pe_glob (v := .ref C_InvalidSizes) rfl M.m_InvalidSizes rfl) pa_nil))) (pa_cons (pe_callB call_isX (by rfl) M.b_isinstance (by decide +kernel) (pa_cons (pv 0) (pa_cons (pe_glob (v := .ref C_InvalidTold) rfl M.m_InvalidTold rfl) pa_nil))) (pa_cons (pe_callB call_isX (by rfl) M.b_isinstance (by decide +kernel) (pa_cons (pv 0) (pa_cons (pe_glob (v := .ref C_InvalidText) rfl M.m_InvalidText rfl) pa_nil))) pa_nil)))) pa_nil))) (pss_cons (ps_expr (pe_bm PySem.F.plainAttrs_list PySem.F.slot_list_extend PySem.F.type_list_extend mt_extend (pv 1) (pa_cons (pe_lst (pa_cons (pe_callB call_isX (by rfl) M.b_isinstance (by decide +kernel) (pa_cons (pv 0) (pa_cons (pe_glob (v := .ref C_InvalidClaim) rfl M.m_InvalidClaim rfl) pa_nil))) (pa_cons (pe_callB call_isX (by rfl) M.b_isinstance (by decide +kernel) (pa_cons (pv 0) (pa_cons (pe_glob (v := .ref C_InvalidCommand) rfl M.m_InvalidCommand rfl) pa_nil))) (pa_cons (pe_callB call_isX (by rfl) M.b_isinstance (by decide +kernel) (pa_cons (pv 0) (pa_cons (pe_glob (v := .ref C_EmptyBy) rfl M.m_EmptyBy rfl) pa_nil))) pa_nil)))) pa_nil))) (pss_cons (ps_expr (pe_bm PySem.F.plainAttrs_list PySem.F.slot_list_extend PySem.F.type_list_extend mt_extend (pv 1) (pa_cons (pe_lst (pa_cons (pe_callB call_isX (by rfl) M.b_isinstance (by decide +kernel) (pa_cons (pv 0) (pa_cons (pe_glob (v := .ref C_UnknownKind) rfl M.m_UnknownKind rfl) pa_nil))) (pa_cons (pe_callB call_isX (by rfl) M.b_isinstance (by decide +kernel) (pa_cons (pv 0) (pa_cons (pe_glob (v := .ref C_UnknownLink) rfl M.m_UnknownLink rfl) pa_nil))) (pa_cons (pe_callB call_isX (by rfl) M.b_isinstance (by decide +kernel) (pa_cons (pv 0) (pa_cons (pe_glob (v := .ref C_UnknownRow) rfl M.m_UnknownRow rfl) pa_nil))) pa_nil)))) pa_nil))) (pss_cons (ps_expr (pe_bm PySem.F.plainAttrs_list PySem.F.slot_list_extend PySem.F.type_list_extend mt_extend (pv 1) (pa_cons (pe_lst (pa_cons (pe_callB call_isX (by rfl) M.b_isinstance (by decide +kernel) (pa_cons (pv 0) (pa_cons (pe_glob (v := .ref C_UnknownThing) rfl M.m_UnknownThing rfl) pa_nil))) (pa_cons (pe_callB call_isX (by rfl) M.b_isinstance (by decide +kernel) (pa_cons (pv 0) (pa_cons (pe_glob (v := .ref C_Apart) rfl M.m_Apart rfl) pa_nil))) (pa_cons (pe_callB call_isX (by rfl) M.b_isinstance (by decide +kernel) (pa_cons (pv 0) (pa_cons (pe_glob (v := .ref C_Taken) rfl M.m_Taken rfl) pa_nil))) (pa_cons (pe_callB call_isX (by rfl) M.b_isinstance (by decide +kernel) (pa_cons (pv 0) (pa_cons (pe_glob (v := .ref C_Empty) rfl M.m_Empty rfl) pa_nil))) pa_nil))))) pa_nil))) (pss_cons (ps_expr (pe_bm PySem.F.plainAttrs_list PySem.F.slot_list_extend PySem.F.type_list_extend mt_extend (pv 1) (pa_cons (pe_lst (pa_cons (pe_callB call_isX (by rfl) M.b_isinstance (by decide +kernel) (pa_cons (pv 0) (pa_cons (pe_glob (v := .ref C_NotLet) rfl M.m_NotLet rfl) pa_nil))) (pa_cons (pe_callB call_isX (by rfl) M.b_isinstance (by decide +kernel) (pa_cons (pv 0) (pa_cons (pe_glob (v := .ref C_Lacking) rfl M.m_Lacking rfl) pa_nil))) (pa_cons (pe_callB call_isX (by rfl) M.b_isinstance (by decide +kernel) (pa_cons (pv 0) (pa_cons (pe_glob (v := .ref C_NothingToUndo) rfl M.m_NothingToUndo rfl) pa_nil))) pa_nil)))) pa_nil))) (pss_one (ps_ret (pe_op op_cat (pv 1) (pe_lst (pa_cons (pe_callB call_isX (by rfl) M.b_isinstance (by decide +kernel) (pa_cons (pv 0) (pa_cons (pe_glob (v := .ref C_CommandFailed) rfl M.m_CommandFailed rfl) pa_nil))) (pa_cons (pe_callB call_isX (by rfl) M.b_isinstance (by decide +kernel) (pa_cons (pv 0) (pa_cons (pe_glob (v := .ref C_TooMany) rfl M.m_TooMany rfl) pa_nil))) pa_nil)))))))))))))))), ?_⟩
    refine st_eq (σ := [some _, none]) rfl ?_
    walk_at "rd"
    refine ⟨a, _, _, _, _, rfl, hx.same (by walk_at "sm"), r.ex, .own _, (r.kit (row_InvalidName M) nd).trans (congrArg some (leafB (by decide))), ?_⟩
    walk_at "rd"
    refine ⟨a, _, _, _, _, rfl, hx.same (by walk_at "sm"), r.ex, .own _, (r.kit (row_InvalidCount M) nd).trans (congrArg some (leafB (by decide))), ?_⟩
    walk_at "rd"
    refine ⟨a, _, _, _, _, rfl, hx.same (by walk_at "sm"), r.ex, .own _, (r.kit (row_InvalidNumber M) nd).trans (congrArg some (leafB (by decide))), ?_⟩
    walk_at "rd"
    refine ⟨a, _, _, _, _, rfl, hx.same (by walk_at "sm"), r.ex, .own _, (r.kit (row_InvalidMany M) nd).trans (congrArg some (leafB (by decide))), ?_⟩
    walk_at "rd"
    refine ⟨a, _, _, _, _, rfl, hx.same (by walk_at "sm"), r.ex, .own _, (r.kit (row_InvalidRatio M) nd).trans (congrArg some (leafB (by decide))), ?_⟩
    walk_at "rd"
    refine ⟨a, _, _, _, _, rfl, hx.same (by walk_at "sm"), r.ex, .own _, (r.kit (row_InvalidKinds M) nd).trans (congrArg some (leafB (by decide))), ?_⟩
    walk_at "rd"
    refine ⟨a, _, _, _, _, rfl, hx.same (by walk_at "sm"), r.ex, .own _, (r.kit (row_InvalidLink M) nd).trans (congrArg some (leafB (by decide))), ?_⟩
    walk_at "rd"
    refine ⟨a, _, _, _, _, rfl, hx.same (by walk_at "sm"), r.ex, .own _, (r.kit (row_InvalidEnd M) nd).trans (congrArg some (leafB (by decide))), ?_⟩
    walk_at "rd"
    refine ⟨a, _, _, _, _, rfl, hx.same (by walk_at "sm"), r.ex, .own _, (r.kit (row_InvalidModel M) nd).trans (congrArg some (leafB (by decide))), ?_⟩
    walk_at "rd"
    refine ⟨a, _, _, _, _, rfl, hx.same (by walk_at "sm"), r.ex, .own _, (r.kit (row_InvalidTotal M) nd).trans (congrArg some (leafB (by decide))), ?_⟩
    walk_at "rd"
    refine ⟨a, _, _, _, _, rfl, hx.same (by walk_at "sm"), r.ex, .own _, (r.kit (row_InvalidPair M) nd).trans (congrArg some (leafB (by decide))), ?_⟩
    walk_at "rd"
    refine ⟨a, _, _, _, _, rfl, hx.same (by walk_at "sm"), r.ex, .own _, (r.kit (row_InvalidRow M) nd).trans (congrArg some (leafB (by decide))), ?_⟩
    walk_at "rd"
    refine ⟨a, _, _, _, _, rfl, hx.same (by walk_at "sm"), r.ex, .own _, (r.kit (row_InvalidPairs M) nd).trans (congrArg some (leafB (by decide))), ?_⟩
    walk_at "rd"
    refine ⟨a, _, _, _, _, rfl, hx.same (by walk_at "sm"), r.ex, .own _, (r.kit (row_InvalidDatabase M) nd).trans (congrArg some (leafB (by decide))), ?_⟩
    walk_at "rd"
    refine ⟨a, _, _, _, _, rfl, hx.same (by walk_at "sm"), r.ex, .own _, (r.kit (row_InvalidWay M) nd).trans (congrArg some (leafB (by decide))), ?_⟩
    walk_at "rd"
    refine ⟨a, _, _, _, _, rfl, hx.same (by walk_at "sm"), r.ex, .own _, (r.kit (row_InvalidSizes M) nd).trans (congrArg some (leafB (by decide))), ?_⟩
    walk_at "rd"
    refine ⟨a, _, _, _, _, rfl, hx.same (by walk_at "sm"), r.ex, .own _, (r.kit (row_InvalidTold M) nd).trans (congrArg some (leafB (by decide))), ?_⟩
    walk_at "rd"
    refine ⟨a, _, _, _, _, rfl, hx.same (by walk_at "sm"), r.ex, .own _, (r.kit (row_InvalidText M) nd).trans (congrArg some (leafB (by decide))), ?_⟩
    walk_at "rd"
    refine ⟨a, _, _, _, _, rfl, hx.same (by walk_at "sm"), r.ex, .own _, (r.kit (row_InvalidClaim M) nd).trans (congrArg some (leafB (by decide))), ?_⟩
    walk_at "rd"
    refine ⟨a, _, _, _, _, rfl, hx.same (by walk_at "sm"), r.ex, .own _, (r.kit (row_InvalidCommand M) nd).trans (congrArg some (leafB (by decide))), ?_⟩
    walk_at "rd"
    refine ⟨a, _, _, _, _, rfl, hx.same (by walk_at "sm"), r.ex, .own _, (r.kit (row_EmptyBy M) nd).trans (congrArg some (leafB (by decide))), ?_⟩
    walk_at "rd"
    refine ⟨a, _, _, _, _, rfl, hx.same (by walk_at "sm"), r.ex, .own _, (r.kit (row_UnknownKind M) nd).trans (congrArg some (leafB (by decide))), ?_⟩
    walk_at "rd"
    refine ⟨a, _, _, _, _, rfl, hx.same (by walk_at "sm"), r.ex, .own _, (r.kit (row_UnknownLink M) nd).trans (congrArg some (leafB (by decide))), ?_⟩
    walk_at "rd"
    refine ⟨a, _, _, _, _, rfl, hx.same (by walk_at "sm"), r.ex, .own _, (r.kit (row_UnknownRow M) nd).trans (congrArg some (leafB (by decide))), ?_⟩
    walk_at "rd"
    refine ⟨a, _, _, _, _, rfl, hx.same (by walk_at "sm"), r.ex, .own _, (r.kit (row_UnknownThing M) nd).trans (congrArg some (leafB (by decide))), ?_⟩
    walk_at "rd"
    refine ⟨a, _, _, _, _, rfl, hx.same (by walk_at "sm"), r.ex, .own _, (r.kit (row_Apart M) nd).trans (congrArg some (leafB (by decide))), ?_⟩
    walk_at "rd"
    refine ⟨a, _, _, _, _, rfl, hx.same (by walk_at "sm"), r.ex, .own _, (r.kit (row_Taken M) nd).trans (congrArg some (leafB (by decide))), ?_⟩
    walk_at "rd"
    refine ⟨a, _, _, _, _, rfl, hx.same (by walk_at "sm"), r.ex, .own _, (r.kit (row_Empty M) nd).trans (congrArg some (leafB (by decide))), ?_⟩
    walk_at "rd"
    refine ⟨a, _, _, _, _, rfl, hx.same (by walk_at "sm"), r.ex, .own _, (r.kit (row_NotLet M) nd).trans (congrArg some (leafB (by decide))), ?_⟩
    walk_at "rd"
    refine ⟨a, _, _, _, _, rfl, hx.same (by walk_at "sm"), r.ex, .own _, (r.kit (row_Lacking M) nd).trans (congrArg some (leafB (by decide))), ?_⟩
    walk_at "rd"
    refine ⟨a, _, _, _, _, rfl, hx.same (by walk_at "sm"), r.ex, .own _, (r.kit (row_NothingToUndo M) nd).trans (congrArg some (leafB (by decide))), ?_⟩
    walk_at "rd"
    refine ⟨a, _, _, _, _, rfl, hx.same (by walk_at "sm"), r.ex, .own _, (r.kit (row_CommandFailed M) nd).trans (congrArg some (leafB (by decide))), ?_⟩
    walk_at "rd"
    refine ⟨a, _, _, _, _, rfl, hx.same (by walk_at "sm"), r.ex, .own _, (r.kit (row_TooMany M) nd).trans (congrArg some (leafB (by decide))), ?_⟩
    walk_at "rd"
    refine ⟨_, _, _, _, rfl, rfl, (by walk_at "hp"), (by walk_at "hp"), (by rw [sizeLine_eq]; simp), fun p np => ?_⟩
    walk_at "rd"
    exact q _ _ (by walk_at "sm") upd_same
theorem c__law_bases : Dn P w K mg base "_law_bases" 2 ["_law_e"] [] (spFlags [C_InvalidName, C_InvalidCount, C_InvalidNumber, C_InvalidMany, C_InvalidRatio, C_InvalidKinds, C_InvalidLink, C_InvalidEnd, C_InvalidModel, C_InvalidTotal, C_InvalidPair, C_InvalidRow, C_InvalidPairs, C_InvalidDatabase, C_InvalidWay, C_InvalidSizes, C_InvalidTold, C_InvalidText, C_InvalidClaim, C_InvalidCommand, C_EmptyBy, C_UnknownKind, C_UnknownLink, C_UnknownRow, C_UnknownThing, C_Apart, C_Taken, C_Empty, C_NotLet, C_Lacking, C_NothingToUndo, C_CommandFailed, C_TooMany, C_EachError, C_MissingError, C_StateError, C_LimitError] basesOf) := by
  refine dnN M.f__law_bases (fun F => ?_) (fun _ _ _ _ _ _ us hl => match us, hl with | [_], _ => rfl)
  refine fnG_body F sc__law_bases (fun vs H Q E h => ?_) (fun cdv A outer s H vs Q E hr h => ?_)
  · obtain ⟨a, C, u, rfl, _⟩ := h
    rfl
  · obtain ⟨a, C, u, rfl, hu, hx, q⟩ := h
    have lt : u < 37 := (List.getElem?_eq_some_iff.mp hu).1
    obtain ⟨C', r⟩ := row M u lt
    cases (Option.some.inj (hu.symm.trans r.get))
    have nd := M.nd_exc
    obtain ⟨t1, t2, t3, t4, t5, t6⟩ := tyB u lt
    refine ⟨_, (pss_cons (ps_set (i := 1) sc__law_bases.nd rfl (.inl rfl) (pe_lst (pa_cons (pe_callB call_isX (by rfl) M.b_isinstance (by decide +kernel) (pa_cons (pv 0) (pa_cons (pe_glob (v := .ref C_EachError) rfl M.m_EachError rfl) pa_nil))) (pa_cons (pe_callB call_isX (by rfl) M.b_isinstance (by decide +kernel) (pa_cons (pv 0) (pa_cons (pe_glob (v := .ref C_MissingError) rfl M.m_MissingError rfl) pa_nil))) pa_nil)))) (pss_cons (ps_expr (pe_bm PySem.F.plainAttrs_list PySem.F.slot_list_extend PySem.F.type_list_extend mt_extend (pv 1) (pa_cons (pe_lst (pa_cons (pe_callB call_isX (by rfl) M.b_isinstance (by decide +kernel) (pa_cons (pv 0) (pa_cons (pe_glob (v := .ref C_StateError) rfl M.m_StateError rfl) pa_nil))) (pa_cons (pe_callB call_isX (by rfl) M.b_isinstance (by decide +kernel) (pa_cons (pv 0) (pa_cons (pe_glob (v := .ref C_LimitError) rfl M.m_LimitError rfl) pa_nil))) pa_nil))) pa_nil))) (pss_cons (ps_expr (pe_bm PySem.F.plainAttrs_list PySem.F.slot_list_extend PySem.F.type_list_extend mt_extend (pv 1) (pa_cons (pe_lst (pa_cons (pe_callB call_isX (by rfl) M.b_isinstance (by decide +kernel) (pa_cons (pv 0) (pa_cons (pe_bltn (v := .ty "ValueError") (u := .type "ValueError") (by rfl) M.b_ValueError (by decide +kernel) rfl) pa_nil))) (pa_cons (pe_callB call_isX (by rfl) M.b_isinstance (by decide +kernel) (pa_cons (pv 0) (pa_cons (pe_bltn (v := .ty "LookupError") (u := .type "LookupError") (by rfl) M.b_LookupError (by decide +kernel) rfl) pa_nil))) (pa_cons (pe_callB call_isX (by rfl) M.b_isinstance (by decide +kernel) (pa_cons (pv 0) (pa_cons (pe_bltn (v := .ty "RuntimeError") (u := .type "RuntimeError") (by rfl) M.b_RuntimeError (by decide +kernel) rfl) pa_nil))) pa_nil)))) pa_nil))) (pss_one (ps_ret (pe_op op_cat (pv 1) (pe_lst (pa_cons (pe_callB call_isX (by rfl) M.b_isinstance (by decide +kernel) (pa_cons (pv 0) (pa_cons (pe_bltn (v := .ty "ArithmeticError") (u := .type "ArithmeticError") (by rfl) M.b_ArithmeticError (by decide +kernel) rfl) pa_nil))) (pa_cons (pe_callB call_isX (by rfl) M.b_isinstance (by decide +kernel) (pa_cons (pv 0) (pa_cons (pe_bltn (v := .ty "KeyError") (u := .type "KeyError") (by rfl) M.b_KeyError (by decide +kernel) rfl) pa_nil))) (pa_cons (pe_callB call_isX (by rfl) M.b_isinstance (by decide +kernel) (pa_cons (pv 0) (pa_cons (pe_bltn (v := .ty "IndexError") (u := .type "IndexError") (by rfl) M.b_IndexError (by decide +kernel) rfl) pa_nil))) pa_nil)))))))))), ?_⟩
    refine st_eq (σ := [some _, none]) rfl ?_
    walk_at "rd"
    refine ⟨a, _, _, _, _, rfl, hx.same (by walk_at "sm"), r.ex, .own _, (r.kit (row_EachError M) nd).trans (congrArg some (upB (by decide) lt)), ?_⟩
    walk_at "rd"
    refine ⟨a, _, _, _, _, rfl, hx.same (by walk_at "sm"), r.ex, .own _, (r.kit (row_MissingError M) nd).trans (congrArg some (upB (by decide) lt)), ?_⟩
    walk_at "rd"
    refine ⟨a, _, _, _, _, rfl, hx.same (by walk_at "sm"), r.ex, .own _, (r.kit (row_StateError M) nd).trans (congrArg some (upB (by decide) lt)), ?_⟩
    walk_at "rd"
    refine ⟨a, _, _, _, _, rfl, hx.same (by walk_at "sm"), r.ex, .own _, (r.kit (row_LimitError M) nd).trans (congrArg some (upB (by decide) lt)), ?_⟩
    walk_at "rd"
    refine ⟨a, _, _, _, _, rfl, hx.same (by walk_at "sm"), r.ex, .ty _, (r.kitT (T := "ValueError") (by decide +kernel)).trans (congrArg some t1), ?_⟩
    walk_at "rd"
    refine ⟨a, _, _, _, _, rfl, hx.same (by walk_at "sm"), r.ex, .ty _, (r.kitT (T := "LookupError") (by decide +kernel)).trans (congrArg some t2), ?_⟩
    walk_at "rd"
    refine ⟨a, _, _, _, _, rfl, hx.same (by walk_at "sm"), r.ex, .ty _, (r.kitT (T := "RuntimeError") (by decide +kernel)).trans (congrArg some t3), ?_⟩
    walk_at "rd"
    refine ⟨a, _, _, _, _, rfl, hx.same (by walk_at "sm"), r.ex, .ty _, (r.kitT (T := "ArithmeticError") (by decide +kernel)).trans (congrArg some t4), ?_⟩
    walk_at "rd"
    refine ⟨a, _, _, _, _, rfl, hx.same (by walk_at "sm"), r.ex, .ty _, (r.kitT (T := "KeyError") (by decide +kernel)).trans (congrArg some t5), ?_⟩
    walk_at "rd"
    refine ⟨a, _, _, _, _, rfl, hx.same (by walk_at "sm"), r.ex, .ty _, (r.kitT (T := "IndexError") (by decide +kernel)).trans (congrArg some t6), ?_⟩
    walk_at "rd"
    refine ⟨_, _, _, _, rfl, rfl, (by walk_at "hp"), (by walk_at "hp"), (by rw [sizeLine_eq]; simp), fun p np => ?_⟩
    walk_at "rd"
    exact q _ _ (by walk_at "sm") upd_same
end
end My
end
section

open My L2 PySem
open My L2 PySem
local macro_rules | `(tactic| walk_at "as") => `(tactic| with_reducible assumption)
local macro_rules | `(tactic| walk_at "hp") => `(tactic| first
  | walk_at "as" | exact upd_same
  | (rw [upd_ne (by walk_at "ne")]; walk_at "hp")
  | (refine But.get (by walk_at "as") ?hp1 ?hp2; (case hp1 => walk_at "hp"); (case hp2 => walk_at "ne"))
  | (refine My.Same.get (by walk_at "as") ?hp1; (case hp1 => walk_at "hp")))
local macro_rules | `(tactic| walk_at "ne") => `(tactic| first
  | walk_at "as" | exact Ne.symm (by walk_at "as")
  | (refine' ne_of_none ?ne1 ?ne2; (case ne2 => walk_at "as"); (case ne1 => walk_at "hp"))
  | (refine' Ne.symm (ne_of_none ?ne1 ?ne2); (case ne2 => walk_at "as"); (case ne1 => walk_at "hp"))
  | exact ne_of (by walk_at "hp") (by walk_at "hp") (by intro z; cases z))
local macro_rules | `(tactic| walk_at "sd") => `(tactic| first
  | walk_at "as" | omega | decide | exact ⟨by omega, by omega⟩ | exact .inl ⟨by omega, by omega⟩ | exact .inr ⟨by omega, by omega⟩ | exact divp_wide (by walk_at "as") (by walk_at "as") | exact Sm.cmul (by walk_at "as") (by walk_at "as") | exact cmul_small (by omega) (by omega) (by omega) (by omega) | exact ⟨by omega, by decide⟩)
local macro_rules | `(tactic| walk_at "bt") => `(tactic| first
  | walk_at "as" | exact But.refl _ _ | exact Same.but (by walk_at "as")
  | (refine But.trans ?bt1 But.at; (case bt1 => walk_at "bt"))
  | (refine But.trans ?bt1 (But.new (by first | walk_at "as" | walk_at "hp")); (case bt1 => walk_at "bt"))
  | (refine But.trans ?bt1 (by walk_at "as"); (case bt1 => walk_at "bt"))
  | (refine But.trans ?bt1 (Same.but (by walk_at "as")); (case bt1 => walk_at "bt")))
local macro_rules | `(tactic| walk_at "sm") => `(tactic| first
  | walk_at "as" | exact My.Same.rfl' _
  | (refine' My.Same.at_ ?sm1 ?sm2; (case sm1 => walk_at "as"); (case sm2 => walk_at "sm"))
  | (refine' My.Same.tr ?sm1 (My.Same.new ?sm2); (case sm2 => walk_at "as"); (case sm1 => walk_at "sm"))
  | (refine' My.Same.tr ?sm1 ?sm2; (case sm2 => walk_at "as"); (case sm1 => walk_at "sm")))
local macro_rules | `(tactic| walk_at "sz") => `(tactic| first
  | assumption | exact lt_size (by rfl) | exact le_size (by rfl) | (rw [sizeLine_eq]; omega)
  | (rw [sizeLine_eq]; simp only [List.length_append, List.length_map, List.length_cons, List.length_nil]; omega))
local macro_rules | `(tactic| walk_at "few") => `(tactic| (repeat refine few_put ?_); exact few0)
local macro_rules | `(tactic| walk_at "rd1") => `(tactic| first
  | (with_reducible show tVar _ _ _ _); refine s_var rfl ?_
  | with_reducible refine s_c ?_ | with_reducible refine s_op ?_ | with_reducible refine s_un ?_
  | with_reducible refine s_cons ?_ | with_reducible refine s_nil ?_ | with_reducible refine s_cb ?_
  | with_reducible refine s_test ?_ | with_reducible refine s_B ?_ | with_reducible refine s_not ?_ | with_reducible refine s_and ?_ | with_reducible refine s_or ?_
  | with_reducible refine s_if ?_ | with_reducible refine s_notV ?_ | with_reducible refine s_andV ?_ | with_reducible refine s_orV ?_
  | with_reducible refine s_orT ?_ | with_reducible refine s_andT ?_ | with_reducible refine s_chain ?_
  | with_reducible refine s_isi_int ?_ | with_reducible refine s_isi_int_bool ?_ | with_reducible refine s_isi_str ?_
  | with_reducible refine iteT ?_ | with_reducible refine iteF ?_ | with_reducible refine iteNT ?_ | with_reducible refine iteNF ?_
  | with_reducible refine s_isN ?_ | with_reducible refine s_notN ?_
  | ((with_reducible refine' s_2setE ?g1 ?_); (case g1 => first | (dsimp only [List.set, L2.wipe, List.map, List.foldl]; done) | (dsimp only [List.set, L2.wipe, List.map, List.foldl]; rfl)))
  | with_reducible refine s_seq ?_ | with_reducible refine s_ifS ?_ | with_reducible refine s_asg ?_ | with_reducible refine s_ret ?_ | with_reducible refine s_drop ?_ | with_reducible refine s_next ?_
  | ((with_reducible refine' s_gnameE ?g1 ?_); (case g1 => first | (dsimp only [List.set, L2.wipe, List.map, List.foldl]; done) | (dsimp only [List.set, L2.wipe, List.map, List.foldl]; rfl)))
  | with_reducible refine s_gsub ?_ | with_reducible refine s_gcons ?_ | with_reducible refine s_gnil ?_
  | (with_reducible show gTup _ _ _ _ _ _ _); refine s_gtup (by walk_at "hp") rfl ?_
  | with_reducible refine s_eqI ?_ | with_reducible refine s_neI ?_ | with_reducible refine s_eqS ?_ | with_reducible refine s_neB ?_ | with_reducible refine s_eqB ?_ | with_reducible refine s_neSr ?_ | with_reducible refine s_neS ?_
  | with_reducible refine s_I0 ?_
  | (with_reducible show rI _ _ _ _ _ _); refine s_I (by walk_at "sd") ?_
  | (with_reducible show rIxL _ _ _ _ _); refine s_ixL (by walk_at "hp") rfl ?_
  | (with_reducible show rIxT _ _ _ _ _); refine s_ixT (by walk_at "hp") rfl ?_
  | (with_reducible show rSetL _ _ _ _ _); refine s_setL (by walk_at "hp") rfl ?_
  | with_reducible refine s_prop ?_
  | (with_reducible show _ ≤ sizeLine ∧ _); refine ⟨le_size (by rfl), ?_⟩
  | with_reducible refine ite_NN ?_ | with_reducible refine ite_IN ?_ | with_reducible refine ite_nNN ?_ | with_reducible refine ite_nIN ?_ | with_reducible refine ite_RN ?_ | with_reducible refine ite_nRN ?_
  | with_reducible refine s_sfld ?_
  | ((with_reducible refine' ⟨_, _, _, _, rfl, ?fp1, ?fp2, ?fp3, ?fp4, ?_⟩); (case fp1 => walk_at "hp"); (case fp2 => assumption); (case fp3 => assumption); (case fp4 => walk_at "few"))
  | with_reducible refine s_fldE ?_
  | ((with_reducible refine' ⟨_, _, _, _, _, rfl, ?fp1, ?fp2, ?fp3, ?fp4, ?_⟩); (case fp1 => walk_at "hp"); (case fp2 => assumption); (case fp3 => assumption); (case fp4 => rfl))
  | with_reducible refine s_bm ?_ | with_reducible refine s_bm0 ?_
  | ((with_reducible refine' s_tyL ?ty1 ?_); (case ty1 => walk_at "hp"))
  | ((with_reducible refine' s_append ?ap1 ?ap2 ?_); (case ap1 => walk_at "hp"); (case ap2 => walk_at "sz"))
  | ((with_reducible refine' s_extend ?ap1 ?ap2 ?ap3 ?_); (case ap1 => walk_at "hp"); (case ap2 => walk_at "hp"); (case ap3 => walk_at "sz"))
  | with_reducible refine s_for (fun _ _ => ?_) | with_reducible refine s_lc ?_ | with_reducible refine s_iList ?_ | with_reducible refine s_iTup ?_ | with_reducible refine s_iRng1 ?_ | with_reducible refine s_iRng2 ?_
  | with_reducible refine s_yes ?_ | with_reducible refine s_par ?_
  | with_reducible refine s_make ?_ | with_reducible refine s_meth ?_
  | with_reducible refine s_tup ?_ | with_reducible refine s_lst ?_ | with_reducible refine s_call ?_
  | with_reducible refine ⟨rfl, ?_⟩
  | with_reducible refine ⟨_, rfl, ?_⟩
  | ((with_reducible refine' ⟨_, _, rfl, ?sd1, ?_⟩); (case sd1 => walk_at "sd"))
  | with_reducible refine ⟨_, _, rfl, ?_⟩
  | with_reducible refine .inl ⟨_, rfl, ?_⟩
  | dsimp only [List.set]
  | walk_at "rdx"
  | (refine fun _ _ => ?_))
local macro_rules | `(tactic| walk_at "rd") => `(tactic| repeat (first
  | (with_reducible show tVar _ _ _ _); refine s_var rfl ?_
  | with_reducible refine s_c ?_ | with_reducible refine s_op ?_ | with_reducible refine s_un ?_
  | with_reducible refine s_cons ?_ | with_reducible refine s_nil ?_ | with_reducible refine s_cb ?_
  | with_reducible refine s_test ?_ | with_reducible refine s_B ?_ | with_reducible refine s_not ?_ | with_reducible refine s_and ?_ | with_reducible refine s_or ?_
  | with_reducible refine s_if ?_ | with_reducible refine s_notV ?_ | with_reducible refine s_andV ?_ | with_reducible refine s_orV ?_
  | with_reducible refine s_orT ?_ | with_reducible refine s_andT ?_ | with_reducible refine s_chain ?_
  | with_reducible refine s_isi_int ?_ | with_reducible refine s_isi_int_bool ?_ | with_reducible refine s_isi_str ?_
  | with_reducible refine iteT ?_ | with_reducible refine iteF ?_ | with_reducible refine iteNT ?_ | with_reducible refine iteNF ?_
  | with_reducible refine s_isN ?_ | with_reducible refine s_notN ?_
  | ((with_reducible refine' s_2setE ?g1 ?_); (case g1 => first | (dsimp only [List.set, L2.wipe, List.map, List.foldl]; done) | (dsimp only [List.set, L2.wipe, List.map, List.foldl]; rfl)))
  | with_reducible refine s_seq ?_ | with_reducible refine s_ifS ?_ | with_reducible refine s_asg ?_ | with_reducible refine s_ret ?_ | with_reducible refine s_drop ?_ | with_reducible refine s_next ?_
  | ((with_reducible refine' s_gnameE ?g1 ?_); (case g1 => first | (dsimp only [List.set, L2.wipe, List.map, List.foldl]; done) | (dsimp only [List.set, L2.wipe, List.map, List.foldl]; rfl)))
  | with_reducible refine s_gsub ?_ | with_reducible refine s_gcons ?_ | with_reducible refine s_gnil ?_
  | (with_reducible show gTup _ _ _ _ _ _ _); refine s_gtup (by walk_at "hp") rfl ?_
  | with_reducible refine s_eqI ?_ | with_reducible refine s_neI ?_ | with_reducible refine s_eqS ?_ | with_reducible refine s_neB ?_ | with_reducible refine s_eqB ?_ | with_reducible refine s_neSr ?_ | with_reducible refine s_neS ?_
  | with_reducible refine s_I0 ?_
  | (with_reducible show rI _ _ _ _ _ _); refine s_I (by walk_at "sd") ?_
  | (with_reducible show rIxL _ _ _ _ _); refine s_ixL (by walk_at "hp") rfl ?_
  | (with_reducible show rIxT _ _ _ _ _); refine s_ixT (by walk_at "hp") rfl ?_
  | (with_reducible show rSetL _ _ _ _ _); refine s_setL (by walk_at "hp") rfl ?_
  | with_reducible refine s_prop ?_
  | (with_reducible show _ ≤ sizeLine ∧ _); refine ⟨le_size (by rfl), ?_⟩
  | with_reducible refine ite_NN ?_ | with_reducible refine ite_IN ?_ | with_reducible refine ite_nNN ?_ | with_reducible refine ite_nIN ?_ | with_reducible refine ite_RN ?_ | with_reducible refine ite_nRN ?_
  | with_reducible refine s_sfld ?_
  | ((with_reducible refine' ⟨_, _, _, _, rfl, ?fp1, ?fp2, ?fp3, ?fp4, ?_⟩); (case fp1 => walk_at "hp"); (case fp2 => assumption); (case fp3 => assumption); (case fp4 => walk_at "few"))
  | with_reducible refine s_fldE ?_
  | ((with_reducible refine' ⟨_, _, _, _, _, rfl, ?fp1, ?fp2, ?fp3, ?fp4, ?_⟩); (case fp1 => walk_at "hp"); (case fp2 => assumption); (case fp3 => assumption); (case fp4 => rfl))
  | with_reducible refine s_bm ?_ | with_reducible refine s_bm0 ?_
  | ((with_reducible refine' s_tyL ?ty1 ?_); (case ty1 => walk_at "hp"))
  | ((with_reducible refine' s_append ?ap1 ?ap2 ?_); (case ap1 => walk_at "hp"); (case ap2 => walk_at "sz"))
  | ((with_reducible refine' s_extend ?ap1 ?ap2 ?ap3 ?_); (case ap1 => walk_at "hp"); (case ap2 => walk_at "hp"); (case ap3 => walk_at "sz"))
  | with_reducible refine s_for (fun _ _ => ?_) | with_reducible refine s_lc ?_ | with_reducible refine s_iList ?_ | with_reducible refine s_iTup ?_ | with_reducible refine s_iRng1 ?_ | with_reducible refine s_iRng2 ?_
  | with_reducible refine s_yes ?_ | with_reducible refine s_par ?_
  | with_reducible refine s_make ?_ | with_reducible refine s_meth ?_
  | with_reducible refine s_tup ?_ | with_reducible refine s_lst ?_ | with_reducible refine s_call ?_
  | with_reducible refine ⟨rfl, ?_⟩
  | with_reducible refine ⟨_, rfl, ?_⟩
  | ((with_reducible refine' ⟨_, _, rfl, ?sd1, ?_⟩); (case sd1 => walk_at "sd"))
  | with_reducible refine ⟨_, _, rfl, ?_⟩
  | with_reducible refine .inl ⟨_, rfl, ?_⟩
  | dsimp only [List.set]
  | walk_at "rdx"
  | (refine fun _ _ => ?_)))

namespace My
open PySem L2
section
variable {P : Program} {w : World} {K : PySem.W.Frag} {mg : Str → Option Value} {base : Heap} {C_InvalidName C_InvalidCount C_InvalidNumber C_InvalidMany C_InvalidRatio C_InvalidKinds C_InvalidLink C_InvalidEnd C_InvalidModel C_InvalidTotal C_InvalidPair C_InvalidRow C_InvalidPairs C_InvalidDatabase C_InvalidWay C_InvalidSizes C_InvalidTold C_InvalidText C_InvalidClaim C_InvalidCommand C_EmptyBy C_UnknownKind C_UnknownLink C_UnknownRow C_UnknownThing C_Apart C_Taken C_Empty C_NotLet C_Lacking C_NothingToUndo C_CommandFailed C_TooMany C_EachError C_MissingError C_StateError C_LimitError : Addr} (M : Md K mg C_InvalidName C_InvalidCount C_InvalidNumber C_InvalidMany C_InvalidRatio C_InvalidKinds C_InvalidLink C_InvalidEnd C_InvalidModel C_InvalidTotal C_InvalidPair C_InvalidRow C_InvalidPairs C_InvalidDatabase C_InvalidWay C_InvalidSizes C_InvalidTold C_InvalidText C_InvalidClaim C_InvalidCommand C_EmptyBy C_UnknownKind C_UnknownLink C_UnknownRow C_UnknownThing C_Apart C_Taken C_Empty C_NotLet C_Lacking C_NothingToUndo C_CommandFailed C_TooMany C_EachError C_MissingError C_StateError C_LimitError)
include M
local macro_rules | `(tactic| walk_at "rdx") => `(tactic| first | with_reducible refine s_ostG ?_ | with_reducible refine s_mkE ?_ | with_reducible refine s_mkEK ?_ | with_reducible refine s_xf ?_ | with_reducible refine s_lstN ?_)
local macro_rules | `(tactic| walk_at "cl") => `(tactic| repeat (first | walk_at "rd1" | (refine ite_d (fun h => absurd h (by decide)) (fun _ => ?_)) | (refine ite_d (fun _ => ?_) (fun h => absurd rfl h))))
local macro_rules | `(tactic| walk_at "inq") => `(tactic| (refine ⟨_, _, rfl, .inr (SqT.of upd_same), rfl, rfl, ?_⟩; walk_at "rd"; first | refine iteT ?_ | refine iteF ?_))
omit M
def keptOf (t : Nat) (v0 v1 : V) : List V := match (flds t).length with
  | 0 => []
  | 1 => [v0]
  | _ => [v0, v1]
def spKept (cl : List Addr) (T : Nat → Prop) : Sp := fun vs H Q _ => ∃ (t : Nat) (a : Addr) (v0 v1 : V), vs = [.int t, .ref a] ∧ T t ∧ ExAt cl H a t v0 v1 ∧ ∀ p H', Same H H' → H' p = some (.lst (keptOf t v0 v1)) → p ≠ sysModules → Q (.ref p) H'
include M
theorem c__law_last_kept : Dn P w K mg base "_law_last_kept" 2 ["_law_at", "_law_e"] [] (spKept [C_InvalidName, C_InvalidCount, C_InvalidNumber, C_InvalidMany, C_InvalidRatio, C_InvalidKinds, C_InvalidLink, C_InvalidEnd, C_InvalidModel, C_InvalidTotal, C_InvalidPair, C_InvalidRow, C_InvalidPairs, C_InvalidDatabase, C_InvalidWay, C_InvalidSizes, C_InvalidTold, C_InvalidText, C_InvalidClaim, C_InvalidCommand, C_EmptyBy, C_UnknownKind, C_UnknownLink, C_UnknownRow, C_UnknownThing, C_Apart, C_Taken, C_Empty, C_NotLet, C_Lacking, C_NothingToUndo, C_CommandFailed, C_TooMany] (fun t => t ∈ [25, 27, 28, 29, 30, 32])) := by
  refine dnN M.f__law_last_kept (fun F => ?_) (fun _ _ _ _ _ _ us hl => match us, hl with | [_, _], _ => rfl)
  refine fnG_body F sc__law_last_kept (fun vs H Q E h => ?_) (fun cdv A outer s H vs Q E hr h => ?_)
  · obtain ⟨t, a, v0, v1, rfl, _⟩ := h
    rfl
  · obtain ⟨t, a, v0, v1, rfl, ht, hx, q⟩ := h
    refine ⟨_, (pss_cons (ps_if (pt_cmpR op_eq (pv 0) pe_int (nomark _)) (pss_one (ps_ret (pe_lstN (pa_cons (pe_xfO (pv 1)) (pa_cons (pe_xfO (pv 1)) pa_nil))))) pss_nil) (pss_cons (ps_if (pt_cmpR op_eq (pv 0) pe_int (nomark _)) (pss_one (ps_ret (pe_lstN (pa_cons (pe_xfO (pv 1)) (pa_cons (pe_xfO (pv 1)) pa_nil))))) pss_nil) (pss_cons (ps_if (pt_cmpR op_eq (pv 0) pe_int (nomark _)) (pss_one (ps_ret (pe_lstN (pa_cons (pe_xfO (pv 1)) (pa_cons (pe_xfO (pv 1)) pa_nil))))) pss_nil) (pss_cons (ps_if (pt_cmpR op_eq (pv 0) pe_int (nomark _)) (pss_one (ps_ret (pe_lstN (pa_cons (pe_xfO (pv 1)) pa_nil)))) pss_nil) (pss_one (ps_ret (pe_ifExp (pt_cmpR op_eq (pv 0) pe_int (nomark _)) (pe_lstN pa_nil) (pe_lstN (pa_cons (pe_xfO (pv 1)) (pa_cons (pe_xfO (pv 1)) pa_nil)))))))))), ?_⟩
    refine st_eq (σ := [some _, some _]) rfl ?_
    obtain rfl | rfl | rfl | rfl | rfl | rfl : t = 25 ∨ t = 27 ∨ t = 28 ∨ t = 29 ∨ t = 30 ∨ t = 32 := by simpa using ht
    · obtain ⟨C, hC, h⟩ := hx
      cases (show some C_Apart = some C from hC)
      obtain ⟨f, _⟩ | ⟨dd, _, ea, ed⟩ := h
      · exact absurd f (by decide)
      have T := xf_Apart M
      have n0 := M.n_Apart_one
      have n1 := M.n_Apart_other
      walk_at "cl"
      refine ⟨a, C_Apart, dd, _, _, rfl, T, n0, (by walk_at "hp"), (by walk_at "hp"), rfl, ?_⟩
      walk_at "rd"
      refine ⟨a, C_Apart, dd, _, _, rfl, T, n1, (by walk_at "hp"), (by walk_at "hp"), rfl, ?_⟩
      walk_at "rd"
      rename_i p np
      intro ns
      walk_at "rd"
      exact q p _ (by walk_at "sm") upd_same ns
    · obtain ⟨C, hC, h⟩ := hx
      cases (show some C_Empty = some C from hC)
      obtain ⟨f, _⟩ | ⟨dd, _, ea, ed⟩ := h
      · exact absurd f (by decide)
      have T := xf_Empty M
      have n0 := M.n_Empty_kind
      have n1 := M.n_Empty_paper
      walk_at "cl"
      refine ⟨a, C_Empty, dd, _, _, rfl, T, n0, (by walk_at "hp"), (by walk_at "hp"), rfl, ?_⟩
      walk_at "rd"
      refine ⟨a, C_Empty, dd, _, _, rfl, T, n1, (by walk_at "hp"), (by walk_at "hp"), rfl, ?_⟩
      walk_at "rd"
      rename_i p np
      intro ns
      walk_at "rd"
      exact q p _ (by walk_at "sm") upd_same ns
    · obtain ⟨C, hC, h⟩ := hx
      cases (show some C_NotLet = some C from hC)
      obtain ⟨f, _⟩ | ⟨dd, _, ea, ed⟩ := h
      · exact absurd f (by decide)
      have T := xf_NotLet M
      have n0 := M.n_NotLet_link
      have n1 := M.n_NotLet_line
      walk_at "cl"
      refine ⟨a, C_NotLet, dd, _, _, rfl, T, n0, (by walk_at "hp"), (by walk_at "hp"), rfl, ?_⟩
      walk_at "rd"
      refine ⟨a, C_NotLet, dd, _, _, rfl, T, n1, (by walk_at "hp"), (by walk_at "hp"), rfl, ?_⟩
      walk_at "rd"
      rename_i p np
      intro ns
      walk_at "rd"
      exact q p _ (by walk_at "sm") upd_same ns
    · obtain ⟨C, hC, h⟩ := hx
      cases (show some C_Lacking = some C from hC)
      obtain ⟨f, _⟩ | ⟨dd, _, ea, ed⟩ := h
      · exact absurd f (by decide)
      have T := xf_Lacking M
      have n0 := M.n_Lacking_obstacle
      walk_at "cl"
      refine ⟨a, C_Lacking, dd, _, _, rfl, T, n0, (by walk_at "hp"), (by walk_at "hp"), rfl, ?_⟩
      walk_at "rd"
      rename_i p np
      intro ns
      walk_at "rd"
      exact q p _ (by walk_at "sm") upd_same ns
    · obtain ⟨C, hC, h⟩ := hx
      cases (show some C_NothingToUndo = some C from hC)
      walk_at "cl"
      rename_i p np
      intro ns
      walk_at "rd"
      exact q p _ (by walk_at "sm") upd_same ns
    · obtain ⟨C, hC, h⟩ := hx
      cases (show some C_TooMany = some C from hC)
      obtain ⟨f, _⟩ | ⟨dd, _, ea, ed⟩ := h
      · exact absurd f (by decide)
      have T := xf_TooMany M
      have n0 := M.n_TooMany_what
      have n1 := M.n_TooMany_limit
      walk_at "cl"
      refine ⟨a, C_TooMany, dd, _, _, rfl, T, n0, (by walk_at "hp"), (by walk_at "hp"), rfl, ?_⟩
      walk_at "rd"
      refine ⟨a, C_TooMany, dd, _, _, rfl, T, n1, (by walk_at "hp"), (by walk_at "hp"), rfl, ?_⟩
      walk_at "rd"
      rename_i p np
      intro ns
      walk_at "rd"
      exact q p _ (by walk_at "sm") upd_same ns
theorem c__law_kept : Dn P w K mg base "_law_kept" 3 ["_law_at", "_law_e"] [] (spKept [C_InvalidName, C_InvalidCount, C_InvalidNumber, C_InvalidMany, C_InvalidRatio, C_InvalidKinds, C_InvalidLink, C_InvalidEnd, C_InvalidModel, C_InvalidTotal, C_InvalidPair, C_InvalidRow, C_InvalidPairs, C_InvalidDatabase, C_InvalidWay, C_InvalidSizes, C_InvalidTold, C_InvalidText, C_InvalidClaim, C_InvalidCommand, C_EmptyBy, C_UnknownKind, C_UnknownLink, C_UnknownRow, C_UnknownThing, C_Apart, C_Taken, C_Empty, C_NotLet, C_Lacking, C_NothingToUndo, C_CommandFailed, C_TooMany] (fun t => t ≤ 32)) := by
  have c__law_last_kept := c__law_last_kept (P := P) (w := w) (base := base) M
  refine dnN M.f__law_kept (fun F => ?_) (fun _ _ _ _ _ _ us hl => match us, hl with | [_, _], _ => rfl)
  refine fnG_body F sc__law_kept (fun vs H Q E h => ?_) (fun cdv A outer s H vs Q E hr h => ?_)
  · obtain ⟨t, a, v0, v1, rfl, _⟩ := h
    rfl
  · obtain ⟨t, a, v0, v1, rfl, ht, hx, q⟩ := h
    refine ⟨_, (pss_cons (ps_if (pt_cmpR op_in_seq (pv 0) (pe_tup (pa_cons pe_int (pa_cons pe_int pa_nil))) (by first | exact nomark _ | rfl)) (pss_one (ps_ret (pe_lstN (pa_cons (pe_xfO (pv 1)) pa_nil)))) pss_nil) (pss_cons (ps_if (pt_cmpR op_eq (pv 0) pe_int (nomark _)) (pss_one (ps_ret (pe_lstN (pa_cons (pe_xfO (pv 1)) (pa_cons (pe_xfO (pv 1)) pa_nil))))) pss_nil) (pss_cons (ps_if (pt_cmpR op_eq (pv 0) pe_int (nomark _)) (pss_one (ps_ret (pe_lstN (pa_cons (pe_xfO (pv 1)) pa_nil)))) pss_nil) (pss_cons (ps_if (pt_cmpR op_eq (pv 0) pe_int (nomark _)) (pss_one (ps_ret (pe_lstN (pa_cons (pe_xfO (pv 1)) pa_nil)))) pss_nil) (pss_cons (ps_if (pt_cmpR op_in_seq (pv 0) (pe_tup (pa_cons pe_int (pa_cons pe_int (pa_cons pe_int (pa_cons pe_int (pa_cons pe_int (pa_cons pe_int pa_nil))))))) (by first | exact nomark _ | rfl)) (pss_one (ps_ret (pe_callD c__law_last_kept (hr.mono (by decide)) rfl (pa_cons (pv 0) (pa_cons (pv 1) pa_nil))))) pss_nil) (pss_one (ps_ret (pe_lstN (pa_cons (pe_xfO (pv 1)) pa_nil))))))))), ?_⟩
    refine st_eq (σ := [some _, some _]) rfl ?_
    obtain rfl | rfl | rfl | rfl | rfl | rfl | rfl | rfl | rfl | rfl | rfl | rfl | rfl | rfl | rfl | rfl | rfl | rfl | rfl | rfl | rfl | rfl | rfl | rfl | rfl | rfl | rfl | rfl | rfl | rfl | rfl | rfl | rfl : t = 0 ∨ t = 1 ∨ t = 2 ∨ t = 3 ∨ t = 4 ∨ t = 5 ∨ t = 6 ∨ t = 7 ∨ t = 8 ∨ t = 9 ∨ t = 10 ∨ t = 11 ∨ t = 12 ∨ t = 13 ∨ t = 14 ∨ t = 15 ∨ t = 16 ∨ t = 17 ∨ t = 18 ∨ t = 19 ∨ t = 20 ∨ t = 21 ∨ t = 22 ∨ t = 23 ∨ t = 24 ∨ t = 25 ∨ t = 26 ∨ t = 27 ∨ t = 28 ∨ t = 29 ∨ t = 30 ∨ t = 31 ∨ t = 32 := by omega
    · obtain ⟨C, hC, h⟩ := hx
      cases (show some C_InvalidName = some C from hC)
      obtain ⟨f, _⟩ | ⟨dd, _, ea, ed⟩ := h
      · exact absurd f (by decide)
      have T := xf_InvalidName M
      have n0 := M.n_InvalidName_value
      walk_at "cl"
      walk_at "inq"
      walk_at "cl"
      walk_at "inq"
      walk_at "cl"
      refine ⟨a, C_InvalidName, dd, _, _, rfl, T, n0, (by walk_at "hp"), (by walk_at "hp"), rfl, ?_⟩
      walk_at "rd"
      rename_i p np
      intro ns
      walk_at "rd"
      exact q p _ (by walk_at "sm") upd_same ns
    · obtain ⟨C, hC, h⟩ := hx
      cases (show some C_InvalidCount = some C from hC)
      obtain ⟨f, _⟩ | ⟨dd, _, ea, ed⟩ := h
      · exact absurd f (by decide)
      have T := xf_InvalidCount M
      have n0 := M.n_InvalidCount_value
      walk_at "cl"
      walk_at "inq"
      walk_at "cl"
      walk_at "inq"
      walk_at "cl"
      refine ⟨a, C_InvalidCount, dd, _, _, rfl, T, n0, (by walk_at "hp"), (by walk_at "hp"), rfl, ?_⟩
      walk_at "rd"
      rename_i p np
      intro ns
      walk_at "rd"
      exact q p _ (by walk_at "sm") upd_same ns
    · obtain ⟨C, hC, h⟩ := hx
      cases (show some C_InvalidNumber = some C from hC)
      obtain ⟨f, _⟩ | ⟨dd, _, ea, ed⟩ := h
      · exact absurd f (by decide)
      have T := xf_InvalidNumber M
      have n0 := M.n_InvalidNumber_value
      walk_at "cl"
      walk_at "inq"
      walk_at "cl"
      walk_at "inq"
      walk_at "cl"
      refine ⟨a, C_InvalidNumber, dd, _, _, rfl, T, n0, (by walk_at "hp"), (by walk_at "hp"), rfl, ?_⟩
      walk_at "rd"
      rename_i p np
      intro ns
      walk_at "rd"
      exact q p _ (by walk_at "sm") upd_same ns
    · obtain ⟨C, hC, h⟩ := hx
      cases (show some C_InvalidMany = some C from hC)
      obtain ⟨f, _⟩ | ⟨dd, _, ea, ed⟩ := h
      · exact absurd f (by decide)
      have T := xf_InvalidMany M
      have n0 := M.n_InvalidMany_value
      walk_at "cl"
      walk_at "inq"
      walk_at "cl"
      walk_at "inq"
      walk_at "cl"
      refine ⟨a, C_InvalidMany, dd, _, _, rfl, T, n0, (by walk_at "hp"), (by walk_at "hp"), rfl, ?_⟩
      walk_at "rd"
      rename_i p np
      intro ns
      walk_at "rd"
      exact q p _ (by walk_at "sm") upd_same ns
    · obtain ⟨C, hC, h⟩ := hx
      cases (show some C_InvalidRatio = some C from hC)
      obtain ⟨f, _⟩ | ⟨dd, _, ea, ed⟩ := h
      · exact absurd f (by decide)
      have T := xf_InvalidRatio M
      have n0 := M.n_InvalidRatio_value
      walk_at "cl"
      walk_at "inq"
      walk_at "cl"
      walk_at "inq"
      walk_at "cl"
      refine ⟨a, C_InvalidRatio, dd, _, _, rfl, T, n0, (by walk_at "hp"), (by walk_at "hp"), rfl, ?_⟩
      walk_at "rd"
      rename_i p np
      intro ns
      walk_at "rd"
      exact q p _ (by walk_at "sm") upd_same ns
    · obtain ⟨C, hC, h⟩ := hx
      cases (show some C_InvalidKinds = some C from hC)
      obtain ⟨f, _⟩ | ⟨dd, _, ea, ed⟩ := h
      · exact absurd f (by decide)
      have T := xf_InvalidKinds M
      have n0 := M.n_InvalidKinds_position
      walk_at "cl"
      walk_at "inq"
      walk_at "cl"
      refine ⟨a, C_InvalidKinds, dd, _, _, rfl, T, n0, (by walk_at "hp"), (by walk_at "hp"), rfl, ?_⟩
      walk_at "rd"
      rename_i p np
      intro ns
      walk_at "rd"
      exact q p _ (by walk_at "sm") upd_same ns
    · obtain ⟨C, hC, h⟩ := hx
      cases (show some C_InvalidLink = some C from hC)
      obtain ⟨f, _⟩ | ⟨dd, _, ea, ed⟩ := h
      · exact absurd f (by decide)
      have T := xf_InvalidLink M
      have n0 := M.n_InvalidLink_value
      walk_at "cl"
      walk_at "inq"
      walk_at "cl"
      walk_at "inq"
      walk_at "cl"
      refine ⟨a, C_InvalidLink, dd, _, _, rfl, T, n0, (by walk_at "hp"), (by walk_at "hp"), rfl, ?_⟩
      walk_at "rd"
      rename_i p np
      intro ns
      walk_at "rd"
      exact q p _ (by walk_at "sm") upd_same ns
    · obtain ⟨C, hC, h⟩ := hx
      cases (show some C_InvalidEnd = some C from hC)
      obtain ⟨f, _⟩ | ⟨dd, _, ea, ed⟩ := h
      · exact absurd f (by decide)
      have T := xf_InvalidEnd M
      have n0 := M.n_InvalidEnd_value
      walk_at "cl"
      walk_at "inq"
      walk_at "cl"
      walk_at "inq"
      walk_at "cl"
      refine ⟨a, C_InvalidEnd, dd, _, _, rfl, T, n0, (by walk_at "hp"), (by walk_at "hp"), rfl, ?_⟩
      walk_at "rd"
      rename_i p np
      intro ns
      walk_at "rd"
      exact q p _ (by walk_at "sm") upd_same ns
    · obtain ⟨C, hC, h⟩ := hx
      cases (show some C_InvalidModel = some C from hC)
      obtain ⟨f, _⟩ | ⟨dd, _, ea, ed⟩ := h
      · exact absurd f (by decide)
      have T := xf_InvalidModel M
      have n0 := M.n_InvalidModel_value
      walk_at "cl"
      walk_at "inq"
      walk_at "cl"
      walk_at "inq"
      walk_at "cl"
      refine ⟨a, C_InvalidModel, dd, _, _, rfl, T, n0, (by walk_at "hp"), (by walk_at "hp"), rfl, ?_⟩
      walk_at "rd"
      rename_i p np
      intro ns
      walk_at "rd"
      exact q p _ (by walk_at "sm") upd_same ns
    · obtain ⟨C, hC, h⟩ := hx
      cases (show some C_InvalidTotal = some C from hC)
      obtain ⟨f, _⟩ | ⟨dd, _, ea, ed⟩ := h
      · exact absurd f (by decide)
      have T := xf_InvalidTotal M
      have n0 := M.n_InvalidTotal_value
      walk_at "cl"
      walk_at "inq"
      walk_at "cl"
      walk_at "inq"
      walk_at "cl"
      refine ⟨a, C_InvalidTotal, dd, _, _, rfl, T, n0, (by walk_at "hp"), (by walk_at "hp"), rfl, ?_⟩
      walk_at "rd"
      rename_i p np
      intro ns
      walk_at "rd"
      exact q p _ (by walk_at "sm") upd_same ns
    · obtain ⟨C, hC, h⟩ := hx
      cases (show some C_InvalidPair = some C from hC)
      obtain ⟨f, _⟩ | ⟨dd, _, ea, ed⟩ := h
      · exact absurd f (by decide)
      have T := xf_InvalidPair M
      have n0 := M.n_InvalidPair_value
      walk_at "cl"
      walk_at "inq"
      walk_at "cl"
      walk_at "inq"
      walk_at "cl"
      refine ⟨a, C_InvalidPair, dd, _, _, rfl, T, n0, (by walk_at "hp"), (by walk_at "hp"), rfl, ?_⟩
      walk_at "rd"
      rename_i p np
      intro ns
      walk_at "rd"
      exact q p _ (by walk_at "sm") upd_same ns
    · obtain ⟨C, hC, h⟩ := hx
      cases (show some C_InvalidRow = some C from hC)
      obtain ⟨f, _⟩ | ⟨dd, _, ea, ed⟩ := h
      · exact absurd f (by decide)
      have T := xf_InvalidRow M
      have n0 := M.n_InvalidRow_value
      walk_at "cl"
      walk_at "inq"
      walk_at "cl"
      walk_at "inq"
      walk_at "cl"
      refine ⟨a, C_InvalidRow, dd, _, _, rfl, T, n0, (by walk_at "hp"), (by walk_at "hp"), rfl, ?_⟩
      walk_at "rd"
      rename_i p np
      intro ns
      walk_at "rd"
      exact q p _ (by walk_at "sm") upd_same ns
    · obtain ⟨C, hC, h⟩ := hx
      cases (show some C_InvalidPairs = some C from hC)
      obtain ⟨f, _⟩ | ⟨dd, _, ea, ed⟩ := h
      · exact absurd f (by decide)
      have T := xf_InvalidPairs M
      have n0 := M.n_InvalidPairs_link
      have n1 := M.n_InvalidPairs_position
      walk_at "cl"
      walk_at "inq"
      walk_at "cl"
      refine ⟨a, C_InvalidPairs, dd, _, _, rfl, T, n0, (by walk_at "hp"), (by walk_at "hp"), rfl, ?_⟩
      walk_at "rd"
      refine ⟨a, C_InvalidPairs, dd, _, _, rfl, T, n1, (by walk_at "hp"), (by walk_at "hp"), rfl, ?_⟩
      walk_at "rd"
      rename_i p np
      intro ns
      walk_at "rd"
      exact q p _ (by walk_at "sm") upd_same ns
    · obtain ⟨C, hC, h⟩ := hx
      cases (show some C_InvalidDatabase = some C from hC)
      obtain ⟨f, _⟩ | ⟨dd, _, ea, ed⟩ := h
      · exact absurd f (by decide)
      have T := xf_InvalidDatabase M
      have n0 := M.n_InvalidDatabase_value
      walk_at "cl"
      walk_at "inq"
      walk_at "cl"
      walk_at "inq"
      walk_at "cl"
      refine ⟨a, C_InvalidDatabase, dd, _, _, rfl, T, n0, (by walk_at "hp"), (by walk_at "hp"), rfl, ?_⟩
      walk_at "rd"
      rename_i p np
      intro ns
      walk_at "rd"
      exact q p _ (by walk_at "sm") upd_same ns
    · obtain ⟨C, hC, h⟩ := hx
      cases (show some C_InvalidWay = some C from hC)
      obtain ⟨f, _⟩ | ⟨dd, _, ea, ed⟩ := h
      · exact absurd f (by decide)
      have T := xf_InvalidWay M
      have n0 := M.n_InvalidWay_value
      walk_at "cl"
      walk_at "inq"
      walk_at "cl"
      walk_at "inq"
      walk_at "cl"
      refine ⟨a, C_InvalidWay, dd, _, _, rfl, T, n0, (by walk_at "hp"), (by walk_at "hp"), rfl, ?_⟩
      walk_at "rd"
      rename_i p np
      intro ns
      walk_at "rd"
      exact q p _ (by walk_at "sm") upd_same ns
    · obtain ⟨C, hC, h⟩ := hx
      cases (show some C_InvalidSizes = some C from hC)
      obtain ⟨f, _⟩ | ⟨dd, _, ea, ed⟩ := h
      · exact absurd f (by decide)
      have T := xf_InvalidSizes M
      have n0 := M.n_InvalidSizes_value
      walk_at "cl"
      walk_at "inq"
      walk_at "cl"
      walk_at "inq"
      walk_at "cl"
      refine ⟨a, C_InvalidSizes, dd, _, _, rfl, T, n0, (by walk_at "hp"), (by walk_at "hp"), rfl, ?_⟩
      walk_at "rd"
      rename_i p np
      intro ns
      walk_at "rd"
      exact q p _ (by walk_at "sm") upd_same ns
    · obtain ⟨C, hC, h⟩ := hx
      cases (show some C_InvalidTold = some C from hC)
      obtain ⟨f, _⟩ | ⟨dd, _, ea, ed⟩ := h
      · exact absurd f (by decide)
      have T := xf_InvalidTold M
      have n0 := M.n_InvalidTold_value
      walk_at "cl"
      walk_at "inq"
      walk_at "cl"
      walk_at "inq"
      walk_at "cl"
      refine ⟨a, C_InvalidTold, dd, _, _, rfl, T, n0, (by walk_at "hp"), (by walk_at "hp"), rfl, ?_⟩
      walk_at "rd"
      rename_i p np
      intro ns
      walk_at "rd"
      exact q p _ (by walk_at "sm") upd_same ns
    · obtain ⟨C, hC, h⟩ := hx
      cases (show some C_InvalidText = some C from hC)
      obtain ⟨f, _⟩ | ⟨dd, _, ea, ed⟩ := h
      · exact absurd f (by decide)
      have T := xf_InvalidText M
      have n0 := M.n_InvalidText_line
      walk_at "cl"
      walk_at "inq"
      walk_at "cl"
      refine ⟨a, C_InvalidText, dd, _, _, rfl, T, n0, (by walk_at "hp"), (by walk_at "hp"), rfl, ?_⟩
      walk_at "rd"
      rename_i p np
      intro ns
      walk_at "rd"
      exact q p _ (by walk_at "sm") upd_same ns
    · obtain ⟨C, hC, h⟩ := hx
      cases (show some C_InvalidClaim = some C from hC)
      obtain ⟨f, _⟩ | ⟨dd, _, ea, ed⟩ := h
      · exact absurd f (by decide)
      have T := xf_InvalidClaim M
      have n0 := M.n_InvalidClaim_value
      walk_at "cl"
      walk_at "inq"
      walk_at "cl"
      walk_at "inq"
      walk_at "cl"
      refine ⟨a, C_InvalidClaim, dd, _, _, rfl, T, n0, (by walk_at "hp"), (by walk_at "hp"), rfl, ?_⟩
      walk_at "rd"
      rename_i p np
      intro ns
      walk_at "rd"
      exact q p _ (by walk_at "sm") upd_same ns
    · obtain ⟨C, hC, h⟩ := hx
      cases (show some C_InvalidCommand = some C from hC)
      obtain ⟨f, _⟩ | ⟨dd, _, ea, ed⟩ := h
      · exact absurd f (by decide)
      have T := xf_InvalidCommand M
      have n0 := M.n_InvalidCommand_value
      walk_at "cl"
      walk_at "inq"
      walk_at "cl"
      walk_at "inq"
      walk_at "cl"
      refine ⟨a, C_InvalidCommand, dd, _, _, rfl, T, n0, (by walk_at "hp"), (by walk_at "hp"), rfl, ?_⟩
      walk_at "rd"
      rename_i p np
      intro ns
      walk_at "rd"
      exact q p _ (by walk_at "sm") upd_same ns
    · obtain ⟨C, hC, h⟩ := hx
      cases (show some C_EmptyBy = some C from hC)
      obtain ⟨f, _⟩ | ⟨dd, _, ea, ed⟩ := h
      · exact absurd f (by decide)
      have T := xf_EmptyBy M
      have n0 := M.n_EmptyBy_paper
      walk_at "cl"
      walk_at "inq"
      walk_at "cl"
      refine ⟨a, C_EmptyBy, dd, _, _, rfl, T, n0, (by walk_at "hp"), (by walk_at "hp"), rfl, ?_⟩
      walk_at "rd"
      rename_i p np
      intro ns
      walk_at "rd"
      exact q p _ (by walk_at "sm") upd_same ns
    · obtain ⟨C, hC, h⟩ := hx
      cases (show some C_UnknownKind = some C from hC)
      obtain ⟨f, _⟩ | ⟨dd, _, ea, ed⟩ := h
      · exact absurd f (by decide)
      have T := xf_UnknownKind M
      have n0 := M.n_UnknownKind_value
      walk_at "cl"
      walk_at "inq"
      walk_at "cl"
      walk_at "inq"
      walk_at "cl"
      refine ⟨a, C_UnknownKind, dd, _, _, rfl, T, n0, (by walk_at "hp"), (by walk_at "hp"), rfl, ?_⟩
      walk_at "rd"
      rename_i p np
      intro ns
      walk_at "rd"
      exact q p _ (by walk_at "sm") upd_same ns
    · obtain ⟨C, hC, h⟩ := hx
      cases (show some C_UnknownLink = some C from hC)
      obtain ⟨f, _⟩ | ⟨dd, _, ea, ed⟩ := h
      · exact absurd f (by decide)
      have T := xf_UnknownLink M
      have n0 := M.n_UnknownLink_value
      walk_at "cl"
      walk_at "inq"
      walk_at "cl"
      walk_at "inq"
      walk_at "cl"
      refine ⟨a, C_UnknownLink, dd, _, _, rfl, T, n0, (by walk_at "hp"), (by walk_at "hp"), rfl, ?_⟩
      walk_at "rd"
      rename_i p np
      intro ns
      walk_at "rd"
      exact q p _ (by walk_at "sm") upd_same ns
    · obtain ⟨C, hC, h⟩ := hx
      cases (show some C_UnknownRow = some C from hC)
      obtain ⟨f, _⟩ | ⟨dd, _, ea, ed⟩ := h
      · exact absurd f (by decide)
      have T := xf_UnknownRow M
      have n0 := M.n_UnknownRow_value
      walk_at "cl"
      walk_at "inq"
      walk_at "cl"
      walk_at "inq"
      walk_at "cl"
      refine ⟨a, C_UnknownRow, dd, _, _, rfl, T, n0, (by walk_at "hp"), (by walk_at "hp"), rfl, ?_⟩
      walk_at "rd"
      rename_i p np
      intro ns
      walk_at "rd"
      exact q p _ (by walk_at "sm") upd_same ns
    · obtain ⟨C, hC, h⟩ := hx
      cases (show some C_UnknownThing = some C from hC)
      obtain ⟨f, _⟩ | ⟨dd, _, ea, ed⟩ := h
      · exact absurd f (by decide)
      have T := xf_UnknownThing M
      have n0 := M.n_UnknownThing_value
      walk_at "cl"
      walk_at "inq"
      walk_at "cl"
      walk_at "inq"
      walk_at "cl"
      refine ⟨a, C_UnknownThing, dd, _, _, rfl, T, n0, (by walk_at "hp"), (by walk_at "hp"), rfl, ?_⟩
      walk_at "rd"
      rename_i p np
      intro ns
      walk_at "rd"
      exact q p _ (by walk_at "sm") upd_same ns
    · obtain ⟨C, hC, h⟩ := hx
      cases (show some C_Apart = some C from hC)
      obtain ⟨f, _⟩ | ⟨dd, _, ea, ed⟩ := h
      · exact absurd f (by decide)
      have T := xf_Apart M
      have n0 := M.n_Apart_one
      have n1 := M.n_Apart_other
      walk_at "cl"
      walk_at "inq"
      walk_at "cl"
      walk_at "inq"
      walk_at "cl"
      refine ⟨25, a, v0, v1, rfl, by decide, ⟨C_Apart, rfl, .inr ⟨dd, by decide, by walk_at "hp", by walk_at "hp"⟩⟩, fun p H' s e ns => ?_⟩
      walk_at "rd"
      exact q p H' (My.Same.tr (by walk_at "sm") s) e ns
    · obtain ⟨C, hC, h⟩ := hx
      cases (show some C_Taken = some C from hC)
      obtain ⟨f, _⟩ | ⟨dd, _, ea, ed⟩ := h
      · exact absurd f (by decide)
      have T := xf_Taken M
      have n0 := M.n_Taken_value
      walk_at "cl"
      walk_at "inq"
      walk_at "cl"
      walk_at "inq"
      walk_at "cl"
      refine ⟨a, C_Taken, dd, _, _, rfl, T, n0, (by walk_at "hp"), (by walk_at "hp"), rfl, ?_⟩
      walk_at "rd"
      rename_i p np
      intro ns
      walk_at "rd"
      exact q p _ (by walk_at "sm") upd_same ns
    · obtain ⟨C, hC, h⟩ := hx
      cases (show some C_Empty = some C from hC)
      obtain ⟨f, _⟩ | ⟨dd, _, ea, ed⟩ := h
      · exact absurd f (by decide)
      have T := xf_Empty M
      have n0 := M.n_Empty_kind
      have n1 := M.n_Empty_paper
      walk_at "cl"
      walk_at "inq"
      walk_at "cl"
      walk_at "inq"
      walk_at "cl"
      refine ⟨27, a, v0, v1, rfl, by decide, ⟨C_Empty, rfl, .inr ⟨dd, by decide, by walk_at "hp", by walk_at "hp"⟩⟩, fun p H' s e ns => ?_⟩
      walk_at "rd"
      exact q p H' (My.Same.tr (by walk_at "sm") s) e ns
    · obtain ⟨C, hC, h⟩ := hx
      cases (show some C_NotLet = some C from hC)
      obtain ⟨f, _⟩ | ⟨dd, _, ea, ed⟩ := h
      · exact absurd f (by decide)
      have T := xf_NotLet M
      have n0 := M.n_NotLet_link
      have n1 := M.n_NotLet_line
      walk_at "cl"
      walk_at "inq"
      walk_at "cl"
      walk_at "inq"
      walk_at "cl"
      refine ⟨28, a, v0, v1, rfl, by decide, ⟨C_NotLet, rfl, .inr ⟨dd, by decide, by walk_at "hp", by walk_at "hp"⟩⟩, fun p H' s e ns => ?_⟩
      walk_at "rd"
      exact q p H' (My.Same.tr (by walk_at "sm") s) e ns
    · obtain ⟨C, hC, h⟩ := hx
      cases (show some C_Lacking = some C from hC)
      obtain ⟨f, _⟩ | ⟨dd, _, ea, ed⟩ := h
      · exact absurd f (by decide)
      have T := xf_Lacking M
      have n0 := M.n_Lacking_obstacle
      walk_at "cl"
      walk_at "inq"
      walk_at "cl"
      walk_at "inq"
      walk_at "cl"
      refine ⟨29, a, v0, v1, rfl, by decide, ⟨C_Lacking, rfl, .inr ⟨dd, by decide, by walk_at "hp", by walk_at "hp"⟩⟩, fun p H' s e ns => ?_⟩
      walk_at "rd"
      exact q p H' (My.Same.tr (by walk_at "sm") s) e ns
    · obtain ⟨C, hC, h⟩ := hx
      cases (show some C_NothingToUndo = some C from hC)
      walk_at "cl"
      walk_at "inq"
      walk_at "cl"
      walk_at "inq"
      walk_at "cl"
      refine ⟨30, a, v0, v1, rfl, by decide, ⟨C_NothingToUndo, rfl, .inl ⟨rfl, by obtain ⟨_, ea⟩ | ⟨dd, nf, _⟩ := h; (have := ea; walk_at "hp"); exact absurd rfl nf⟩⟩, fun p H' s e ns => ?_⟩
      walk_at "rd"
      exact q p H' (My.Same.tr (by walk_at "sm") s) e ns
    · obtain ⟨C, hC, h⟩ := hx
      cases (show some C_CommandFailed = some C from hC)
      obtain ⟨f, _⟩ | ⟨dd, _, ea, ed⟩ := h
      · exact absurd f (by decide)
      have T := xf_CommandFailed M
      have n0 := M.n_CommandFailed_position
      walk_at "cl"
      walk_at "inq"
      walk_at "cl"
      refine ⟨a, C_CommandFailed, dd, _, _, rfl, T, n0, (by walk_at "hp"), (by walk_at "hp"), rfl, ?_⟩
      walk_at "rd"
      rename_i p np
      intro ns
      walk_at "rd"
      exact q p _ (by walk_at "sm") upd_same ns
    · obtain ⟨C, hC, h⟩ := hx
      cases (show some C_TooMany = some C from hC)
      obtain ⟨f, _⟩ | ⟨dd, _, ea, ed⟩ := h
      · exact absurd f (by decide)
      have T := xf_TooMany M
      have n0 := M.n_TooMany_what
      have n1 := M.n_TooMany_limit
      walk_at "cl"
      walk_at "inq"
      walk_at "cl"
      walk_at "inq"
      walk_at "cl"
      refine ⟨32, a, v0, v1, rfl, by decide, ⟨C_TooMany, rfl, .inr ⟨dd, by decide, by walk_at "hp", by walk_at "hp"⟩⟩, fun p H' s e ns => ?_⟩
      walk_at "rd"
      exact q p H' (My.Same.tr (by walk_at "sm") s) e ns
end
end My
end
section

open My L2 PySem
open My L2 PySem
local macro_rules | `(tactic| walk_at "as") => `(tactic| with_reducible assumption)
local macro_rules | `(tactic| walk_at "hp") => `(tactic| first
  | walk_at "as" | exact upd_same
  | (rw [upd_ne (by walk_at "ne")]; walk_at "hp")
  | (refine But.get (by walk_at "as") ?hp1 ?hp2; (case hp1 => walk_at "hp"); (case hp2 => walk_at "ne"))
  | (refine My.Same.get (by walk_at "as") ?hp1; (case hp1 => walk_at "hp")))
local macro_rules | `(tactic| walk_at "ne") => `(tactic| first
  | walk_at "as" | exact Ne.symm (by walk_at "as")
  | (refine' ne_of_none ?ne1 ?ne2; (case ne2 => walk_at "as"); (case ne1 => walk_at "hp"))
  | (refine' Ne.symm (ne_of_none ?ne1 ?ne2); (case ne2 => walk_at "as"); (case ne1 => walk_at "hp"))
  | exact ne_of (by walk_at "hp") (by walk_at "hp") (by intro z; cases z))
local macro_rules | `(tactic| walk_at "sd") => `(tactic| first
  | walk_at "as" | omega | decide | exact ⟨by omega, by omega⟩ | exact .inl ⟨by omega, by omega⟩ | exact .inr ⟨by omega, by omega⟩ | exact divp_wide (by walk_at "as") (by walk_at "as") | exact Sm.cmul (by walk_at "as") (by walk_at "as") | exact cmul_small (by omega) (by omega) (by omega) (by omega) | exact ⟨by omega, by decide⟩)
local macro_rules | `(tactic| walk_at "bt") => `(tactic| first
  | walk_at "as" | exact But.refl _ _ | exact Same.but (by walk_at "as")
  | (refine But.trans ?bt1 But.at; (case bt1 => walk_at "bt"))
  | (refine But.trans ?bt1 (But.new (by first | walk_at "as" | walk_at "hp")); (case bt1 => walk_at "bt"))
  | (refine But.trans ?bt1 (by walk_at "as"); (case bt1 => walk_at "bt"))
  | (refine But.trans ?bt1 (Same.but (by walk_at "as")); (case bt1 => walk_at "bt")))
local macro_rules | `(tactic| walk_at "sm") => `(tactic| first
  | walk_at "as" | exact My.Same.rfl' _
  | (refine' My.Same.at_ ?sm1 ?sm2; (case sm1 => walk_at "as"); (case sm2 => walk_at "sm"))
  | (refine' My.Same.tr ?sm1 (My.Same.new ?sm2); (case sm2 => walk_at "as"); (case sm1 => walk_at "sm"))
  | (refine' My.Same.tr ?sm1 ?sm2; (case sm2 => walk_at "as"); (case sm1 => walk_at "sm")))
local macro_rules | `(tactic| walk_at "sz") => `(tactic| first
  | assumption | exact lt_size (by rfl) | exact le_size (by rfl) | (rw [sizeLine_eq]; omega)
  | (rw [sizeLine_eq]; simp only [List.length_append, List.length_map, List.length_cons, List.length_nil]; omega))
local macro_rules | `(tactic| walk_at "few") => `(tactic| (repeat refine few_put ?_); exact few0)
local macro_rules | `(tactic| walk_at "rd1") => `(tactic| first
  | (with_reducible show tVar _ _ _ _); refine s_var rfl ?_
  | with_reducible refine s_c ?_ | with_reducible refine s_op ?_ | with_reducible refine s_un ?_
  | with_reducible refine s_cons ?_ | with_reducible refine s_nil ?_ | with_reducible refine s_cb ?_
  | with_reducible refine s_test ?_ | with_reducible refine s_B ?_ | with_reducible refine s_not ?_ | with_reducible refine s_and ?_ | with_reducible refine s_or ?_
  | with_reducible refine s_if ?_ | with_reducible refine s_notV ?_ | with_reducible refine s_andV ?_ | with_reducible refine s_orV ?_
  | with_reducible refine s_orT ?_ | with_reducible refine s_andT ?_ | with_reducible refine s_chain ?_
  | with_reducible refine s_isi_int ?_ | with_reducible refine s_isi_int_bool ?_ | with_reducible refine s_isi_str ?_
  | with_reducible refine iteT ?_ | with_reducible refine iteF ?_ | with_reducible refine iteNT ?_ | with_reducible refine iteNF ?_
  | with_reducible refine s_isN ?_ | with_reducible refine s_notN ?_
  | ((with_reducible refine' s_2setE ?g1 ?_); (case g1 => first | (dsimp only [List.set, L2.wipe, List.map, List.foldl]; done) | (dsimp only [List.set, L2.wipe, List.map, List.foldl]; rfl)))
  | with_reducible refine s_seq ?_ | with_reducible refine s_ifS ?_ | with_reducible refine s_asg ?_ | with_reducible refine s_ret ?_ | with_reducible refine s_drop ?_ | with_reducible refine s_next ?_
  | ((with_reducible refine' s_gnameE ?g1 ?_); (case g1 => first | (dsimp only [List.set, L2.wipe, List.map, List.foldl]; done) | (dsimp only [List.set, L2.wipe, List.map, List.foldl]; rfl)))
  | with_reducible refine s_gsub ?_ | with_reducible refine s_gcons ?_ | with_reducible refine s_gnil ?_
  | (with_reducible show gTup _ _ _ _ _ _ _); refine s_gtup (by walk_at "hp") rfl ?_
  | with_reducible refine s_eqI ?_ | with_reducible refine s_neI ?_ | with_reducible refine s_eqS ?_ | with_reducible refine s_neB ?_ | with_reducible refine s_eqB ?_ | with_reducible refine s_neSr ?_ | with_reducible refine s_neS ?_
  | with_reducible refine s_I0 ?_
  | (with_reducible show rI _ _ _ _ _ _); refine s_I (by walk_at "sd") ?_
  | (with_reducible show rIxL _ _ _ _ _); refine s_ixL (by walk_at "hp") rfl ?_
  | (with_reducible show rIxT _ _ _ _ _); refine s_ixT (by walk_at "hp") rfl ?_
  | (with_reducible show rSetL _ _ _ _ _); refine s_setL (by walk_at "hp") rfl ?_
  | with_reducible refine s_prop ?_
  | (with_reducible show _ ≤ sizeLine ∧ _); refine ⟨le_size (by rfl), ?_⟩
  | with_reducible refine ite_NN ?_ | with_reducible refine ite_IN ?_ | with_reducible refine ite_nNN ?_ | with_reducible refine ite_nIN ?_ | with_reducible refine ite_RN ?_ | with_reducible refine ite_nRN ?_
  | with_reducible refine s_sfld ?_
  | ((with_reducible refine' ⟨_, _, _, _, rfl, ?fp1, ?fp2, ?fp3, ?fp4, ?_⟩); (case fp1 => walk_at "hp"); (case fp2 => assumption); (case fp3 => assumption); (case fp4 => walk_at "few"))
  | with_reducible refine s_fldE ?_
  | ((with_reducible refine' ⟨_, _, _, _, _, rfl, ?fp1, ?fp2, ?fp3, ?fp4, ?_⟩); (case fp1 => walk_at "hp"); (case fp2 => assumption); (case fp3 => assumption); (case fp4 => rfl))
  | with_reducible refine s_bm ?_ | with_reducible refine s_bm0 ?_
  | ((with_reducible refine' s_tyL ?ty1 ?_); (case ty1 => walk_at "hp"))
  | ((with_reducible refine' s_append ?ap1 ?ap2 ?_); (case ap1 => walk_at "hp"); (case ap2 => walk_at "sz"))
  | ((with_reducible refine' s_extend ?ap1 ?ap2 ?ap3 ?_); (case ap1 => walk_at "hp"); (case ap2 => walk_at "hp"); (case ap3 => walk_at "sz"))
  | with_reducible refine s_for (fun _ _ => ?_) | with_reducible refine s_lc ?_ | with_reducible refine s_iList ?_ | with_reducible refine s_iTup ?_ | with_reducible refine s_iRng1 ?_ | with_reducible refine s_iRng2 ?_
  | with_reducible refine s_yes ?_ | with_reducible refine s_par ?_
  | with_reducible refine s_make ?_ | with_reducible refine s_meth ?_
  | with_reducible refine s_tup ?_ | with_reducible refine s_lst ?_ | with_reducible refine s_call ?_
  | with_reducible refine ⟨rfl, ?_⟩
  | with_reducible refine ⟨_, rfl, ?_⟩
  | ((with_reducible refine' ⟨_, _, rfl, ?sd1, ?_⟩); (case sd1 => walk_at "sd"))
  | with_reducible refine ⟨_, _, rfl, ?_⟩
  | with_reducible refine .inl ⟨_, rfl, ?_⟩
  | dsimp only [List.set]
  | walk_at "rdx"
  | (refine fun _ _ => ?_))
local macro_rules | `(tactic| walk_at "rd") => `(tactic| repeat (first
  | (with_reducible show tVar _ _ _ _); refine s_var rfl ?_
  | with_reducible refine s_c ?_ | with_reducible refine s_op ?_ | with_reducible refine s_un ?_
  | with_reducible refine s_cons ?_ | with_reducible refine s_nil ?_ | with_reducible refine s_cb ?_
  | with_reducible refine s_test ?_ | with_reducible refine s_B ?_ | with_reducible refine s_not ?_ | with_reducible refine s_and ?_ | with_reducible refine s_or ?_
  | with_reducible refine s_if ?_ | with_reducible refine s_notV ?_ | with_reducible refine s_andV ?_ | with_reducible refine s_orV ?_
  | with_reducible refine s_orT ?_ | with_reducible refine s_andT ?_ | with_reducible refine s_chain ?_
  | with_reducible refine s_isi_int ?_ | with_reducible refine s_isi_int_bool ?_ | with_reducible refine s_isi_str ?_
  | with_reducible refine iteT ?_ | with_reducible refine iteF ?_ | with_reducible refine iteNT ?_ | with_reducible refine iteNF ?_
  | with_reducible refine s_isN ?_ | with_reducible refine s_notN ?_
  | ((with_reducible refine' s_2setE ?g1 ?_); (case g1 => first | (dsimp only [List.set, L2.wipe, List.map, List.foldl]; done) | (dsimp only [List.set, L2.wipe, List.map, List.foldl]; rfl)))
  | with_reducible refine s_seq ?_ | with_reducible refine s_ifS ?_ | with_reducible refine s_asg ?_ | with_reducible refine s_ret ?_ | with_reducible refine s_drop ?_ | with_reducible refine s_next ?_
  | ((with_reducible refine' s_gnameE ?g1 ?_); (case g1 => first | (dsimp only [List.set, L2.wipe, List.map, List.foldl]; done) | (dsimp only [List.set, L2.wipe, List.map, List.foldl]; rfl)))
  | with_reducible refine s_gsub ?_ | with_reducible refine s_gcons ?_ | with_reducible refine s_gnil ?_
  | (with_reducible show gTup _ _ _ _ _ _ _); refine s_gtup (by walk_at "hp") rfl ?_
  | with_reducible refine s_eqI ?_ | with_reducible refine s_neI ?_ | with_reducible refine s_eqS ?_ | with_reducible refine s_neB ?_ | with_reducible refine s_eqB ?_ | with_reducible refine s_neSr ?_ | with_reducible refine s_neS ?_
  | with_reducible refine s_I0 ?_
  | (with_reducible show rI _ _ _ _ _ _); refine s_I (by walk_at "sd") ?_
  | (with_reducible show rIxL _ _ _ _ _); refine s_ixL (by walk_at "hp") rfl ?_
  | (with_reducible show rIxT _ _ _ _ _); refine s_ixT (by walk_at "hp") rfl ?_
  | (with_reducible show rSetL _ _ _ _ _); refine s_setL (by walk_at "hp") rfl ?_
  | with_reducible refine s_prop ?_
  | (with_reducible show _ ≤ sizeLine ∧ _); refine ⟨le_size (by rfl), ?_⟩
  | with_reducible refine ite_NN ?_ | with_reducible refine ite_IN ?_ | with_reducible refine ite_nNN ?_ | with_reducible refine ite_nIN ?_ | with_reducible refine ite_RN ?_ | with_reducible refine ite_nRN ?_
  | with_reducible refine s_sfld ?_
  | ((with_reducible refine' ⟨_, _, _, _, rfl, ?fp1, ?fp2, ?fp3, ?fp4, ?_⟩); (case fp1 => walk_at "hp"); (case fp2 => assumption); (case fp3 => assumption); (case fp4 => walk_at "few"))
  | with_reducible refine s_fldE ?_
  | ((with_reducible refine' ⟨_, _, _, _, _, rfl, ?fp1, ?fp2, ?fp3, ?fp4, ?_⟩); (case fp1 => walk_at "hp"); (case fp2 => assumption); (case fp3 => assumption); (case fp4 => rfl))
  | with_reducible refine s_bm ?_ | with_reducible refine s_bm0 ?_
  | ((with_reducible refine' s_tyL ?ty1 ?_); (case ty1 => walk_at "hp"))
  | ((with_reducible refine' s_append ?ap1 ?ap2 ?_); (case ap1 => walk_at "hp"); (case ap2 => walk_at "sz"))
  | ((with_reducible refine' s_extend ?ap1 ?ap2 ?ap3 ?_); (case ap1 => walk_at "hp"); (case ap2 => walk_at "hp"); (case ap3 => walk_at "sz"))
  | with_reducible refine s_for (fun _ _ => ?_) | with_reducible refine s_lc ?_ | with_reducible refine s_iList ?_ | with_reducible refine s_iTup ?_ | with_reducible refine s_iRng1 ?_ | with_reducible refine s_iRng2 ?_
  | with_reducible refine s_yes ?_ | with_reducible refine s_par ?_
  | with_reducible refine s_make ?_ | with_reducible refine s_meth ?_
  | with_reducible refine s_tup ?_ | with_reducible refine s_lst ?_ | with_reducible refine s_call ?_
  | with_reducible refine ⟨rfl, ?_⟩
  | with_reducible refine ⟨_, rfl, ?_⟩
  | ((with_reducible refine' ⟨_, _, rfl, ?sd1, ?_⟩); (case sd1 => walk_at "sd"))
  | with_reducible refine ⟨_, _, rfl, ?_⟩
  | with_reducible refine .inl ⟨_, rfl, ?_⟩
  | dsimp only [List.set]
  | walk_at "rdx"
  | (refine fun _ _ => ?_)))

namespace My
open PySem L2
section
variable {P : Program} {w : World} {K : PySem.W.Frag} {mg : Str → Option Value} {base : Heap} {C_InvalidName C_InvalidCount C_InvalidNumber C_InvalidMany C_InvalidRatio C_InvalidKinds C_InvalidLink C_InvalidEnd C_InvalidModel C_InvalidTotal C_InvalidPair C_InvalidRow C_InvalidPairs C_InvalidDatabase C_InvalidWay C_InvalidSizes C_InvalidTold C_InvalidText C_InvalidClaim C_InvalidCommand C_EmptyBy C_UnknownKind C_UnknownLink C_UnknownRow C_UnknownThing C_Apart C_Taken C_Empty C_NotLet C_Lacking C_NothingToUndo C_CommandFailed C_TooMany C_EachError C_MissingError C_StateError C_LimitError : Addr} (M : Md K mg C_InvalidName C_InvalidCount C_InvalidNumber C_InvalidMany C_InvalidRatio C_InvalidKinds C_InvalidLink C_InvalidEnd C_InvalidModel C_InvalidTotal C_InvalidPair C_InvalidRow C_InvalidPairs C_InvalidDatabase C_InvalidWay C_InvalidSizes C_InvalidTold C_InvalidText C_InvalidClaim C_InvalidCommand C_EmptyBy C_UnknownKind C_UnknownLink C_UnknownRow C_UnknownThing C_Apart C_Taken C_Empty C_NotLet C_Lacking C_NothingToUndo C_CommandFailed C_TooMany C_EachError C_MissingError C_StateError C_LimitError)
include M
local macro_rules | `(tactic| walk_at "rdx") => `(tactic| first | with_reducible refine s_ostG ?_ | with_reducible refine s_mkE ?_ | with_reducible refine s_mkEK ?_ | with_reducible refine s_xf ?_ | with_reducible refine s_lstN ?_)
local macro_rules | `(tactic| walk_at "cl") => `(tactic| repeat (first | walk_at "rd1" | (refine ite_d (fun h => absurd h (by decide)) (fun _ => ?_)) | (refine ite_d (fun _ => ?_) (fun h => absurd rfl h))))
omit M
def menuD : List PyData := [.none, .int 0, .int 1, .bool true, .str "", .str "near", .tuple [.int 1, .int 2], .list [.str "a"], .dict [(.str "b", .int 3)], .int (-(10 ^ 20)), .tuple [.str "x", .int 3], .list [.tuple [.str "x", .int 1], .tuple [.str "x", .int 2]]]
def Good (d : PyData) : Prop := d.depth ≤ 8 ∧ d.showable = true ∧ d.shown.length ≤ 100
theorem menu_good : ∀ d ∈ menuD, Good d := by
  intro d h
  have h' : d.depth ≤ 8 ∧ d.showable = true ∧ d.shown.length ≤ 100 := by
    revert d
    unfold menuD
    simp only [List.forall_mem_cons]
    refine ⟨?_, ?_, ?_, ?_, ?_, ?_, ?_, ?_, ?_, ?_, ?_, ?_, ?_⟩
    all_goals first | (refine ⟨by decide +kernel, by decide +kernel, by decide +kernel⟩) | simp
  exact h'
/-- a value that the menu holds -/
def Menu (H : Hp) (v : V) : Prop := ∃ d, Dq H v d ∧ Good d
theorem Menu.same {H H' : Hp} {v : V} (h : Menu H v) (s : Same H H') : Menu H' v := by
  obtain ⟨d, h, g⟩ := h
  exact ⟨d, h.same s, g⟩
theorem menu_dq {H : Hp} {p1 p2 p3 p4 p5 p6 p7 : Addr} (h1 : H p1 = some (.tup [.int 1, .int 2])) (h2 : H p2 = some (.lst [.str "a"])) (n2 : p2 ≠ sysModules) (h3 : H p3 = some (.dK [(.inr "b", .int 3)])) (h4 : H p4 = some (.tup [.str "x", .int 3]))
    (h5 : H p5 = some (.tup [.str "x", .int 1])) (h6 : H p6 = some (.tup [.str "x", .int 2])) (h7 : H p7 = some (.lst [.ref p5, .ref p6])) (n7 : p7 ≠ sysModules) :
    ∀ v ∈ [V.non, .int 0, .int 1, .bl true, .str "", .str "near", .ref p1, .ref p2, .ref p3, .int (-(10 ^ (20 : Int).toNat)), .ref p4, .ref p7], Menu H v := by
  intro v hv
  have mk : ∀ d, d ∈ menuD → Dq H v d → Menu H v := fun d m h => ⟨d, h, menu_good d m⟩
  simp only [List.mem_cons, List.not_mem_nil, or_false] at hv
  rcases hv with rfl | rfl | rfl | rfl | rfl | rfl | rfl | rfl | rfl | rfl | rfl | rfl
  · exact mk _ (by simp [menuD]) .non
  · exact mk (.int 0) (by simp [menuD]) (.int _)
  · exact mk (.int 1) (by simp [menuD]) (.int _)
  · exact mk _ (by simp [menuD]) (.bl _)
  · exact mk (.str "") (by simp [menuD]) (.str _)
  · exact mk (.str "near") (by simp [menuD]) (.str _)
  · exact mk (.tuple [.int 1, .int 2]) (by simp [menuD]) (.tup h1 (.cons (.int _) (.cons (.int _) .nil)))
  · exact mk (.list [.str "a"]) (by simp [menuD]) (.lst h2 n2 (.cons (.str _) .nil))
  · exact mk (.dict [(.str "b", .int 3)]) (by simp [menuD]) (.dct h3)
  · exact mk (.int (-(10 ^ 20))) (by simp [menuD]) (.int _)
  · exact mk (.tuple [.str "x", .int 3]) (by simp [menuD]) (.tup h4 (.cons (.str _) (.cons (.int _) .nil)))
  · exact mk (.list [.tuple [.str "x", .int 1], .tuple [.str "x", .int 2]]) (by simp [menuD]) (.lst h7 n7 (.cons (.tup h5 (.cons (.str _) (.cons (.int _) .nil))) (.cons (.tup h6 (.cons (.str _) (.cons (.int _) .nil))) .nil)))
theorem s_pairs1 {σ : L2.St} {H : Hp} {x : Str} {i : Int} {R : List (V × V) → Hp → Prop} (h : R [(.str x, .int i)] H) : tPairs [(tC (.str x), tC (.int i))] σ H R := h
/-- lists of the menu's values -/
theorem dq_all {H : Hp} : ∀ {xs : List V}, (∀ v ∈ xs, Menu H v) → ∃ ds, DqAll H xs ds ∧ ds.length = xs.length ∧ ∀ d ∈ ds, Good d
  | [], _ => ⟨[], .nil, rfl, by simp⟩
  | v :: xs, h => by
    obtain ⟨d, hd, g⟩ := h v (by simp)
    obtain ⟨ds, ha, hl, hg⟩ := dq_all (xs := xs) (fun v' hv => h v' (by simp [hv]))
    refine ⟨d :: ds, .cons hd ha, by simp [hl], fun e he => ?_⟩
    rcases List.mem_cons.mp he with rfl | he
    · exact g
    · exact hg e he
theorem listText_two (a b : Str) : (PySem.listText [a, b]).length ≤ a.length + b.length + 7 := by
  have h := PySem.listText_len_le [a, b]
  simp only [List.map_cons, List.map_nil, List.sum_cons, List.sum_nil, List.length_cons, List.length_nil] at h
  omega
theorem good_list : ∀ {ds : List PyData}, (∀ d ∈ ds, Good d) → PyData.depthAll ds ≤ 8 ∧ PyData.showableAll ds = true ∧ ((PyData.shownAll ds).map (·.length)).sum ≤ 100 * ds.length ∧ (PyData.shownAll ds).length = ds.length
  | [], _ => ⟨by simp [PyData.depthAll], by simp [PyData.showableAll], by simp [PyData.shownAll], by simp [PyData.shownAll]⟩
  | d :: ds, h => by
    obtain ⟨g1, g2, g3⟩ := h d (by simp)
    obtain ⟨i1, i2, i3, i4⟩ := good_list (ds := ds) (fun e he => h e (by simp [he]))
    refine ⟨?_, ?_, ?_, ?_⟩
    · simp only [PyData.depthAll]
      omega
    · simp only [PyData.showableAll, g2, i2, Bool.and_self]
    · simp only [PyData.shownAll, List.map_cons, List.sum_cons, List.length_cons]
      omega
    · simp only [PyData.shownAll, List.length_cons, i4]
theorem good_row {ds es : List PyData} (hd : ∀ d ∈ ds, Good d) (he : ∀ d ∈ es, Good d) (ld : ds.length ≤ 2) (le : es.length ≤ 2) :
    (PyData.list [.list ds, .list es]).depth ≤ 64 ∧ (PyData.list [.list ds, .list es]).showable = true ∧ (PyData.list [.list ds, .list es]).shown.length ≤ sizeLine := by
  obtain ⟨d1, d2, d3, d4⟩ := good_list hd
  obtain ⟨e1, e2, e3, e4⟩ := good_list he
  refine ⟨?_, ?_, ?_⟩
  · simp only [PyData.depth, PyData.depthAll]
    omega
  · simp only [PyData.showable, PyData.showableAll, d2, e2, Bool.and_self]
  · simp only [PyData.shown, PyData.shownAll]
    have h1 := PySem.listText_len_le (PyData.shownAll ds)
    have h2 := PySem.listText_len_le (PyData.shownAll es)
    have h3 := listText_two (PySem.listText (PyData.shownAll ds)) (PySem.listText (PyData.shownAll es))
    rw [sizeLine_eq]
    omega
/-- the menu at m, apart from r -/
def MenuAt (H : Hp) (m r : Addr) (ms : List V) : Prop := ∃ p1 p2 p3 p4 p5 p6 p7 : Addr, ms = [V.non, .int 0, .int 1, .bl true, .str "", .str "near", .ref p1, .ref p2, .ref p3, .int (-(10 ^ (20 : Int).toNat)), .ref p4, .ref p7] ∧
  (H p1 = some (.tup [.int 1, .int 2]) ∧ p1 ≠ r) ∧ (H p2 = some (.lst [.str "a"]) ∧ p2 ≠ r) ∧ p2 ≠ sysModules ∧ (H p3 = some (.dK [(.inr "b", .int 3)]) ∧ p3 ≠ r) ∧ (H p4 = some (.tup [.str "x", .int 3]) ∧ p4 ≠ r) ∧
  (H p5 = some (.tup [.str "x", .int 1]) ∧ p5 ≠ r) ∧ (H p6 = some (.tup [.str "x", .int 2]) ∧ p6 ≠ r) ∧ (H p7 = some (.lst [.ref p5, .ref p6]) ∧ p7 ≠ r) ∧ p7 ≠ sysModules ∧ H m = some (.lst ms) ∧ m ≠ r
theorem MenuAt.but {H H' : Hp} {m r : Addr} {ms : List V} (h : MenuAt H m r ms) (b : But r H H') : MenuAt H' m r ms := by
  obtain ⟨p1, p2, p3, p4, p5, p6, p7, e, ⟨h1, n1⟩, ⟨h2, n2⟩, s2, ⟨h3, n3⟩, ⟨h4, n4⟩, ⟨h5, n5⟩, ⟨h6, n6⟩, ⟨h7, n7⟩, s7, hm, nm⟩ := h
  exact ⟨p1, p2, p3, p4, p5, p6, p7, e, ⟨b _ _ h1 n1, n1⟩, ⟨b _ _ h2 n2, n2⟩, s2, ⟨b _ _ h3 n3, n3⟩, ⟨b _ _ h4 n4, n4⟩, ⟨b _ _ h5 n5, n5⟩, ⟨b _ _ h6 n6, n6⟩, ⟨b _ _ h7 n7, n7⟩, s7, b _ _ hm nm, nm⟩
theorem MenuAt.all {H : Hp} {m r : Addr} {ms : List V} (h : MenuAt H m r ms) : ∀ v ∈ ms, Menu H v := by
  obtain ⟨p1, p2, p3, p4, p5, p6, p7, rfl, ⟨h1, n1⟩, ⟨h2, n2⟩, s2, ⟨h3, n3⟩, ⟨h4, n4⟩, ⟨h5, n5⟩, ⟨h6, n6⟩, ⟨h7, n7⟩, s7, hm, nm⟩ := h
  exact menu_dq h1 h2 s2 h3 h4 h5 h6 h7 s7
theorem MenuAt.at_ {H : Hp} {m r : Addr} {ms : List V} (h : MenuAt H m r ms) : H m = some (.lst ms) ∧ m ≠ r ∧ ms.length = 12 := by
  obtain ⟨p1, p2, p3, p4, p5, p6, p7, rfl, ⟨h1, n1⟩, ⟨h2, n2⟩, s2, ⟨h3, n3⟩, ⟨h4, n4⟩, ⟨h5, n5⟩, ⟨h6, n6⟩, ⟨h7, n7⟩, s7, hm, nm⟩ := h
  exact ⟨hm, nm, rfl⟩
theorem Pot.same {H H' : Hp} {r : Addr} (h : Pot H r) (s : Same H H') : Pot H' r := by
  obtain ⟨x, y, e, h⟩ := h
  exact ⟨x, y, s _ _ e, h⟩
theorem ite_cut {σ : L2.St} {H : Hp} {b : Bool} {te1 te2 : TE} {k : VK} (v : V) (h1 : b = true → ∀ k' : VK, k' v H → te1 σ H k') (h2 : b = false → ∀ k' : VK, k' v H → te2 σ H k') (h : k v H) : if b = true then te1 σ H k else te2 σ H k := by
  cases b with
  | true =>
    rw [if_pos rfl]
    exact h1 rfl k h
  | false =>
    rw [if_neg Bool.false_ne_true]
    exact h2 rfl k h
theorem width_t {t : Nat} (ht : t ≤ 32) : (if (t : Int) ∈ [12, 25, 27, 28, 32] then 2 else if t = 30 then 0 else 1) = (flds t).length := by
  have key : ∀ u : Fin 33, (if (u.1 : Int) ∈ [12, 25, 27, 28, 32] then 2 else if u.1 = 30 then 0 else 1) = (flds u.1).length := by decide +kernel
  exact key ⟨t, by omega⟩
theorem flds_le {t : Nat} (ht : t ≤ 32) : (flds t).length ≤ 2 := by
  rw [← width_t ht]
  split
  · decide
  · split <;> decide
theorem cut_kept {t : Nat} (ht : t ≤ 32) (v0 v1 : V) : cutV [v0, v1] none (some ((flds t).length : Int)) = keptOf t v0 v1 := by
  have h := flds_le ht
  unfold keptOf
  obtain e | e | e : (flds t).length = 0 ∨ (flds t).length = 1 ∨ (flds t).length = 2 := by omega
  all_goals rw [e]; rfl
theorem kept_mem {t : Nat} {v0 v1 v : V} (h : v ∈ keptOf t v0 v1) : v ∈ [v0, v1] := by
  unfold keptOf at h
  split at h
  · simp at h
  · simp at h
    simp [h]
  · exact h
theorem kept_len (t : Nat) (v0 v1 : V) : (keptOf t v0 v1).length ≤ 2 := by
  unfold keptOf
  split <;> simp
theorem s_slW {σ : L2.St} {H : Hp} {Q : VK} {K : PySem.W.Frag} {i j : Nat} {a : Addr} {xs : List V} {n : Int} (h1 : σ[i]? = some (some (.ref a))) (h2 : σ[j]? = some (some (.int n))) (hx : H a = some (.lst xs)) (h : ∀ p, H p = none → p ≠ sysModules → Q (.ref p) (L2.upd H p (.lst (cutV xs none (some n))))) :
    L2.tSl (rSlN K) (tVar i) tNoPart (tPart (tVar j)) σ H Q := ⟨_, h1, _, h2, _, rfl, a, xs, rfl, SqL.of hx, h⟩
theorem bools_dp {K : PySem.W.Frag} {H : Hp} : ∀ bs : List Bool, DpAll K H (bs.map V.bl) (bs.map PyData.bool)
  | [] => .nil
  | b :: bs => .cons (.bl b) (bools_dp bs)
theorem bools_ok : ∀ bs : List Bool, PyData.canLayAll0 (bs.map PyData.bool) = true ∧ PyData.depthAll (bs.map PyData.bool) = 0
  | [] => ⟨by simp [PyData.canLayAll0], by simp [PyData.depthAll]⟩
  | b :: bs => by
    obtain ⟨h1, h2⟩ := bools_ok bs
    refine ⟨?_, ?_⟩
    · simp only [List.map_cons, PyData.canLayAll0, PyData.canLay0, h1, Bool.and_self]
    · simp only [List.map_cons, PyData.depthAll, PyData.depth, h2, Nat.max_self]
theorem bools_shaped (bs : List Bool) : SeqAt.shaped (.list (bs.map PyData.bool)) = true ∧ PyData.eqv (.list (bs.map PyData.bool)) (.list (bs.map PyData.bool)) = true := by
  obtain ⟨h1, h2⟩ := bools_ok bs
  refine ⟨?_, SeqAt.eqv_refl _ ?_⟩
  · unfold SeqAt.shaped
    simp only [PyData.canLay0, h1, PyData.depth, h2, Bool.true_and, decide_eq_true_eq]
    decide
  · simp only [PyData.canLay0, h1]
theorem bools2_shaped (bs : List Bool) : SeqAt.shaped (.list [.list (bs.map PyData.bool), .list (bs.map PyData.bool)]) = true ∧ PyData.eqv (.list [.list (bs.map PyData.bool), .list (bs.map PyData.bool)]) (.list [.list (bs.map PyData.bool), .list (bs.map PyData.bool)]) = true := by
  obtain ⟨h1, h2⟩ := bools_ok bs
  refine ⟨?_, SeqAt.eqv_refl _ ?_⟩
  · unfold SeqAt.shaped
    simp only [PyData.canLay0, PyData.canLayAll0, h1, PyData.depth, PyData.depthAll, h2, Bool.true_and, Bool.and_self, decide_eq_true_eq]
    decide
  · simp only [PyData.canLay0, PyData.canLayAll0, h1, Bool.and_self]
/-- two lists of the same bools, compared -/
theorem s_eqBs {K : PySem.W.Frag} {H : Hp} {Q : VK} {a b : Addr} (bs : List Bool) (h1 : H a = some (.lst (bs.map V.bl))) (h2 : H b = some (.lst (bs.map V.bl))) (q : Q (.bl true) H) : rEqD K (.ref a) (.ref b) H Q := by
  refine ⟨_, _, .lst (SqL.of h1) (bools_dp bs), .lst (SqL.of h2) (bools_dp bs), (bools_shaped bs).1, (bools_shaped bs).1, ?_⟩
  rw [(bools_shaped bs).2]
  exact q
/-- two pairs of lists of the same bools, compared -/
theorem s_neBs {K : PySem.W.Frag} {H : Hp} {Q : VK} {a b a1 a2 b1 b2 : Addr} (bs : List Bool) (h : H a = some (.lst [.ref a1, .ref a2])) (g : H b = some (.lst [.ref b1, .ref b2])) (h1 : H a1 = some (.lst (bs.map V.bl))) (h2 : H a2 = some (.lst (bs.map V.bl))) (g1 : H b1 = some (.lst (bs.map V.bl))) (g2 : H b2 = some (.lst (bs.map V.bl))) (q : Q (.bl false) H) :
    rNeD K (.ref a) (.ref b) H Q := by
  refine ⟨_, _, .lst (SqL.of h) (.cons (.lst (SqL.of h1) (bools_dp bs)) (.cons (.lst (SqL.of h2) (bools_dp bs)) .nil)), .lst (SqL.of g) (.cons (.lst (SqL.of g1) (bools_dp bs)) (.cons (.lst (SqL.of g2) (bools_dp bs)) .nil)), (bools2_shaped bs).1, (bools2_shaped bs).1, ?_⟩
  rw [(bools2_shaped bs).2]
  exact q
def flagsB (u : Nat) : List Bool := (List.range 33).map fun k => decide (k = u)
def basesB (u : Nat) : List Bool := [decide (gOf u = 33), decide (gOf u = 34), decide (gOf u = 35), decide (gOf u = 36), decide (gOf u = 33), decide (gOf u = 34), decide (gOf u = 35), decide (gOf u = 36), false, false]
theorem flagsB_eq (u : Nat) : flagsOf u = (flagsB u).map V.bl := by
  unfold flagsOf flagsB
  rw [List.map_map]
  rfl
theorem basesB_eq (u : Nat) : basesOf u = (basesB u).map V.bl := rfl
theorem due_eq (u : Nat) (hu : u ≤ 36) : (List.replicate 2 ((List.range 4).map fun k : Nat => V.bl (decide ((k : Int) = (gOf u : Int) - 33)))).flatten ++ [V.bl false, V.bl false] = basesOf u := by
  have key : ∀ u : Fin 37, ((List.replicate 2 ((List.range 4).map fun k : Nat => (decide ((k : Int) = (gOf u.1 : Int) - 33)))).flatten ++ [false, false]) = basesB u.1 := by decide +kernel
  have h := key ⟨u, by omega⟩
  rw [basesB_eq, ← h]
  rfl
theorem menu_mk {H : Hp} {r p1 p2 p3 p4 p5 p6 p7 m : Addr} (hp : Pot H r) (n1 : H p1 = none) (n2 : (L2.upd H p1 (.tup [.int 1, .int 2])) p2 = none) (n3 : (L2.upd (L2.upd H p1 (.tup [.int 1, .int 2])) p2 (.lst [.str "a"])) p3 = none) (n4 : (L2.upd (L2.upd (L2.upd (L2.upd H p1 (.tup [.int 1, .int 2])) p2 (.lst [.str "a"])) p3 (.dK [])) p3 (.dK (L2.mergeK [] [(.inr "b", .int 3)]))) p4 = none) (n5 : (L2.upd (L2.upd (L2.upd (L2.upd (L2.upd H p1 (.tup [.int 1, .int 2])) p2 (.lst [.str "a"])) p3 (.dK [])) p3 (.dK (L2.mergeK [] [(.inr "b", .int 3)]))) p4 (.tup [.str "x", .int 3])) p5 = none) (n6 : (L2.upd (L2.upd (L2.upd (L2.upd (L2.upd (L2.upd H p1 (.tup [.int 1, .int 2])) p2 (.lst [.str "a"])) p3 (.dK [])) p3 (.dK (L2.mergeK [] [(.inr "b", .int 3)]))) p4 (.tup [.str "x", .int 3])) p5 (.tup [.str "x", .int 1])) p6 = none) (n7 : (L2.upd (L2.upd (L2.upd (L2.upd (L2.upd (L2.upd (L2.upd H p1 (.tup [.int 1, .int 2])) p2 (.lst [.str "a"])) p3 (.dK [])) p3 (.dK (L2.mergeK [] [(.inr "b", .int 3)]))) p4 (.tup [.str "x", .int 3])) p5 (.tup [.str "x", .int 1])) p6 (.tup [.str "x", .int 2])) p7 = none) (n8 : (L2.upd (L2.upd (L2.upd (L2.upd (L2.upd (L2.upd (L2.upd (L2.upd H p1 (.tup [.int 1, .int 2])) p2 (.lst [.str "a"])) p3 (.dK [])) p3 (.dK (L2.mergeK [] [(.inr "b", .int 3)]))) p4 (.tup [.str "x", .int 3])) p5 (.tup [.str "x", .int 1])) p6 (.tup [.str "x", .int 2])) p7 (.lst [.ref p5, .ref p6])) m = none)
    (s2 : p2 ≠ sysModules) (s7 : p7 ≠ sysModules) : Same H (L2.upd (L2.upd (L2.upd (L2.upd (L2.upd (L2.upd (L2.upd (L2.upd (L2.upd H p1 (.tup [.int 1, .int 2])) p2 (.lst [.str "a"])) p3 (.dK [])) p3 (.dK (L2.mergeK [] [(.inr "b", .int 3)]))) p4 (.tup [.str "x", .int 3])) p5 (.tup [.str "x", .int 1])) p6 (.tup [.str "x", .int 2])) p7 (.lst [.ref p5, .ref p6])) m (.lst [V.non, .int 0, .int 1, .bl true, .str "", .str "near", .ref p1, .ref p2, .ref p3, .int (-(10 ^ (20 : Int).toNat)), .ref p4, .ref p7])) ∧ MenuAt (L2.upd (L2.upd (L2.upd (L2.upd (L2.upd (L2.upd (L2.upd (L2.upd (L2.upd H p1 (.tup [.int 1, .int 2])) p2 (.lst [.str "a"])) p3 (.dK [])) p3 (.dK (L2.mergeK [] [(.inr "b", .int 3)]))) p4 (.tup [.str "x", .int 3])) p5 (.tup [.str "x", .int 1])) p6 (.tup [.str "x", .int 2])) p7 (.lst [.ref p5, .ref p6])) m (.lst [V.non, .int 0, .int 1, .bl true, .str "", .str "near", .ref p1, .ref p2, .ref p3, .int (-(10 ^ (20 : Int).toNat)), .ref p4, .ref p7])) m r [V.non, .int 0, .int 1, .bl true, .str "", .str "near", .ref p1, .ref p2, .ref p3, .int (-(10 ^ (20 : Int).toNat)), .ref p4, .ref p7] := by
  obtain ⟨x, y, er, -⟩ := hp
  have S1 : Same H (L2.upd H p1 (.tup [.int 1, .int 2])) := My.Same.new n1
  have S2 : Same H (L2.upd (L2.upd H p1 (.tup [.int 1, .int 2])) p2 (.lst [.str "a"])) := My.Same.tr S1 (My.Same.new n2)
  have S3 : Same H (L2.upd (L2.upd (L2.upd (L2.upd H p1 (.tup [.int 1, .int 2])) p2 (.lst [.str "a"])) p3 (.dK [])) p3 (.dK (L2.mergeK [] [(.inr "b", .int 3)]))) := My.Same.at_ (L2.Same.free S2 n3) (My.Same.tr S2 (My.Same.new n3))
  have S4 : Same H (L2.upd (L2.upd (L2.upd (L2.upd (L2.upd H p1 (.tup [.int 1, .int 2])) p2 (.lst [.str "a"])) p3 (.dK [])) p3 (.dK (L2.mergeK [] [(.inr "b", .int 3)]))) p4 (.tup [.str "x", .int 3])) := My.Same.tr S3 (My.Same.new n4)
  have S5 : Same H (L2.upd (L2.upd (L2.upd (L2.upd (L2.upd (L2.upd H p1 (.tup [.int 1, .int 2])) p2 (.lst [.str "a"])) p3 (.dK [])) p3 (.dK (L2.mergeK [] [(.inr "b", .int 3)]))) p4 (.tup [.str "x", .int 3])) p5 (.tup [.str "x", .int 1])) := My.Same.tr S4 (My.Same.new n5)
  have S6 : Same H (L2.upd (L2.upd (L2.upd (L2.upd (L2.upd (L2.upd (L2.upd H p1 (.tup [.int 1, .int 2])) p2 (.lst [.str "a"])) p3 (.dK [])) p3 (.dK (L2.mergeK [] [(.inr "b", .int 3)]))) p4 (.tup [.str "x", .int 3])) p5 (.tup [.str "x", .int 1])) p6 (.tup [.str "x", .int 2])) := My.Same.tr S5 (My.Same.new n6)
  have S7 : Same H (L2.upd (L2.upd (L2.upd (L2.upd (L2.upd (L2.upd (L2.upd (L2.upd H p1 (.tup [.int 1, .int 2])) p2 (.lst [.str "a"])) p3 (.dK [])) p3 (.dK (L2.mergeK [] [(.inr "b", .int 3)]))) p4 (.tup [.str "x", .int 3])) p5 (.tup [.str "x", .int 1])) p6 (.tup [.str "x", .int 2])) p7 (.lst [.ref p5, .ref p6])) := My.Same.tr S6 (My.Same.new n7)
  have S8 : Same H (L2.upd (L2.upd (L2.upd (L2.upd (L2.upd (L2.upd (L2.upd (L2.upd (L2.upd H p1 (.tup [.int 1, .int 2])) p2 (.lst [.str "a"])) p3 (.dK [])) p3 (.dK (L2.mergeK [] [(.inr "b", .int 3)]))) p4 (.tup [.str "x", .int 3])) p5 (.tup [.str "x", .int 1])) p6 (.tup [.str "x", .int 2])) p7 (.lst [.ref p5, .ref p6])) m (.lst [V.non, .int 0, .int 1, .bl true, .str "", .str "near", .ref p1, .ref p2, .ref p3, .int (-(10 ^ (20 : Int).toNat)), .ref p4, .ref p7])) := My.Same.tr S7 (My.Same.new n8)
  have a1 : p1 ≠ r := (ne_of_none er n1).symm
  have a2 : p2 ≠ r := (ne_of_none (S1 _ _ er) n2).symm
  have a3 : p3 ≠ r := (ne_of_none (S2 _ _ er) n3).symm
  have a4 : p4 ≠ r := (ne_of_none (S3 _ _ er) n4).symm
  have a5 : p5 ≠ r := (ne_of_none (S4 _ _ er) n5).symm
  have a6 : p6 ≠ r := (ne_of_none (S5 _ _ er) n6).symm
  have a7 : p7 ≠ r := (ne_of_none (S6 _ _ er) n7).symm
  have a8 : m ≠ r := (ne_of_none (S7 _ _ er) n8).symm
  have d12 : p1 ≠ p2 := ne_of_none upd_same n2
  have d13 : p1 ≠ p3 := ne_of_none ((upd_ne d12).trans upd_same) n3
  have d23 : p2 ≠ p3 := ne_of_none upd_same n3
  have g1 : (L2.upd (L2.upd (L2.upd (L2.upd H p1 (.tup [.int 1, .int 2])) p2 (.lst [.str "a"])) p3 (.dK [])) p3 (.dK (L2.mergeK [] [(.inr "b", .int 3)]))) p1 = some (.tup [.int 1, .int 2]) := by rw [upd_ne d13, upd_ne d13, upd_ne d12]; exact upd_same
  have g2 : (L2.upd (L2.upd (L2.upd (L2.upd H p1 (.tup [.int 1, .int 2])) p2 (.lst [.str "a"])) p3 (.dK [])) p3 (.dK (L2.mergeK [] [(.inr "b", .int 3)]))) p2 = some (.lst [.str "a"]) := by rw [upd_ne d23, upd_ne d23]; exact upd_same
  have T4 := My.Same.new (o := .tup [.str "x", .int 3]) n4
  have T5 := My.Same.new (o := .tup [.str "x", .int 1]) n5
  have T6 := My.Same.new (o := .tup [.str "x", .int 2]) n6
  have T7 := My.Same.new (o := .lst [.ref p5, .ref p6]) n7
  have T8 := My.Same.new (o := .lst [V.non, .int 0, .int 1, .bl true, .str "", .str "near", .ref p1, .ref p2, .ref p3, .int (-(10 ^ (20 : Int).toNat)), .ref p4, .ref p7]) n8
  have T78 := My.Same.tr T7 T8
  have T68 := My.Same.tr T6 T78
  have T58 := My.Same.tr T5 T68
  have T48 := My.Same.tr T4 T58
  exact ⟨S8, p1, p2, p3, p4, p5, p6, p7, rfl, ⟨T48 _ _ g1, a1⟩, ⟨T48 _ _ g2, a2⟩, s2, ⟨T48 _ _ upd_same, a3⟩, ⟨T58 _ _ upd_same, a4⟩, ⟨T68 _ _ upd_same, a5⟩, ⟨T78 _ _ upd_same, a6⟩, ⟨T8 _ _ upd_same, a7⟩, s7, upd_same, a8⟩
theorem But.free {r p : Addr} {o : HO} {H H1 : Hp} (b : But r H H1) (n : H p = none) : But r H (L2.upd H1 p o) := fun c u e h => by rw [upd_ne (ne_of_none e n)]; exact b c u e h
theorem Pot.put {H : Hp} {r p : Addr} {o : HO} (h : Pot H r) (n : r ≠ p) : Pot (L2.upd H p o) r := by
  obtain ⟨x, y, e, h⟩ := h
  exact ⟨x, y, by rw [upd_ne n]; exact e, h⟩
theorem cl_all {cl C' : List Addr} {C : Addr} (t : Nat) (ht : t ≤ 32) (h : cl[t]? = some C) : (cl ++ C')[t]? = some C := by
  rw [List.getElem?_append_left (List.getElem?_eq_some_iff.mp h).1]
  exact h
def spRight : Sp := fun vs H Q _ => ∃ (r : Addr) (t : Nat), vs = [.ref r, .int t] ∧ t ≤ 32 ∧ Pot H r ∧ ∀ H', But r H H' → Pot H' r → Q (.bl true) H'
include M
theorem c__law_one_right : Dn P w K mg base "_law_one_right" 6 ["_law_rng_here", "_law_at"] [] spRight := by
  have c__law_choice := c__law_choice (P := P) (w := w) (base := base) M
  have c__law_made := c__law_made (P := P) (w := w) (base := base) M
  have c__law_named := c__law_named (P := P) (w := w) (base := base) M
  have c__law_kept := c__law_kept (P := P) (w := w) (base := base) M
  have c__law_flags := c__law_flags (P := P) (w := w) (base := base) M
  have c__law_bases := c__law_bases (P := P) (w := w) (base := base) M
  refine dnN M.f__law_one_right (fun F => ?_) (fun _ _ _ _ _ _ us hl => match us, hl with | [_, _], _ => rfl)
  refine fnG_body F sc__law_one_right (fun vs H Q E h => ?_) (fun cdv A outer s H vs Q E hr h => ?_)
  · obtain ⟨r, t, rfl, _⟩ := h
    rfl
  · obtain ⟨r, t, rfl, ht, hp, q⟩ := h
    refine ⟨_, (pss_cons (ps_set (i := 2) sc__law_one_right.nd rfl (.inr rfl) (pe_lstN (pa_cons pe_non (pa_cons pe_int (pa_cons pe_int (pa_cons pe_bl (pa_cons pe_str (pa_cons pe_str (pa_cons (pe_tup (pa_cons pe_int (pa_cons pe_int pa_nil))) (pa_cons (pe_lstN (pa_cons pe_str pa_nil)) (pa_cons (pe_disp (pps_cons pe_str pe_int pps_nil) rfl rfl (by simp) (by decide)) (pa_cons (pe_un un_neg (pe_op op_pow pe_int pe_int)) (pa_cons (pe_tup (pa_cons pe_str (pa_cons pe_int pa_nil))) (pa_cons (pe_lstN (pa_cons (pe_tup (pa_cons pe_str (pa_cons pe_int pa_nil))) (pa_cons (pe_tup (pa_cons pe_str (pa_cons pe_int pa_nil))) pa_nil))) pa_nil)))))))))))))) (pss_cons (ps_setLc (i := 3) (own := [("_law_turn", 10)]) (g := gName 10) (tt := tYes) (by rfl) sc__law_one_right.nd rfl rfl (sw_true rfl rfl rfl (by decide +kernel)) (pi_range1 (by rfl) M.b_range (pa_cons pe_int pa_nil)) (blkOk_by (own := [("_law_turn", 10)]) (N := N__law_one_right) (sc := defScope st__law_one_right) (by decide +kernel)) (fun _ _ _ _ _ => pg_name (i := 10) sc__law_one_right.nd rfl (by first | exact Or.inl rfl | exact Or.inr rfl)) (fun _ _ _ _ _ => pts_nil) (fun _ _ _ _ _ => (pe_callD c__law_choice (hr.mono (by decide)) rfl (pa_cons (pv 0) (pa_cons (pv 2) pa_nil))))) (pss_cons (ps_setLc (i := 4) (own := [("_law_turn", 10)]) (g := gName 10) (tt := tYes) (by rfl) sc__law_one_right.nd rfl rfl (sw_true rfl rfl rfl (by decide +kernel)) (pi_range1 (by rfl) M.b_range (pa_cons pe_int pa_nil)) (blkOk_by (own := [("_law_turn", 10)]) (N := N__law_one_right) (sc := defScope st__law_one_right) (by decide +kernel)) (fun _ _ _ _ _ => pg_name (i := 10) sc__law_one_right.nd rfl (by first | exact Or.inl rfl | exact Or.inr rfl)) (fun _ _ _ _ _ => pts_nil) (fun _ _ _ _ _ => (pe_callD c__law_choice (hr.mono (by decide)) rfl (pa_cons (pv 0) (pa_cons (pv 2) pa_nil))))) (pss_cons (ps_par (i := 5) (j := 6) (by rfl) sc__law_one_right.nd rfl rfl (by decide) rfl rfl (pa_cons (pe_callD c__law_made (hr.mono (by decide)) rfl (pa_cons (pv 1) (pa_cons (pv 3) pa_nil))) (pa_cons (pe_callD c__law_named (hr.mono (by decide)) rfl (pa_cons (pv 1) (pa_cons (pv 4) pa_nil))) pa_nil)) (by rfl)) (pss_cons (ps_set (i := 7) sc__law_one_right.nd rfl (.inl rfl) (pe_ifExp (pt_cmpR op_in_seq (pv 1) (pe_tup (pa_cons pe_int (pa_cons pe_int (pa_cons pe_int (pa_cons pe_int (pa_cons pe_int pa_nil)))))) (by first | exact nomark _ | rfl)) pe_int (pe_callTy call_int1 (by rfl) M.b_int (by decide +kernel) (pa_cons (pe_cmpR op_ne (pv 1) pe_int (nomark _)) pa_nil)))) (pss_cons (ps_if (pt_cmpR op_ne (pe_callB (call_reprQ hr) (by rfl) M.b_repr (by decide +kernel) (pa_cons (pe_lstN (pa_cons (pe_callD c__law_kept (hr.mono (by decide)) rfl (pa_cons (pv 1) (pa_cons (pv 5) pa_nil))) (pa_cons (pe_callD c__law_kept (hr.mono (by decide)) rfl (pa_cons (pv 1) (pa_cons (pv 6) pa_nil))) pa_nil))) pa_nil)) (pe_callB (call_reprQ hr) (by rfl) M.b_repr (by decide +kernel) (pa_cons (pe_lstN (pa_cons (pe_slice sl_listN (pv 3) po_none (po_some (pv 7))) (pa_cons (pe_slice sl_listN (pv 4) po_none (po_some (pv 7))) pa_nil))) pa_nil)) (nomark _)) (pss_one (ps_ret pe_bl)) pss_nil) (pss_cons (ps_set (i := 8) sc__law_one_right.nd rfl (.inr rfl) (pe_ifExp (pt_cmpR op_lt (pv 1) pe_int (nomark _)) pe_int (pe_ifExp (pt_cmpR op_lt (pv 1) pe_int (nomark _)) pe_int (pe_ifExp (pt_cmpR op_lt (pv 1) pe_int (nomark _)) pe_int pe_int)))) (pss_cons (ps_set (i := 9) sc__law_one_right.nd rfl (.inl rfl) (pe_op op_cat (pe_op op_rep (pe_lc (own := [("_law_k", 11)]) (g := gName 11) (tt := tYes) (by rfl) sc__law_one_right.nd (pi_range1 (by rfl) M.b_range (pa_cons pe_int pa_nil)) (blkOk_by (own := [("_law_k", 11)]) (N := N__law_one_right) (sc := defScope st__law_one_right) (by decide +kernel)) (fun _ _ _ _ _ => pg_name (i := 11) sc__law_one_right.nd rfl (by first | exact Or.inl rfl | exact Or.inr rfl)) (fun _ _ _ _ _ => pts_nil) (fun _ _ _ _ _ => (pe_cmpR op_eq (pv 11) (pv 8) (nomark _)))) pe_int) (pe_lstN (pa_cons pe_bl (pa_cons pe_bl pa_nil))))) (pss_cons (ps_if (pt_cmpR (op_neD hr.units) (pe_lstN (pa_cons (pe_callD c__law_bases (hr.mono (by decide)) rfl (pa_cons (pv 5) pa_nil)) (pa_cons (pe_callD c__law_bases (hr.mono (by decide)) rfl (pa_cons (pv 6) pa_nil)) pa_nil))) (pe_lstN (pa_cons (pv 9) (pa_cons (pv 9) pa_nil))) (nomark _)) (pss_one (ps_ret pe_bl)) pss_nil) (pss_one (ps_ret (pe_chain (op_eqD hr.units) (op_eqD hr.units) (pe_callD c__law_flags (hr.mono (by decide)) rfl (pa_cons (pv 5) pa_nil)) (pe_callD c__law_flags (hr.mono (by decide)) rfl (pa_cons (pv 6) pa_nil)) (pe_lc (own := [("_law_k", 11)]) (g := gName 11) (tt := tYes) (by rfl) sc__law_one_right.nd (pi_range1 (by rfl) M.b_range (pa_cons pe_int pa_nil)) (blkOk_by (own := [("_law_k", 11)]) (N := N__law_one_right) (sc := defScope st__law_one_right) (by decide +kernel)) (fun _ _ _ _ _ => pg_name (i := 11) sc__law_one_right.nd rfl (by first | exact Or.inl rfl | exact Or.inr rfl)) (fun _ _ _ _ _ => pts_nil) (fun _ _ _ _ _ => (pe_cmpR op_eq (pv 11) (pv 1) (nomark _)))))))))))))))), ?_⟩
    refine st_eq (σ := [some _, some _, none, none, none, none, none, none, none, none, none, none]) rfl ?_
    walk_at "rd"
    rename_i p1 n1 p2 n2 s2 p3
    intro n3
    refine s_pairs1 ⟨upd_same, [(.inr "b", .int 3)], rfl, by decide, ?_⟩
    walk_at "rd"
    refine ⟨_, rfl, ?_⟩
    walk_at "rd"
    rename_i p4 n4 p5 n5 p6 n6 p7 n7
    intro s7
    walk_at "rd"
    rename_i m n8
    intro s8
    obtain ⟨sH, hM⟩ := menu_mk hp n1 n2 n3 n4 n5 n6 n7 n8 s2 s7
    have hp0 := hp.same sH
    generalize L2.upd _ m _ = BH at sH hM hp0 ⊢
    generalize [V.non, _, _, _, _, _, _, _, _, _, _, _] = ms at hM
    walk_at "rd"
    refine ⟨by decide, by decide, fun D nD => lc_range (lo := 0) (n := 2) (fun j H3 => But r BH H3 ∧ Pot H3 r ∧ ∃ acc, H3 D = some (.lst acc) ∧ acc.length = j ∧ ∀ v ∈ acc, v ∈ ms) ?_ ?_ ?_⟩
    · exact ⟨But.new nD, hp0.up nD, _, upd_same, rfl, by simp⟩
    · rintro j H3 hj ⟨b3, p3', acc, hD, la, ha⟩
      have m3 := (hM.but b3).at_
      walk_at "rd"
      refine ⟨r, m, _, rfl, m3.1, m3.2.1, by rw [m3.2.2]; decide, by rw [m3.2.2]; decide, p3', fun v H4 hv b4 p4' => ?_⟩
      have dr : D ≠ r := hp0.ne nD
      refine ⟨acc, b4 _ _ hD dr, by rw [sizeLine_eq]; omega, (b3.trans b4).free nD, p4'.put dr.symm, _, upd_same, by simp [la], fun z hz => ?_⟩
      rcases List.mem_append.mp hz with hz | hz
      · exact ha z hz
      · rw [List.mem_singleton.mp hz]
        exact hv
    · rintro H3 ⟨b3, p3', acc, hD, la, ha⟩
      obtain ⟨v0, v1, rfl⟩ : ∃ v0 v1, acc = [v0, v1] := by
        match acc, la with
        | [a, b], _ => exact ⟨a, b, rfl⟩
      have dr : D ≠ r := hp0.ne nD
      have nD0 := nD
      clear nD
      walk_at "rd"
      refine ⟨by decide, by decide, fun D2 nD2 => lc_range (lo := 0) (n := 2) (fun j H4 => But r H3 H4 ∧ Pot H4 r ∧ ∃ acc, H4 D2 = some (.lst acc) ∧ acc.length = j ∧ ∀ v ∈ acc, v ∈ ms) ?_ ?_ ?_⟩
      · exact ⟨But.new nD2, p3'.up nD2, _, upd_same, rfl, by simp⟩
      · rintro j H4 hj ⟨b4, p4', acc, hD2, la, ha2⟩
        have m4 := (hM.but (b3.trans b4)).at_
        walk_at "rd"
        refine ⟨r, m, _, rfl, m4.1, m4.2.1, by rw [m4.2.2]; decide, by rw [m4.2.2]; decide, p4', fun v H5 hv b5 p5' => ?_⟩
        have dr2 : D2 ≠ r := p3'.ne nD2
        refine ⟨acc, b5 _ _ hD2 dr2, by rw [sizeLine_eq]; omega, (b4.trans b5).free nD2, p5'.put dr2.symm, _, upd_same, by simp [la], fun z hz => ?_⟩
        rcases List.mem_append.mp hz with hz | hz
        · exact ha2 z hz
        · rw [List.mem_singleton.mp hz]
          exact hv
      · rintro H4 ⟨b4, p4', acc, hD2, la, ha2⟩
        obtain ⟨w0, w1, rfl⟩ : ∃ v0 v1, acc = [v0, v1] := by
          match acc, la with
          | [a, b], _ => exact ⟨a, b, rfl⟩
        have hD4 := b4 _ _ hD dr
        have hMn := hM.but (b3.trans b4)
        have mz := hMn.all
        have bt := b3.trans b4
        clear hM
        walk_at "rd"
        refine ⟨t, D, v0, v1, rfl, by omega, by omega, hD4, fun a1 H5 s5 e5 => ?_⟩
        walk_at "rd"
        refine ⟨t, D2, w0, w1, rfl, by omega, by omega, s5 _ _ hD2, fun a2 H6 s6 e6 => ?_⟩
        walk_at "rd"
        refine ⟨_, _, rfl, .inr (SqT.of upd_same), rfl, rfl, _, rfl, ?_⟩
        have wt := width_t ht
        refine ite_cut (.int ((flds t).length : Int)) (fun hb k' hk => ?_) (fun hb k' hk => ?_) ?_
        · have h2 : inV (.int (t : Int)) (([12, 25, 27, 28, 32] : List Int).map V.int) = true := hb
          rw [inV_ints] at h2
          rw [if_pos (of_decide_eq_true h2)] at wt
          rw [← wt] at hk
          exact hk
        · have h2 : inV (.int (t : Int)) (([12, 25, 27, 28, 32] : List Int).map V.int) = false := hb
          rw [inV_ints] at h2
          rw [if_neg (of_decide_eq_false h2)] at wt
          walk_at "rd"
          refine .inr ⟨_, rfl, ?_⟩
          by_cases h30 : t = 30
          · rw [if_pos h30] at wt
            rw [← wt] at hk
            rw [decide_eq_true (show (t : Int) = 30 by omega)]
            exact hk
          · rw [if_neg h30] at wt
            rw [← wt] at hk
            rw [decide_eq_false (show ¬ (t : Int) = 30 by omega)]
            exact hk
        rename_i pw nw
        obtain ⟨C1, gc1, i1⟩ := e5.is
        obtain ⟨C2, gc2, i2⟩ := e6.is
        have gb1 := (cl_all t ht (C' := [C_EachError, C_MissingError, C_StateError, C_LimitError]) gc1)
        have gb2 := (cl_all t ht (C' := [C_EachError, C_MissingError, C_StateError, C_LimitError]) gc2)
        have sw := My.Same.new (o := .tup [.int 12, .int 25, .int 27, .int 28, .int 32]) nw
        generalize L2.upd H6 pw _ = H7 at sw ⊢
        walk_at "rd"
        refine ⟨t, a1, v0, v1, rfl, ht, (e5.same s6).same sw, fun k1 H8 s8 hk1 nk1 => ?_⟩
        walk_at "rd"
        refine ⟨t, a2, w0, w1, rfl, ht, (e6.same sw).same s8, fun k2 H9 s9 hk2 nk2 => ?_⟩
        walk_at "rd"
        rename_i k3 nk3
        intro sk3
        have s49 : Same H4 H9 := My.Same.tr (My.Same.tr (My.Same.tr (My.Same.tr s5 s6) sw) s8) s9
        have s69 : Same H6 H9 := My.Same.tr (My.Same.tr sw s8) s9
        have mv : ∀ v ∈ keptOf t v0 v1, Menu H9 v := fun v hv => (mz v (ha v (kept_mem hv))).same s49
        have mw : ∀ v ∈ keptOf t w0 w1, Menu H9 v := fun v hv => (mz v (ha2 v (kept_mem hv))).same s49
        obtain ⟨ds, hds, lds, gds⟩ := dq_all mv
        obtain ⟨es, hes, les, ges⟩ := dq_all mw
        have gr := good_row gds ges (by rw [lds]; exact kept_len _ _ _) (by rw [les]; exact kept_len _ _ _)
        have sn := My.Same.new (o := .lst [.ref k1, .ref k2]) nk3
        have q1 := s9 _ _ hk1
        refine ⟨_, _, rfl, .lst upd_same sk3 (.cons (.lst (sn _ _ q1) nk1 (hds.same sn)) (.cons (.lst (sn _ _ hk2) nk2 (hes.same sn)) .nil)), gr.1, gr.2.1, gr.2.2, ?_⟩
        generalize L2.upd H9 k3 _ = H10 at sn ⊢
        have s4a := My.Same.tr s49 sn
        have s6a := My.Same.tr s69 sn
        walk_at "rd"
        refine s_slW rfl rfl (s4a _ _ hD4) (fun j1 nj1 sj1 => ?_)
        rw [cut_kept ht]
        have sj := My.Same.new (o := .lst (keptOf t v0 v1)) nj1
        walk_at "rd"
        refine s_slW rfl rfl (sj _ _ (s4a _ _ hD2)) (fun j2 nj2 sj2 => ?_)
        rw [cut_kept ht]
        have sl := My.Same.new (o := .lst (keptOf t w0 w1)) nj2
        walk_at "rd"
        rename_i j3 nj3
        intro sj3
        have sm := My.Same.new (o := .lst [.ref j1, .ref j2]) nj3
        refine ⟨_, _, rfl, .lst upd_same sj3 (.cons (.lst (sm _ _ (sl _ _ upd_same)) sj1 (DqAll.same (My.Same.tr (My.Same.tr (My.Same.tr sn sj) sl) sm) hds)) (.cons (.lst (sm _ _ upd_same) sj2 (DqAll.same (My.Same.tr (My.Same.tr (My.Same.tr sn sj) sl) sm) hes)) .nil)), gr.1, gr.2.1, gr.2.2, ?_⟩
        have s4b := My.Same.tr (My.Same.tr (My.Same.tr s4a sj) sl) sm
        have s6b := My.Same.tr (My.Same.tr (My.Same.tr s6a sj) sl) sm
        clear sj sl sm
        generalize L2.upd (L2.upd (L2.upd H10 j1 _) j2 _) j3 _ = H11 at s4b s6b ⊢
        walk_at "rd"
        refine ite_cut (.int ((gOf t : Int) - 33)) (fun hb k' hk => ?_) (fun hb k' hk => ?_) ?_
        · have h21 : t < 21 := by
            have := of_decide_eq_true hb
            omega
          rw [show (gOf t : Int) - 33 = 0 by unfold gOf; rw [if_pos h21]; rfl] at hk
          exact hk
        · have h21 : ¬ t < 21 := by
            have := of_decide_eq_false hb
            omega
          walk_at "rd"
          refine ite_d (fun hc => ?_) (fun hc => ?_)
          · rw [show (gOf t : Int) - 33 = 1 by unfold gOf; rw [if_neg h21, if_pos (by omega)]; rfl] at hk
            exact hk
          · walk_at "rd"
            refine ite_d (fun hc2 => ?_) (fun hc2 => ?_)
            · rw [show (gOf t : Int) - 33 = 2 by unfold gOf; rw [if_neg h21, if_neg (by omega), if_pos (by omega)]; rfl] at hk
              exact hk
            · rw [show (gOf t : Int) - 33 = 3 by unfold gOf; rw [if_neg h21, if_neg (by omega), if_neg (by omega), if_pos (by omega)]; rfl] at hk
              exact hk
        walk_at "rd"
        refine ⟨by decide, by decide, fun D3 nD3 => lc_range (lo := 0) (n := 4) (fun j H => Same H11 H ∧ H D3 = some (.lst ((List.range j).map fun k : Nat => V.bl (decide ((k : Int) = (gOf t : Int) - 33))))) ?_ ?_ ?_⟩
        · exact ⟨My.Same.new nD3, upd_same⟩
        · rintro j H12 hj ⟨s12, hD3⟩
          walk_at "rd"
          refine ⟨_, hD3, ?_, My.Same.at_ nD3 s12, ?_⟩
          · rw [List.length_map, List.length_range, sizeLine_eq]
            omega
          · rw [upd_same, List.range_succ, List.map_append, Int.zero_add]
            rfl
        · rintro H12 ⟨s12, hD3⟩
          walk_at "rd"
          refine ⟨_, _, _, rfl, rfl, hD3, by decide, by decide, by rw [List.length_map, List.length_range, sizeLine_eq]; decide, fun g1 ng1 => ?_⟩
          have sg1 := My.Same.new (o := .lst (List.replicate (2 : Int).toNat ((List.range 4).map fun k : Nat => V.bl (decide ((k : Int) = (gOf t : Int) - 33)))).flatten) ng1
          walk_at "rd"
          rename_i g2 ng2
          intro sg2
          have sg3 := My.Same.new (o := .lst [.bl false, .bl false]) ng2
          have due : (List.replicate (2 : Int).toNat ((List.range 4).map fun k : Nat => V.bl (decide ((k : Int) = (gOf t : Int) - 33)))).flatten ++ [V.bl false, V.bl false] = (basesB t).map V.bl := (due_eq t (by omega)).trans (basesB_eq t)
          refine ⟨_, _, _, _, rfl, rfl, sg3 _ _ upd_same, upd_same, by rw [← List.length_append, due, List.length_map, sizeLine_eq]; simp [basesB], fun g3 ng3 => ?_⟩
          rw [due]
          have sg4 := My.Same.new (o := .lst ((basesB t).map V.bl)) ng3
          have s6c := My.Same.tr s6b (My.Same.tr s12 (My.Same.tr sg1 (My.Same.tr sg3 sg4)))
          have s4c := My.Same.tr s4b (My.Same.tr s12 (My.Same.tr sg1 (My.Same.tr sg3 sg4)))
          have hg3 : (L2.upd (L2.upd (L2.upd H12 g1 (.lst (List.replicate (2 : Int).toNat ((List.range 4).map fun k : Nat => V.bl (decide ((k : Int) = (gOf t : Int) - 33)))).flatten)) g2 (.lst [.bl false, .bl false])) g3 (.lst ((basesB t).map V.bl))) g3 = some (.lst ((basesB t).map V.bl)) := upd_same
          clear sg1 sg3 sg4
          generalize L2.upd (L2.upd (L2.upd H12 g1 _) g2 _) g3 _ = H13 at s4c s6c hg3 ⊢
          walk_at "rd"
          refine ⟨a1, C1, t, rfl, gb1, (i1.same s6).same s6c, fun b1 H14 s14 hb1 => ?_⟩
          rw [basesB_eq] at hb1
          walk_at "rd"
          refine ⟨a2, C2, t, rfl, gb2, (i2.same s6c).same s14, fun b2 H15 s15 hb2 => ?_⟩
          rw [basesB_eq] at hb2
          walk_at "rd"
          rename_i b3 nb3
          intro sb3
          have sb4 := My.Same.new (o := .lst [.ref b1, .ref b2]) nb3
          walk_at "rd"
          rename_i b5 nb5
          intro sb5
          have sb6 := My.Same.new (o := .lst [.ref g3, .ref g3]) nb5
          have hgg := sb6 _ _ (sb4 _ _ (s15 _ _ (s14 _ _ hg3)))
          refine s_neBs (basesB t) (sb6 _ _ upd_same) upd_same (sb6 _ _ (sb4 _ _ (s15 _ _ hb1))) (sb6 _ _ (sb4 _ _ hb2)) hgg hgg ?_
          have s6d := My.Same.tr s6c (My.Same.tr s14 (My.Same.tr s15 (My.Same.tr sb4 sb6)))
          have s4d := My.Same.tr s4c (My.Same.tr s14 (My.Same.tr s15 (My.Same.tr sb4 sb6)))
          clear hgg sb4 sb6
          generalize L2.upd (L2.upd H15 b3 _) b5 _ = H16 at s6d s4d ⊢
          walk_at "rd"
          refine ⟨a1, C1, t, rfl, gb1, (i1.same s6).same s6d, fun f1 H17 s17 hf1 => ?_⟩
          rw [flagsB_eq] at hf1
          walk_at "rd"
          refine ⟨a2, C2, t, rfl, gb2, (i2.same s6d).same s17, fun f2 H18 s18 hf2 => ?_⟩
          rw [flagsB_eq] at hf2
          walk_at "rd"
          refine s_eqBs (flagsB t) (s18 _ _ hf1) hf2 ⟨_, rfl, ?_⟩
          walk_at "rd"
          refine ⟨by decide, by decide, fun D4 nD4 => lc_range (lo := 0) (n := 33) (fun j H => Same H18 H ∧ H D4 = some (.lst ((List.range j).map fun k : Nat => V.bl (decide (k = t))))) ?_ ?_ ?_⟩
          · exact ⟨My.Same.new nD4, upd_same⟩
          · rintro j H19 hj ⟨s19, hD4'⟩
            walk_at "rd"
            refine ⟨_, hD4', ?_, My.Same.at_ nD4 s19, ?_⟩
            · rw [List.length_map, List.length_range, sizeLine_eq]
              omega
            · rw [upd_same, List.range_succ, List.map_append, Int.zero_add]
              have e : decide ((j : Int) = (t : Int)) = decide (j = t) := by rw [decide_eq_decide]; omega
              rw [e]
              rfl
          · rintro H19 ⟨s19, hD4'⟩
            have hD5 : H19 D4 = some (.lst ((flagsB t).map V.bl)) := by
              rw [← flagsB_eq]
              exact hD4'
            refine s_eqBs (flagsB t) (s19 _ _ hf2) hD5 ?_
            have s4e := My.Same.tr s4d (My.Same.tr s17 (My.Same.tr s18 s19))
            exact q _ ((My.Same.but sH).trans (bt.trans (My.Same.but s4e))) (p4'.same s4e)
end
end My
end
section

open My L2 PySem
open My L2 PySem
local macro_rules | `(tactic| walk_at "as") => `(tactic| with_reducible assumption)
local macro_rules | `(tactic| walk_at "hp") => `(tactic| first
  | walk_at "as" | exact upd_same
  | (rw [upd_ne (by walk_at "ne")]; walk_at "hp")
  | (refine But.get (by walk_at "as") ?hp1 ?hp2; (case hp1 => walk_at "hp"); (case hp2 => walk_at "ne"))
  | (refine My.Same.get (by walk_at "as") ?hp1; (case hp1 => walk_at "hp")))
local macro_rules | `(tactic| walk_at "ne") => `(tactic| first
  | walk_at "as" | exact Ne.symm (by walk_at "as")
  | (refine' ne_of_none ?ne1 ?ne2; (case ne2 => walk_at "as"); (case ne1 => walk_at "hp"))
  | (refine' Ne.symm (ne_of_none ?ne1 ?ne2); (case ne2 => walk_at "as"); (case ne1 => walk_at "hp"))
  | exact ne_of (by walk_at "hp") (by walk_at "hp") (by intro z; cases z))
local macro_rules | `(tactic| walk_at "sd") => `(tactic| first
  | walk_at "as" | omega | decide | exact ⟨by omega, by omega⟩ | exact .inl ⟨by omega, by omega⟩ | exact .inr ⟨by omega, by omega⟩ | exact divp_wide (by walk_at "as") (by walk_at "as") | exact Sm.cmul (by walk_at "as") (by walk_at "as") | exact cmul_small (by omega) (by omega) (by omega) (by omega) | exact ⟨by omega, by decide⟩)
local macro_rules | `(tactic| walk_at "bt") => `(tactic| first
  | walk_at "as" | exact But.refl _ _ | exact Same.but (by walk_at "as")
  | (refine But.trans ?bt1 But.at; (case bt1 => walk_at "bt"))
  | (refine But.trans ?bt1 (But.new (by first | walk_at "as" | walk_at "hp")); (case bt1 => walk_at "bt"))
  | (refine But.trans ?bt1 (by walk_at "as"); (case bt1 => walk_at "bt"))
  | (refine But.trans ?bt1 (Same.but (by walk_at "as")); (case bt1 => walk_at "bt")))
local macro_rules | `(tactic| walk_at "sm") => `(tactic| first
  | walk_at "as" | exact My.Same.rfl' _
  | (refine' My.Same.at_ ?sm1 ?sm2; (case sm1 => walk_at "as"); (case sm2 => walk_at "sm"))
  | (refine' My.Same.tr ?sm1 (My.Same.new ?sm2); (case sm2 => walk_at "as"); (case sm1 => walk_at "sm"))
  | (refine' My.Same.tr ?sm1 ?sm2; (case sm2 => walk_at "as"); (case sm1 => walk_at "sm")))
local macro_rules | `(tactic| walk_at "sz") => `(tactic| first
  | assumption | exact lt_size (by rfl) | exact le_size (by rfl) | (rw [sizeLine_eq]; omega)
  | (rw [sizeLine_eq]; simp only [List.length_append, List.length_map, List.length_cons, List.length_nil]; omega))
local macro_rules | `(tactic| walk_at "few") => `(tactic| (repeat refine few_put ?_); exact few0)
local macro_rules | `(tactic| walk_at "rd1") => `(tactic| first
  | (with_reducible show tVar _ _ _ _); refine s_var rfl ?_
  | with_reducible refine s_c ?_ | with_reducible refine s_op ?_ | with_reducible refine s_un ?_
  | with_reducible refine s_cons ?_ | with_reducible refine s_nil ?_ | with_reducible refine s_cb ?_
  | with_reducible refine s_test ?_ | with_reducible refine s_B ?_ | with_reducible refine s_not ?_ | with_reducible refine s_and ?_ | with_reducible refine s_or ?_
  | with_reducible refine s_if ?_ | with_reducible refine s_notV ?_ | with_reducible refine s_andV ?_ | with_reducible refine s_orV ?_
  | with_reducible refine s_orT ?_ | with_reducible refine s_andT ?_ | with_reducible refine s_chain ?_
  | with_reducible refine s_isi_int ?_ | with_reducible refine s_isi_int_bool ?_ | with_reducible refine s_isi_str ?_
  | with_reducible refine iteT ?_ | with_reducible refine iteF ?_ | with_reducible refine iteNT ?_ | with_reducible refine iteNF ?_
  | with_reducible refine s_isN ?_ | with_reducible refine s_notN ?_
  | ((with_reducible refine' s_2setE ?g1 ?_); (case g1 => first | (dsimp only [List.set, L2.wipe, List.map, List.foldl]; done) | (dsimp only [List.set, L2.wipe, List.map, List.foldl]; rfl)))
  | with_reducible refine s_seq ?_ | with_reducible refine s_ifS ?_ | with_reducible refine s_asg ?_ | with_reducible refine s_ret ?_ | with_reducible refine s_drop ?_ | with_reducible refine s_next ?_
  | ((with_reducible refine' s_gnameE ?g1 ?_); (case g1 => first | (dsimp only [List.set, L2.wipe, List.map, List.foldl]; done) | (dsimp only [List.set, L2.wipe, List.map, List.foldl]; rfl)))
  | with_reducible refine s_gsub ?_ | with_reducible refine s_gcons ?_ | with_reducible refine s_gnil ?_
  | (with_reducible show gTup _ _ _ _ _ _ _); refine s_gtup (by walk_at "hp") rfl ?_
  | with_reducible refine s_eqI ?_ | with_reducible refine s_neI ?_ | with_reducible refine s_eqS ?_ | with_reducible refine s_neB ?_ | with_reducible refine s_eqB ?_ | with_reducible refine s_neSr ?_ | with_reducible refine s_neS ?_
  | with_reducible refine s_I0 ?_
  | (with_reducible show rI _ _ _ _ _ _); refine s_I (by walk_at "sd") ?_
  | (with_reducible show rIxL _ _ _ _ _); refine s_ixL (by walk_at "hp") rfl ?_
  | (with_reducible show rIxT _ _ _ _ _); refine s_ixT (by walk_at "hp") rfl ?_
  | (with_reducible show rSetL _ _ _ _ _); refine s_setL (by walk_at "hp") rfl ?_
  | with_reducible refine s_prop ?_
  | (with_reducible show _ ≤ sizeLine ∧ _); refine ⟨le_size (by rfl), ?_⟩
  | with_reducible refine ite_NN ?_ | with_reducible refine ite_IN ?_ | with_reducible refine ite_nNN ?_ | with_reducible refine ite_nIN ?_ | with_reducible refine ite_RN ?_ | with_reducible refine ite_nRN ?_
  | with_reducible refine s_sfld ?_
  | ((with_reducible refine' ⟨_, _, _, _, rfl, ?fp1, ?fp2, ?fp3, ?fp4, ?_⟩); (case fp1 => walk_at "hp"); (case fp2 => assumption); (case fp3 => assumption); (case fp4 => walk_at "few"))
  | with_reducible refine s_fldE ?_
  | ((with_reducible refine' ⟨_, _, _, _, _, rfl, ?fp1, ?fp2, ?fp3, ?fp4, ?_⟩); (case fp1 => walk_at "hp"); (case fp2 => assumption); (case fp3 => assumption); (case fp4 => rfl))
  | with_reducible refine s_bm ?_ | with_reducible refine s_bm0 ?_
  | ((with_reducible refine' s_tyL ?ty1 ?_); (case ty1 => walk_at "hp"))
  | ((with_reducible refine' s_append ?ap1 ?ap2 ?_); (case ap1 => walk_at "hp"); (case ap2 => walk_at "sz"))
  | ((with_reducible refine' s_extend ?ap1 ?ap2 ?ap3 ?_); (case ap1 => walk_at "hp"); (case ap2 => walk_at "hp"); (case ap3 => walk_at "sz"))
  | with_reducible refine s_for (fun _ _ => ?_) | with_reducible refine s_lc ?_ | with_reducible refine s_iList ?_ | with_reducible refine s_iTup ?_ | with_reducible refine s_iRng1 ?_ | with_reducible refine s_iRng2 ?_
  | with_reducible refine s_yes ?_ | with_reducible refine s_par ?_
  | with_reducible refine s_make ?_ | with_reducible refine s_meth ?_
  | with_reducible refine s_tup ?_ | with_reducible refine s_lst ?_ | with_reducible refine s_call ?_
  | with_reducible refine ⟨rfl, ?_⟩
  | with_reducible refine ⟨_, rfl, ?_⟩
  | ((with_reducible refine' ⟨_, _, rfl, ?sd1, ?_⟩); (case sd1 => walk_at "sd"))
  | with_reducible refine ⟨_, _, rfl, ?_⟩
  | with_reducible refine .inl ⟨_, rfl, ?_⟩
  | dsimp only [List.set]
  | walk_at "rdx"
  | (refine fun _ _ => ?_))
local macro_rules | `(tactic| walk_at "rd") => `(tactic| repeat (first
  | (with_reducible show tVar _ _ _ _); refine s_var rfl ?_
  | with_reducible refine s_c ?_ | with_reducible refine s_op ?_ | with_reducible refine s_un ?_
  | with_reducible refine s_cons ?_ | with_reducible refine s_nil ?_ | with_reducible refine s_cb ?_
  | with_reducible refine s_test ?_ | with_reducible refine s_B ?_ | with_reducible refine s_not ?_ | with_reducible refine s_and ?_ | with_reducible refine s_or ?_
  | with_reducible refine s_if ?_ | with_reducible refine s_notV ?_ | with_reducible refine s_andV ?_ | with_reducible refine s_orV ?_
  | with_reducible refine s_orT ?_ | with_reducible refine s_andT ?_ | with_reducible refine s_chain ?_
  | with_reducible refine s_isi_int ?_ | with_reducible refine s_isi_int_bool ?_ | with_reducible refine s_isi_str ?_
  | with_reducible refine iteT ?_ | with_reducible refine iteF ?_ | with_reducible refine iteNT ?_ | with_reducible refine iteNF ?_
  | with_reducible refine s_isN ?_ | with_reducible refine s_notN ?_
  | ((with_reducible refine' s_2setE ?g1 ?_); (case g1 => first | (dsimp only [List.set, L2.wipe, List.map, List.foldl]; done) | (dsimp only [List.set, L2.wipe, List.map, List.foldl]; rfl)))
  | with_reducible refine s_seq ?_ | with_reducible refine s_ifS ?_ | with_reducible refine s_asg ?_ | with_reducible refine s_ret ?_ | with_reducible refine s_drop ?_ | with_reducible refine s_next ?_
  | ((with_reducible refine' s_gnameE ?g1 ?_); (case g1 => first | (dsimp only [List.set, L2.wipe, List.map, List.foldl]; done) | (dsimp only [List.set, L2.wipe, List.map, List.foldl]; rfl)))
  | with_reducible refine s_gsub ?_ | with_reducible refine s_gcons ?_ | with_reducible refine s_gnil ?_
  | (with_reducible show gTup _ _ _ _ _ _ _); refine s_gtup (by walk_at "hp") rfl ?_
  | with_reducible refine s_eqI ?_ | with_reducible refine s_neI ?_ | with_reducible refine s_eqS ?_ | with_reducible refine s_neB ?_ | with_reducible refine s_eqB ?_ | with_reducible refine s_neSr ?_ | with_reducible refine s_neS ?_
  | with_reducible refine s_I0 ?_
  | (with_reducible show rI _ _ _ _ _ _); refine s_I (by walk_at "sd") ?_
  | (with_reducible show rIxL _ _ _ _ _); refine s_ixL (by walk_at "hp") rfl ?_
  | (with_reducible show rIxT _ _ _ _ _); refine s_ixT (by walk_at "hp") rfl ?_
  | (with_reducible show rSetL _ _ _ _ _); refine s_setL (by walk_at "hp") rfl ?_
  | with_reducible refine s_prop ?_
  | (with_reducible show _ ≤ sizeLine ∧ _); refine ⟨le_size (by rfl), ?_⟩
  | with_reducible refine ite_NN ?_ | with_reducible refine ite_IN ?_ | with_reducible refine ite_nNN ?_ | with_reducible refine ite_nIN ?_ | with_reducible refine ite_RN ?_ | with_reducible refine ite_nRN ?_
  | with_reducible refine s_sfld ?_
  | ((with_reducible refine' ⟨_, _, _, _, rfl, ?fp1, ?fp2, ?fp3, ?fp4, ?_⟩); (case fp1 => walk_at "hp"); (case fp2 => assumption); (case fp3 => assumption); (case fp4 => walk_at "few"))
  | with_reducible refine s_fldE ?_
  | ((with_reducible refine' ⟨_, _, _, _, _, rfl, ?fp1, ?fp2, ?fp3, ?fp4, ?_⟩); (case fp1 => walk_at "hp"); (case fp2 => assumption); (case fp3 => assumption); (case fp4 => rfl))
  | with_reducible refine s_bm ?_ | with_reducible refine s_bm0 ?_
  | ((with_reducible refine' s_tyL ?ty1 ?_); (case ty1 => walk_at "hp"))
  | ((with_reducible refine' s_append ?ap1 ?ap2 ?_); (case ap1 => walk_at "hp"); (case ap2 => walk_at "sz"))
  | ((with_reducible refine' s_extend ?ap1 ?ap2 ?ap3 ?_); (case ap1 => walk_at "hp"); (case ap2 => walk_at "hp"); (case ap3 => walk_at "sz"))
  | with_reducible refine s_for (fun _ _ => ?_) | with_reducible refine s_lc ?_ | with_reducible refine s_iList ?_ | with_reducible refine s_iTup ?_ | with_reducible refine s_iRng1 ?_ | with_reducible refine s_iRng2 ?_
  | with_reducible refine s_yes ?_ | with_reducible refine s_par ?_
  | with_reducible refine s_make ?_ | with_reducible refine s_meth ?_
  | with_reducible refine s_tup ?_ | with_reducible refine s_lst ?_ | with_reducible refine s_call ?_
  | with_reducible refine ⟨rfl, ?_⟩
  | with_reducible refine ⟨_, rfl, ?_⟩
  | ((with_reducible refine' ⟨_, _, rfl, ?sd1, ?_⟩); (case sd1 => walk_at "sd"))
  | with_reducible refine ⟨_, _, rfl, ?_⟩
  | with_reducible refine .inl ⟨_, rfl, ?_⟩
  | dsimp only [List.set]
  | walk_at "rdx"
  | (refine fun _ _ => ?_)))

namespace My
open PySem L2
section
variable {P : Program} {w : World} {K : PySem.W.Frag} {mg : Str → Option Value} {base : Heap} {C_InvalidName C_InvalidCount C_InvalidNumber C_InvalidMany C_InvalidRatio C_InvalidKinds C_InvalidLink C_InvalidEnd C_InvalidModel C_InvalidTotal C_InvalidPair C_InvalidRow C_InvalidPairs C_InvalidDatabase C_InvalidWay C_InvalidSizes C_InvalidTold C_InvalidText C_InvalidClaim C_InvalidCommand C_EmptyBy C_UnknownKind C_UnknownLink C_UnknownRow C_UnknownThing C_Apart C_Taken C_Empty C_NotLet C_Lacking C_NothingToUndo C_CommandFailed C_TooMany C_EachError C_MissingError C_StateError C_LimitError : Addr} (M : Md K mg C_InvalidName C_InvalidCount C_InvalidNumber C_InvalidMany C_InvalidRatio C_InvalidKinds C_InvalidLink C_InvalidEnd C_InvalidModel C_InvalidTotal C_InvalidPair C_InvalidRow C_InvalidPairs C_InvalidDatabase C_InvalidWay C_InvalidSizes C_InvalidTold C_InvalidText C_InvalidClaim C_InvalidCommand C_EmptyBy C_UnknownKind C_UnknownLink C_UnknownRow C_UnknownThing C_Apart C_Taken C_Empty C_NotLet C_Lacking C_NothingToUndo C_CommandFailed C_TooMany C_EachError C_MissingError C_StateError C_LimitError)
include M
local macro_rules | `(tactic| walk_at "rdx") => `(tactic| first | with_reducible refine s_ostG ?_ | with_reducible refine s_mkE ?_ | with_reducible refine s_mkEK ?_ | with_reducible refine s_xf ?_ | with_reducible refine s_lstN ?_)
local macro_rules | `(tactic| walk_at "cl") => `(tactic| repeat (first | walk_at "rd1" | (refine ite_d (fun h => absurd h (by decide)) (fun _ => ?_)) | (refine ite_d (fun _ => ?_) (fun h => absurd rfl h))))
omit M
theorem for_enum {K : PySem.W.Frag} {a : Addr} {xs : List V} {g : TG} {tb : TS} {D : Ends} {σ : L2.St} {H : Hp} (Pv : Nat → L2.St → Hp → Prop) (h0 : Pv 0 σ H) (hl : ∀ i σ H, i ≤ xs.length → Pv i σ H → SqL K H a xs)
    (hs : ∀ i x T σ H, xs[i]? = some x → H T = none → Pv i σ H → g (.ref T) σ (L2.upd H T (.tup [.int (i : Nat), x])) fun σ2 H2 => tb { D with nx := Pv (i + 1), ct := Pv (i + 1), bk := D.nx } σ2 H2) (hd : ∀ σ H, Pv xs.length σ H → D.nx σ H) :
    ∃ W : Nat → Nat → L2.St → Hp → Prop, (∃ m, W 0 m σ H) ∧ ∀ i m σ H, W i m σ H →
      ((Ite K a).stop i H ∧ D.nx σ H) ∨ ((Ite K a).go i H ∧ ∃ N : L2.St → Hp → Prop, (∀ σ' H', N σ' H' → ∃ m', m' < m ∧ W (i + 1) m' σ' H') ∧ ∀ x H', (Ite K a).yld i H x H' → g x σ H' fun σ2 H2 => tb { D with nx := N, ct := N, bk := D.nx } σ2 H2) := by
  refine ⟨fun i m σ H => m = xs.length - i ∧ i ≤ xs.length ∧ Pv i σ H, ⟨xs.length, by simp, Nat.zero_le _, h0⟩, ?_⟩
  rintro i m σ H ⟨rfl, hi, p⟩
  have q := hl i σ H hi p
  by_cases hlt : i < xs.length
  · refine .inr ⟨⟨xs, xs[i], q, by simp [hlt]⟩, Pv (i + 1), fun σ' H' p' => ⟨xs.length - (i + 1), by omega, rfl, hlt, p'⟩, fun x H' y => ?_⟩
    obtain ⟨T, z, rfl, hT, rfl, y⟩ := y
    exact hs i z T _ _ (y xs q) hT p
  · have e : i = xs.length := by omega
    subst e
    exact .inl ⟨⟨xs, q, Nat.le_refl _⟩, hd σ H p⟩
/-- two lists of the same bools, compared the other way -/
theorem s_neB1 {K : PySem.W.Frag} {H : Hp} {Q : VK} {a b : Addr} (bs : List Bool) (h1 : H a = some (.lst (bs.map V.bl))) (h2 : H b = some (.lst (bs.map V.bl))) (q : Q (.bl false) H) : rNeD K (.ref a) (.ref b) H Q := by
  refine ⟨_, _, .lst (SqL.of h1) (bools_dp bs), .lst (SqL.of h2) (bools_dp bs), (bools_shaped bs).1, (bools_shaped bs).1, ?_⟩
  rw [(bools_shaped bs).2]
  exact q
theorem gOf_up {i : Nat} (h : i < 4) : gOf (33 + i) = 33 + i := by
  unfold gOf
  rw [if_neg (by omega), if_neg (by omega), if_neg (by omega), if_neg (by omega)]
theorem flags_up {i : Nat} (h : i < 4) : inV (.bl true) (flagsOf (33 + i)) = false ∧ (flagsOf (33 + i)).all flatV = true := by
  have key : ∀ i : Fin 4, inV (.bl true) (flagsOf (33 + i.1)) = false ∧ (flagsOf (33 + i.1)).all flatV = true := by decide +kernel
  exact key ⟨i, h⟩
theorem s_iEnum {σ : L2.St} {H : Hp} {K : PySem.W.Frag} {ta : TA} {R : L2.It → Hp → Prop} (h : ta σ H fun vs H1 => ∃ a xs, vs = [.ref a] ∧ SqL K H1 a xs ∧ R (Ite K a) H1) : iEnum K ta σ H R := h
def spGrounds : Sp := fun vs H Q _ => vs = [] ∧ ∀ H', Same H H' → Q (.bl true) H'
include M
theorem c__law_grounds_right : Dn P w K mg base "_law_grounds_right" 4 [] [] spGrounds := by
  have c__law_flags := c__law_flags (P := P) (w := w) (base := base) M
  have c__law_bases := c__law_bases (P := P) (w := w) (base := base) M
  refine dnN M.f__law_grounds_right (fun F => ?_) (fun _ _ _ _ _ _ us hl => match us, hl with | [], _ => rfl)
  refine fnG_body F sc__law_grounds_right (fun vs H Q E h => ?_) (fun cdv A outer s H vs Q E hr h => ?_)
  · obtain ⟨rfl, _⟩ := h
    rfl
  · obtain ⟨rfl, q⟩ := h
    refine ⟨_, (pss_cons (ps_set (i := 0) sc__law_grounds_right.nd rfl (.inl rfl) (pe_lst (pa_cons (pe_mkE0 PySem.F.excBase_ValueError M.q_EachError M.m_EachError M.x_EachError.kp rfl) (pa_cons (pe_mkE0 PySem.F.excBase_LookupError M.q_MissingError M.m_MissingError M.x_MissingError.kp rfl) (pa_cons (pe_mkE0 PySem.F.excBase_RuntimeError M.q_StateError M.m_StateError M.x_StateError.kp rfl) (pa_cons (pe_mkE0 PySem.F.excBase_ArithmeticError M.q_LimitError M.m_LimitError M.x_LimitError.kp rfl) pa_nil)))))) (pss_cons (ps_for (passes_of rfl) rfl (pi_enum (by rfl) M.b_enumerate (pa_cons (pv 0) pa_nil)) (pg_tup (by rfl) (pgs_cons (pg_name (i := 1) sc__law_grounds_right.nd rfl (.inr rfl)) (pgs_cons (pg_name (i := 2) sc__law_grounds_right.nd rfl (.inl rfl)) pgs_nil))) (pss_one (ps_if (PW.pt (pw_or (pt_cmpR (op_neD hr.units) (pe_callD c__law_bases (hr.mono (by decide)) rfl (pa_cons (pv 2) pa_nil)) (pe_op op_cat (pe_op op_rep (pe_lc (own := [("_law_k", 3)]) (g := gName 3) (tt := tYes) (by rfl) sc__law_grounds_right.nd (pi_range1 (by rfl) M.b_range (pa_cons pe_int pa_nil)) (blkOk_by (own := [("_law_k", 3)]) (N := N__law_grounds_right) (sc := defScope st__law_grounds_right) (by decide +kernel)) (fun _ _ _ _ _ => pg_name (i := 3) sc__law_grounds_right.nd rfl (by first | exact Or.inl rfl | exact Or.inr rfl)) (fun _ _ _ _ _ => pts_nil) (fun _ _ _ _ _ => (pe_cmpR op_eq (pv 3) (pv 1) (nomark _)))) pe_int) (pe_lst (pa_cons pe_bl (pa_cons pe_bl pa_nil)))) (nomark _)) (pw_or1 (pt_cmpR op_in_seq pe_bl (pe_callD c__law_flags (hr.mono (by decide)) rfl (pa_cons (pv 2) pa_nil)) (by first | exact nomark _ | rfl))))) (pss_one (ps_ret pe_bl)) pss_nil))) (pss_one (ps_ret pe_bl)))), ?_⟩
    refine st_eq (σ := [none, none, none, none]) rfl ?_
    walk_at "rd"
    rename_i a1 n1 a2 n2 a3 n3 a4 n4 L nL D0 eD
    have t1 := My.Same.new (o := exo a1 C_EachError none) n1
    have t2 := My.Same.new (o := exo a2 C_MissingError none) n2
    have t3 := My.Same.new (o := exo a3 C_StateError none) n3
    have t4 := My.Same.new (o := exo a4 C_LimitError none) n4
    have t5 := My.Same.new (o := .lst [.ref a1, .ref a2, .ref a3, .ref a4]) nL
    have sH := My.Same.tr t1 (My.Same.tr t2 (My.Same.tr t3 (My.Same.tr t4 t5)))
    have x1 := t5 a1 (exo a1 C_EachError none) (t4 _ _ (t3 _ _ (t2 _ _ upd_same)))
    have x2 := t5 a2 (exo a2 C_MissingError none) (t4 _ _ (t3 _ _ upd_same))
    have x3 := t5 a3 (exo a3 C_StateError none) (t4 _ _ upd_same)
    have x4 := t5 a4 (exo a4 C_LimitError none) upd_same
    have xL : (L2.upd (L2.upd (L2.upd (L2.upd (L2.upd H a1 (exo a1 C_EachError none)) a2 (exo a2 C_MissingError none)) a3 (exo a3 C_StateError none)) a4 (exo a4 C_LimitError none)) L (.lst [.ref a1, .ref a2, .ref a3, .ref a4])) L = some (.lst [.ref a1, .ref a2, .ref a3, .ref a4]) := upd_same
    clear t1 t2 t3 t4 t5
    generalize L2.upd _ L _ = H5 at sH x1 x2 x3 x4 xL ⊢
    have at_ : ∀ (i : Nat) (x : V), [V.ref a1, .ref a2, .ref a3, .ref a4][i]? = some x → i < 4 ∧ ∃ a C, x = .ref a ∧ [C_InvalidName, C_InvalidCount, C_InvalidNumber, C_InvalidMany, C_InvalidRatio, C_InvalidKinds, C_InvalidLink, C_InvalidEnd, C_InvalidModel, C_InvalidTotal, C_InvalidPair, C_InvalidRow, C_InvalidPairs, C_InvalidDatabase, C_InvalidWay, C_InvalidSizes, C_InvalidTold, C_InvalidText, C_InvalidClaim, C_InvalidCommand, C_EmptyBy, C_UnknownKind, C_UnknownLink, C_UnknownRow, C_UnknownThing, C_Apart, C_Taken, C_Empty, C_NotLet, C_Lacking, C_NothingToUndo, C_CommandFailed, C_TooMany, C_EachError, C_MissingError, C_StateError, C_LimitError][33 + i]? = some C ∧ IsExo H5 a C := by
      intro i x hx
      match i, hx with
      | 0, rfl => exact ⟨by decide, a1, _, rfl, rfl, .inl x1⟩
      | 1, rfl => exact ⟨by decide, a2, _, rfl, rfl, .inl x2⟩
      | 2, rfl => exact ⟨by decide, a3, _, rfl, rfl, .inl x3⟩
      | 3, rfl => exact ⟨by decide, a4, _, rfl, rfl, .inl x4⟩
    clear x1 x2 x3 x4
    refine s_iEnum ?_
    walk_at "rd"
    refine ⟨L, _, rfl, SqL.of xL, for_enum (xs := [V.ref a1, .ref a2, .ref a3, .ref a4]) (fun i σ H' => (∃ u v, σ = [some (.ref L), u, v, none]) ∧ Same H5 H') ?_ ?_ ?_ ?_⟩
    · exact ⟨⟨_, _, rfl⟩, My.Same.rfl' _⟩
    · rintro i σ H6 _ ⟨_, s6⟩
      exact SqL.of (s6 _ _ xL)
    · rintro i x T σ H6 hx hT ⟨⟨u, v, rfl⟩, s6⟩
      obtain ⟨hi, a, C, rfl, gC, xa⟩ := at_ i x hx
      have s7 := My.Same.tr s6 (My.Same.new (o := .tup [.int (i : Nat), .ref a]) hT)
      subst eD
      walk_at "rd"
      refine ⟨a, C, 33 + i, rfl, gC, xa.same s7, fun b1 H8 s8 hb1 => ?_⟩
      rw [basesB_eq] at hb1
      walk_at "rd"
      refine ⟨by decide, by decide, fun D3 nD3 => lc_range (lo := 0) (n := 4) (fun j H => Same H8 H ∧ H D3 = some (.lst ((List.range j).map fun k : Nat => V.bl (decide ((k : Int) = (gOf (33 + i) : Int) - 33))))) ?_ ?_ ?_⟩
      · exact ⟨My.Same.new nD3, upd_same⟩
      · rintro j H12 hj ⟨s12, hD3⟩
        walk_at "rd"
        refine ⟨_, hD3, ?_, My.Same.at_ nD3 s12, ?_⟩
        · rw [List.length_map, List.length_range, sizeLine_eq]
          omega
        · rw [upd_same, List.range_succ, List.map_append, Int.zero_add]
          have e : decide ((j : Int) = (i : Int)) = decide ((j : Int) = (gOf (33 + i) : Int) - 33) := by
            rw [decide_eq_decide, gOf_up hi]
            omega
          rw [e]
          rfl
      · rintro H12 ⟨s12, hD3⟩
        walk_at "rd"
        refine ⟨_, _, _, rfl, rfl, hD3, by decide, by decide, by rw [List.length_map, List.length_range, sizeLine_eq]; decide, fun g1 ng1 => ?_⟩
        have sg1 := My.Same.new (o := .lst (List.replicate (2 : Int).toNat ((List.range 4).map fun k : Nat => V.bl (decide ((k : Int) = (gOf (33 + i) : Int) - 33)))).flatten) ng1
        walk_at "rd"
        rename_i g2 ng2
        have sg3 := My.Same.new (o := .lst [.bl false, .bl false]) ng2
        have due : (List.replicate (2 : Int).toNat ((List.range 4).map fun k : Nat => V.bl (decide ((k : Int) = (gOf (33 + i) : Int) - 33)))).flatten ++ [V.bl false, V.bl false] = (basesB (33 + i)).map V.bl := (due_eq (33 + i) (by omega)).trans (basesB_eq (33 + i))
        refine ⟨_, _, _, _, rfl, rfl, sg3 _ _ upd_same, upd_same, by rw [← List.length_append, due, List.length_map, sizeLine_eq]; simp [basesB], fun g3 ng3 => ?_⟩
        rw [due]
        have sg4 := My.Same.new (o := .lst ((basesB (33 + i)).map V.bl)) ng3
        have sA := My.Same.tr s12 (My.Same.tr sg1 (My.Same.tr sg3 sg4))
        refine s_neB1 (basesB (33 + i)) (sA _ _ hb1) upd_same ⟨_, rfl, ?_⟩
        have sB := My.Same.tr (My.Same.tr s7 s8) sA
        clear sg1 sg3 sg4 sA
        generalize L2.upd (L2.upd (L2.upd H12 g1 _) g2 _) g3 _ = H13 at sB ⊢
        walk_at "rd"
        refine ⟨a, C, 33 + i, rfl, gC, xa.same sB, fun f1 H14 s14 hf1 => ?_⟩
        walk_at "rd"
        refine ⟨f1, _, rfl, .inl (SqL.of hf1), rfl, (flags_up hi).2, ?_⟩
        refine ⟨_, rfl, ?_⟩
        rw [if_neg (by rw [if_neg Bool.false_ne_true, (flags_up hi).1]; decide)]
        walk_at "rd"
        exact ⟨⟨_, _, rfl⟩, My.Same.tr sB s14⟩
    · rintro σ H6 ⟨⟨u, v, rfl⟩, s6⟩
      subst eD
      walk_at "rd"
      exact q _ (My.Same.tr sH s6)
end
end My
end
section

open My L2 PySem
open My L2 PySem
local macro_rules | `(tactic| walk_at "as") => `(tactic| with_reducible assumption)
local macro_rules | `(tactic| walk_at "hp") => `(tactic| first
  | walk_at "as" | exact upd_same
  | (rw [upd_ne (by walk_at "ne")]; walk_at "hp")
  | (refine But.get (by walk_at "as") ?hp1 ?hp2; (case hp1 => walk_at "hp"); (case hp2 => walk_at "ne"))
  | (refine My.Same.get (by walk_at "as") ?hp1; (case hp1 => walk_at "hp")))
local macro_rules | `(tactic| walk_at "ne") => `(tactic| first
  | walk_at "as" | exact Ne.symm (by walk_at "as")
  | (refine' ne_of_none ?ne1 ?ne2; (case ne2 => walk_at "as"); (case ne1 => walk_at "hp"))
  | (refine' Ne.symm (ne_of_none ?ne1 ?ne2); (case ne2 => walk_at "as"); (case ne1 => walk_at "hp"))
  | exact ne_of (by walk_at "hp") (by walk_at "hp") (by intro z; cases z))
local macro_rules | `(tactic| walk_at "sd") => `(tactic| first
  | walk_at "as" | omega | decide | exact ⟨by omega, by omega⟩ | exact .inl ⟨by omega, by omega⟩ | exact .inr ⟨by omega, by omega⟩ | exact divp_wide (by walk_at "as") (by walk_at "as") | exact Sm.cmul (by walk_at "as") (by walk_at "as") | exact cmul_small (by omega) (by omega) (by omega) (by omega) | exact ⟨by omega, by decide⟩)
local macro_rules | `(tactic| walk_at "bt") => `(tactic| first
  | walk_at "as" | exact But.refl _ _ | exact Same.but (by walk_at "as")
  | (refine But.trans ?bt1 But.at; (case bt1 => walk_at "bt"))
  | (refine But.trans ?bt1 (But.new (by first | walk_at "as" | walk_at "hp")); (case bt1 => walk_at "bt"))
  | (refine But.trans ?bt1 (by walk_at "as"); (case bt1 => walk_at "bt"))
  | (refine But.trans ?bt1 (Same.but (by walk_at "as")); (case bt1 => walk_at "bt")))
local macro_rules | `(tactic| walk_at "sm") => `(tactic| first
  | walk_at "as" | exact My.Same.rfl' _
  | (refine' My.Same.at_ ?sm1 ?sm2; (case sm1 => walk_at "as"); (case sm2 => walk_at "sm"))
  | (refine' My.Same.tr ?sm1 (My.Same.new ?sm2); (case sm2 => walk_at "as"); (case sm1 => walk_at "sm"))
  | (refine' My.Same.tr ?sm1 ?sm2; (case sm2 => walk_at "as"); (case sm1 => walk_at "sm")))
local macro_rules | `(tactic| walk_at "sz") => `(tactic| first
  | assumption | exact lt_size (by rfl) | exact le_size (by rfl) | (rw [sizeLine_eq]; omega)
  | (rw [sizeLine_eq]; simp only [List.length_append, List.length_map, List.length_cons, List.length_nil]; omega))
local macro_rules | `(tactic| walk_at "few") => `(tactic| (repeat refine few_put ?_); exact few0)
local macro_rules | `(tactic| walk_at "rd1") => `(tactic| first
  | (with_reducible show tVar _ _ _ _); refine s_var rfl ?_
  | with_reducible refine s_c ?_ | with_reducible refine s_op ?_ | with_reducible refine s_un ?_
  | with_reducible refine s_cons ?_ | with_reducible refine s_nil ?_ | with_reducible refine s_cb ?_
  | with_reducible refine s_test ?_ | with_reducible refine s_B ?_ | with_reducible refine s_not ?_ | with_reducible refine s_and ?_ | with_reducible refine s_or ?_
  | with_reducible refine s_if ?_ | with_reducible refine s_notV ?_ | with_reducible refine s_andV ?_ | with_reducible refine s_orV ?_
  | with_reducible refine s_orT ?_ | with_reducible refine s_andT ?_ | with_reducible refine s_chain ?_
  | with_reducible refine s_isi_int ?_ | with_reducible refine s_isi_int_bool ?_ | with_reducible refine s_isi_str ?_
  | with_reducible refine iteT ?_ | with_reducible refine iteF ?_ | with_reducible refine iteNT ?_ | with_reducible refine iteNF ?_
  | with_reducible refine s_isN ?_ | with_reducible refine s_notN ?_
  | ((with_reducible refine' s_2setE ?g1 ?_); (case g1 => first | (dsimp only [List.set, L2.wipe, List.map, List.foldl]; done) | (dsimp only [List.set, L2.wipe, List.map, List.foldl]; rfl)))
  | with_reducible refine s_seq ?_ | with_reducible refine s_ifS ?_ | with_reducible refine s_asg ?_ | with_reducible refine s_ret ?_ | with_reducible refine s_drop ?_ | with_reducible refine s_next ?_
  | ((with_reducible refine' s_gnameE ?g1 ?_); (case g1 => first | (dsimp only [List.set, L2.wipe, List.map, List.foldl]; done) | (dsimp only [List.set, L2.wipe, List.map, List.foldl]; rfl)))
  | with_reducible refine s_gsub ?_ | with_reducible refine s_gcons ?_ | with_reducible refine s_gnil ?_
  | (with_reducible show gTup _ _ _ _ _ _ _); refine s_gtup (by walk_at "hp") rfl ?_
  | with_reducible refine s_eqI ?_ | with_reducible refine s_neI ?_ | with_reducible refine s_eqS ?_ | with_reducible refine s_neB ?_ | with_reducible refine s_eqB ?_ | with_reducible refine s_neSr ?_ | with_reducible refine s_neS ?_
  | with_reducible refine s_I0 ?_
  | (with_reducible show rI _ _ _ _ _ _); refine s_I (by walk_at "sd") ?_
  | (with_reducible show rIxL _ _ _ _ _); refine s_ixL (by walk_at "hp") rfl ?_
  | (with_reducible show rIxT _ _ _ _ _); refine s_ixT (by walk_at "hp") rfl ?_
  | (with_reducible show rSetL _ _ _ _ _); refine s_setL (by walk_at "hp") rfl ?_
  | with_reducible refine s_prop ?_
  | (with_reducible show _ ≤ sizeLine ∧ _); refine ⟨le_size (by rfl), ?_⟩
  | with_reducible refine ite_NN ?_ | with_reducible refine ite_IN ?_ | with_reducible refine ite_nNN ?_ | with_reducible refine ite_nIN ?_ | with_reducible refine ite_RN ?_ | with_reducible refine ite_nRN ?_
  | with_reducible refine s_sfld ?_
  | ((with_reducible refine' ⟨_, _, _, _, rfl, ?fp1, ?fp2, ?fp3, ?fp4, ?_⟩); (case fp1 => walk_at "hp"); (case fp2 => assumption); (case fp3 => assumption); (case fp4 => walk_at "few"))
  | with_reducible refine s_fldE ?_
  | ((with_reducible refine' ⟨_, _, _, _, _, rfl, ?fp1, ?fp2, ?fp3, ?fp4, ?_⟩); (case fp1 => walk_at "hp"); (case fp2 => assumption); (case fp3 => assumption); (case fp4 => rfl))
  | with_reducible refine s_bm ?_ | with_reducible refine s_bm0 ?_
  | ((with_reducible refine' s_tyL ?ty1 ?_); (case ty1 => walk_at "hp"))
  | ((with_reducible refine' s_append ?ap1 ?ap2 ?_); (case ap1 => walk_at "hp"); (case ap2 => walk_at "sz"))
  | ((with_reducible refine' s_extend ?ap1 ?ap2 ?ap3 ?_); (case ap1 => walk_at "hp"); (case ap2 => walk_at "hp"); (case ap3 => walk_at "sz"))
  | with_reducible refine s_for (fun _ _ => ?_) | with_reducible refine s_lc ?_ | with_reducible refine s_iList ?_ | with_reducible refine s_iTup ?_ | with_reducible refine s_iRng1 ?_ | with_reducible refine s_iRng2 ?_
  | with_reducible refine s_yes ?_ | with_reducible refine s_par ?_
  | with_reducible refine s_make ?_ | with_reducible refine s_meth ?_
  | with_reducible refine s_tup ?_ | with_reducible refine s_lst ?_ | with_reducible refine s_call ?_
  | with_reducible refine ⟨rfl, ?_⟩
  | with_reducible refine ⟨_, rfl, ?_⟩
  | ((with_reducible refine' ⟨_, _, rfl, ?sd1, ?_⟩); (case sd1 => walk_at "sd"))
  | with_reducible refine ⟨_, _, rfl, ?_⟩
  | with_reducible refine .inl ⟨_, rfl, ?_⟩
  | dsimp only [List.set]
  | walk_at "rdx"
  | (refine fun _ _ => ?_))
local macro_rules | `(tactic| walk_at "rd") => `(tactic| repeat (first
  | (with_reducible show tVar _ _ _ _); refine s_var rfl ?_
  | with_reducible refine s_c ?_ | with_reducible refine s_op ?_ | with_reducible refine s_un ?_
  | with_reducible refine s_cons ?_ | with_reducible refine s_nil ?_ | with_reducible refine s_cb ?_
  | with_reducible refine s_test ?_ | with_reducible refine s_B ?_ | with_reducible refine s_not ?_ | with_reducible refine s_and ?_ | with_reducible refine s_or ?_
  | with_reducible refine s_if ?_ | with_reducible refine s_notV ?_ | with_reducible refine s_andV ?_ | with_reducible refine s_orV ?_
  | with_reducible refine s_orT ?_ | with_reducible refine s_andT ?_ | with_reducible refine s_chain ?_
  | with_reducible refine s_isi_int ?_ | with_reducible refine s_isi_int_bool ?_ | with_reducible refine s_isi_str ?_
  | with_reducible refine iteT ?_ | with_reducible refine iteF ?_ | with_reducible refine iteNT ?_ | with_reducible refine iteNF ?_
  | with_reducible refine s_isN ?_ | with_reducible refine s_notN ?_
  | ((with_reducible refine' s_2setE ?g1 ?_); (case g1 => first | (dsimp only [List.set, L2.wipe, List.map, List.foldl]; done) | (dsimp only [List.set, L2.wipe, List.map, List.foldl]; rfl)))
  | with_reducible refine s_seq ?_ | with_reducible refine s_ifS ?_ | with_reducible refine s_asg ?_ | with_reducible refine s_ret ?_ | with_reducible refine s_drop ?_ | with_reducible refine s_next ?_
  | ((with_reducible refine' s_gnameE ?g1 ?_); (case g1 => first | (dsimp only [List.set, L2.wipe, List.map, List.foldl]; done) | (dsimp only [List.set, L2.wipe, List.map, List.foldl]; rfl)))
  | with_reducible refine s_gsub ?_ | with_reducible refine s_gcons ?_ | with_reducible refine s_gnil ?_
  | (with_reducible show gTup _ _ _ _ _ _ _); refine s_gtup (by walk_at "hp") rfl ?_
  | with_reducible refine s_eqI ?_ | with_reducible refine s_neI ?_ | with_reducible refine s_eqS ?_ | with_reducible refine s_neB ?_ | with_reducible refine s_eqB ?_ | with_reducible refine s_neSr ?_ | with_reducible refine s_neS ?_
  | with_reducible refine s_I0 ?_
  | (with_reducible show rI _ _ _ _ _ _); refine s_I (by walk_at "sd") ?_
  | (with_reducible show rIxL _ _ _ _ _); refine s_ixL (by walk_at "hp") rfl ?_
  | (with_reducible show rIxT _ _ _ _ _); refine s_ixT (by walk_at "hp") rfl ?_
  | (with_reducible show rSetL _ _ _ _ _); refine s_setL (by walk_at "hp") rfl ?_
  | with_reducible refine s_prop ?_
  | (with_reducible show _ ≤ sizeLine ∧ _); refine ⟨le_size (by rfl), ?_⟩
  | with_reducible refine ite_NN ?_ | with_reducible refine ite_IN ?_ | with_reducible refine ite_nNN ?_ | with_reducible refine ite_nIN ?_ | with_reducible refine ite_RN ?_ | with_reducible refine ite_nRN ?_
  | with_reducible refine s_sfld ?_
  | ((with_reducible refine' ⟨_, _, _, _, rfl, ?fp1, ?fp2, ?fp3, ?fp4, ?_⟩); (case fp1 => walk_at "hp"); (case fp2 => assumption); (case fp3 => assumption); (case fp4 => walk_at "few"))
  | with_reducible refine s_fldE ?_
  | ((with_reducible refine' ⟨_, _, _, _, _, rfl, ?fp1, ?fp2, ?fp3, ?fp4, ?_⟩); (case fp1 => walk_at "hp"); (case fp2 => assumption); (case fp3 => assumption); (case fp4 => rfl))
  | with_reducible refine s_bm ?_ | with_reducible refine s_bm0 ?_
  | ((with_reducible refine' s_tyL ?ty1 ?_); (case ty1 => walk_at "hp"))
  | ((with_reducible refine' s_append ?ap1 ?ap2 ?_); (case ap1 => walk_at "hp"); (case ap2 => walk_at "sz"))
  | ((with_reducible refine' s_extend ?ap1 ?ap2 ?ap3 ?_); (case ap1 => walk_at "hp"); (case ap2 => walk_at "hp"); (case ap3 => walk_at "sz"))
  | with_reducible refine s_for (fun _ _ => ?_) | with_reducible refine s_lc ?_ | with_reducible refine s_iList ?_ | with_reducible refine s_iTup ?_ | with_reducible refine s_iRng1 ?_ | with_reducible refine s_iRng2 ?_
  | with_reducible refine s_yes ?_ | with_reducible refine s_par ?_
  | with_reducible refine s_make ?_ | with_reducible refine s_meth ?_
  | with_reducible refine s_tup ?_ | with_reducible refine s_lst ?_ | with_reducible refine s_call ?_
  | with_reducible refine ⟨rfl, ?_⟩
  | with_reducible refine ⟨_, rfl, ?_⟩
  | ((with_reducible refine' ⟨_, _, rfl, ?sd1, ?_⟩); (case sd1 => walk_at "sd"))
  | with_reducible refine ⟨_, _, rfl, ?_⟩
  | with_reducible refine .inl ⟨_, rfl, ?_⟩
  | dsimp only [List.set]
  | walk_at "rdx"
  | (refine fun _ _ => ?_)))

namespace My
open PySem L2
section
variable {P : Program} {w : World} {K : PySem.W.Frag} {mg : Str → Option Value} {base : Heap} {C_InvalidName C_InvalidCount C_InvalidNumber C_InvalidMany C_InvalidRatio C_InvalidKinds C_InvalidLink C_InvalidEnd C_InvalidModel C_InvalidTotal C_InvalidPair C_InvalidRow C_InvalidPairs C_InvalidDatabase C_InvalidWay C_InvalidSizes C_InvalidTold C_InvalidText C_InvalidClaim C_InvalidCommand C_EmptyBy C_UnknownKind C_UnknownLink C_UnknownRow C_UnknownThing C_Apart C_Taken C_Empty C_NotLet C_Lacking C_NothingToUndo C_CommandFailed C_TooMany C_EachError C_MissingError C_StateError C_LimitError : Addr} (M : Md K mg C_InvalidName C_InvalidCount C_InvalidNumber C_InvalidMany C_InvalidRatio C_InvalidKinds C_InvalidLink C_InvalidEnd C_InvalidModel C_InvalidTotal C_InvalidPair C_InvalidRow C_InvalidPairs C_InvalidDatabase C_InvalidWay C_InvalidSizes C_InvalidTold C_InvalidText C_InvalidClaim C_InvalidCommand C_EmptyBy C_UnknownKind C_UnknownLink C_UnknownRow C_UnknownThing C_Apart C_Taken C_Empty C_NotLet C_Lacking C_NothingToUndo C_CommandFailed C_TooMany C_EachError C_MissingError C_StateError C_LimitError)
include M
omit M
def spLaw (K : PySem.W.Frag) : Sp := fun vs H Q _ => ∃ (a : Addr) (ns : List Int), vs = [.ref a] ∧ SqL K H a (ns.map V.int) ∧ ns.length ≤ 63 ∧ ∀ H', Q (.bl true) H'
theorem turns3 (n : Nat) : 0 ≤ (if (if (n : Int) < 3 then (n : Int) else 3) > 1 then (if (n : Int) < 3 then (n : Int) else 3) else 1) ∧ (if (if (n : Int) < 3 then (n : Int) else 3) > 1 then (if (n : Int) < 3 then (n : Int) else 3) else 1) ≤ 3 := by
  split <;> split <;> omega
theorem rep_map (n : Nat) : List.replicate n (V.bl true) = (List.replicate n true).map V.bl := by
  rw [List.map_replicate]
theorem rep_all (n : Nat) : (List.replicate n true).all id = true := by
  induction n with
  | zero => rfl
  | succ n ih => simpa using ih
include M
theorem ok_law {f : Addr} {fd : FuncData} (F : FunD K "law" "law" (defArgs st_law) (defBody st_law) (defScope st_law) [] [] f fd) : FnG P w K mg base CX0 7 f fd ["_law_script"] (spLaw K) := by
  have c__law_rng := c__law_rng (P := P) (w := w) (base := base) M
  have c__law_one_right := c__law_one_right (P := P) (w := w) (base := base) M
  have c__law_grounds_right := c__law_grounds_right (P := P) (w := w) (base := base) M
  refine fnG_body F sc_law (fun vs H Q E h => ?_) (fun cdv A outer s H vs Q E hr h => ?_)
  · obtain ⟨a, ns, rfl, _⟩ := h
    rfl
  · obtain ⟨a, ns, rfl, hS, hl, k⟩ := h
    refine ⟨_, (pss_cons (ps_if (pt_not (pt_val (pe_call0D c__law_grounds_right (hr.mono (by decide)) rfl))) (pss_one (ps_ret pe_bl)) pss_nil) (pss_cons (ps_for (passes_of rfl) rfl (pi_range1 (by rfl) M.b_range (pa_cons (pe_callB (call_max2 rfl) (by rfl) M.b_max (by decide +kernel) (pa_cons pe_int (pa_cons (pe_callB (call_min2 rfl) (by rfl) M.b_min (by decide +kernel) (pa_cons pe_int (pa_cons (pe_callB call_len_seq (by rfl) M.b_len (by decide +kernel) (pa_cons (pv 0) pa_nil)) pa_nil))) pa_nil))) pa_nil)) (pg_name (i := 1) sc_law.nd rfl (.inl rfl)) (pss_cons (ps_set (i := 2) sc_law.nd rfl (.inr rfl) (pe_callD c__law_rng (hr.mono (by decide)) rfl (pa_cons (pv 0) (pa_cons (pv 1) pa_nil)))) (pss_one (ps_if (pt_not (pt_val (pe_callB (cr_all rfl) (by rfl) M.b_all (by decide +kernel) (pa_cons (pe_lc (own := [("_law_at", 3)]) (g := gName 3) (tt := tYes) (by rfl) sc_law.nd (pi_range1 (by rfl) M.b_range (pa_cons pe_int pa_nil)) (blkOk_by (own := [("_law_at", 3)]) (N := N_law) (sc := defScope st_law) (by decide +kernel)) (fun _ _ _ _ _ => pg_name (i := 3) sc_law.nd rfl (by first | exact Or.inl rfl | exact Or.inr rfl)) (fun _ _ _ _ _ => pts_nil) (fun _ _ _ _ _ => (pe_callD c__law_one_right (hr.mono (by decide)) rfl (pa_cons (pv 2) (pa_cons (pv 3) pa_nil))))) pa_nil)))) (pss_one (ps_ret pe_bl)) pss_nil)))) (pss_one (ps_ret pe_bl)))), ?_⟩
    refine st_eq (σ := [some _, none, none, none]) rfl ?_
    walk_at "rd"
    refine ⟨rfl, fun H0 s0 => ⟨_, rfl, ?_⟩⟩
    walk_at "rd"
    refine ⟨_, _, rfl, .inl (s0.seq hS), ?_⟩
    walk_at "rd"
    have hb := turns3 (ns.map V.int).length
    refine ⟨Int.le_trans (by decide) hb.1, Int.lt_of_le_of_lt hb.2 (by decide), for_range (lo := 0) (fun i σ H' => (∃ u v, σ = [some (.ref a), u, v, none]) ∧ Same H H' ∧ i ≤ 3) ?_ ?_ ?_⟩
    · exact ⟨⟨_, _, rfl⟩, s0, Nat.zero_le _⟩
    · subst_vars
      rintro i σ H1 hi ⟨⟨u, v, rfl⟩, hs, _⟩
      have hi5 : i + 1 ≤ 3 := by
        have := hb.2
        omega
      walk_at "rd"
      refine ⟨a, ns, _, rfl, hs.seq hS, by omega, by omega, fun r H2 s2 nr p2 => ?_⟩
      walk_at "rd"
      refine ⟨by decide, by decide, fun D nD => lc_range (lo := 0) (n := 33) (fun j H3 => Same H1 H3 ∧ Pot H3 r ∧ H3 D = some (.lst (List.replicate j (V.bl true))) ∧ j ≤ 33) ?_ ?_ ?_⟩
      · exact ⟨by walk_at "sm", p2.up nD, upd_same, Nat.zero_le _⟩
      · rintro j H3 hj ⟨s3, p3, hD, _⟩
        walk_at "rd"
        rw [Int.zero_add]
        refine ⟨r, j, rfl, by omega, p3, fun H4 b4 p4 => ?_⟩
        have dr : D ≠ r := p2.ne nD
        have nD1 : H1 D = none := L2.Same.free s2 nD
        refine ⟨_, b4.get hD dr, ?_, (My.Same.at_ nD1 (b4.same s3 nr)), p4.put dr.symm, ?_, hj⟩
        · rw [List.length_replicate, sizeLine_eq]
          omega
        · rw [upd_same, List.replicate_succ']
      · rintro H3 ⟨s3, p3, hD, _⟩
        walk_at "rd"
        refine ⟨_, List.replicate 33 true, rfl, SqL.of (by rw [← rep_map]; exact hD), ?_⟩
        rw [rep_all]
        walk_at "rd"
        exact ⟨⟨_, _, rfl⟩, My.Same.tr hs s3, hi5⟩
    · subst_vars
      rintro σ H1 ⟨⟨u, v, rfl⟩, hs, _⟩
      walk_at "rd"
      exact k _
end
end My
end
section

namespace My
open PySem L2
theorem no_ok {K : PySem.W.Frag} {C : Addr} {f : Str} (h : eqO (PySem.W.findIn K (.ref C) f) (some none) = true) : NoAttr K C f := (of_decide_eq_true (p := PySem.W.findIn K (.ref C) f = some none) h : PySem.W.findIn K (.ref C) f = some none)
theorem facts {P : Program} {w : World} {K : PySem.W.Frag} {h : Heap} {mg : Str → Option Value} {f : Addr} (X : K.In h) (G : h.Ns mainGlobals mg) (hfa : mg "law" = some (.ref f)) (c : He.SaysX faL fnL [] [] exB w h K) :
    ∃ fd : FuncData, (∀ (s : Shared) (v : Value), BindsTo s fd ⟨[v], []⟩ [("_law_script", v)]) ∧ ∀ base : Heap, K.In base → base.Ns mainGlobals mg → FnG P w K mg base CX0 7 f fd ["_law_script"] (spLaw K) := by
  have c1 := c.t.d
  have t : (tests K).all id = true := c.more
  obtain ⟨fd_0, F_0⟩ := c1.def_ 0 (d := dd__law_rng) rfl
  obtain ⟨fd_1, F_1⟩ := c1.def_ 1 (d := dd__law_draw) rfl
  obtain ⟨fd_2, F_2⟩ := c1.def_ 2 (d := dd__law_choice) rfl
  obtain ⟨fd_3, F_3⟩ := c1.def_ 3 (d := dd__law_first) rfl
  obtain ⟨fd_4, F_4⟩ := c1.def_ 4 (d := dd__law_second) rfl
  obtain ⟨fd_5, F_5⟩ := c1.def_ 5 (d := dd__law_third) rfl
  obtain ⟨fd_6, F_6⟩ := c1.def_ 6 (d := dd__law_first_named) rfl
  obtain ⟨fd_7, F_7⟩ := c1.def_ 7 (d := dd__law_second_named) rfl
  obtain ⟨fd_8, F_8⟩ := c1.def_ 8 (d := dd__law_third_named) rfl
  obtain ⟨fd_9, F_9⟩ := c1.def_ 9 (d := dd__law_made) rfl
  obtain ⟨fd_10, F_10⟩ := c1.def_ 10 (d := dd__law_named) rfl
  obtain ⟨fd_11, F_11⟩ := c1.def_ 11 (d := dd__law_flags) rfl
  obtain ⟨fd_12, F_12⟩ := c1.def_ 12 (d := dd__law_bases) rfl
  obtain ⟨fd_13, F_13⟩ := c1.def_ 13 (d := dd__law_kept) rfl
  obtain ⟨fd_14, F_14⟩ := c1.def_ 14 (d := dd__law_last_kept) rfl
  obtain ⟨fd_15, F_15⟩ := c1.def_ 15 (d := dd__law_one_right) rfl
  obtain ⟨fd_16, F_16⟩ := c1.def_ 16 (d := dd__law_grounds_right) rfl
  obtain ⟨fd_17, F_17⟩ := c1.def_ 17 (d := dd_InvalidName___init__) rfl
  obtain ⟨fd_18, F_18⟩ := c1.def_ 18 (d := dd_InvalidCount___init__) rfl
  obtain ⟨fd_19, F_19⟩ := c1.def_ 19 (d := dd_InvalidNumber___init__) rfl
  obtain ⟨fd_20, F_20⟩ := c1.def_ 20 (d := dd_InvalidMany___init__) rfl
  obtain ⟨fd_21, F_21⟩ := c1.def_ 21 (d := dd_InvalidRatio___init__) rfl
  obtain ⟨fd_22, F_22⟩ := c1.def_ 22 (d := dd_InvalidKinds___init__) rfl
  obtain ⟨fd_23, F_23⟩ := c1.def_ 23 (d := dd_InvalidLink___init__) rfl
  obtain ⟨fd_24, F_24⟩ := c1.def_ 24 (d := dd_InvalidEnd___init__) rfl
  obtain ⟨fd_25, F_25⟩ := c1.def_ 25 (d := dd_InvalidModel___init__) rfl
  obtain ⟨fd_26, F_26⟩ := c1.def_ 26 (d := dd_InvalidTotal___init__) rfl
  obtain ⟨fd_27, F_27⟩ := c1.def_ 27 (d := dd_InvalidPair___init__) rfl
  obtain ⟨fd_28, F_28⟩ := c1.def_ 28 (d := dd_InvalidRow___init__) rfl
  obtain ⟨fd_29, F_29⟩ := c1.def_ 29 (d := dd_InvalidPairs___init__) rfl
  obtain ⟨fd_30, F_30⟩ := c1.def_ 30 (d := dd_InvalidDatabase___init__) rfl
  obtain ⟨fd_31, F_31⟩ := c1.def_ 31 (d := dd_InvalidWay___init__) rfl
  obtain ⟨fd_32, F_32⟩ := c1.def_ 32 (d := dd_InvalidSizes___init__) rfl
  obtain ⟨fd_33, F_33⟩ := c1.def_ 33 (d := dd_InvalidTold___init__) rfl
  obtain ⟨fd_34, F_34⟩ := c1.def_ 34 (d := dd_InvalidText___init__) rfl
  obtain ⟨fd_35, F_35⟩ := c1.def_ 35 (d := dd_InvalidClaim___init__) rfl
  obtain ⟨fd_36, F_36⟩ := c1.def_ 36 (d := dd_InvalidCommand___init__) rfl
  obtain ⟨fd_37, F_37⟩ := c1.def_ 37 (d := dd_EmptyBy___init__) rfl
  obtain ⟨fd_38, F_38⟩ := c1.def_ 38 (d := dd_UnknownKind___init__) rfl
  obtain ⟨fd_39, F_39⟩ := c1.def_ 39 (d := dd_UnknownLink___init__) rfl
  obtain ⟨fd_40, F_40⟩ := c1.def_ 40 (d := dd_UnknownRow___init__) rfl
  obtain ⟨fd_41, F_41⟩ := c1.def_ 41 (d := dd_UnknownThing___init__) rfl
  obtain ⟨fd_42, F_42⟩ := c1.def_ 42 (d := dd_Apart___init__) rfl
  obtain ⟨fd_43, F_43⟩ := c1.def_ 43 (d := dd_Taken___init__) rfl
  obtain ⟨fd_44, F_44⟩ := c1.def_ 44 (d := dd_Empty___init__) rfl
  obtain ⟨fd_45, F_45⟩ := c1.def_ 45 (d := dd_NotLet___init__) rfl
  obtain ⟨fd_46, F_46⟩ := c1.def_ 46 (d := dd_Lacking___init__) rfl
  obtain ⟨fd_47, F_47⟩ := c1.def_ 47 (d := dd_CommandFailed___init__) rfl
  obtain ⟨fd_48, F_48⟩ := c1.def_ 48 (d := dd_TooMany___init__) rfl
  obtain ⟨fd_49, F_49⟩ := c1.def_ 49 (d := dd_law) rfl
  have M : Md K mg (He.ga K "InvalidName") (He.ga K "InvalidCount") (He.ga K "InvalidNumber") (He.ga K "InvalidMany") (He.ga K "InvalidRatio") (He.ga K "InvalidKinds") (He.ga K "InvalidLink") (He.ga K "InvalidEnd") (He.ga K "InvalidModel") (He.ga K "InvalidTotal") (He.ga K "InvalidPair") (He.ga K "InvalidRow") (He.ga K "InvalidPairs") (He.ga K "InvalidDatabase") (He.ga K "InvalidWay") (He.ga K "InvalidSizes") (He.ga K "InvalidTold") (He.ga K "InvalidText") (He.ga K "InvalidClaim") (He.ga K "InvalidCommand") (He.ga K "EmptyBy") (He.ga K "UnknownKind") (He.ga K "UnknownLink") (He.ga K "UnknownRow") (He.ga K "UnknownThing") (He.ga K "Apart") (He.ga K "Taken") (He.ga K "Empty") (He.ga K "NotLet") (He.ga K "Lacking") (He.ga K "NothingToUndo") (He.ga K "CommandFailed") (He.ga K "TooMany") (He.ga K "EachError") (He.ga K "MissingError") (He.ga K "StateError") (He.ga K "LimitError") := ⟨He.free_ok X G (c1.fact 55 (f := .free "isinstance") rfl),
    He.free_ok X G (c1.fact 56 (f := .free "int") rfl),
    He.free_ok X G (c1.fact 57 (f := .free "min") rfl),
    He.free_ok X G (c1.fact 58 (f := .free "max") rfl),
    He.free_ok X G (c1.fact 59 (f := .free "abs") rfl),
    He.free_ok X G (c1.fact 60 (f := .free "divmod") rfl),
    He.free_ok X G (c1.fact 61 (f := .free "len") rfl),
    He.free_ok X G (c1.fact 62 (f := .free "range") rfl),
    He.free_ok X G (c1.fact 63 (f := .free "all") rfl),
    He.free_ok X G (c1.fact 64 (f := .free "repr") rfl),
    He.free_ok X G (c1.fact 65 (f := .free "enumerate") rfl),
    He.free_ok X G (c1.fact 66 (f := .free "ValueError") rfl),
    He.free_ok X G (c1.fact 67 (f := .free "LookupError") rfl),
    He.free_ok X G (c1.fact 68 (f := .free "RuntimeError") rfl),
    He.free_ok X G (c1.fact 69 (f := .free "ArithmeticError") rfl),
    He.free_ok X G (c1.fact 70 (f := .free "KeyError") rfl),
    He.free_ok X G (c1.fact 71 (f := .free "IndexError") rfl),
    ⟨_, _, F_0, (He.glo_ok X G (c1.fact 0 (f := .glo "_law_rng") rfl))⟩,
    ⟨_, _, F_1, (He.glo_ok X G (c1.fact 1 (f := .glo "_law_draw") rfl))⟩,
    ⟨_, _, F_2, (He.glo_ok X G (c1.fact 2 (f := .glo "_law_choice") rfl))⟩,
    ⟨_, _, F_3, (He.glo_ok X G (c1.fact 3 (f := .glo "_law_first") rfl))⟩,
    ⟨_, _, F_4, (He.glo_ok X G (c1.fact 4 (f := .glo "_law_second") rfl))⟩,
    ⟨_, _, F_5, (He.glo_ok X G (c1.fact 5 (f := .glo "_law_third") rfl))⟩,
    ⟨_, _, F_6, (He.glo_ok X G (c1.fact 6 (f := .glo "_law_first_named") rfl))⟩,
    ⟨_, _, F_7, (He.glo_ok X G (c1.fact 7 (f := .glo "_law_second_named") rfl))⟩,
    ⟨_, _, F_8, (He.glo_ok X G (c1.fact 8 (f := .glo "_law_third_named") rfl))⟩,
    ⟨_, _, F_9, (He.glo_ok X G (c1.fact 9 (f := .glo "_law_made") rfl))⟩,
    ⟨_, _, F_10, (He.glo_ok X G (c1.fact 10 (f := .glo "_law_named") rfl))⟩,
    ⟨_, _, F_11, (He.glo_ok X G (c1.fact 11 (f := .glo "_law_flags") rfl))⟩,
    ⟨_, _, F_12, (He.glo_ok X G (c1.fact 12 (f := .glo "_law_bases") rfl))⟩,
    ⟨_, _, F_13, (He.glo_ok X G (c1.fact 13 (f := .glo "_law_kept") rfl))⟩,
    ⟨_, _, F_14, (He.glo_ok X G (c1.fact 14 (f := .glo "_law_last_kept") rfl))⟩,
    ⟨_, _, F_15, (He.glo_ok X G (c1.fact 15 (f := .glo "_law_one_right") rfl))⟩,
    ⟨_, _, F_16, (He.glo_ok X G (c1.fact 16 (f := .glo "_law_grounds_right") rfl))⟩,
    of_decide_eq_true (all_at t 0 rfl),
    of_decide_eq_true (all_at t 1 rfl),
    of_decide_eq_true (all_at t 2 rfl),
    (He.glo_ok X G (c1.fact 17 (f := .glo "InvalidName") rfl)),
    excB_ok (all_at t 3 rfl),
    ⟨_, _, (iniB_ok (all_at t 4 rfl)).1, (iniB_ok (all_at t 4 rfl)).2, F_17⟩,
    no_ok (all_at t 5 rfl),
    (He.glo_ok X G (c1.fact 18 (f := .glo "InvalidCount") rfl)),
    excB_ok (all_at t 6 rfl),
    ⟨_, _, (iniB_ok (all_at t 7 rfl)).1, (iniB_ok (all_at t 7 rfl)).2, F_18⟩,
    no_ok (all_at t 8 rfl),
    (He.glo_ok X G (c1.fact 19 (f := .glo "InvalidNumber") rfl)),
    excB_ok (all_at t 9 rfl),
    ⟨_, _, (iniB_ok (all_at t 10 rfl)).1, (iniB_ok (all_at t 10 rfl)).2, F_19⟩,
    no_ok (all_at t 11 rfl),
    (He.glo_ok X G (c1.fact 20 (f := .glo "InvalidMany") rfl)),
    excB_ok (all_at t 12 rfl),
    ⟨_, _, (iniB_ok (all_at t 13 rfl)).1, (iniB_ok (all_at t 13 rfl)).2, F_20⟩,
    no_ok (all_at t 14 rfl),
    (He.glo_ok X G (c1.fact 21 (f := .glo "InvalidRatio") rfl)),
    excB_ok (all_at t 15 rfl),
    ⟨_, _, (iniB_ok (all_at t 16 rfl)).1, (iniB_ok (all_at t 16 rfl)).2, F_21⟩,
    no_ok (all_at t 17 rfl),
    (He.glo_ok X G (c1.fact 22 (f := .glo "InvalidKinds") rfl)),
    excB_ok (all_at t 18 rfl),
    ⟨_, _, (iniB_ok (all_at t 19 rfl)).1, (iniB_ok (all_at t 19 rfl)).2, F_22⟩,
    no_ok (all_at t 20 rfl),
    (He.glo_ok X G (c1.fact 23 (f := .glo "InvalidLink") rfl)),
    excB_ok (all_at t 21 rfl),
    ⟨_, _, (iniB_ok (all_at t 22 rfl)).1, (iniB_ok (all_at t 22 rfl)).2, F_23⟩,
    no_ok (all_at t 23 rfl),
    (He.glo_ok X G (c1.fact 24 (f := .glo "InvalidEnd") rfl)),
    excB_ok (all_at t 24 rfl),
    ⟨_, _, (iniB_ok (all_at t 25 rfl)).1, (iniB_ok (all_at t 25 rfl)).2, F_24⟩,
    no_ok (all_at t 26 rfl),
    (He.glo_ok X G (c1.fact 25 (f := .glo "InvalidModel") rfl)),
    excB_ok (all_at t 27 rfl),
    ⟨_, _, (iniB_ok (all_at t 28 rfl)).1, (iniB_ok (all_at t 28 rfl)).2, F_25⟩,
    no_ok (all_at t 29 rfl),
    (He.glo_ok X G (c1.fact 26 (f := .glo "InvalidTotal") rfl)),
    excB_ok (all_at t 30 rfl),
    ⟨_, _, (iniB_ok (all_at t 31 rfl)).1, (iniB_ok (all_at t 31 rfl)).2, F_26⟩,
    no_ok (all_at t 32 rfl),
    (He.glo_ok X G (c1.fact 27 (f := .glo "InvalidPair") rfl)),
    excB_ok (all_at t 33 rfl),
    ⟨_, _, (iniB_ok (all_at t 34 rfl)).1, (iniB_ok (all_at t 34 rfl)).2, F_27⟩,
    no_ok (all_at t 35 rfl),
    (He.glo_ok X G (c1.fact 28 (f := .glo "InvalidRow") rfl)),
    excB_ok (all_at t 36 rfl),
    ⟨_, _, (iniB_ok (all_at t 37 rfl)).1, (iniB_ok (all_at t 37 rfl)).2, F_28⟩,
    no_ok (all_at t 38 rfl),
    (He.glo_ok X G (c1.fact 29 (f := .glo "InvalidPairs") rfl)),
    excB_ok (all_at t 39 rfl),
    ⟨_, _, (iniB_ok (all_at t 40 rfl)).1, (iniB_ok (all_at t 40 rfl)).2, F_29⟩,
    no_ok (all_at t 41 rfl),
    no_ok (all_at t 42 rfl),
    (He.glo_ok X G (c1.fact 30 (f := .glo "InvalidDatabase") rfl)),
    excB_ok (all_at t 43 rfl),
    ⟨_, _, (iniB_ok (all_at t 44 rfl)).1, (iniB_ok (all_at t 44 rfl)).2, F_30⟩,
    no_ok (all_at t 45 rfl),
    (He.glo_ok X G (c1.fact 31 (f := .glo "InvalidWay") rfl)),
    excB_ok (all_at t 46 rfl),
    ⟨_, _, (iniB_ok (all_at t 47 rfl)).1, (iniB_ok (all_at t 47 rfl)).2, F_31⟩,
    no_ok (all_at t 48 rfl),
    (He.glo_ok X G (c1.fact 32 (f := .glo "InvalidSizes") rfl)),
    excB_ok (all_at t 49 rfl),
    ⟨_, _, (iniB_ok (all_at t 50 rfl)).1, (iniB_ok (all_at t 50 rfl)).2, F_32⟩,
    no_ok (all_at t 51 rfl),
    (He.glo_ok X G (c1.fact 33 (f := .glo "InvalidTold") rfl)),
    excB_ok (all_at t 52 rfl),
    ⟨_, _, (iniB_ok (all_at t 53 rfl)).1, (iniB_ok (all_at t 53 rfl)).2, F_33⟩,
    no_ok (all_at t 54 rfl),
    (He.glo_ok X G (c1.fact 34 (f := .glo "InvalidText") rfl)),
    excB_ok (all_at t 55 rfl),
    ⟨_, _, (iniB_ok (all_at t 56 rfl)).1, (iniB_ok (all_at t 56 rfl)).2, F_34⟩,
    no_ok (all_at t 57 rfl),
    (He.glo_ok X G (c1.fact 35 (f := .glo "InvalidClaim") rfl)),
    excB_ok (all_at t 58 rfl),
    ⟨_, _, (iniB_ok (all_at t 59 rfl)).1, (iniB_ok (all_at t 59 rfl)).2, F_35⟩,
    no_ok (all_at t 60 rfl),
    (He.glo_ok X G (c1.fact 36 (f := .glo "InvalidCommand") rfl)),
    excB_ok (all_at t 61 rfl),
    ⟨_, _, (iniB_ok (all_at t 62 rfl)).1, (iniB_ok (all_at t 62 rfl)).2, F_36⟩,
    no_ok (all_at t 63 rfl),
    (He.glo_ok X G (c1.fact 37 (f := .glo "EmptyBy") rfl)),
    excB_ok (all_at t 64 rfl),
    ⟨_, _, (iniB_ok (all_at t 65 rfl)).1, (iniB_ok (all_at t 65 rfl)).2, F_37⟩,
    no_ok (all_at t 66 rfl),
    (He.glo_ok X G (c1.fact 38 (f := .glo "UnknownKind") rfl)),
    excB_ok (all_at t 67 rfl),
    ⟨_, _, (iniB_ok (all_at t 68 rfl)).1, (iniB_ok (all_at t 68 rfl)).2, F_38⟩,
    no_ok (all_at t 69 rfl),
    (He.glo_ok X G (c1.fact 39 (f := .glo "UnknownLink") rfl)),
    excB_ok (all_at t 70 rfl),
    ⟨_, _, (iniB_ok (all_at t 71 rfl)).1, (iniB_ok (all_at t 71 rfl)).2, F_39⟩,
    no_ok (all_at t 72 rfl),
    (He.glo_ok X G (c1.fact 40 (f := .glo "UnknownRow") rfl)),
    excB_ok (all_at t 73 rfl),
    ⟨_, _, (iniB_ok (all_at t 74 rfl)).1, (iniB_ok (all_at t 74 rfl)).2, F_40⟩,
    no_ok (all_at t 75 rfl),
    (He.glo_ok X G (c1.fact 41 (f := .glo "UnknownThing") rfl)),
    excB_ok (all_at t 76 rfl),
    ⟨_, _, (iniB_ok (all_at t 77 rfl)).1, (iniB_ok (all_at t 77 rfl)).2, F_41⟩,
    no_ok (all_at t 78 rfl),
    (He.glo_ok X G (c1.fact 42 (f := .glo "Apart") rfl)),
    excB_ok (all_at t 79 rfl),
    ⟨_, _, (iniB_ok (all_at t 80 rfl)).1, (iniB_ok (all_at t 80 rfl)).2, F_42⟩,
    no_ok (all_at t 81 rfl),
    no_ok (all_at t 82 rfl),
    (He.glo_ok X G (c1.fact 43 (f := .glo "Taken") rfl)),
    excB_ok (all_at t 83 rfl),
    ⟨_, _, (iniB_ok (all_at t 84 rfl)).1, (iniB_ok (all_at t 84 rfl)).2, F_43⟩,
    no_ok (all_at t 85 rfl),
    (He.glo_ok X G (c1.fact 44 (f := .glo "Empty") rfl)),
    excB_ok (all_at t 86 rfl),
    ⟨_, _, (iniB_ok (all_at t 87 rfl)).1, (iniB_ok (all_at t 87 rfl)).2, F_44⟩,
    no_ok (all_at t 88 rfl),
    no_ok (all_at t 89 rfl),
    (He.glo_ok X G (c1.fact 45 (f := .glo "NotLet") rfl)),
    excB_ok (all_at t 90 rfl),
    ⟨_, _, (iniB_ok (all_at t 91 rfl)).1, (iniB_ok (all_at t 91 rfl)).2, F_45⟩,
    no_ok (all_at t 92 rfl),
    no_ok (all_at t 93 rfl),
    (He.glo_ok X G (c1.fact 46 (f := .glo "Lacking") rfl)),
    excB_ok (all_at t 94 rfl),
    ⟨_, _, (iniB_ok (all_at t 95 rfl)).1, (iniB_ok (all_at t 95 rfl)).2, F_46⟩,
    no_ok (all_at t 96 rfl),
    (He.glo_ok X G (c1.fact 47 (f := .glo "NothingToUndo") rfl)),
    excB_ok (all_at t 97 rfl),
    (all_at t 98 rfl),
    (He.glo_ok X G (c1.fact 48 (f := .glo "CommandFailed") rfl)),
    excB_ok (all_at t 99 rfl),
    ⟨_, _, (iniB_ok (all_at t 100 rfl)).1, (iniB_ok (all_at t 100 rfl)).2, F_47⟩,
    no_ok (all_at t 101 rfl),
    (He.glo_ok X G (c1.fact 49 (f := .glo "TooMany") rfl)),
    excB_ok (all_at t 102 rfl),
    ⟨_, _, (iniB_ok (all_at t 103 rfl)).1, (iniB_ok (all_at t 103 rfl)).2, F_48⟩,
    no_ok (all_at t 104 rfl),
    no_ok (all_at t 105 rfl),
    (He.glo_ok X G (c1.fact 50 (f := .glo "EachError") rfl)),
    excB_ok (all_at t 106 rfl),
    (all_at t 107 rfl),
    (He.glo_ok X G (c1.fact 51 (f := .glo "MissingError") rfl)),
    excB_ok (all_at t 108 rfl),
    (all_at t 109 rfl),
    (He.glo_ok X G (c1.fact 52 (f := .glo "StateError") rfl)),
    excB_ok (all_at t 110 rfl),
    (all_at t 111 rfl),
    (He.glo_ok X G (c1.fact 53 (f := .glo "LimitError") rfl)),
    excB_ok (all_at t 112 rfl),
    (all_at t 113 rfl)⟩
  have e := hfa.symm.trans (He.glo_ok X G (c1.fact 54 (f := .glo "law") rfl))
  cases e
  have b := FunD.bindsA (ps := ["_law_script"]) F_49 fun _ _ _ _ _ _ us hl => match us, hl with | [_], _ => rfl
  exact ⟨_, fun s v => b s [v] rfl, fun base _ _ => ok_law M F_49⟩
end My
open PySem PySem.W PyProof.Rows
set_option maxRecDepth 100000 in
set_option maxHeartbeats 0 in
theorem PySem.Challenge.cw_howmanyeach_k10_error_classes_holds : PySem.Challenge.rw_howmanyeach_k10_error_classes.Holds := by
  w_on; o_law
  refine HandSHeadRun.head_any (r := My.rowR) (q := view My.rowR.prog [56]) (H := My.hkL) (ob := My.obL) (M := 12000) (loose := My.looseL) (d := HandSHeadRun.topDef My.rowR.prog 56) (kwd := []) My.obL_eq (by kernel_rfl) (fun s => by kernel_rfl) My.runL (by kernel_rfl) (by kernel_rfl) (by kernel_rfl) (by rfl) (by first | assumption | decide +kernel) (by decide +kernel) ⟨rfl, rfl, rfl, rfl, rfl, by decide +kernel⟩ ?hw ?hc
  case hw => w_witness2
  case hc =>
    refine My.walkGE (l := PySem.Challenge.rw_howmanyeach_k10_error_classes) (n := 63) (k := 7) (x := "_law_script") rfl (by decide) (by kernel_rfl) ⟨⟨rfl, by decide, by decide⟩, rfl⟩ ?F
    intro w mg fa h Y G hmg0
    obtain ⟨K, KX, c⟩ := Y
    have hmg : mg ("law" : PySem.Str) = some (.ref fa) := by
      have e : (HandSHeadRun.topDef My.rowR.prog 56).name = ("law" : PySem.Str) := by kernel_rfl
      rw [← e]
      exact hmg0
    obtain ⟨fd, hb, hF⟩ := My.facts (P := (PySem.Challenge.rw_howmanyeach_k10_error_classes).prog) (w := w) KX G hmg c
    exact ⟨K, fd, My.spLaw K, KX, hb, fun H a ns hl _ hS => ⟨a, ns, rfl, hS, hl, fun _ => rfl⟩, hF⟩
end
