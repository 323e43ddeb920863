import PyProof.Rows.All
import Wide.All
import OpenK.AllK
import Wide.FinOn
import HandS.Base
import HandS.Call
import KE.KOpsOwn
import KE.KIsAll
import KE.KNestM
import HandS.Head0
import HandS.Head1
import HandS.Head2
import HandS.HeadEnd
import HandS.HeadHook1
import HandS.HeadHook2
import HandS.HeadHook3
import HandS.HeadHook4
import HandS.ForMost
import HandS.Wide
import HandS.WideBits
import HandS.Property
import HandS.Defaults
import HandS.RaiseMore
import HandS.IsInst
import HandS.Flow
import HandS.SetFor
import HandS.Strs
import HandS.Conv
import OpenK.KMeth
import PyProof.InstNe
import PyProof.Conv_bool
import HandS.DictComp
import HandS.More
import HandS.Finally
import HandS.Iter
import HandS.Text
import HandS.Small
import HandS.FStr
import OpenK.KMore
import HandS.ExcInit
import HandS.ExcField
import HandS.ExcIs
import KE.KExcInit
import KE.KExcLine
import HandS.ExcValue
import HandS.Dict
import HandS.ForDict
import HandS.Walk
import HandS.Style
import KE.KParC
import HandS.ClsMeth
import HandS.ListItems
import KE.KCallOwn
import HandS.TryMany
import HandS.ExcOwn
import HandS.Replace
import HandS.Steps
import HandS.Lambda
import HandS.EndTab
import HandS.HotCalls
import HandS.OwnEq
import HandS.Gcd
import HandS.Head3
import PyProof.LongRange
import HandS.MakeKw
import PyProof.EqKinds
import PyProof.EqAt
import KE.KFmtOwn
import PyProof.SumAnyB
import PyProof.MinMaxWalk
import HandS.SortOrd
import KE.KSortAsk
import HandS.TupLe
import KE.KSortTup
import HandS.SortKw
import PySem.Challenge.RW_howmanyeach_k16_whole_manys_in_order
set_option Elab.async false
set_option linter.all false
set_option maxRecDepth 100000
set_option maxHeartbeats 4000000
namespace My
open PySem L2 PySem.Spec PyProof.Rows PySem.W
/-! ### what the run of the top is asked for (defs alone; their theorems stand behind) -/
def exfB (K : Frag) (C : Addr) (mro : List Value) (newId : String) : Bool :=
  match K.lookup C with
    | some ⟨c, _, .cls cd, sl⟩ => decide (c = .type "type") && (decide (cd.mro = mro) && (cd.hasDict && (!cd.hasDel && (decide (sl.toList.length = 6) && decide (sl.toList[4]? = some (some (.builtin newId)))))))
    | _ => false
def eqO (a b : Option (Option Value)) : Bool := decide (a = b)
def excB (K : Frag) (C : Addr) (mro : List Value) (newId : String) : Bool :=
  exfB K C mro newId && (eqO (findIn K (.ref C) "__setattr__") (some (some (.builtin "object.__setattr__"))) && (keepIn K (.ref C) && (eqO (findIn K (.ref C) "__getattribute__") (some (some (.builtin "BaseException.__getattribute__"))) &&
    (eqO (findIn K (.ref C) "__getattr__") (some none) && (eqO (findIn K (.ref C) "__class__") (some (some (.builtin "object.__class__"))) && decide (typeIn K (.ref C) = some (.type "type")))))))
/-- an own __init__ -/
def iniB (K : Frag) (C : Addr) : Bool := eqO (findIn K (.ref C) "__init__") (some (some (.ref (He.ma K C "__init__")))) && isFn K (.ref (He.ma K C "__init__"))
def fnA (K : Frag) (a : Addr) : He.FnW := match K.lookup a with
  | some ⟨_, _, .func fd, _⟩ => some (fd.name, fd.qualname, fd.params, fd.body, fd.scope, fd.globals, fd.closure, fd.builtins)
  | _ => none
def okA (K : Frag) (a : Addr) (d : He.DefD) : Bool := keepIn K (.ref a) && (match K.lookup a with
  | some ⟨_, _, .func fd, _⟩ => codeIn K fd.code d.qual && (He.dflB K fd.defaults (d.dvs K) && He.kwdB K fd.kwdefaults (d.kws K))
  | _ => false)
abbrev AtD : Type := (Frag → Addr) × He.DefD
abbrev AlY : Type := He.AlD × (Bool × List He.FnW)
def obsY (fa : List He.Fa) (fn : List He.DefD) (ad : List AtD) (ex : Frag → Bool) (K : Frag) : AlY := (He.obsD fa fn K, (ex K && ad.all fun d => okA K (d.1 K) d.2, ad.map fun d => fnA K (d.1 K)))
def valY (fn : List He.DefD) (ad : List AtD) : AlY := (He.valD fn, (true, ad.map fun d => d.2.val))
def SaysY (fa : List He.Fa) (fn : List He.DefD) (ad : List AtD) (ex : Frag → Bool) (K : Frag) : Prop := obsY fa fn ad ex K = valY fn ad
def obsYG (n : Nat) (fa : List He.Fa) (fn : List He.DefD) (ad : List AtD) (ex : Frag → Bool) (g : Addr → Option Obj) : AlY := obsY fa fn ad ex (He.frG g (He.asD g n ++ [cStatics]))
def hookY (n : Nat) (fa : List He.Fa) (fn : List He.DefD) (ad : List AtD) (ex : Frag → Bool) : Hook where
  α := AlY
  obs := fun s => obsYG n fa fn ad ex s.heap.get?
  val := fun _ => valY fn ad
  says := fun _ h => ∃ K : Frag, K.In h ∧ SaysY fa fn ad ex K
  of := fun _ _ e => ⟨_, He.frG_in, e⟩
  keeps := fun _ _ _ ⟨K, hK, c⟩ k => ⟨K, Frag.In.keeps hK k, c⟩
theorem obsYG_eq {n : Nat} {fa : List He.Fa} {fn : List He.DefD} {ad : List AtD} {ex : Frag → Bool} {g : Addr → Option Obj} {s : Shared} (h : ∀ a, g a = s.heap.get? a) : obsYG n fa fn ad ex g = (hookY n fa fn ad ex).obs s := by
  have e : g = s.heap.get? := funext h
  rw [e]
  rfl
def staP (K : Frag) (C : Addr) (m : Str) : Addr := match findCls K (.ref C) (.type "type") m with
  | some (.get _ (.ref p) _ _) => p
  | _ => 0
def staF (K : Frag) (C : Addr) (m : Str) : Addr := match recIn K (staP K C m) "staticmethod" with
  | some (.ref f :: _) => f
  | _ => 0
def staB (K : Frag) (C : Addr) (m : Str) : Bool := readsIn K C (.type "type") && (eqO (specialIn K (.ref C) "__getattribute__") (some (some (.builtin "type.__getattribute__"))) && (match findCls K (.ref C) (.type "type") m with
  | some (.get g (.ref _) o t) => decide (g = .builtin "staticmethod.__get__") && (decide (o = .none) && (decide (t = .ref C) && (match recIn K (staP K C m) "staticmethod" with
    | some (.ref _ :: _) => keepIn K (.ref (staF K C m))
    | _ => false)))
  | _ => false))
def prP (K : PySem.W.Frag) (c m : Str) : Addr := match PySem.W.findIn K (.ref (He.ga K c)) m with
  | some (some (.ref p)) => p
  | _ => 0
def prA (K : PySem.W.Frag) (c m : Str) : Addr := match PySem.W.recIn K (prP K c m) "property" with
  | some (.ref g :: _) => g
  | _ => 0
def prB (K : PySem.W.Frag) (c m : Str) : Bool := eqO (PySem.W.findIn K (.ref (He.ga K c)) m) (some (some (.ref (prP K c m)))) && (eqO (PySem.W.specialIn K (.ref (prP K c m)) "__get__") (some (some (.builtin "property.__get__"))) &&
  (decide (PySem.W.takesIn K (.ref (prP K c m)) = some true) && (match PySem.W.recIn K (prP K c m) "property" with
    | some (.ref _ :: _) => true
    | _ => false)))
/-- the code object and the table of the def at a -/
def tcC (K : Frag) (a : Addr) : Addr := match K.lookup a with
  | some ⟨_, _, .func fd, _⟩ => (match fd.code with | .ref c => c | _ => 0)
  | _ => 0
def tcP (K : Frag) (a : Addr) : Addr := match K.lookup (tcC K a) with
  | some ⟨_, _, .fields us, _⟩ => (match (us[11]? : Option Value) with | some (.ref p) => p | _ => 0)
  | _ => 0
def isTabO (o : Obj) : Bool := match o with
  | ⟨.none, none, .fields us, sl⟩ => us.size == 0 && sl.size == 0
  | _ => false
def isTabG (g : Addr → Option Obj) (a : Addr) : Bool := match g a with
  | some o => isTabO o
  | none => false
def asK (n : Nat) (g : Addr → Option Obj) : List Addr := He.asD g n ++ [cStatics]
def frK (n : Nat) (g : Addr → Option Obj) : Frag := He.frG g ((asK n g).filter fun a => !isTabG g a)
def frT (n : Nat) (g : Addr → Option Obj) : Frag := He.frG g ((asK n g).filter fun a => isTabG g a)
def obsZG (n : Nat) (fa : List He.Fa) (fn : List He.DefD) (ad : List AtD) (ex : Frag → Frag → Bool) (g : Addr → Option Obj) : AlY := obsY fa fn ad (ex (frT n g)) (frK n g)
def hookZ (n : Nat) (fa : List He.Fa) (fn : List He.DefD) (ad : List AtD) (ex : Frag → Frag → Bool) : Hook where
  α := AlY
  obs := fun s => obsZG n fa fn ad ex s.heap.get?
  val := fun _ => valY fn ad
  says := fun _ h => ∃ T K : Frag, T.In h ∧ K.In h ∧ SaysY fa fn ad (ex T) K
  of := fun _ _ e => ⟨_, _, He.frG_in, He.frG_in, e⟩
  keeps := fun _ _ _ ⟨T, K, hT, hK, c⟩ k => ⟨T, K, Frag.In.keeps hT k, Frag.In.keeps hK k, c⟩
theorem obsZG_eq {n : Nat} {fa : List He.Fa} {fn : List He.DefD} {ad : List AtD} {ex : Frag → Frag → Bool} {g : Addr → Option Obj} {s : Shared} (h : ∀ a, g a = s.heap.get? a) : obsZG n fa fn ad ex g = (hookZ n fa fn ad ex).obs s := by
  have e : g = s.heap.get? := funext h
  rw [e]
  rfl
def tabOkB (T K : Frag) (a : Addr) : Bool := codeHdIn K (tcC K a) (tcP K a) && ((K.lookup (tcP K a)).isNone && (match T.lookup (tcP K a) with | some o => isTabO o | none => false))
def bTys : List Value := [.type "NoneType", .type "bool", .type "int", .type "str", .type "tuple", .type "list", .type "dict"]
def aTys (L : List Addr) : List Value := bTys ++ L.map Value.ref
def subT (t u : Value) : Bool := t == u || (t == .type "bool" && u == .type "int")
def kitsB (K : Frag) (L : List Addr) : Bool := (aTys L).all fun t => (aTys L).all fun u => kitOne K t u == some (subT t u)
def fnAt (K : Frag) (D : Addr) (x : Str) : Bool := match findIn K (.ref D) x with
  | some (some (.ref g)) => true
  | _ => false
/-- an operand of type t does not come before C's own nm -/
def rightB (K : Frag) (C : Addr) (nm : String) (t : Value) : Bool := match t with
  | .type T => (findIn K (.type T) (PySem.dunder nm)).isSome && ((findIn K (.type T) (dunderR nm)).isSome && subIn K (.type T) (.ref C) == some false)
  | .ref D => D == C || (!(C == D) && ((findIn K (.ref D) (PySem.dunder nm) == some none && (findIn K (.ref D) (dunderR nm) == some none && ((clsIn K D).any (fun cd => cd.mro == [.ref D, .type "object"]) && (findIn K (.type "object") (PySem.dunder nm) == some none && findIn K (.type "object") (dunderR nm) == some none)))) ||
      ((fnAt K D (PySem.dunder nm) && (fnAt K D (dunderR nm) && (selfFirst K D && subIn K (.ref D) (.ref C) == some false))) ||
        (fnAt K D (PySem.dunder nm) && (findIn K (.ref D) (dunderR nm) == some none && (selfFirst K D && subIn K (.ref D) (.ref C) == some false))))))
  | _ => false
/-- C's reflected method: there or not, as a def -/
def reflB (K : Frag) (C : Addr) (nm : String) : Bool := findIn K (.ref C) (dunderR nm) == some none || fnAt K C (dunderR nm)
def opsB (K : Frag) (C : Addr) (nm : String) (L : List Addr) : Bool := selfFirst K C && (reflB K C nm && (aTys L).all (rightB K C nm))
def reflOk (K : Frag) (C : Addr) (nm : String) : Bool := selfFirst K C && (fnAt K C (PySem.dunder nm) && (subIn K (.ref C) (.type "int") == some false && subIn K (.ref C) (.type "bool") == some false))
/-- C.f is the int i, read off the class and through an instance -/
def cvB (K : Frag) (C : Addr) (f : Str) (i : Int) : Bool := readsIn K C (.type "type") && (eqO (specialIn K (.ref C) "__getattribute__") (some (some (.builtin "type.__getattribute__"))) && ((match findCls K (.ref C) (.type "type") f with
  | some (.val (.int j _)) => decide (j = i)
  | _ => false) && (match findIn K (.ref C) f with
  | some (some (.int j t)) => decide (j = i) && decide (specialIn K (.int j t) "__get__" = some none)
  | _ => false)))
/-- C lies below no built-in kind -/
def belowNo (K : Frag) (C : Addr) : Bool := ["NoneType", "bool", "int", "str", "tuple", "list", "dict"].all fun T => subIn K (.ref C) (.type T) == some false
end My

section
namespace My
open PySem L2
def top (i : Nat) : Stmt := PySem.Challenge.pw_howmanyeach_k16_whole_manys_in_order.main.body.getD i (.Pass ⟨0, 0, 0, 0⟩)
abbrev st_is_integer : Stmt := top 12
abbrev N_is_integer : List Str := ["value"]
abbrev P_is_integer : List Str := ["value"]
theorem sc_is_integer : FnScope N_is_integer P_is_integer (defScope st_is_integer) := ⟨rfl, rfl, rfl, by decide +kernel, rfl, by decide +kernel, by decide +kernel⟩
abbrev st_is_count : Stmt := top 13
abbrev N_is_count : List Str := ["value"]
abbrev P_is_count : List Str := ["value"]
theorem sc_is_count : FnScope N_is_count P_is_count (defScope st_is_count) := ⟨rfl, rfl, rfl, by decide +kernel, rfl, by decide +kernel, by decide +kernel⟩
abbrev st__is_up_to : Stmt := top 17
abbrev N__is_up_to : List Str := ["number", "most"]
abbrev P__is_up_to : List Str := ["number", "most"]
theorem sc__is_up_to : FnScope N__is_up_to P__is_up_to (defScope st__is_up_to) := ⟨rfl, rfl, rfl, by decide +kernel, rfl, by decide +kernel, by decide +kernel⟩
abbrev st__law_rng : Stmt := top 24
abbrev N__law_rng : List Str := ["_law_script", "_law_k", "_law_cell"]
abbrev P__law_rng : List Str := ["_law_script", "_law_k"]
theorem sc__law_rng : FnScope N__law_rng P__law_rng (defScope st__law_rng) := ⟨rfl, rfl, rfl, by decide +kernel, rfl, by decide +kernel, by decide +kernel⟩
abbrev st__law_draw : Stmt := top 25
abbrev N__law_draw : List Str := ["_law_rng_here", "_law_sides", "_law_digit"]
abbrev P__law_draw : List Str := ["_law_rng_here", "_law_sides"]
theorem sc__law_draw : FnScope N__law_draw P__law_draw (defScope st__law_draw) := ⟨rfl, rfl, rfl, by decide +kernel, rfl, by decide +kernel, by decide +kernel⟩
abbrev st__law_choice : Stmt := top 26
abbrev N__law_choice : List Str := ["_law_rng_here", "_law_some"]
abbrev P__law_choice : List Str := ["_law_rng_here", "_law_some"]
theorem sc__law_choice : FnScope N__law_choice P__law_choice (defScope st__law_choice) := ⟨rfl, rfl, rfl, by decide +kernel, rfl, by decide +kernel, by decide +kernel⟩
abbrev st__law_pairs : Stmt := top 27
abbrev N__law_pairs : List Str := ["_law_rng_here", "_law_found", "_law_turn", "_law_low", "_law_way", "_law_more", "_law_pair"]
abbrev P__law_pairs : List Str := ["_law_rng_here"]
theorem sc__law_pairs : FnScope N__law_pairs P__law_pairs (defScope st__law_pairs) := ⟨rfl, rfl, rfl, by decide +kernel, rfl, by decide +kernel, by decide +kernel⟩
abbrev st__law_ahead : Stmt := top 28
abbrev N__law_ahead : List Str := ["_law_one", "_law_two"]
abbrev P__law_ahead : List Str := ["_law_one", "_law_two"]
theorem sc__law_ahead : FnScope N__law_ahead P__law_ahead (defScope st__law_ahead) := ⟨rfl, rfl, rfl, by decide +kernel, rfl, by decide +kernel, by decide +kernel⟩
abbrev st__law_ordered : Stmt := top 29
abbrev N__law_ordered : List Str := ["_law_pairs_here", "_law_found", "_law_pair", "_law_at", "_law_one"]
abbrev P__law_ordered : List Str := ["_law_pairs_here"]
theorem sc__law_ordered : FnScope N__law_ordered P__law_ordered (defScope st__law_ordered) := ⟨rfl, rfl, rfl, by decide +kernel, rfl, by decide +kernel, by decide +kernel⟩
abbrev st__law_row : Stmt := top 30
abbrev N__law_row : List Str := ["_law_made"]
abbrev P__law_row : List Str := ["_law_made"]
theorem sc__law_row : FnScope N__law_row P__law_row (defScope st__law_row) := ⟨rfl, rfl, rfl, by decide +kernel, rfl, by decide +kernel, by decide +kernel⟩
abbrev st__law_two_right : Stmt := top 31
abbrev N__law_two_right : List Str := ["_law_first", "_law_second", "_law_one", "_law_two", "_law_less", "_law_more"]
abbrev P__law_two_right : List Str := ["_law_first", "_law_second"]
theorem sc__law_two_right : FnScope N__law_two_right P__law_two_right (defScope st__law_two_right) := ⟨rfl, rfl, rfl, by decide +kernel, rfl, by decide +kernel, by decide +kernel⟩
abbrev st__law_alone_right : Stmt := top 32
abbrev N__law_alone_right : List Str := ["_law_pair", "_law_made", "_law_truth", "_law_odd"]
abbrev P__law_alone_right : List Str := ["_law_pair"]
theorem sc__law_alone_right : FnScope N__law_alone_right P__law_alone_right (defScope st__law_alone_right) := ⟨rfl, rfl, rfl, by decide +kernel, rfl, by decide +kernel, by decide +kernel⟩
abbrev st__law_right : Stmt := top 33
abbrev N__law_right : List Str := ["_law_rng_here", "_law_pairs_here", "_law_some", "_law_kept", "_law_due", "_law_first", "_law_two", "_law_pair", "_law_made", "_law_row_here", "_law_second"]
abbrev P__law_right : List Str := ["_law_rng_here"]
theorem sc__law_right : FnScope N__law_right P__law_right (defScope st__law_right) := ⟨rfl, rfl, rfl, by decide +kernel, rfl, by decide +kernel, by decide +kernel⟩
abbrev st_Many___init__ : Stmt := inClass (top 16) 1
abbrev N_Many___init__ : List Str := ["self", "least", "most"]
abbrev P_Many___init__ : List Str := ["self", "least", "most"]
theorem sc_Many___init__ : FnScope N_Many___init__ P_Many___init__ (defScope st_Many___init__) := ⟨rfl, rfl, rfl, by decide +kernel, rfl, by decide +kernel, by decide +kernel⟩
abbrev st_Many_least : Stmt := inClass (top 16) 2
abbrev N_Many_least : List Str := ["self"]
abbrev P_Many_least : List Str := ["self"]
theorem sc_Many_least : FnScope N_Many_least P_Many_least (defScope st_Many_least) := ⟨rfl, rfl, rfl, by decide +kernel, rfl, by decide +kernel, by decide +kernel⟩
abbrev st_Many_most : Stmt := inClass (top 16) 3
abbrev N_Many_most : List Str := ["self"]
abbrev P_Many_most : List Str := ["self"]
theorem sc_Many_most : FnScope N_Many_most P_Many_most (defScope st_Many_most) := ⟨rfl, rfl, rfl, by decide +kernel, rfl, by decide +kernel, by decide +kernel⟩
abbrev st_Many___bool__ : Stmt := inClass (top 16) 13
abbrev N_Many___bool__ : List Str := ["self"]
abbrev P_Many___bool__ : List Str := ["self"]
theorem sc_Many___bool__ : FnScope N_Many___bool__ P_Many___bool__ (defScope st_Many___bool__) := ⟨rfl, rfl, rfl, by decide +kernel, rfl, by decide +kernel, by decide +kernel⟩
abbrev st_Many___eq__ : Stmt := inClass (top 16) 14
abbrev N_Many___eq__ : List Str := ["self", "other"]
abbrev P_Many___eq__ : List Str := ["self", "other"]
theorem sc_Many___eq__ : FnScope N_Many___eq__ P_Many___eq__ (defScope st_Many___eq__) := ⟨rfl, rfl, rfl, by decide +kernel, rfl, by decide +kernel, by decide +kernel⟩
abbrev st_Many___lt__ : Stmt := inClass (top 16) 15
abbrev N_Many___lt__ : List Str := ["self", "other"]
abbrev P_Many___lt__ : List Str := ["self", "other"]
theorem sc_Many___lt__ : FnScope N_Many___lt__ P_Many___lt__ (defScope st_Many___lt__) := ⟨rfl, rfl, rfl, by decide +kernel, rfl, by decide +kernel, by decide +kernel⟩
abbrev st_Many___le__ : Stmt := inClass (top 16) 16
abbrev N_Many___le__ : List Str := ["self", "other"]
abbrev P_Many___le__ : List Str := ["self", "other"]
theorem sc_Many___le__ : FnScope N_Many___le__ P_Many___le__ (defScope st_Many___le__) := ⟨rfl, rfl, rfl, by decide +kernel, rfl, by decide +kernel, by decide +kernel⟩
abbrev st_Many___gt__ : Stmt := inClass (top 16) 17
abbrev N_Many___gt__ : List Str := ["self", "other"]
abbrev P_Many___gt__ : List Str := ["self", "other"]
theorem sc_Many___gt__ : FnScope N_Many___gt__ P_Many___gt__ (defScope st_Many___gt__) := ⟨rfl, rfl, rfl, by decide +kernel, rfl, by decide +kernel, by decide +kernel⟩
abbrev st_Many___ge__ : Stmt := inClass (top 16) 18
abbrev N_Many___ge__ : List Str := ["self", "other"]
abbrev P_Many___ge__ : List Str := ["self", "other"]
theorem sc_Many___ge__ : FnScope N_Many___ge__ P_Many___ge__ (defScope st_Many___ge__) := ⟨rfl, rfl, rfl, by decide +kernel, rfl, by decide +kernel, by decide +kernel⟩
abbrev st_Many___str__ : Stmt := inClass (top 16) 19
abbrev N_Many___str__ : List Str := ["self"]
abbrev P_Many___str__ : List Str := ["self"]
theorem sc_Many___str__ : FnScope N_Many___str__ P_Many___str__ (defScope st_Many___str__) := ⟨rfl, rfl, rfl, by decide +kernel, rfl, by decide +kernel, by decide +kernel⟩
abbrev st_Many___repr__ : Stmt := inClass (top 16) 20
abbrev N_Many___repr__ : List Str := ["self"]
abbrev P_Many___repr__ : List Str := ["self"]
theorem sc_Many___repr__ : FnScope N_Many___repr__ P_Many___repr__ (defScope st_Many___repr__) := ⟨rfl, rfl, rfl, by decide +kernel, rfl, by decide +kernel, by decide +kernel⟩
abbrev st_Ratio___init__ : Stmt := inClass (top 21) 0
abbrev N_Ratio___init__ : List Str := ["self", "top", "bottom", "divisor"]
abbrev P_Ratio___init__ : List Str := ["self", "top", "bottom"]
theorem sc_Ratio___init__ : FnScope N_Ratio___init__ P_Ratio___init__ (defScope st_Ratio___init__) := ⟨rfl, rfl, rfl, by decide +kernel, rfl, by decide +kernel, by decide +kernel⟩
abbrev st_Ratio___eq__ : Stmt := inClass (top 21) 13
abbrev N_Ratio___eq__ : List Str := ["self", "other"]
abbrev P_Ratio___eq__ : List Str := ["self", "other"]
theorem sc_Ratio___eq__ : FnScope N_Ratio___eq__ P_Ratio___eq__ (defScope st_Ratio___eq__) := ⟨rfl, rfl, rfl, by decide +kernel, rfl, by decide +kernel, by decide +kernel⟩
abbrev st_InvalidCount___init__ : Stmt := inClass (top 4) 0
abbrev N_InvalidCount___init__ : List Str := ["self", "value"]
abbrev P_InvalidCount___init__ : List Str := ["self", "value"]
theorem sc_InvalidCount___init__ : FnScope N_InvalidCount___init__ P_InvalidCount___init__ (defScope st_InvalidCount___init__) := ⟨rfl, rfl, rfl, by decide +kernel, rfl, by decide +kernel, by decide +kernel⟩
abbrev st_InvalidNumber___init__ : Stmt := inClass (top 5) 0
abbrev N_InvalidNumber___init__ : List Str := ["self", "value"]
abbrev P_InvalidNumber___init__ : List Str := ["self", "value"]
theorem sc_InvalidNumber___init__ : FnScope N_InvalidNumber___init__ P_InvalidNumber___init__ (defScope st_InvalidNumber___init__) := ⟨rfl, rfl, rfl, by decide +kernel, rfl, by decide +kernel, by decide +kernel⟩
abbrev st_InvalidMany___init__ : Stmt := inClass (top 6) 0
abbrev N_InvalidMany___init__ : List Str := ["self", "value"]
abbrev P_InvalidMany___init__ : List Str := ["self", "value"]
theorem sc_InvalidMany___init__ : FnScope N_InvalidMany___init__ P_InvalidMany___init__ (defScope st_InvalidMany___init__) := ⟨rfl, rfl, rfl, by decide +kernel, rfl, by decide +kernel, by decide +kernel⟩
abbrev st_law : Stmt := top 34
abbrev N_law : List Str := ["_law_script", "_law_k"]
abbrev P_law : List Str := ["_law_script"]
theorem sc_law : FnScope N_law P_law (defScope st_law) := ⟨rfl, rfl, rfl, by decide +kernel, rfl, by decide +kernel, by decide +kernel⟩

end My
end
section
namespace My
open PySem L2 PySem.W
def dd_is_integer : He.DefD := ⟨("is_integer", none), "is_integer", "is_integer", defArgs st_is_integer, defBody st_is_integer, defScope st_is_integer, [], []⟩
def dd_is_count : He.DefD := ⟨("is_count", none), "is_count", "is_count", defArgs st_is_count, defBody st_is_count, defScope st_is_count, [], []⟩
def dd__is_up_to : He.DefD := ⟨("_is_up_to", none), "_is_up_to", "_is_up_to", defArgs st__is_up_to, defBody st__is_up_to, defScope st__is_up_to, [], []⟩
def dd__law_rng : He.DefD := ⟨("_law_rng", none), "_law_rng", "_law_rng", defArgs st__law_rng, defBody st__law_rng, defScope st__law_rng, [], []⟩
def dd__law_draw : He.DefD := ⟨("_law_draw", none), "_law_draw", "_law_draw", defArgs st__law_draw, defBody st__law_draw, defScope st__law_draw, [], []⟩
def dd__law_choice : He.DefD := ⟨("_law_choice", none), "_law_choice", "_law_choice", defArgs st__law_choice, defBody st__law_choice, defScope st__law_choice, [], []⟩
def dd__law_pairs : He.DefD := ⟨("_law_pairs", none), "_law_pairs", "_law_pairs", defArgs st__law_pairs, defBody st__law_pairs, defScope st__law_pairs, [], []⟩
def dd__law_ahead : He.DefD := ⟨("_law_ahead", none), "_law_ahead", "_law_ahead", defArgs st__law_ahead, defBody st__law_ahead, defScope st__law_ahead, [], []⟩
def dd__law_ordered : He.DefD := ⟨("_law_ordered", none), "_law_ordered", "_law_ordered", defArgs st__law_ordered, defBody st__law_ordered, defScope st__law_ordered, [], []⟩
def dd__law_row : He.DefD := ⟨("_law_row", none), "_law_row", "_law_row", defArgs st__law_row, defBody st__law_row, defScope st__law_row, [], []⟩
def dd__law_two_right : He.DefD := ⟨("_law_two_right", none), "_law_two_right", "_law_two_right", defArgs st__law_two_right, defBody st__law_two_right, defScope st__law_two_right, [], []⟩
def dd__law_alone_right : He.DefD := ⟨("_law_alone_right", none), "_law_alone_right", "_law_alone_right", defArgs st__law_alone_right, defBody st__law_alone_right, defScope st__law_alone_right, [], []⟩
def dd__law_right : He.DefD := ⟨("_law_right", none), "_law_right", "_law_right", defArgs st__law_right, defBody st__law_right, defScope st__law_right, [], []⟩
def dd_Many___init__ : He.DefD := ⟨("Many", some "__init__"), "__init__", "Many.__init__", defArgs st_Many___init__, defBody st_Many___init__, defScope st_Many___init__, [.non], []⟩
def dd_Many___bool__ : He.DefD := ⟨("Many", some "__bool__"), "__bool__", "Many.__bool__", defArgs st_Many___bool__, defBody st_Many___bool__, defScope st_Many___bool__, [], []⟩
def dd_Many___eq__ : He.DefD := ⟨("Many", some "__eq__"), "__eq__", "Many.__eq__", defArgs st_Many___eq__, defBody st_Many___eq__, defScope st_Many___eq__, [], []⟩
def dd_Many___lt__ : He.DefD := ⟨("Many", some "__lt__"), "__lt__", "Many.__lt__", defArgs st_Many___lt__, defBody st_Many___lt__, defScope st_Many___lt__, [], []⟩
def dd_Many___le__ : He.DefD := ⟨("Many", some "__le__"), "__le__", "Many.__le__", defArgs st_Many___le__, defBody st_Many___le__, defScope st_Many___le__, [], []⟩
def dd_Many___gt__ : He.DefD := ⟨("Many", some "__gt__"), "__gt__", "Many.__gt__", defArgs st_Many___gt__, defBody st_Many___gt__, defScope st_Many___gt__, [], []⟩
def dd_Many___ge__ : He.DefD := ⟨("Many", some "__ge__"), "__ge__", "Many.__ge__", defArgs st_Many___ge__, defBody st_Many___ge__, defScope st_Many___ge__, [], []⟩
def dd_Many___str__ : He.DefD := ⟨("Many", some "__str__"), "__str__", "Many.__str__", defArgs st_Many___str__, defBody st_Many___str__, defScope st_Many___str__, [], []⟩
def dd_Many___repr__ : He.DefD := ⟨("Many", some "__repr__"), "__repr__", "Many.__repr__", defArgs st_Many___repr__, defBody st_Many___repr__, defScope st_Many___repr__, [], []⟩
def dd_Ratio___init__ : He.DefD := ⟨("Ratio", some "__init__"), "__init__", "Ratio.__init__", defArgs st_Ratio___init__, defBody st_Ratio___init__, defScope st_Ratio___init__, [.int (1)], []⟩
def dd_Ratio___eq__ : He.DefD := ⟨("Ratio", some "__eq__"), "__eq__", "Ratio.__eq__", defArgs st_Ratio___eq__, defBody st_Ratio___eq__, defScope st_Ratio___eq__, [], []⟩
def dd_InvalidCount___init__ : He.DefD := ⟨("InvalidCount", some "__init__"), "__init__", "InvalidCount.__init__", defArgs st_InvalidCount___init__, defBody st_InvalidCount___init__, defScope st_InvalidCount___init__, [], []⟩
def dd_InvalidNumber___init__ : He.DefD := ⟨("InvalidNumber", some "__init__"), "__init__", "InvalidNumber.__init__", defArgs st_InvalidNumber___init__, defBody st_InvalidNumber___init__, defScope st_InvalidNumber___init__, [], []⟩
def dd_InvalidMany___init__ : He.DefD := ⟨("InvalidMany", some "__init__"), "__init__", "InvalidMany.__init__", defArgs st_InvalidMany___init__, defBody st_InvalidMany___init__, defScope st_InvalidMany___init__, [], []⟩
def dd_law : He.DefD := ⟨("law", none), "law", "law", defArgs st_law, defBody st_law, defScope st_law, [], []⟩
def dd_Many_least : He.DefD := ⟨("Many", some "least"), "least", "Many.least", defArgs st_Many_least, defBody st_Many_least, defScope st_Many_least, [], []⟩
def dd_Many_most : He.DefD := ⟨("Many", some "most"), "most", "Many.most", defArgs st_Many_most, defBody st_Many_most, defScope st_Many_most, [], []⟩
def fnL : List He.DefD := ([dd_is_integer, dd_is_count, dd__is_up_to, dd__law_rng, dd__law_draw, dd__law_choice, dd__law_pairs, dd__law_ahead, dd__law_ordered, dd__law_row, dd__law_two_right, dd__law_alone_right, dd__law_right, dd_Many___init__, dd_Many___bool__, dd_Many___eq__, dd_Many___lt__, dd_Many___le__, dd_Many___gt__, dd_Many___ge__, dd_Many___str__, dd_Many___repr__, dd_Ratio___init__, dd_Ratio___eq__, dd_InvalidCount___init__, dd_InvalidNumber___init__, dd_InvalidMany___init__, dd_law] : List He.DefD)
def adL : List AtD := ([(fun K => prA K "Many" "least", dd_Many_least), (fun K => prA K "Many" "most", dd_Many_most)] : List AtD)
def faL : List He.Fa := ([.glo "is_integer", .glo "is_count", .glo "_is_up_to", .glo "_law_rng", .glo "_law_draw", .glo "_law_choice", .glo "_law_pairs", .glo "_law_ahead", .glo "_law_ordered", .glo "_law_row", .glo "_law_two_right", .glo "_law_alone_right", .glo "_law_right", .glo "Many", .glo "Ratio", .glo "EachError", .glo "InvalidCount", .glo "InvalidNumber", .glo "InvalidMany", .glo "law", .free "isinstance", .free "int", .free "bool", .free "max", .free "min", .free "abs", .free "divmod", .free "len", .free "range", .free "all"] : List He.Fa) ++ ([.free "repr", .free "sorted", .free "str", .free "list", .cls "Many", .mkr "Many", .noat "Many" "_least", .noat "Many" "_most", .noat "Many" "_key", .meth "Many" "__bool__", .meth "Many" "__eq__", .meth "Many" "__lt__", .meth "Many" "__le__", .meth "Many" "__gt__", .meth "Many" "__ge__", .meth "Many" "__str__", .meth "Many" "__repr__", .cls "Ratio", .mkr "Ratio", .noat "Ratio" "_top", .noat "Ratio" "_bottom", .meth "Ratio" "__eq__"] : List He.Fa)
def tests (K : PySem.W.Frag) : List Bool := ([decide (specialIn K (.builtin "object.__class__") "__get__" = some (some (.builtin "getset_descriptor.__get__"))), decide (takesIn K (.builtin "object.__class__") = some true), decide [(He.ga K "EachError"), (He.ga K "InvalidCount"), (He.ga K "InvalidNumber"), (He.ga K "InvalidMany")].Nodup, excB K (He.ga K "EachError") [.ref (He.ga K "EachError"), .type "ValueError", .type "Exception", .type "BaseException", .type "object"] "ValueError.__new__", excIn K (He.ga K "EachError") [.type "ValueError", .type "Exception", .type "BaseException", .type "object"] "ValueError.__new__", excB K (He.ga K "InvalidCount") [.ref (He.ga K "InvalidCount"), .ref (He.ga K "EachError"), .type "ValueError", .type "Exception", .type "BaseException", .type "object"] "ValueError.__new__", iniB K (He.ga K "InvalidCount"), eqO (findIn K (.ref (He.ga K "InvalidCount")) "value") (some none), excB K (He.ga K "InvalidNumber") [.ref (He.ga K "InvalidNumber"), .ref (He.ga K "EachError"), .type "ValueError", .type "Exception", .type "BaseException", .type "object"] "ValueError.__new__", iniB K (He.ga K "InvalidNumber"), eqO (findIn K (.ref (He.ga K "InvalidNumber")) "value") (some none), excB K (He.ga K "InvalidMany") [.ref (He.ga K "InvalidMany"), .ref (He.ga K "EachError"), .type "ValueError", .type "Exception", .type "BaseException", .type "object"] "ValueError.__new__", iniB K (He.ga K "InvalidMany"), eqO (findIn K (.ref (He.ga K "InvalidMany")) "value") (some none), eqO (findIn K (.ref (He.ga K "Many")) "__class__") (some (some (.builtin "object.__class__"))), decide (mroIn K (He.ga K "Many") (.type "object") = some true), prB K "Many" "least", prB K "Many" "most", eqO (findIn K (.ref (He.ga K "Ratio")) "__class__") (some (some (.builtin "object.__class__"))), decide (mroIn K (He.ga K "Ratio") (.type "object") = some true), decide (PySem.W.findIn K (.ref (He.ga K "Many")) "__ne__" = some (some (.builtin "object.__ne__"))), decide (PySem.W.mroIn K (He.ga K "Many") (.type "object") = some true), decide (kitsB K [(He.ga K "Many"), (He.ga K "Ratio")] = true), decide (((aTys [(He.ga K "Many"), (He.ga K "Ratio")]).all (PySem.W.notFirst K (He.ga K "Many"))) = true), decide (((aTys [(He.ga K "Many"), (He.ga K "Ratio")]).all (PySem.W.notFirst K (He.ga K "Ratio"))) = true), decide (PySem.W.notFirst K (He.ga K "Many") (.ref (He.ga K "Many")) = true), decide (belowNo K (He.ga K "Many") = true), decide (¬ ((He.ga K "Many") = (He.ga K "Ratio"))), eqO (PySem.W.nsIn K mainGlobals "gcd") (some (some (.builtin "math.gcd")))] : List Bool)
def exB (K : PySem.W.Frag) : Bool := (tests K).all id
def looseL : List PySem.Str := (["gcd", "_wall", "EachError", "InvalidCount", "InvalidNumber", "InvalidMany", "InvalidRatio", "InvalidText", "StateError", "Apart", "is_integer", "is_count", "number_in", "Many", "_is_up_to", "_most_of_sum", "_most_of_product", "Ratio", "_ratio_from", "_law_rng", "_law_draw", "_law_choice", "_law_pairs", "_law_ahead", "_law_ordered", "_law_row", "_law_two_right", "_law_alone_right", "_law_right"] : List PySem.Str)
abbrev rowR : PySem.W.OpenRow := PySem.W.OpenLaw.row PySem.Challenge.rw_howmanyeach_k16_whole_manys_in_order
abbrev hkL : PySem.W.Hook := hookY 5 faL fnL adL exB
def obL (s : PySem.W.SharedT) : AlY := obsYG 5 faL fnL adL exB (HandSHeadRun.getT s)
theorem obL_eq (s : PySem.W.SharedT) : obL s = hkL.obs s.abs := obsYG_eq (HandSHeadRun.getT_eq s)
theorem runL (w : World) : HandSHeadRun.RunEqI rowR (PySem.W.view rowR.prog [34]) hkL obL 6000 looseL w := by
  unfold HandSHeadRun.RunEqI
  kernel_rfl
end My
end
namespace My
open PySem L2
/-! ### readings, one row each -/
section
variable {σ : L2.St} {H : Hp} {Q : VK} {i : Nat} {v x y : V} {ta tb te tc : TE} {r : R2} {D : Ends} {t u : TS} {tt tu : TT} {ts : TA} {g : TG} {K : PySem.W.Frag} {QB : Bool → Hp → Prop} {QA : List V → Hp → Prop}
theorem s_var (e : σ[i]? = some (some v)) (q : Q v H) : tVar i σ H Q := ⟨v, e, q⟩
theorem s_c (q : Q v H) : tC v σ H Q := q
theorem s_op (h : ta σ H fun x H1 => tb σ H1 fun y H2 => r x y H2 Q) : tOp r ta tb σ H Q := h
theorem s_un {r : V → Hp → VK → Prop} (h : ta σ H fun x H1 => r x H1 Q) : tUn r ta σ H Q := h
theorem s_cons (h : ta σ H fun x H1 => ts σ H1 fun xs H2 => QA (x :: xs) H2) : tCons ta ts σ H QA := h
theorem s_nil (h : QA [] H) : tNil σ H QA := h
theorem s_cb {r : List V → Hp → VK → Prop} (h : ts σ H fun vs H1 => r vs H1 Q) : tCB r ts σ H Q := h
theorem s_test (h : te σ H fun x H' => ∃ k, x = .bl k ∧ QB k H') : tTest te σ H QB := h
theorem s_B (h : te σ H fun x H' => ∃ k, x = .bl k ∧ QB k H') : tB te σ H QB := h
theorem s_not (h : tt σ H fun c H1 => QB (!c) H1) : tNot tt σ H QB := h
theorem s_and (h : tt σ H fun c H1 => if c = true then tu σ H1 QB else QB false H1) : tAnd tt tu σ H QB := h
theorem s_or (h : tt σ H fun c H1 => if c = true then QB true H1 else tu σ H1 QB) : tOr tt tu σ H QB := h
theorem s_if (h : tt σ H fun c H1 => if c = true then ta σ H1 Q else tb σ H1 Q) : tIf tt ta tb σ H Q := h
theorem s_notV (h : ta σ H fun x H1 => ∃ c, x = .bl c ∧ Q (.bl (!c)) H1) : tNotV ta σ H Q := h
theorem s_andV (h : ta σ H fun x H1 => ∃ c, x = .bl c ∧ if c = true then tb σ H1 Q else Q (.bl false) H1) : tAndV ta tb σ H Q := h
theorem s_orV (h : ta σ H fun x H1 => ∃ c, x = .bl c ∧ if c = true then Q (.bl true) H1 else tb σ H1 Q) : tOrV ta tb σ H Q := h
theorem s_isN (h : ta σ H fun x H1 => Q (.bl (decide (x = .non))) H1) : tIsN ta σ H Q := h
theorem s_notN (h : ta σ H fun x H1 => Q (.bl (!decide (x = .non))) H1) : tNotN ta σ H Q := h
theorem s_seq (h : t { D with nx := u D } σ H) : tSeq t u D σ H := h
theorem s_ifS (h : tt σ H fun b H1 => if b = true then t D σ H1 else u D σ H1) : tIfS tt t u D σ H := h
theorem s_asg (h : te σ H fun x H1 => g x σ H1 D.nx) : tAsg te g D σ H := h
theorem s_ret (h : te σ H D.rt) : tRet te D σ H := h
theorem s_drop (h : te σ H fun _ H1 => D.nx σ H1) : tDrop te D σ H := h
theorem s_next (h : D.nx σ H) : tNext D σ H := h
theorem s_break (h : D.bk σ H) : tBreak D σ H := h
theorem s_cont (h : D.ct σ H) : tCont D σ H := h
theorem s_gname {Q : L2.St → Hp → Prop} (h : Q (σ.set i (some v)) H) : gName i v σ H Q := h
theorem s_gsub {Q : L2.St → Hp → Prop} {to ti : TE} {t : TSet} (h : to σ H fun o H1 => ti σ H1 fun i H2 => t o i v H2 fun H3 => Q σ H3) : gSub to ti t v σ H Q := h
theorem s_gcons {Q : L2.St → Hp → Prop} {t : TG} {u : TGs} {vs : List V} (h : t v σ H fun σ' H' => u vs σ' H' Q) : gCons t u (v :: vs) σ H Q := ⟨v, vs, rfl, h⟩
theorem s_gnil {Q : L2.St → Hp → Prop} (h : Q σ H) : gNil [] σ H Q := ⟨rfl, h⟩
theorem s_gtup {Q : L2.St → Hp → Prop} {n : Nat} {t : TGs} {a : Addr} {xs : List V} (h1 : H a = some (.tup xs)) (h2 : xs.length = n) (h : t xs σ H Q) : gTup K n t (.ref a) σ H Q := ⟨a, xs, rfl, SqT.of h1, h2, h⟩
theorem s_I0 {g : Int → Int → V} {a b : Int} (q : Q (g a b) H) : rI0 g (.int a) (.int b) H Q := ⟨a, b, rfl, rfl, q⟩
theorem s_I {C : Int → Int → Prop} {g : Int → Int → V} {a b : Int} (hc : C a b) (q : Q (g a b) H) : rI C g (.int a) (.int b) H Q := ⟨a, b, rfl, rfl, hc, q⟩
theorem s_ixL {a : Addr} {xs : List V} {k : Int} (h : H a = some (.lst xs)) (e : atI xs k = some v) (q : Q v H) : rIxL K (.ref a) (.int k) H Q := ⟨a, xs, k, v, rfl, rfl, SqL.of h, e, q⟩
theorem s_ixT {a : Addr} {xs : List V} {k : Int} (h : H a = some (.tup xs)) (e : atI xs k = some v) (q : Q v H) : rIxT K (.ref a) (.int k) H Q := ⟨a, xs, k, v, rfl, rfl, SqT.of h, e, q⟩
theorem s_setL {a : Addr} {xs : List V} {k : Int} {j : Nat} {Q : Hp → Prop} (h : H a = some (.lst xs)) (e : ixN xs.length k = some j) (q : Q (upd H a (.lst (xs.set j v)))) : rSetL (.ref a) (.int k) v H Q := ⟨a, xs, k, j, rfl, rfl, h, e, q⟩
theorem s_tup (h : ts σ H fun xs H1 => xs.length ≤ sizeLine ∧ ∀ p, H1 p = none → Q (.ref p) (upd H1 p (.tup xs))) : tTup ts σ H Q := h
theorem s_lst (h : ts σ H fun xs H1 => xs.length ≤ sizeLine ∧ ∀ p, H1 p = none → Q (.ref p) (upd H1 p (.lst xs))) : tLst ts σ H Q := h
theorem s_call {sp : Sp} {dvs : List V} {E : XK} (h : ts σ H fun vs H1 => sp (vs ++ dvs) H1 Q E) : tCall sp dvs E ts σ H Q := h
theorem s_fld {a C dx : Addr} {fs : List (Str × V)} {f : Str} (h : ta σ H fun x H1 => ∃ a C dx fs v, x = .ref a ∧ H1 a = some (.ins C dx fs) ∧ Cls K C ∧ NoAttr K C f ∧ fs.lookup f = some v ∧ Q v H1) : tFld K ta f σ H Q := h
theorem ite_d {p : Prop} [Decidable p] {A B : Prop} (h1 : p → A) (h2 : ¬ p → B) : if decide p = true then A else B := by
  by_cases h : p
  · rw [if_pos (decide_eq_true h)]; exact h1 h
  · rw [if_neg (by simpa using h)]; exact h2 h
theorem ite_n {p : Prop} [Decidable p] {A B : Prop} (h1 : ¬ p → A) (h2 : p → B) : if (!decide p) = true then A else B := by
  by_cases h : p
  · rw [if_neg (by simpa using h)]; exact h2 h
  · rw [if_pos (by simpa using h)]; exact h1 h
end
theorem st_eq {N : List Str} {vs : List V} {σ : L2.St} {t : TS} {D : Ends} {H : Hp} (e : L2.start N vs = σ) (h : t D σ H) : t D (L2.start N vs) H := by
  rw [e]; exact h
theorem divp_wide {i j : Int} (h : 0 < j) (hb : j.natAbs.log2 < 9000) : CDivP i j := ⟨h, PyProof.noPylong_of_log2 hb⟩
/-! ### heaps -/
/-- all but r stays -/
def But (r : Addr) (H H' : Hp) : Prop := ∀ c o, H c = some o → c ≠ r → H' c = some o
theorem But.get {r c : Addr} {o : HO} {H H' : Hp} (b : But r H H') (h : H c = some o) (n : c ≠ r) : H' c = some o := b c o h n
theorem But.refl (r : Addr) (H : Hp) : But r H H := fun _ _ h _ => h
theorem But.trans {r : Addr} {H H1 H2 : Hp} (a : But r H H1) (b : But r H1 H2) : But r H H2 := fun c o h n => b c o (a c o h n) n
theorem But.new {r p : Addr} {o : HO} {H : Hp} (h : H p = none) : But r H (upd H p o) := fun c u e _ => by rw [upd_ne (ne_of_none e h)]; exact e
theorem But.at {r : Addr} {o : HO} {H : Hp} : But r H (upd H r o) := fun c u e n => by rw [upd_ne n]; exact e
theorem Same.get {c : Addr} {o : HO} {H H' : Hp} (b : Same H H') (h : H c = some o) : H' c = some o := b c o h
end My
namespace My
open PySem L2 PySem.Spec PyProof.Rows
/-! ### defs that may tell texts of containers: what is being shown already is known to be nothing -/
structure RoomG (k : Nat) (A : Around) : Prop where
  r : Room k A
  g : A.guards = some []
theorem RoomG.mono {j k : Nat} {A : Around} (q : RoomG k A) (h : j ≤ k) : RoomG j A := ⟨q.r.mono h, q.g⟩
theorem RoomG.units {k : Nat} {A : Around} (q : RoomG k A) : A.units + 64 < cLine := q.r.units
theorem RoomG.in1 {k : Nat} {A : Around} (q : RoomG (k + 1) A) : RoomG k A.in1 := ⟨q.r.in1, q.g⟩
theorem hug {A : Around} {k : Nat} (q : RoomG k A) : A.units + 1 < cLine := hu_of q.r
/-- the def at f keeps the promise sp wherever nothing is being shown -/
structure FnG (P : Program) (w : World) (K : PySem.W.Frag) (mg : Str → Option Value) (base : Heap) (CX : CXT) (k : Nat) (f : Addr) (fd : FuncData) (ps : List Str) (sp : Sp) : Prop where
  len : ∀ vs H Q E, sp vs H Q E → vs.length = ps.length
  go : ∀ (A : Around) (outer : List Env) (s : Shared) (H : Hp) (args : Args) (us : List Value) (vs : List V) (Q : VK) (E : XK), RoomG k A →
    Env0 P w K mg base A outer s H → BindsTo s fd args (ps.zip us) → Vals vs us → sp vs H Q E →
      codeAny (model P w) A (.call (.ref f) args) (CR CX outer P w H s Q E) s
section
variable {P : Program} {w : World} {K : PySem.W.Frag} {mg : Str → Option Value} {base : Heap} {CX : CXT} {k j : Nat} {f : Addr} {fd : FuncData} {ps : List Str} {sp sp' : Sp}
theorem FnG.of (F : FnOk P w K mg base CX k f fd ps sp) : FnG P w K mg base CX k f fd ps sp := ⟨F.len, fun A outer s H args us vs Q E hr => F.run A outer s H args us vs Q E hr.r⟩
theorem FnG.mono (F : FnG P w K mg base CX j f fd ps sp) (h : j ≤ k) : FnG P w K mg base CX k f fd ps sp := ⟨F.len, fun A outer s H args us vs Q E hr => F.go A outer s H args us vs Q E (hr.mono h)⟩
theorem FnG.imp (F : FnG P w K mg base CX k f fd ps sp) (h : ∀ vs H Q E, sp' vs H Q E → sp vs H Q E) : FnG P w K mg base CX k f fd ps sp' :=
  ⟨fun vs H Q E q => F.len vs H Q E (h _ _ _ _ q), fun A outer s H args us vs Q E hr a b c d => F.go A outer s H args us vs Q E hr a b c (h _ _ _ _ d)⟩
theorem fnG_body {x qual : Str} {st : Stmt} {N : List Str} {dvs0 : List V} {kws0 : List (Str × V)} (F : FunD K x qual (defArgs st) (defBody st) (defScope st) dvs0 kws0 f fd) (S : FnScope N ps (defScope st)) (len : ∀ vs H Q E, sp vs H Q E → vs.length = ps.length)
    (hb : ∀ (cdv : Value) (A : Around) (outer : List Env) (s : Shared) (H : Hp) (vs : List V) (Q : VK) (E : XK), RoomG k (A.deeper (envOfC qual (defScope st) s.heap.objs.size f cdv)) → sp vs H Q E →
      ∃ t, PSs (cxOf CX P w K mg base N qual (defScope st) f cdv A outer s H E) (defBody st) t ∧ t { nx := fun _ H' => Q .non H', rt := Q } (start N vs) H) :
    FnG P w K mg base CX (k + 1) f fd ps sp := by
  obtain ⟨oc, od, dV, kV, doc, pm, an, cdv, ct, osl, rfl, lk, hcd, _, _⟩ := F.ex
  constructor
  · exact len
  · intro A outer s H args us vs Q E hr e0 hbi r hsp
    have keeps0 : ∀ b o, base.get? b = some o → s.heap.get? b = some o := fun b o e => (e0.bs b o e).1
    have inK : K.In s.heap := e0.mod.kin.keeps keeps0
    refine codeAny_call_function hr.r.depth (inK _ _ lk) rfl S.co S.gen rfl (PySem.W.codeRec_of inK hcd) (hbi _ _ _ _ ?_)
    refine wpAny_newFunctionEnv_cells S.kind ?_ fun env he s1 x => ?_
    · intro ⟨n, v⟩ hy
      cases S.par n (List.of_mem_zip hy).1 with
      | inl q => exact Or.inl q
      | inr q => exact Or.inr ⟨q, PySem.W.cellsFrom_some _ _ _ (Or.inl q)⟩
    · subst he
      refine ⟨(e0.mod.nolimit.keeps keeps0).keeps x.toInCall.keep, codeAny_func ?_⟩
      obtain ⟨t, ht, hq⟩ := hb cdv A outer s H vs Q E ⟨hr.r.deeper _, hr.g⟩ hsp
      have I0 := inv_start (CX := CX) (P := P) (E := E) S hr.r.hd e0 (len _ _ _ _ hsp) r x
      refine wpAny_mono (ht.run [] s1 (start N vs) H _ I0 hq) ?_ (fun _ _ z => z)
      intro fl s' hs
      cases fl with
      | ret u => obtain ⟨v, σ', H', J, rv, q⟩ := hs; exact ⟨v, H', J.os, J.bare, J.base, J.hok, rv, q⟩
      | next => obtain ⟨σ', H', J, q⟩ := hs; exact ⟨V.non, H', J.os, J.bare, J.base, J.hok, rfl, q⟩
      | brk => exact hs.elim fun _ z => z.elim fun _ y => y.2.elim
      | cont => exact hs.elim fun _ z => z.elim fun _ y => y.2.elim
end
/-! ### bundles: a def, a class, a method, a property, by its name -/
structure Dn (P : Program) (w : World) (K : PySem.W.Frag) (mg : Str → Option Value) (base : Heap) (x : Str) (k : Nat) (ps : List Str) (dvs : List V) (sp : Sp) : Prop where
  ex : ∃ (f : Addr) (fd : FuncData) (ds : List Value), FnG P w K mg base CX0 k f fd ps sp ∧ mg x = some (.ref f) ∧ PySem.W.keepIn K (.ref f) = true ∧ Binds K fd ps ds ∧ Vals dvs ds
structure Mkn (P : Program) (w : World) (K : PySem.W.Frag) (mg : Str → Option Value) (base : Heap) (x : Str) (C : Addr) (k : Nat) (ps : List Str) (dvs : List V) (sp : Sp) : Prop where
  ex : ∃ (f : Addr) (fd : FuncData) (ds : List Value), Mk K C f ∧ FnG P w K mg base CX0 k f fd ps sp ∧ mg x = some (.ref C) ∧ Binds K fd ps ds ∧ Vals dvs ds
structure Mtn (P : Program) (w : World) (K : PySem.W.Frag) (mg : Str → Option Value) (base : Heap) (C : Addr) (m : Str) (k : Nat) (ps : List Str) (dvs : List V) (sp : Sp) : Prop where
  ex : ∃ (f : Addr) (fd : FuncData) (ds : List Value), Cls K C ∧ Meth K C m f ∧ FnG P w K mg base CX0 k f fd ps sp ∧ Binds K fd ps ds ∧ Vals dvs ds
structure Prn (P : Program) (w : World) (K : PySem.W.Frag) (mg : Str → Option Value) (base : Heap) (C : Addr) (m : Str) (k : Nat) (ps : List Str) (dvs : List V) (sp : Sp) : Prop where
  ex : ∃ (p g : Addr) (fd : FuncData) (ds : List Value), Cls K C ∧ PropOf K C m p g ∧ FnG P w K mg base CX0 k g fd ps sp ∧ Binds K fd ps ds ∧ Vals dvs ds
section
variable {X : Cx} {j k : Nat} {f C : Addr} {fd : FuncData} {ps : List Str} {sp : Sp} {dvs : List V} {ds : List Value} {x m : Str} {p pos apos : Pos} {e o : Expr} {es : List Expr} {ta : TE} {t : TA}
theorem goG {pins : List (Addr × Obj)} {σ : L2.St} {H : Hp} {s : Shared} {Q : VK} {us : List Value} {vs : List V} (F : FnG X.prog X.w X.K X.mg X.base CX0 k f fd ps sp) (hr : RoomG k X.A) (hb : Binds X.K fd ps ds) (hd : Vals dvs ds)
    (I : Inv X pins σ H s) (r : Vals vs us) (h : sp (vs ++ dvs) H Q E0) : wpAny (model X.prog X.w) X.A (call (.ref f) us) (EP X pins σ Q) X.xe s := by
  have r2 := r.append hd
  have hl : (us ++ ds).length = ps.length := r2.length.symm.trans (F.len _ _ _ _ h)
  refine wpAny_call (codeAny_mono (F.go X.A X.stack s H ⟨us, []⟩ (us ++ ds) _ Q E0 hr I.env0 (hb s us I.kIn hl) r2 h) ?_)
  intro r s' hq
  cases r with
  | error e => exact (show False from hq).elim
  | ok fl => cases fl with
    | ret u => exact I.after hq
    | next => exact (show False from hq).elim
    | brk => exact (show False from hq).elim
    | cont => exact (show False from hq).elim
theorem pe_callD (D : Dn X.prog X.w X.K X.mg X.base x k ps dvs sp) (hr : RoomG k X.A) (hg : Gl X x) (ha : PA X (e :: es) t) (hdb : (x == ("__debug__" : Str)) = false := by decide)
    (h1 : starEach (e :: es) X.env = (false, eval e X.env) :: starEach es X.env := by rfl) (h2 : (backTo pos (starEach es X.env)).any (·.1) = false := by rfl) : PE X (.Call (.Name x p) (e :: es) [] pos) (tCall sp dvs E0 t) := by
  obtain ⟨f, fd, ds, F, hm, hk, hb, hd⟩ := D.ex
  constructor
  intro pins s σ H Q I h
  exact wpAny_Call_Name_kw (ld_glob I hg hm (PySem.W.callWith_K (h₀ := X.base) I.ok.mod.kin hk (thn (ha.run pos pins s σ H _ I h) fun us s1 ⟨vs, H1, I1, r, q⟩ => ⟨I1.kIn, goG F hr hb hd I1 r q⟩) h1 h2) hdb)
theorem pe_call0D (D : Dn X.prog X.w X.K X.mg X.base x k ps dvs sp) (hr : RoomG k X.A) (hg : Gl X x) (hdb : (x == ("__debug__" : Str)) = false := by decide) : PE X (.Call (.Name x p) [] [] pos) (tCall sp dvs E0 tNil) := by
  obtain ⟨f, fd, ds, F, hm, hk, hb, hd⟩ := D.ex
  constructor
  intro pins s σ H Q I h
  exact wpAny_Call_Name_kw (ld_glob I hg hm (PySem.W.callWith_K0 I.kIn hk (goG (us := []) F hr hb hd I .nil h)) hdb)
theorem goMake {pins : List (Addr × Obj)} {σ : L2.St} {H : Hp} {s : Shared} {Q : VK} {us : List Value} {vs : List V} (M : Mk X.K C f) (F : FnG X.prog X.w X.K X.mg X.base CX0 k f fd ps sp) (hr : RoomG (k + 1) X.A) (hb : Binds X.K fd ps ds) (hd : Vals dvs ds)
    (I : Inv X pins σ H s) (r : Vals vs us) (h : ∀ x dx, H x = none → H dx = none → dx ≠ x → sp (.ref x :: (vs ++ dvs)) (upd (upd H dx (.own x)) x (.ins C dx [])) (fun v H2 => v = .non ∧ Q (.ref x) H2) E0) :
    wpAny (model X.prog X.w) X.A (call (.ref C) us) (EP X pins σ Q) X.xe s := by
  have nx : H (s.heap.objs.size + 1) = none := I.hok.fresh (Nat.le_succ _)
  have nd : H s.heap.objs.size = none := I.hok.fresh (Nat.le_refl _)
  have hq := h _ _ nx nd (Nat.ne_of_lt (Nat.lt_succ_self _))
  have J := Inv.made (C := C) I
  have r2 : Vals (V.ref (s.heap.objs.size + 1) :: (vs ++ dvs)) (Value.ref (s.heap.objs.size + 1) :: us ++ ds) := .cons rfl (r.append hd)
  have hl : (Value.ref (s.heap.objs.size + 1) :: us ++ ds).length = ps.length := r2.length.symm.trans (F.len _ _ _ _ hq)
  have hr2 : RoomG k (X.A.under (.builtin "type.__call__" ⟨.ref C :: us, []⟩)) := ⟨hr.r.make C us [], hr.g⟩
  refine wpAny_call (make_map (f := f) I.kIn M.makes M.init (beq_iff_eq.mp M.fn) (codeAny_mono
    (F.go _ X.stack _ _ ⟨Value.ref (s.heap.objs.size + 1) :: us, []⟩ _ _ _ E0 hr2 (J.env0.make C us []) (hb _ (Value.ref (s.heap.objs.size + 1) :: us) J.kIn hl) r2 hq) ?_))
  intro r s' hq'
  cases r with
  | error e => exact (show False from hq').elim
  | ok fl => cases fl with
    | ret u =>
      obtain ⟨v, H', I3, rv, ev, q3⟩ := J.after hq'
      subst ev
      exact ⟨rv, V.ref (s.heap.objs.size + 1), H', I3, rfl, q3⟩
    | next => exact (show False from hq').elim
    | brk => exact (show False from hq').elim
    | cont => exact (show False from hq').elim
theorem pe_makeD (D : Mkn X.prog X.w X.K X.mg X.base x C k ps dvs sp) (hr : RoomG (k + 1) X.A) (hg : Gl X x) (ha : PA X (e :: es) t) (hdb : (x == ("__debug__" : Str)) = false := by decide)
    (h1 : starEach (e :: es) X.env = (false, eval e X.env) :: starEach es X.env := by rfl) (h2 : (backTo pos (starEach es X.env)).any (·.1) = false := by rfl) : PE X (.Call (.Name x p) (e :: es) [] pos) (tMake C sp dvs E0 t) := by
  obtain ⟨f, fd, ds, M, F, hm, hb, hd⟩ := D.ex
  constructor
  intro pins s σ H Q I h
  exact wpAny_Call_Name_kw (ld_glob I hg hm (PySem.W.callWith_K (h₀ := X.base) I.ok.mod.kin M.kp (thn (ha.run pos pins s σ H _ I h) fun us s1 ⟨vs, H1, I1, r, q⟩ => ⟨I1.kIn, goMake M F hr hb hd I1 r q⟩) h1 h2) hdb)
theorem pe_make0D (D : Mkn X.prog X.w X.K X.mg X.base x C k ps dvs sp) (hr : RoomG (k + 1) X.A) (hg : Gl X x) (hdb : (x == ("__debug__" : Str)) = false := by decide) : PE X (.Call (.Name x p) [] [] pos) (tMake C sp dvs E0 tNil) := by
  obtain ⟨f, fd, ds, M, F, hm, hb, hd⟩ := D.ex
  constructor
  intro pins s σ H Q I h
  exact wpAny_Call_Name_kw (ld_glob I hg hm (PySem.W.callWith_K0 I.kIn M.kp (goMake (us := []) M F hr hb hd I .nil h)) hdb)
theorem pe_methD {pl : Sem Bool} (D : Mtn X.prog X.w X.K X.mg X.base C m k ps dvs sp) (he : PE X o ta) (hr : RoomG k X.A) (ha : PA X (e :: es) t)
    (h1 : starEach (e :: es) X.env = (false, eval e X.env) :: starEach es X.env := by rfl) (h2 : (backTo pos (starEach es X.env)).any (·.1) = false := by rfl)
    (h3 : eval (.Call (.Attribute o m apos) (e :: es) [] pos) X.env = (do
      let v ← eval o X.env
      standAt apos.atName
      let (g, fst) ← holding [v] (getMethod v m pl)
      callWith pos g fst (backTo pos (starEach (e :: es) X.env)) (backToKw pos (keywordEach [] X.env))) := by rfl) : PE X (.Call (.Attribute o m apos) (e :: es) [] pos) (tMeth C m sp dvs E0 ta t) := by
  obtain ⟨f, fd, ds, c, hm, F, hb, hd⟩ := D.ex
  constructor
  intro pins s σ H Q I h
  refine PySem.W.methodCall_KW (pl := pl) (thn (he.run pins s σ H _ I h) ?_) h3
  rintro u s1 ⟨x, H1, I1, rx, a, dx, fs, rfl, ea, l, q⟩
  obtain rfl : u = Value.ref a := rx
  exact getmeth_ok I1 ea c hm l (PySem.W.callWith_K (first := [.ref a]) I1.kIn hm.kp (thn (ha.run pos pins s1 σ H1 _ I1 q) fun us s2 ⟨vs, H2, I2, r, q2⟩ => ⟨I2.kIn, goG (vs := .ref a :: vs) F hr hb hd I2 (.cons rfl r) q2⟩) h1 h2)
theorem pe_meth0D {pl : Sem Bool} (D : Mtn X.prog X.w X.K X.mg X.base C m k ps dvs sp) (he : PE X o ta) (hr : RoomG k X.A)
    (h3 : eval (.Call (.Attribute o m apos) [] [] pos) X.env = (do
      let v ← eval o X.env
      standAt apos.atName
      let (g, fst) ← holding [v] (getMethod v m pl)
      callWith pos g fst (backTo pos (starEach [] X.env)) (backToKw pos (keywordEach [] X.env))) := by rfl) : PE X (.Call (.Attribute o m apos) [] [] pos) (tMeth C m sp dvs E0 ta tNil) := by
  obtain ⟨f, fd, ds, c, hm, F, hb, hd⟩ := D.ex
  constructor
  intro pins s σ H Q I h
  refine PySem.W.methodCall_KW (pl := pl) (thn (he.run pins s σ H _ I h) ?_) h3
  rintro u s1 ⟨x, H1, I1, rx, a, dx, fs, rfl, ea, l, q⟩
  obtain rfl : u = Value.ref a := rx
  exact getmeth_ok I1 ea c hm l (PySem.W.callWith_K0 (first := [.ref a]) I1.kIn hm.kp (goG (us := [.ref a]) (vs := [.ref a]) F hr hb hd I1 (.cons rfl .nil) q))
theorem pe_propD (D : Prn X.prog X.w X.K X.mg X.base C m k ps dvs sp) (he : PE X e ta) (hr : RoomG (k + 1) X.A) (hab : attributeBase e m X.env (eval e X.env) = eval e X.env) : PE X (.Attribute e m pos) (tProp C sp dvs E0 ta) := by
  obtain ⟨p, g, fd, ds, c, hp, F, hb, hd⟩ := D.ex
  constructor
  intro pins s σ H Q I h
  refine attr_of hab (thn (he.run pins s σ H _ I h) ?_)
  rintro u s1 ⟨x, H1, I1, rx, a, dx, fs, rfl, ea, q⟩
  obtain rfl : u = Value.ref a := rx
  obtain ⟨mA, O, _, _, _, _⟩ := ins_get I1.hok ea
  obtain ⟨od, J, _⟩ := O.look
  obtain ⟨rest, hrec⟩ := hp.rec_
  have I2 := I1.tok (s1.toks + 1)
  have hl : ([Value.ref a] ++ ds).length = ps.length := by
    have z := F.len _ _ _ _ q
    have y := hd.length
    simp only [List.length_cons, List.length_append, List.length_nil] at z ⊢
    omega
  have hc : (PySem.W.clsIn X.K C).isSome = true := by
    obtain ⟨cd, hc, _⟩ := PySem.W.any_some c.hd
    simp [hc]
  have pg := PySem.W.plainGet_of (c.get m)
  refine PySem.W.get_bind I1.kIn J pg.1 (PySem.W.findObj_data hc hp.at_ hp.get hp.tak) pg.2 (wpAny_call (PySem.W.prop_get (s := { s1 with toks := s1.toks + 1 }) I1.kIn hrec ?_))
  refine codeAny_mono (F.go X.A.in1 X.stack { s1 with toks := s1.toks + 1 } H1 ⟨[.ref a], []⟩ (.ref a :: ds) (.ref a :: dvs) Q E0 hr.in1 I2.env0.in1 (hb _ [.ref a] I2.kIn hl) (.cons rfl hd) q) ?_
  intro r s' hq
  cases r with
  | error er => exact (show False from hq).elim
  | ok fl => cases fl with
    | ret u =>
      obtain ⟨v, H', I3, rv, q3⟩ := I2.after hq
      show wpAny _ _ (handedOut u) _ _ _
      rw [PySem.W.handedOut_of (handed_of rv)]
      exact wpAny_pure ⟨v, H', I3, rv, q3⟩
    | next => exact (show False from hq).elim
    | brk => exact (show False from hq).elim
    | cont => exact (show False from hq).elim
/-- repr of data -/
theorem call_reprD (hr : RoomG k X.A) : CallR X (.builtin "repr") (fun xs H Q => ∃ y d, xs = [y] ∧ Dp X.K H y d ∧ SeqAt.shaped d = true ∧ d.showable = true ∧ d.hasDict = false ∧ d.shown.length ≤ sizeLine ∧ Q (.str d.shown) H) := by
  intro pins s σ H xs us Q I r h
  obtain ⟨y, d, rfl, hd, hs, hw, hn, hz, q⟩ := h
  obtain ⟨u, rfl, ru⟩ := vals1 r
  obtain ⟨as, rd⟩ := Dp.reads I d y u hd ru
  have hA : X.A.units + (d.depth + 1) < cLine := by
    have := SeqAt.depth_of_shaped hs
    have := hr.r.un
    omega
  have fin : ∀ {t : Tok} {s' : Shared}, Inv X pins σ H s' → EP X pins σ Q (.str d.shown t) s' := fun J => ⟨.str d.shown, H, J, ⟨_, rfl⟩, q⟩
  cases rd with
  | none => exact PySem.P.repr_of_none (fin (I.tok _))
  | bool b => exact PySem.P.repr_of_bool (fin (I.tok _))
  | int i t => exact PySem.P.repr_of_int (of_decide_eq_true hw) (fin (I.tok _))
  | str z t => exact PySem.P.repr_of_str (fin (I.tok _)) hz
  | list h1 h2 h3 h4 => exact PySem.repr_of_reads' (.list h1 h2 h3 h4) hw (PyData.noDict_hsm hn) hr.g hA (fun _ _ e => e) (fun h' t tk hk => fin (I.kept hk)) hz
  | tuple h1 h2 h3 h4 => exact PySem.repr_of_reads' (.tuple h1 h2 h3 h4) hw (PyData.noDict_hsm hn) hr.g hA (fun _ _ e => e) (fun h' t tk hk => fin (I.kept hk)) hz
  | dict h1 h2 h3 h4 h5 => simp [PyData.hasDict] at hn
end
end My
namespace My
open PySem L2 PySem.Spec PyProof.Rows PySem.W
section
variable {P : Program} {w : World} {K : Frag} {mg mb : Str → Option Value} {k : Nat} {fa a : Addr} {fd : FuncData} {x : Str} {sp : Sp} {s : Shared} {vs : List Value} {ns : List Int}
abbrev lawEnd (s : Shared) : Result → Shared → Prop := fun r s' => r = .ok (.ret (.bool true)) ∧ OldK s.heap s'.heap ∧ s'.os = s.os ∧ AllBare s'.gens
theorem lawG_from {H : Hp} (KX : K.In s.heap) (hns : s.heap.Ns mainGlobals mg) (hb : s.heap.Ns builtinsNs mb) (hbb : ∀ y : Str, y ≠ "__name__" → mb y = bootBuiltins y) (hlim : s.heap.NoLimit) (hg : s.gens = #[])
    (ha : s.heap.get? a = some { cls := .type "list", data := .seq vs.toArray }) (hr : RoomG k callerA)
    (F : ∀ base : Heap, K.In base → base.Ns mainGlobals mg → FnG P w K mg base CX0 k fa fd [x] sp) (bnd : ∀ (s : Shared) (u : Value), BindsTo s fd ⟨[u], []⟩ [(x, u)])
    (hsp : sp [.ref a] H (fun v _ => v = .bl true) E0) (only : Only H) (ok : HOk P w H s.heap) (atA : ∀ b, H b ≠ none → b = a) (nK : H a ≠ none → K.lookup a = none) :
    codeAny (model P w) callerA (.call (.ref fa) ⟨[.ref a], []⟩) (lawEnd s) s := by
  have free : ∀ {b : Addr}, b ≠ a → H b = none := fun {b} n => Classical.byContradiction fun z => n (atA b z)
  have nsB : ∀ {b : Addr} {m : Str → Option Value}, s.heap.Ns b m → (hidT s.heap H).Ns b m := by
    rintro b m ⟨o, es, ep, e, d, r⟩
    refine ⟨o, es, ep, hidT_get e (free ?_), d, r⟩
    rintro rfl
    rw [ha] at e
    cases e
    cases (show Data.seq vs.toArray _ = Data.dict es ep from d)
  have inB : K.In (hidT s.heap H) := by
    intro b o e
    refine hidT_get (KX b o e) (Classical.byContradiction fun z => ?_)
    have := nK (atA b z ▸ z)
    rw [atA b z, this] at e
    cases e
  obtain ⟨mc, l1, l2⟩ := hlim
  have md : Mod K mg (hidT s.heap H) := ⟨inB, nsB hns, ⟨mb, nsB hb, hbb⟩, mc, nsB l1, l2⟩
  have env : Env0 P w K mg (hidT s.heap H) callerA [] s H :=
    ⟨rfl, md, fun b o e => of_hidT e, Nat.le_of_eq (hidT_size _ _), trivial, fun b z => (List.not_mem_nil (show b ∈ ([] : List Addr) from z)).elim, ok, .of_eq hg⟩
  refine codeAny_mono ((F _ inB (nsB hns)).go callerA [] s H ⟨[.ref a], []⟩ [.ref a] [.ref a] _ _ hr env (bnd s (.ref a)) (.cons rfl .nil) hsp) ?_
  rintro (e | fl) s' h
  · exact (show False from h).elim
  · cases fl with
    | ret u =>
      obtain ⟨v, H', os, bare, un, ok', rv, (rfl : v = .bl true)⟩ := h
      obtain rfl : u = Value.bool true := rv
      refine ⟨rfl, OldK.of_keep ?_, os, bare⟩
      intro b o e
      cases q : H b with
      | none => exact un.keep b o e q (fun z => (List.not_mem_nil (show b ∈ ([] : List Addr) from z)).elim) (by simp)
      | some u =>
        rcases only b with z | ⟨ob, xs, z⟩
        · exact absurd (q.symm.trans z) (by simp)
        · have y1 := (ok b _ z).1
          have y2 := (ok' b _ (un.frzs b ob _ z)).1
          rw [e] at y1
          cases y1
          exact y2
    | next => exact (show False from h).elim
    | brk => exact (show False from h).elim
    | cont => exact (show False from h).elim
theorem lawG (KX : K.In s.heap) (hns : s.heap.Ns mainGlobals mg) (hb : s.heap.Ns builtinsNs mb) (hbb : ∀ y : Str, y ≠ "__name__" → mb y = bootBuiltins y) (hlim : s.heap.NoLimit) (hg : s.gens = #[])
    (ha : s.heap.get? a = some { cls := .type "list", data := .seq vs.toArray }) (hi : IntsAre vs ns) (hl : ns.length ≤ sizeLine) (hr : RoomG k callerA)
    (F : ∀ base : Heap, K.In base → base.Ns mainGlobals mg → FnG P w K mg base CX0 k fa fd [x] sp) (bnd : ∀ (s : Shared) (u : Value), BindsTo s fd ⟨[u], []⟩ [(x, u)])
    (hsp : ∀ H : Hp, Only H → SqL K H a (ns.map V.int) → sp [.ref a] H (fun v _ => v = .bl true) E0) :
    codeAny (model P w) callerA (.call (.ref fa) ⟨[.ref a], []⟩) (lawEnd s) s := by
  have rv := vals_ints hi
  cases hk : K.lookup a with
  | some o =>
    have e := (ha.symm.trans (KX a o hk))
    cases e
    have hS : SqL K (fun _ => none) a (ns.map V.int) := Or.inr ⟨_, vs.toArray, _, hk, rfl, rfl, rfl, by rw [List.size_toArray, hi.length]; exact hl, by simpa using rv⟩
    exact lawG_from (H := fun _ => none) KX hns hb hbb hlim hg ha hr F bnd (hsp _ (fun _ => Or.inl rfl) hS) (fun _ => Or.inl rfl) (fun b u z => nomatch z) (fun b z => (z rfl).elim) fun z => (z rfl).elim
  | none =>
    let H1 : Hp := upd (fun _ => none) a (.frz { cls := .type "list", data := .seq vs.toArray } (.lst (ns.map V.int)))
    have same : H1 a = some (.frz { cls := .type "list", data := .seq vs.toArray } (.lst (ns.map V.int))) := upd_same
    have els : ∀ b, b ≠ a → H1 b = none := fun b n => upd_ne n
    have on : Only H1 := fun b => (Classical.em (b = a)).elim (fun e => Or.inr ⟨_, _, e ▸ same⟩) fun n => Or.inl (els b n)
    refine lawG_from (H := H1) KX hns hb hbb hlim hg ha hr F bnd (hsp H1 on (Or.inl (Or.inr ⟨_, same⟩))) on ?_ (fun b z => Classical.byContradiction fun n => z (els b n)) fun _ => hk
    intro b u z
    rcases Classical.em (b = a) with e | n
    · subst e
      rw [same] at z
      cases z
      exact ⟨ha, by rw [List.length_map]; exact hl, vs, _, rv, ha⟩
    · rw [els b n] at z
      cases z
end
theorem walkG {l : OpenLaw} {n k : Nat} {q : Program} {loose : List Str} {XP : (Str → Option Value) → Heap → Prop} {YP : World → Heap → Prop} {d : DefRec} {K : Params → Frag} {sp : World → Sp} {x : Str}
    (hn : l.most = some n) (hn2 : n ≤ sizeLine) (hdf : d.params.defaults = []) (hr : RoomG k callerA) (hY : ∀ (w : World) (h : Heap), YP w h → (K w.params).In h)
    (F : ∀ (w : World) (mg : Str → Option Value) (fa : Addr) (h : Heap), (K w.params).In h → h.Ns mainGlobals mg → mg d.name = some (.ref fa) →
      ∃ fd : FuncData, (∀ (s : Shared) (u : Value), BindsTo s fd ⟨[u], []⟩ [(x, u)]) ∧ ∀ base : Heap, (K w.params).In base → base.Ns mainGlobals mg → FnG l.prog w (K w.params) mg base CX0 k fa fd [x] (sp w))
    (hsp : ∀ (w : World) (H : Hp) (a : Addr) (ns : List Int), ns.length ≤ n → Only H → SqL (K w.params) H a (ns.map V.int) → sp w [.ref a] H (fun v _ => v = .bl true) E0) :
    WalkO q loose XP YP l.row.toRowW d [] (fun f vs => PySem.call f vs) := by
  refine Att.attach_call hn hdf ?_
  intro w s₀ s₁ mg mb fa o pm cd doc a vs ns G Y ho hd hcd hmg hobj hints hlen hg
  obtain ⟨fd, hb, hF⟩ := F w mg fa _ (hY w _ Y) G.T.g hmg
  exact lawG (hY w _ Y) G.T.g G.T.b G.T.builtins G.T.nolimit hg hobj hints (Nat.le_trans hlen hn2) hr hF hb fun H h1 h2 => hsp w H a ns hlen h1 h2
end My

namespace My
open PySem L2 PySem.Spec PyProof.Rows
section
variable {σ : L2.St} {H : Hp} {Q : VK} {ta tb : TE} {K : PySem.W.Frag} {i : Int}
/-- slot i holds v -/
inductive GetAt : Nat → L2.St → V → Prop
  | zero {v : V} {l : L2.St} : GetAt 0 (some v :: l) v
  | succ {i : Nat} {v : V} {x : Option V} {l : L2.St} (h : GetAt i l v) : GetAt (i + 1) (x :: l) v
inductive SetAt : Nat → V → L2.St → L2.St → Prop
  | zero {v : V} {x : Option V} {l : L2.St} : SetAt 0 v (x :: l) (some v :: l)
  | succ {i : Nat} {v : V} {x : Option V} {l m : L2.St} (h : SetAt i v l m) : SetAt (i + 1) v (x :: l) (x :: m)
theorem GetAt.get {i : Nat} {σ : L2.St} {v : V} (h : GetAt i σ v) : σ[i]? = some (some v) := by
  induction h with
  | zero => rfl
  | succ _ ih => simpa using ih
theorem SetAt.set {i : Nat} {σ τ : L2.St} {v : V} (h : SetAt i v σ τ) : σ.set i (some v) = τ := by
  induction h with
  | zero => rfl
  | succ _ ih => simpa using ih
theorem s_varG {i : Nat} {v : V} (g : GetAt i σ v) (q : Q v H) : tVar i σ H Q := ⟨v, g.get, q⟩
theorem s_gnameG {i : Nat} {v : V} {τ : L2.St} {Q : L2.St → Hp → Prop} (g : SetAt i v σ τ) (q : Q τ H) : gName i v σ H Q := by
  show Q (σ.set i (some v)) H
  rw [g.set]
  exact q
theorem s_gnameE {i : Nat} {v : V} {τ : L2.St} {Q : L2.St → Hp → Prop} (e : σ.set i (some v) = τ) (q : Q τ H) : gName i v σ H Q := by
  show Q (σ.set i (some v)) H
  rw [e]
  exact q
theorem s_2setE {D : Ends} {i j : Nat} {t : TS} {x y : V} {τ : L2.St} (e : (σ.set i (some x)).set j (some y) = τ) (h : t D τ H) : t D ((σ.set i (some x)).set j (some y)) H := by
  rw [e]
  exact h
theorem s_orT (h : ta σ H fun x H1 => ∃ k, TruV K x H1 k ∧ if k = true then Q x H1 else tb σ H1 Q) : tOrT K ta tb σ H Q := h
theorem s_andT (h : ta σ H fun x H1 => ∃ k, TruV K x H1 k ∧ if k = true then tb σ H1 Q else Q x H1) : tAndT K ta tb σ H Q := h
theorem s_chain {r r' : R2} {tc : TE} (h : ta σ H fun x H1 => tb σ H1 fun y H2 => r x y H2 fun z H3 => ∃ k, z = .bl k ∧
  (if k = true then tc σ H3 fun w' H4 => r' y w' H4 Q else Q (.bl false) H3)) : tChain r r' ta tb tc σ H Q := h
theorem s_isi_int (q : Q (.bl true) H) : rIsi K [.int i, .ty "int"] H Q := ⟨_, _, _, _, true, rfl, .ty _, .base (.int i), kit_ty (by decide +kernel), q⟩
theorem s_isi_int_bool (q : Q (.bl false) H) : rIsi K [.int i, .ty "bool"] H Q := ⟨_, _, _, _, false, rfl, .ty _, .base (.int i), kit_ty (by decide +kernel), q⟩
theorem s_isi_own {a C : Addr} (t : TyOf K H (.ref a) (.ref C)) (q : Q (.bl true) H) : rIsi K [.ref a, .ref C] H Q := ⟨_, _, _, _, true, rfl, .own C, .base t, by simp [PySem.W.kitOne], q⟩
theorem s_prop {C : Addr} {sp : Sp} {dvs : List V} {E : XK} (h : ta σ H fun x H1 => ∃ a dx fs, x = .ref a ∧ H1 a = some (.ins C dx fs) ∧ sp (.ref a :: dvs) H1 Q E) : tProp C sp dvs E ta σ H Q := h
theorem s_sfld {D : Ends} {f : Str} (h : tb σ H fun y H1 => ta σ H1 fun x H2 => ∃ a C dx fs, x = .ref a ∧ H2 a = some (.ins C dx fs) ∧ Cls K C ∧ NoAttr K C f ∧ fs.length < 1000 ∧ D.nx σ (upd H2 a (.ins C dx (putF f y fs)))) : sFld K ta tb f D σ H := h
theorem s_fput {a C dx : Addr} {fs : List (Str × V)} {f : Str} {y : V} {Q : Hp → Prop} (e : H a = some (.ins C dx fs)) (c : Cls K C) (n : NoAttr K C f) (l : fs.length < 1000) (q : Q (upd H a (.ins C dx (putF f y fs)))) :
    ∃ a' C dx fs, V.ref a = .ref a' ∧ H a' = some (.ins C dx fs) ∧ Cls K C ∧ NoAttr K C f ∧ fs.length < 1000 ∧ Q (upd H a' (.ins C dx (putF f y fs))) := ⟨a, C, dx, fs, rfl, e, c, n, l, q⟩
theorem s_fget {a C dx : Addr} {fs : List (Str × V)} {f : Str} {v : V} (e : H a = some (.ins C dx fs)) (c : Cls K C) (n : NoAttr K C f) (l : fs.lookup f = some v) (q : Q v H) :
    ∃ a' C dx fs v, V.ref a = .ref a' ∧ H a' = some (.ins C dx fs) ∧ Cls K C ∧ NoAttr K C f ∧ fs.lookup f = some v ∧ Q v H := ⟨a, C, dx, fs, v, rfl, e, c, n, l, q⟩
theorem few0 {m : Nat} : ([] : List (Str × V)).length < m + 1 := Nat.succ_pos _
theorem few_put {m : Nat} {fs : List (Str × V)} {f : Str} {v : V} (h : fs.length < m) : (putF f v fs).length < m + 1 := by
  have e : ∀ fs : List (Str × V), (putF f v fs).length ≤ fs.length + 1 := by
    intro fs
    induction fs with
    | nil => exact Nat.le_refl _
    | cons x r ih =>
      obtain ⟨g, x⟩ := x
      unfold putF
      split
      · exact Nat.le_succ _
      · exact Nat.succ_le_succ ih
  exact Nat.lt_of_le_of_lt (e fs) (Nat.succ_lt_succ h)
theorem putF_nil {f : Str} {v : V} : putF f v [] = [(f, v)] := rfl
theorem putF_ne {f g : Str} {v x : V} {r : List (Str × V)} (h : g ≠ f) : putF f v ((g, x) :: r) = (g, x) :: putF f v r := if_neg h
theorem s_eqI {i j : Int} (q : Q (.bl (decide (i = j))) H) : rEq (.int i) (.int j) H Q := by
  refine ⟨rfl, ?_⟩
  rw [show decide (V.int i = V.int j) = decide (i = j) from by (rw [Bool.eq_iff_iff]; simp)]
  exact q
theorem s_neI {i j : Int} (q : Q (.bl (!decide (i = j))) H) : rNe (.int i) (.int j) H Q := by
  refine ⟨rfl, ?_⟩
  rw [show decide (V.int i = V.int j) = decide (i = j) from by (rw [Bool.eq_iff_iff]; simp)]
  exact q
theorem s_eqS {i j : Str} (q : Q (.bl (decide (i = j))) H) : rEq (.str i) (.str j) H Q := by
  refine ⟨rfl, ?_⟩
  rw [show decide (V.str i = V.str j) = decide (i = j) from by (rw [Bool.eq_iff_iff]; simp)]
  exact q
theorem s_neSr {i : Str} (q : Q (.bl false) H) : rNe (.str i) (.str i) H Q := by
  refine ⟨rfl, ?_⟩
  rw [decide_eq_true rfl]
  exact q
theorem s_neS {i j : Str} (q : Q (.bl (!decide (i = j))) H) : rNe (.str i) (.str j) H Q := by
  refine ⟨rfl, ?_⟩
  rw [show decide (V.str i = V.str j) = decide (i = j) from by (rw [Bool.eq_iff_iff]; simp)]
  exact q
theorem s_bm {T : String} {r : V → List V → Hp → VK → Prop} {t : TA} (h : ta σ H fun x H1 => tyV K T x H1 ∧ t σ H1 fun xs H2 => r x xs H2 Q) : tBM K T r ta t σ H Q := h
theorem s_bm0 {T : String} {r : V → List V → Hp → VK → Prop} (h : ta σ H fun x H1 => tyV K T x H1 ∧ r x [] H1 Q) : tBM0 K T r ta σ H Q := h
theorem s_tyL {a : Addr} {xs : List V} {P : Prop} (h : H a = some (.lst xs)) (q : P) : tyV K "list" (.ref a) H ∧ P := ⟨.inl ⟨rfl, xs, SqL.of h⟩, q⟩
theorem s_append {l : Addr} {xs : List V} {y : V} (h : H l = some (.lst xs)) (hz : xs.length < sizeLine) (q : Q .non (upd H l (.lst (xs ++ [y])))) : rAppend (.ref l) [y] H Q := ⟨l, xs, y, rfl, rfl, h, hz, q⟩
theorem s_extend {l b : Addr} {xs zs : List V} (h : H l = some (.lst xs)) (hb : H b = some (.lst zs)) (hz : xs.length + zs.length ≤ sizeLine) (q : Q .non (upd H l (.lst (xs ++ zs)))) : rExtend (.ref l) [.ref b] H Q := ⟨l, b, xs, zs, rfl, rfl, h, hb, hz, q⟩
theorem lt_size {n : Nat} (h : Nat.blt n sizeLine = true) : n < sizeLine := Nat.le_of_ble_eq_true h
theorem s_make {C : Addr} {sp : Sp} {dvs : List V} {E : XK} {t : TA} (h : t σ H fun vs H1 => ∀ x dx, H1 x = none → H1 dx = none → dx ≠ x → sp (.ref x :: (vs ++ dvs)) (upd (upd H1 dx (.own x)) x (.ins C dx [])) (fun v H2 => v = .non ∧ Q (.ref x) H2) E) : tMake C sp dvs E t σ H Q := h
theorem s_meth {C : Addr} {m : Str} {sp : Sp} {dvs : List V} {E : XK} {t : TA} (h : ta σ H fun x H1 => ∃ a dx fs, x = .ref a ∧ H1 a = some (.ins C dx fs) ∧ fs.lookup m = none ∧ t σ H1 fun vs H2 => sp (x :: (vs ++ dvs)) H2 Q E) : tMeth C m sp dvs E ta t σ H Q := h
theorem s_for {wi : TI} {g : TG} {tb : TS} {D0 : Ends}
    (h : ∀ D : Ends, D = D0 → wi σ H fun J H1 => ∃ W : Nat → Nat → L2.St → Hp → Prop, (∃ m, W 0 m σ H1) ∧ ∀ i m σ H, W i m σ H →
      (J.stop i H ∧ D.nx σ H) ∨ (J.go i H ∧ ∃ N : L2.St → Hp → Prop, (∀ σ' H', N σ' H' → ∃ m', m' < m ∧ W (i + 1) m' σ' H') ∧
        ∀ x H', J.yld i H x H' → g x σ H' fun σ2 H2 => tb { D with nx := N, ct := N, bk := D.nx } σ2 H2)) : tFor wi g tb D0 σ H := h D0 rfl
theorem s_lc {wi : TI} {g : TG} {tt : TT} {te : TE} {vs : List Nat}
    (h : wi σ H fun J H1 => ∀ D, H1 D = none → ∃ W : Nat → Nat → Hp → Prop, (∃ m, W 0 m (upd H1 D (.lst []))) ∧ ∀ i m H, W i m H →
      (J.stop i H ∧ Q (.ref D) H) ∨ (J.go i H ∧ ∃ Nx : Hp → Prop, (∀ H', Nx H' → ∃ m', m' < m ∧ W (i + 1) m' H') ∧
        ∀ x H', J.yld i H x H' → g x (wipe σ vs) H' fun σ2 H2 => wipe σ2 vs = wipe σ vs ∧ tt σ2 H2 fun b H3 =>
          if b = true then te σ2 H3 fun y H4 => ∃ acc, H4 D = some (.lst acc) ∧ acc.length < sizeLine ∧ Nx (upd H4 D (.lst (acc ++ [y]))) else Nx H3)) : tLc wi g tt te vs σ H Q := h
theorem s_iList {R : L2.It → Hp → Prop} (h : ta σ H fun x H1 => ∃ a, x = .ref a ∧ (∃ xs, SqL K H1 a xs) ∧ R (Itl K a) H1) : iList K ta σ H R := h
theorem s_iTup {R : L2.It → Hp → Prop} (h : ta σ H fun x H1 => ∃ a, x = .ref a ∧ (∃ xs, SqT K H1 a xs) ∧ R (Itt K a) H1) : iTup K ta σ H R := h
theorem s_iRng1 {R : L2.It → Hp → Prop} {t : TA} (h : t σ H fun vs H1 => ∃ j : Int, vs = [.int j] ∧ -(2 ^ 62) ≤ j ∧ j < 2 ^ 62 ∧ R (Itr 0 j.toNat) H1) : iRng1 t σ H R := h
theorem s_iRng2 {R : L2.It → Hp → Prop} {t : TA} (h : t σ H fun vs H1 => ∃ i j : Int, vs = [.int i, .int j] ∧ (-(2 ^ 62) ≤ i ∧ i < 2 ^ 62 ∧ -(2 ^ 62) ≤ j ∧ j < 2 ^ 62) ∧ R (Itr i (j - i).toNat) H1) : iRng2 t σ H R := h
theorem s_par {D : Ends} {i j : Nat} {t : TA} (h : t σ H fun vs H1 => ∃ v w, vs = [v, w] ∧ D.nx ((σ.set i (some v)).set j (some w)) H1) : tPar i j t D σ H := h
theorem s_2set {D : Ends} {i j : Nat} {t : TS} {x y : V} {τ υ : L2.St} (g : SetAt i x σ τ) (g2 : SetAt j y τ υ) (h : t D υ H) : t D ((σ.set i (some x)).set j (some y)) H := by
  rw [g.set, g2.set]
  exact h
theorem s_yes {QB : Bool → Hp → Prop} (h : QB true H) : tYes σ H QB := h
theorem s_fldE {f : Str} (h : ta σ H fun x H1 => ∃ a C dx fs v, x = .ref a ∧ H1 a = some (.ins C dx fs) ∧ Cls K C ∧ NoAttr K C f ∧ fs.lookup f = some v ∧ Q v H1) : tFld K ta f σ H Q := h
theorem s_isi_str {x : Str} (q : Q (.bl true) H) : rIsi K [.str x, .ty "str"] H Q := ⟨_, _, _, _, true, rfl, .ty _, .base (.str x), kit_ty (by decide +kernel), q⟩
theorem s_truInt {i : Int} {P : Bool → Prop} (q : P (i != 0)) : ∃ k, TruV K (.int i) H k ∧ P k := ⟨_, rfl, q⟩
theorem s_neB {i j : Bool} (q : Q (.bl (i != j)) H) : rNe (.bl i) (.bl j) H Q := by
  refine ⟨rfl, ?_⟩
  rw [show (!decide (V.bl i = V.bl j)) = (i != j) from by cases i <;> cases j <;> rfl]
  exact q
theorem s_eqB {i j : Bool} (q : Q (.bl (i == j)) H) : rEq (.bl i) (.bl j) H Q := by
  refine ⟨rfl, ?_⟩
  rw [show decide (V.bl i = V.bl j) = (i == j) from by cases i <;> cases j <;> rfl]
  exact q
theorem inV_ints (x : Int) (ns : List Int) : inV (.int x) (ns.map V.int) = decide (x ∈ ns) := by
  unfold inV
  rw [List.any_map, Bool.eq_iff_iff, List.any_eq_true, decide_eq_true_eq]
  constructor
  · rintro ⟨y, hy, e⟩
    have e2 : y = x := by simpa [eqV] using e
    exact e2 ▸ hy
  · intro h
    exact ⟨x, h, by simp [eqV]⟩
theorem flat_ints (ns : List Int) : (ns.map V.int).all flatV = true := by
  rw [List.all_map, List.all_eq_true]
  intro x _
  rfl
theorem le_size {n : Nat} (h : Nat.ble n sizeLine = true) : n ≤ sizeLine := Nat.le_of_ble_eq_true h
theorem ite_NN {A B : Prop} (h : A) : if decide (V.non = V.non) = true then A else B := by rw [if_pos (decide_eq_true rfl)]; exact h
theorem ite_IN {A B : Prop} {i : Int} (h : B) : if decide (V.int i = V.non) = true then A else B := by rw [if_neg (by simp)]; exact h
theorem ite_nNN {A B : Prop} (h : B) : if (!decide (V.non = V.non)) = true then A else B := by rw [if_neg (by simp)]; exact h
theorem ite_nIN {A B : Prop} {i : Int} (h : A) : if (!decide (V.int i = V.non)) = true then A else B := by rw [if_pos (by simp)]; exact h
/-- the test's answer c is known: what follows need not be read twice -/
theorem s_cut {tt : TT} {QB : Bool → Hp → Prop} (c : Bool) (h1 : QB c H) (h2 : ∀ QB' : Bool → Hp → Prop, QB' c H → tt σ H QB') : tt σ H QB := h2 QB h1
theorem qb_eq {QB : Bool → Hp → Prop} {c d : Bool} (h : QB c H) (e : c = true ↔ d = true) : QB d H := by
  rw [← (Bool.eq_iff_iff.mpr e)]
  exact h
theorem ite_RN {A B : Prop} {a : Addr} (h : B) : if decide (V.ref a = V.non) = true then A else B := by rw [if_neg (by simp)]; exact h
theorem ite_nRN {A B : Prop} {a : Addr} (h : A) : if (!decide (V.ref a = V.non)) = true then A else B := by rw [if_pos (by simp)]; exact h
theorem iteNT {A B : Prop} (h : B) : if (!true) = true then A else B := by simpa using h
theorem iteNF {A B : Prop} (h : A) : if (!false) = true then A else B := by simpa using h
theorem ite_b {b : Bool} {A B : Prop} (h1 : b = true → A) (h2 : b = false → B) : if b = true then A else B := by
  cases b
  · exact iteF (h2 rfl)
  · exact iteT (h1 rfl)
theorem ite_nb {b : Bool} {A B : Prop} (h1 : b = false → A) (h2 : b = true → B) : if (!b) = true then A else B := by
  cases b
  · exact iteNF (h1 rfl)
  · exact iteNT (h2 rfl)
end
section
variable {P : Program} {w : World} {K : PySem.W.Frag} {mg : Str → Option Value} {base : Heap} {x qual : Str} {params : Arguments} {body : List Stmt} {scope : Scope} {dvs : List V} {C : Addr} {k : Nat} {ps : List Str} {sp : Sp}
theorem dnN (e : ∃ (f : Addr) (fd : FuncData), FunD K x qual params body scope [] [] f fd ∧ mg x = some (.ref f)) (ok : ∀ {f : Addr} {fd : FuncData}, FunD K x qual params body scope [] [] f fd → FnG P w K mg base CX0 k f fd ps sp)
    (h : ∀ (kV doc pm : Value) (an : Option Addr) (cdv ct : Value) (us : List Value), us.length = ps.length → bindArgs (PySem.W.fnOf x qual params body scope .none kV doc pm an cdv ct) ⟨us, []⟩ = pure (ps.zip us)) : Dn P w K mg base x k ps [] sp := by
  obtain ⟨f, fd, F, hm⟩ := e
  exact ⟨f, fd, [], ok F, hm, F.kp, F.bindsN h, .nil⟩
theorem prN {q : Str} (e : ∃ (p f : Addr) (fd : FuncData), PropOf K C q p f ∧ FunD K x qual params body scope [] [] f fd) (c : Cls K C) (ok : ∀ {f : Addr} {fd : FuncData}, FunD K x qual params body scope [] [] f fd → FnG P w K mg base CX0 k f fd ps sp)
    (h : ∀ (kV doc pm : Value) (an : Option Addr) (cdv ct : Value) (us : List Value), us.length = ps.length → bindArgs (PySem.W.fnOf x qual params body scope .none kV doc pm an cdv ct) ⟨us, []⟩ = pure (ps.zip us)) : Prn P w K mg base C q k ps [] sp := by
  obtain ⟨p, f, fd, hp, F⟩ := e
  exact ⟨p, f, fd, [], c, hp, ok F, F.bindsN h, .nil⟩
theorem mtN {q : Str} (e : ∃ (f : Addr) (fd : FuncData), Meth K C q f ∧ FunD K x qual params body scope [] [] f fd) (c : Cls K C) (ok : ∀ {f : Addr} {fd : FuncData}, FunD K x qual params body scope [] [] f fd → FnG P w K mg base CX0 k f fd ps sp)
    (h : ∀ (kV doc pm : Value) (an : Option Addr) (cdv ct : Value) (us : List Value), us.length = ps.length → bindArgs (PySem.W.fnOf x qual params body scope .none kV doc pm an cdv ct) ⟨us, []⟩ = pure (ps.zip us)) : Mtn P w K mg base C q k ps [] sp := by
  obtain ⟨f, fd, hp, F⟩ := e
  exact ⟨f, fd, [], c, hp, ok F, F.bindsN h, .nil⟩
theorem mkN {y : Str} (e : ∃ (f : Addr) (fd : FuncData), Mk K C f ∧ FunD K x qual params body scope [] [] f fd) (m : mg y = some (.ref C)) (ok : ∀ {f : Addr} {fd : FuncData}, FunD K x qual params body scope [] [] f fd → FnG P w K mg base CX0 k f fd ps sp)
    (h : ∀ (kV doc pm : Value) (an : Option Addr) (cdv ct : Value) (us : List Value), us.length = ps.length → bindArgs (PySem.W.fnOf x qual params body scope .none kV doc pm an cdv ct) ⟨us, []⟩ = pure (ps.zip us)) : Mkn P w K mg base y C k ps [] sp := by
  obtain ⟨f, fd, hp, F⟩ := e
  exact ⟨f, fd, [], hp, ok F, m, F.bindsN h, .nil⟩
theorem mkD {y : Str} (n j : Nat) (e : ∃ (f : Addr) (fd : FuncData), Mk K C f ∧ FunD K x qual params body scope dvs [] f fd) (m : mg y = some (.ref C)) (ok : ∀ {f : Addr} {fd : FuncData}, FunD K x qual params body scope dvs [] f fd → FnG P w K mg base CX0 k f fd ps sp) (hd : dvs ≠ []) (hn : n + (dvs.length - j) = ps.length)
    (h : ∀ (T : Addr) (kV doc pm : Value) (an : Option Addr) (cdv ct : Value) (us its : List Value), us.length = n → its.length = dvs.length →
      ∃ k, bindArgs (PySem.W.fnOf x qual params body scope (.ref T) kV doc pm an cdv ct) ⟨us, []⟩ = seqItems? (.ref T) >>= k ∧ k (some its.toArray) = pure (ps.zip (us ++ its.drop j))) : Mkn P w K mg base y C k ps (dvs.drop j) sp := by
  obtain ⟨f, fd, hp, F⟩ := e
  obtain ⟨ds, hv, hb⟩ := F.binds1 n j hd hn h
  exact ⟨f, fd, ds, hp, ok F, m, hb, hv⟩
end
abbrev optV : Option Int → V
  | none => .non
  | some i => .int i
/-- a comprehension within a comprehension -/
def reS (scope sc : Scope) : Scope := { scope with names := scope.names.map fun p => if (p.2 == NameKind.free && sc.kind == ScopeKind.function && sc.names.lookup p.1 == some NameKind.cell) = true then (p.1, NameKind.cell) else p }
theorem reS_eq (scope : Scope) (env : Env) : PySem.relabel scope env = reS scope env.scope := by
  unfold PySem.relabel reS
  congr 1
theorem blkOk_nest {X : Cx} {s : Shared} {H : Hp} {scope0 scope : Scope} {cl : List (Str × Addr)} {C : Addr} {env : Env} {fp : List Addr} {own : List (Str × Nat)} (N : List Str) (sc : Scope) (e : X.N = N) (e2 : env.scope = sc) (h : blkC N (reS scope0 sc) scope own = true) :
    BlkOk (X.blk s H scope0 (compEnvC scope0 cl C env) fp).N (X.blk s H scope0 (compEnvC scope0 cl C env) fp).env.scope scope own := by
  have z := blkOk_by h
  subst e e2
  rw [← reS_eq] at z
  exact z
/-! ### rules within a comprehension: the written part by its own name -/
section
variable {X : Cx} {K : PySem.W.Frag} {l e : Expr} {tl ta : TE} {tg : Expr} {f : Str} {pos : Pos}
def rLen (K : PySem.W.Frag) : List V → Hp → VK → Prop := fun xs H Q => ∃ p ys, xs = [.ref p] ∧ (SqL K H p ys ∨ SqT K H p ys) ∧ Q (.int ys.length) H
theorem ix_listK (h : X.K = K) : IxR X (rIxL K) := h ▸ ix_list
theorem ix_tupK (h : X.K = K) : IxR X (rIxT K) := h ▸ ix_tup
theorem call_len_seqK (h : X.K = K) : CallR X (.builtin "len") (rLen K) := by
  subst h
  exact call_len_seq
theorem pi_listK (h : X.K = K) (hl : PE X l tl) : PI X tg l (iList K tl) := h ▸ pi_list hl
theorem pi_tupK (h : X.K = K) (hl : PE X l tl) : PI X tg l (iTup K tl) := h ▸ pi_tup hl
theorem cr_allK (h : X.K = K) (hc : X.calm = true) : CallR X (.builtin "all") (rAll K) := h ▸ cr_all hc
theorem cr_anyK (h : X.K = K) (hc : X.calm = true) : CallR X (.builtin "any") (rAny K) := h ▸ cr_any hc
theorem cr_sumK (h : X.K = K) (hc : X.calm = true) : CallR X (.builtin "sum") (rSum K) := h ▸ cr_sum hc
theorem cr_maxK (h : X.K = K) (hc : X.calm = true) : CallR X (.builtin "max") (rMax K) := h ▸ cr_max hc
theorem cr_minK (h : X.K = K) (hc : X.calm = true) : CallR X (.builtin "min") (rMin K) := h ▸ cr_min hc
theorem op_in_seqK (h : X.K = K) : OpR X (compareOp .In) (rIn K false) := h ▸ op_in_seq
theorem op_notIn_seqK (h : X.K = K) : OpR X (compareOp .NotIn) (rIn K true) := h ▸ op_notIn_seq
theorem op_eqDK (h : X.K = K) (hu : X.A.units + 64 < cLine) : OpR X (compareOp .Eq) (rEqD K) := h ▸ op_eqD hu
theorem op_neDK (h : X.K = K) (hu : X.A.units + 64 < cLine) : OpR X (compareOp .NotEq) (rNeD K) := h ▸ op_neD hu
theorem pe_fldK (h : X.K = K) (he : PE X e ta) (hb : attributeBase e f X.env (eval e X.env) = eval e X.env) : PE X (.Attribute e f pos) (tFld K ta f) := h ▸ pe_fld he hb
end
theorem s_len {K : PySem.W.Frag} {a : Addr} {xs : List V} {H : Hp} {Q : VK} (h : SqL K H a xs) (q : Q (.int xs.length) H) : rLen K [.ref a] H Q := ⟨a, xs, rfl, .inl h, q⟩
/-! ### bounds of ints -/
theorem Same.new {p : Addr} {o : HO} {H : Hp} (h : H p = none) : Same H (upd H p o) := fun c u e => by rw [upd_ne (ne_of_none e h)]; exact e
theorem Same.rfl' (H : Hp) : Same H H := fun _ _ e => e
theorem Same.tr {A B C : Hp} (x : Same A B) (y : Same B C) : Same A C := fun c u e => y c u (x c u e)
theorem Same.at_ {p : Addr} {o : HO} {H H1 : Hp} (h : H p = none) (s : Same H H1) : Same H (upd H1 p o) := fun c u e => by rw [upd_ne (ne_of_none e h)]; exact s c u e
theorem Same.but {r : Addr} {H H' : Hp} (s : Same H H') : But r H H' := fun c o h _ => s c o h
def Sm (k : Nat) (x : Int) : Prop := x.natAbs < 2 ^ k
instance {k : Nat} {x : Int} : Decidable (Sm k x) := inferInstanceAs (Decidable (_ < _))
theorem Sm.mono {j k : Nat} {x : Int} (h : Sm j x) (l : j ≤ k) : Sm k x := Nat.lt_of_lt_of_le h (Nat.pow_le_pow_right (by decide) l)
theorem Sm.mul {j k : Nat} {x y : Int} (h : Sm j x) (g : Sm k y) : Sm (j + k) (x * y) := by
  unfold Sm at *
  rw [Int.natAbs_mul, Nat.pow_add]
  exact Nat.mul_lt_mul'' h g
theorem Sm.add {k : Nat} {x y : Int} (h : Sm k x) (g : Sm k y) : Sm (k + 1) (x + y) := by
  unfold Sm at *
  rw [Nat.pow_succ]
  omega
theorem Sm.le {k : Nat} {x y : Int} (h0 : 0 ≤ x) (h : x ≤ y) (g : Sm k y) : Sm k x := by
  unfold Sm at *
  omega
theorem Sm.cmul {j k : Nat} {x y : Int} (h : Sm j x) (g : Sm k y) (h0 : 0 < j := by decide) (h1 : 0 < k := by decide) (l : j + k ≤ 1000000 := by decide) : CMulW x y := wide_mul h g h0 h1 l
theorem But.same {x : Addr} {H H1 H' : Hp} (b : But x H1 H') (s : Same H H1) (n : H x = none) : Same H H' := fun c o h => b c o (s c o h) (ne_of_none h n)
theorem lg {k : Nat} {x : Int} (h : Sm k x) (h0 : 0 < k := by decide) (hk : k ≤ 9000 := by decide) : x.natAbs.log2 < 9000 := Nat.lt_of_lt_of_le (PySem.Flt.log2_lt_of h0 h) hk
theorem sm62 {x : Int} (h0 : 0 ≤ x) (h : x < 4611686018427387904) : Sm 62 x := by
  show x.natAbs < 4611686018427387904
  omega
theorem cmul_small {i j : Int} (h0 : 0 ≤ i) (h1 : i < 2147483648) (g0 : 0 ≤ j) (g1 : j < 2147483648) : CMulW i j := wide_mul (a := 31) (b := 31) (by omega) (by omega) (by decide) (by decide) (by decide)
theorem atI_ints {ns : List Int} {k : Int} (h0 : 0 ≤ k) (h : k < (ns.map V.int).length) : ∃ c, atI (ns.map V.int) k = some (.int c) := by
  obtain ⟨j, rfl⟩ : ∃ j : Nat, k = j := ⟨k.toNat, by omega⟩
  rw [List.length_map] at h
  have hj : j < ns.length := by omega
  exact ⟨ns[j], atI_nat (by rw [List.getElem?_map, List.getElem?_eq_getElem hj]; rfl)⟩
theorem Sm.log {k : Nat} {x : Int} (h : Sm k x) (h0 : 0 < k := by decide) : x.natAbs.log2 < k := PySem.Flt.log2_lt_of h0 h
end My

namespace My
open PySem L2 PySem.Spec PyProof.Rows Sem
/-! ### set(xs), xs a list of ints -/
abbrev setO0 (w : World) : Obj := { cls := .type "set", dict := none, data := .set #[] 0 (.fresh 0 0 (!w.params.followText "set-order")) }
section
variable {P : Program} {w : World} {A : Around} {E : Value → Shared → Prop} {s : Shared}
theorem set_ints {l : Addr} {its : Array Value} (ks : List Int) {Q : Value → Shared → Prop} (calm : A.handled = none) (isl : s.heap.IsList l its) (are : IntsAre its.toList ks) (few : ks.length + 1 < scanBound)
    (fin : ∀ (hp : Heap) (tk c : Nat), SetR w hp s.heap.objs.size (fun j => decide (j ∈ ks)) c → c ≤ ks.length → (∀ b o, s.heap.get? b = some o → hp.get? b = some o) → Q (.ref s.heap.objs.size) { s with heap := hp, toks := tk }) :
    wpAny (model P w) A (call (.type "set") [.ref l]) Q E s := by
  have size_eq : its.size = ks.length := by simpa using IntsAre.length are
  have z1 := F.called_set.mro
  have z2 := F.called_set.made
  have z3 := F.called_set.sub
  have z4 := F.called_set.notType
  have z5 := F.called_set.canCreate
  have z6 := F.typeCall_set_1 (.ref l)
  obtain ⟨c0, tl0, mro0⟩ := z1
  apply wpAny_call; apply codeAny_of_tree
  show wpAny _ _ (callAny (Value.type "set") _) _ _ _
  apply wpAny_pure; refine ⟨Code.quiet_builtin _ (by decide +kernel), ?_⟩; apply codeAny_builtin F.entry_type_call
  rw [Around.under_plain (weight_type_call_type "set" [Value.ref l] []) (by rfl)]
  repeat (any_goals (first | assumption | wp_step))
  apply codeAny_mono (code_set_led1 (.ref l) (E := E) (Q₁ := fun v t => v = .ref s.heap.objs.size ∧ t = { s with heap := s.heap.push (setO0 w) }) ⟨rfl, rfl⟩)
  rintro (er | fl) t hq
  · exact hq
  cases fl with
  | ret v =>
    obtain ⟨rfl, rfl⟩ := hq
    have atS : (s.heap.push (setO0 w)).get? s.heap.objs.size = some (setO0 w) := Heap.get?_push_size _ rfl
    have ty : Shared.TypeIs { s with heap := s.heap.push (setO0 w) } (.ref s.heap.objs.size) "set" := ⟨_, atS, rfl⟩
    have i1 := F.called_set.init.lookup
    have i2 := F.called_set.init.bind (.ref s.heap.objs.size)
    repeat (any_goals (first | assumption | wp_step))
    refine codeAny_mono (codeAny_call_builtin (R := wants (fun v t => v = .none ∧ ∃ hp tk c, t = { s with heap := hp, toks := tk } ∧ SetR w hp s.heap.objs.size (fun j => decide (j ∈ ks)) c ∧ c ≤ ks.length ∧
      ∀ b o, s.heap.get? b = some o → hp.get? b = some o) E) F.called_set.init.plain F.entry_set_init (check_set_init_1 ty ?_)) ?_
    · obtain ⟨o1, at1, cls1, n1, dat1⟩ := isl
      obtain ⟨oc, od, odat, osl⟩ := o1
      simp only at cls1 dat1
      subst cls1 dat1
      have at2 : (s.heap.push (setO0 w)).get? l = some { cls := .type "list", dict := od, data := .seq its n1, slots := osl } := Heap.get?_push_of_some _ at1
      have u1 := F.sub_list_set
      have u2 := F.sub_list_frozenset
      have u3 : (Value.type "list" == Value.type "dict") = false := by decide
      have isl2 : (s.heap.push (setO0 w)).IsList l its := ⟨_, at2, rfl, n1, rfl⟩
      unfold Builtin.«set.__init__» noKeywords Builtin.Frozenset.updateFrom
      generalize gPI : pyIter = PI
      wp_walk
      subst gPI
      apply wpAny_pyIter_list isl2
      apply wpAny_bind; apply wpAny_runValue
      have lS : l < s.heap.objs.size := Heap.lt_size at1
      have calm3 : A.in1.in1.in1.handled = none := by simp [calm]
      have lI : l ≠ (s.heap.push (setO0 w)).objs.size := Heap.size_push .. ▸ Nat.ne_of_lt (Nat.lt_succ_of_lt lS)
      have Sf : s.heap.objs.size ∉ [(s.heap.push (setO0 w)).objs.size, l] := by
        rw [Heap.size_push, List.mem_cons, List.mem_singleton]
        rintro (z | z)
        · exact absurd z (Nat.ne_of_lt (Nat.lt_succ_self _))
        · exact absurd z.symm (Nat.ne_of_lt lS)
      have vals : ∀ (i : Nat) (v : Value), its[i]? = some v → ∃ k t, ks[i]? = some k ∧ v = .int k t := fun i v hv => by
        have lt : i < ks.length := size_eq ▸ (Array.getElem?_eq_some_iff.mp hv).1
        obtain ⟨t, e⟩ := IntsAre.int_at are i v (by simpa using hv)
        exact ⟨ks[i], t, List.getElem?_eq_getElem lt, by rw [e, List.getD_eq_getElem?_getD, List.getElem?_eq_getElem lt]; rfl⟩
      refine set_update_ints ((Walks.list calm3 _ l lI its).toS) s.heap.objs.size Sf ks size_eq few vals (its.size - 0) 0 _ (by omega) (Nat.zero_le _) ⟨⟨_, Heap.get?_push_size _ rfl, rfl, rfl⟩, isl2.push _⟩ ⟨0, Nat.le_refl 0, setR_new_at (Heap.get?_push_of_some _ atS)⟩ ?_
      intro t c moved le R
      obtain ⟨hp, gs, dr, tk, os⟩ := t
      have e1 : gs = s.gens := moved.gens
      have e2 : dr = s.drawn := moved.drawn
      have e3 : os = s.os := moved.os
      subst e1 e2 e3
      show wpAny _ _ _ _ _ _
      apply wpAny_pure
      show wpAny _ _ (ret Value.none) _ _ _
      refine wpAny_pure ⟨rfl, hp, tk, c, rfl, R, size_eq ▸ le, fun b o e => ?_⟩
      have b0 : b < s.heap.objs.size := Heap.lt_size e
      refine moved.heap b o ?_ (Heap.get?_push_of_some _ (Heap.get?_push_of_some _ e))
      rw [Heap.size_push]
      simp only [List.mem_cons, List.mem_singleton, List.not_mem_nil, or_false, not_or]
      exact ⟨Nat.ne_of_lt b0, Nat.ne_of_lt (Nat.lt_succ_of_lt b0)⟩
    · rintro (er | fl) t hq
      · exact hq
      cases fl with
      | ret v =>
        obtain ⟨rfl, hp, tk, c, rfl, R, le, keep⟩ := hq
        repeat (any_goals (first | assumption | wp_step))
        exact fin _ _ _ R le keep
      | _ => exact hq.elim
  | _ => exact hq.elim
end
section
variable {X : Cx}
/-- set(xs) of a list of ints: a new set -/
def rSetOfI (K : PySem.W.Frag) (w : World) : List V → Hp → VK → Prop := fun xs H Q => ∃ (l : Addr) (ns : List Int), xs = [.ref l] ∧ SqL K H l (ns.map V.int) ∧ ns.length + 1 < scanBound ∧
  ∀ (p : Addr) (ks : List Int), H p = none → ks.Nodup → (∀ k, k ∈ ks ↔ k ∈ ns) → Q (.ref p) (upd H p (SetO w p (fun j => decide (j ∈ ns)) ks.length))
theorem cr_setOfI (hc : X.calm = true) : CallR X (.type "set") (rSetOfI X.K X.w) := by
  intro pins s σ H xs us Q I r h
  obtain ⟨l, ns, rfl, hl, few, q⟩ := h
  rw [Vals.ref1 r]
  obtain ⟨its, rv, pl, _⟩ := I.list hl
  have fresh : H s.heap.objs.size = none := I.hok.fresh (Nat.le_refl _)
  refine set_ints (P := X.prog) (w := X.w) ns (I.ok.hd hc) pl.isList (by simpa using intsAre_of rv) few fun hp tk c R le keep => ?_
  refine ⟨.ref s.heap.objs.size, upd H s.heap.objs.size (SetO X.w s.heap.objs.size (fun j => decide (j ∈ ns)) c), I.laid (t' := tk) keep (Nat.le_refl _) (setO_new R), rfl, ?_⟩
  obtain ⟨o, es, ep, t, _, _, _, _, nd, hm, _, _, ln, _⟩ := id R
  have e : (es.toList.map keyOf).length = c := by rw [List.length_map, Array.length_toList, ln]
  rw [← e]
  exact q _ _ fresh nd fun k => ((hm k).symm).trans decide_eq_true_iff
end
/-- different numbers below n: at most n -/
theorem nd_len : ∀ (n : Nat) (ks : List Int), ks.Nodup → (∀ k ∈ ks, 0 ≤ k ∧ k < (n : Int)) → ks.length ≤ n
  | 0, ks, _, h => by
    cases ks with
    | nil => exact Nat.le_refl _
    | cons k ks =>
      have := h k (List.mem_cons_self ..)
      omega
  | n + 1, ks, nd, h => by
    by_cases hm : (n : Int) ∈ ks
    · have ih := nd_len n (ks.erase (n : Int)) (nd.erase _) fun k hk => by
        rw [nd.mem_erase_iff] at hk
        have := h k hk.2
        have := hk.1
        omega
      rw [List.length_erase_of_mem hm] at ih
      omega
    · have ih := nd_len n ks nd fun k hk => by
        have := h k hk
        have hne : k ≠ n := fun e => hm (e ▸ hk)
        omega
      omega
end My

namespace My
open PySem L2 PySem.Spec PyProof.Rows Sem
section
variable {X : Cx} {j k : Nat} {f C : Addr} {fd : FuncData} {ps : List Str} {sp : Sp} {dvs : List V} {ds : List Value} {m : Str} {pins : List (Addr × Obj)} {σ : L2.St} {H : Hp} {s : Shared}
/-- a def's call, seen from inside a builtin's run -/
theorem goIn {A : Around} {Q : VK} {us : List Value} {vs : List V} (F : FnG X.prog X.w X.K X.mg X.base CX0 k f fd ps sp) (hr : RoomG k A) (e0 : Env0 X.prog X.w X.K X.mg X.base A X.stack s H) (hb : Binds X.K fd ps ds) (hd : Vals dvs ds)
    (I : Inv X pins σ H s) (r : Vals vs us) (h : sp (vs ++ dvs) H Q E0) : wpAny (model X.prog X.w) A (call (.ref f) us) (EP X pins σ Q) X.xe s := by
  have r2 := r.append hd
  have hl : (us ++ ds).length = ps.length := r2.length.symm.trans (F.len _ _ _ _ h)
  refine wpAny_call (codeAny_mono (F.go A X.stack s H ⟨us, []⟩ (us ++ ds) _ Q E0 hr e0 (hb s us I.kIn hl) r2 h) ?_)
  intro r s' hq
  cases r with
  | error e => exact (show False from hq).elim
  | ok fl => cases fl with
    | ret u => exact I.after hq
    | next => exact (show False from hq).elim
    | brk => exact (show False from hq).elim
    | cont => exact (show False from hq).elim
/-- an object of the class, as the heap has it -/
theorem insAt {a dx : Addr} {fs : List (Str × V)} (I : Inv X pins σ H s) (e : H a = some (.ins C dx fs)) : ∃ ox od, PySem.W.InstAt s.heap a ox C od := by
  obtain ⟨mA, O, _⟩ := ins_get I.hok e
  obtain ⟨od, J, _⟩ := O.look
  exact ⟨_, _, J⟩
/-! ### x in o, o its own __contains__ -/
def rInO (C : Addr) (sp : Sp) (dvs : List V) (g : Bool → Bool) : R2 := fun x y H Q => ∃ a dx fs, y = .ref a ∧ H a = some (.ins C dx fs) ∧ sp (.ref a :: x :: dvs) H (fun v H' => ∃ b, v = .bl b ∧ Q (.bl (g b)) H') E0
theorem or_inO (D : Mtn X.prog X.w X.K X.mg X.base C "__contains__" k ps dvs sp) (hr : RoomG k X.A) : OpR X (compareOp .In) (rInO C sp dvs id) := by
  obtain ⟨f, fd, ds, c, hm, F, hb, hd⟩ := D.ex
  intro pins s σ H x y v u Q I rx ry h
  obtain ⟨a, dx, fs, rfl, ea, q⟩ := h
  obtain rfl : u = Value.ref a := ry
  obtain ⟨ox, od, J⟩ := insAt I ea
  obtain ⟨mf, fr⟩ := I.fr
  refine PySem.W.in_K fr I.mod.kin J hm.at_ hm.fn (wpAny_mono (goIn (us := [.ref a, v]) (vs := [.ref a, x]) F hr I.env0 hb hd I (.cons rfl (.cons rx .nil)) q) (fun w s1 hw => ?_) fun _ _ z => z)
  obtain ⟨t, H1, I1, rt, b, rfl, q1⟩ := hw
  obtain rfl : w = Value.bool b := rt
  exact wpAny_truthy_bool ⟨.bl b, H1, I1, rfl, q1⟩
theorem or_notInO (D : Mtn X.prog X.w X.K X.mg X.base C "__contains__" k ps dvs sp) (hr : RoomG k X.A) : OpR X (compareOp .NotIn) (rInO C sp dvs (!·)) := by
  obtain ⟨f, fd, ds, c, hm, F, hb, hd⟩ := D.ex
  intro pins s σ H x y v u Q I rx ry h
  obtain ⟨a, dx, fs, rfl, ea, q⟩ := h
  obtain rfl : u = Value.ref a := ry
  obtain ⟨ox, od, J⟩ := insAt I ea
  obtain ⟨mf, fr⟩ := I.fr
  refine PySem.W.notIn_K fr I.mod.kin J hm.at_ hm.fn (wpAny_mono (goIn (us := [.ref a, v]) (vs := [.ref a, x]) F hr I.env0 hb hd I (.cons rfl (.cons rx .nil)) q) (fun w s1 hw => ?_) fun _ _ z => z)
  obtain ⟨t, H1, I1, rt, b, rfl, q1⟩ := hw
  obtain rfl : w = Value.bool b := rt
  exact wpAny_truthy_bool ⟨.bl (!b), H1, I1, rfl, q1⟩
/-! ### len(o), repr(o) -/
theorem call_lenO (D : Mtn X.prog X.w X.K X.mg X.base C "__len__" k ps dvs sp) (hr : RoomG (k + 1) X.A) :
    CallR X (.builtin "len") (fun xs H Q => ∃ a dx fs, xs = [.ref a] ∧ H a = some (.ins C dx fs) ∧ sp (.ref a :: dvs) H (fun v H' => ∃ n : Int, v = .int n ∧ 0 ≤ n ∧ n < 2 ^ 63 ∧ Q (.int n) H') E0) := by
  obtain ⟨f, fd, ds, c, hm, F, hb, hd⟩ := D.ex
  intro pins s σ H xs us Q I r h
  obtain ⟨a, dx, fs, rfl, ea, q⟩ := h
  rw [Vals.ref1 r]
  obtain ⟨ox, od, J⟩ := insAt I ea
  obtain ⟨mf, fr⟩ := I.fr
  refine PySem.W.len_K fr I.mod.kin J hm.at_ hm.fn (wpAny_mono (goIn (us := [.ref a]) (vs := [.ref a]) F hr.in1 I.env0.in1 hb hd I (.cons rfl .nil) q) (fun w s1 hw => ?_) fun _ _ z => z)
  obtain ⟨t, H1, I1, rt, n, rfl, n0, n1, q1⟩ := hw
  obtain ⟨tk, rfl⟩ := (show ∃ t, w = Value.int n t from rt)
  exact ⟨⟨n0, n1⟩, .int n, H1, I1.tok _, ⟨_, rfl⟩, q1⟩
theorem call_reprO (D : Mtn X.prog X.w X.K X.mg X.base C "__repr__" k ps dvs sp) (hr : RoomG (k + 1) X.A) :
    CallR X (.builtin "repr") (fun xs H Q => ∃ a dx fs, xs = [.ref a] ∧ H a = some (.ins C dx fs) ∧ sp (.ref a :: dvs) H (fun v H' => ∃ y : Str, v = .str y ∧ Q (.str y) H') E0) := by
  obtain ⟨f, fd, ds, c, hm, F, hb, hd⟩ := D.ex
  intro pins s σ H xs us Q I r h
  obtain ⟨a, dx, fs, rfl, ea, q⟩ := h
  rw [Vals.ref1 r]
  obtain ⟨ox, od, J⟩ := insAt I ea
  obtain ⟨mf, fr⟩ := I.fr
  have hu : X.A.in1.units < cLine := by
    have := hr.in1.units
    omega
  refine PySem.W.repr_K hu fr I.mod.kin J hm.at_ hm.fn (wpAny_mono (goIn (us := [.ref a]) (vs := [.ref a]) F hr.in1 I.env0.in1 hb hd I (.cons rfl .nil) q) (fun w s1 hw => ?_) fun _ _ z => z)
  obtain ⟨t, H1, I1, rt, y, rfl, q1⟩ := hw
  obtain ⟨tk, rfl⟩ := (show ∃ t, w = Value.str y t from rt)
  exact ⟨.str y, H1, I1, ⟨_, rfl⟩, q1⟩
/-! ### o[k] -/
def rIxO (C : Addr) (sp : Sp) (dvs : List V) : R2 := fun x y H Q => ∃ a dx fs, x = .ref a ∧ H a = some (.ins C dx fs) ∧ sp (.ref a :: y :: dvs) H Q E0
theorem pe_ixO {a b : Expr} {ta tb : TE} {pos : Pos} (D : Mtn X.prog X.w X.K X.mg X.base C "__getitem__" k ps dvs sp) (hr : RoomG (k + 1) X.A) (hfn : ∀ f, PySem.W.findIn X.K (.ref C) "__getitem__" = some (some (.ref f)) → PySem.W.fnIn X.K f = true)
    (ha : PE X a ta) (hb : PE X b tb) (hs : ∀ o i, subscripted b true o i = runValue (.builtin "lifetime.subscript" ⟨[o, i], []⟩) := by intros; with_unfolding_all rfl) : PE X (.Subscript a b pos) (tOp (rIxO C sp dvs) ta tb) := by
  obtain ⟨f, fd, ds, c, hm, F, hbd, hd⟩ := D.ex
  refine ⟨fun pins s σ H Q I h => Subscript_ (binT ha hb I h fun v u s2 x y H2 I2 rx ry q => ?_)⟩
  obtain ⟨a, dx, fs, rfl, ea, q⟩ := q
  obtain rfl : v = Value.ref a := rx
  obtain ⟨ox, od, J⟩ := insAt I2 ea
  obtain ⟨mf, fr⟩ := I2.fr
  exact PySem.W.sub_K fr I2.mod.kin J hm.at_ (hfn f hm.at_) hm.fn (goIn (us := [.ref a, u]) (vs := [.ref a, y]) F hr.in1 I2.env0.in1 hbd hd I2 (.cons rfl (.cons ry .nil)) q) (hs _ _)
/-! ### o + p, both of the class -/
def rBinO (C : Addr) (sp : Sp) (dvs : List V) : R2 := fun x y H Q => ∃ a b dx dy fs gs, x = .ref a ∧ y = .ref b ∧ H a = some (.ins C dx fs) ∧ H b = some (.ins C dy gs) ∧ sp (.ref a :: .ref b :: dvs) H Q E0
theorem op_own {op : Operator} {nm : Str} (D : Mtn X.prog X.w X.K X.mg X.base C nm k ps dvs sp) (e : PySem.dunder op.info.2 = nm) (hc : PySem.W.selfFirst X.K C = true) (hr : RoomG k X.A) : OpR X (binaryOp op) (rBinO C sp dvs) := by
  subst e
  obtain ⟨f, fd, ds, c, hm, F, hb, hd⟩ := D.ex
  intro pins s σ H x y v u Q I rx ry h
  obtain ⟨a, b, dx, dy, fs, gs, rfl, rfl, ea, eb, q⟩ := h
  obtain rfl : v = Value.ref a := rx
  obtain rfl : u = Value.ref b := ry
  obtain ⟨ox, od, J⟩ := insAt I ea
  obtain ⟨oy, od2, J2⟩ := insAt I eb
  obtain ⟨mf, fr⟩ := I.fr
  refine PySem.W.binop_K fr I.mod.kin J J2.type hc hm.at_ hm.fn (wpAny_mono (goIn (us := [.ref a, .ref b]) (vs := [.ref a, .ref b]) F hr I.env0 hb hd I (.cons rfl (.cons rfl .nil)) q) (fun w s1 hw => ?_) fun _ _ z => z)
  obtain ⟨t, H1, I1, rt, q1⟩ := hw
  have ni : w ≠ .notImplemented := by
    rintro rfl
    cases t <;> simp [L2.RelV] at rt
  have hw : EP X pins σ Q w s1 := ⟨t, H1, I1, rt, q1⟩
  cases w with
  | notImplemented => exact absurd rfl ni
  | none => exact hw
  | ellipsis => exact hw
  | bool _ => exact hw
  | int _ _ => exact hw
  | float _ _ => exact hw
  | str _ _ => exact hw
  | bytes _ _ => exact hw
  | type _ => exact hw
  | builtin _ => exact hw
  | ref _ => exact hw
/-- a method never gives NotImplemented back -/
theorem back {Q : VK} {w : Value} {s1 : Shared} (hw : EP X pins σ Q w s1) : PySem.W.CmpBack (EP X pins σ Q) w s1 := by
  obtain ⟨t, H1, I1, rt, q1⟩ := id hw
  have ni : w ≠ .notImplemented := by
    rintro rfl
    cases t <;> simp [L2.RelV] at rt
  cases w with
  | notImplemented => exact absurd rfl ni
  | none => exact hw
  | ellipsis => exact hw
  | bool _ => exact hw
  | int _ _ => exact hw
  | float _ _ => exact hw
  | str _ _ => exact hw
  | bytes _ _ => exact hw
  | type _ => exact hw
  | builtin _ => exact hw
  | ref _ => exact hw
/-! ### o == y, o != y, y of any kind -/
def rEqO (C : Addr) (sp : Sp) (dvs : List V) (g : Bool → Bool) : R2 := fun x y H Q => ∃ (K : PySem.W.Frag) (a dx : Addr) (fs : List (Str × V)) (t : Value), x = .ref a ∧ H a = some (.ins C dx fs) ∧ TyX K H y t ∧ PySem.W.notFirst K C t = true ∧ sp (.ref a :: y :: dvs) H (fun v H' => ∃ b, v = .bl b ∧ Q (.bl (g b)) H') E0
theorem or_eqO (D : Mtn X.prog X.w X.K X.mg X.base C "__eq__" k ps dvs sp) (hr : RoomG k X.A) : OpR X (compareOp .Eq) (fun x y H Q => ∃ (a dx : Addr) (fs : List (Str × V)) (t : Value), x = .ref a ∧ H a = some (.ins C dx fs) ∧ TyX X.K H y t ∧ PySem.W.notFirst X.K C t = true ∧ sp (.ref a :: y :: dvs) H Q E0) := by
  obtain ⟨f, fd, ds, c, hm, F, hb, hd⟩ := D.ex
  intro pins s σ H x y v u Q I rx ry h
  obtain ⟨a, dx, fs, t, rfl, ea, ty, nf, q⟩ := h
  obtain rfl : v = Value.ref a := rx
  obtain ⟨ox, od, J⟩ := insAt I ea
  obtain ⟨mf, fr⟩ := I.fr
  obtain ⟨PH, Z, pH, _⟩ := kit_of I ry ty
  have hu : X.A.units < cLine := by
    have := hr.units
    omega
  exact PySem.W.cmp_K (op := .Eq) hu fr I.mod.kin J (Z.ty _ _ I.kIn pH) nf hm.at_ hm.fn (wpAny_mono (goIn (us := [.ref a, u]) (vs := [.ref a, y]) F hr I.env0 hb hd I (.cons rfl (.cons ry .nil)) q) (fun w s1 hw => back hw) fun _ _ z => z)
/-- the comparison by object.__ne__ and an own __eq__ -/
theorem ne_inK {prog : Program} {w : World} {A : Around} {E : Value → Shared → Prop} {s : Shared} {K : PySem.W.Frag} {x C f : Addr} {ox : Obj} {od : Option Obj} {b tb : Value} {Q : Value → Shared → Prop} (hu : A.units + 1 < cLine) (XK : K.In s.heap) (I : PySem.W.InstAt s.heap x ox C od)
    (hb : PySem.W.Looks (model prog w) s.heap (typeOf b) tb) (hn : PySem.W.notFirst K C tb = true) (hne : PySem.W.findIn K (.ref C) "__ne__" = some (some (.builtin "object.__ne__"))) (hob : PySem.W.mroIn K C (.type "object") = some true)
    (hs : PySem.W.findIn K (.ref C) "__eq__" = some (some (.ref f))) (hf : PySem.W.isFn K (.ref f) = true)
    (h : wpAny (model prog w) A.in1 (call (.ref f) [.ref x, b]) (fun v s' => ∃ c, v = .bool c ∧ Q (.bool (!c)) s') E s) : wpAny (model prog w) A (compareOp .NotEq (.ref x) b) Q E s := by
  have one : wpAny (model prog w) A (tryCompare (.ref x) "__ne__" b) (fun r s' => ∃ v, r = some v ∧ Q v s') E s := by
    unfold tryCompare
    refine wpAny_bind ?_
    simp only [callSpecialIfBound?, bindSpecialIfBound?]
    refine wpAny_holding (wpAny_bind (wpAny_bind (wpAny_bind (I.type.here ((PySem.W.looks_findIn XK hne).here ?_)))))
    refine wpAny_bind (wpAny_askSetting (wpAny_ite ?_))
    have body : wpAny (model prog w) A (call (.builtin "object.__ne__") ([.ref x] ++ [b])) (fun v s' => ∃ c, v = .bool c ∧ Q (.bool c) s') E s := by
      refine wpAny_call (codeAny_call_builtin F.cmp_object.ne.plain F.cmpEntry_ne ?_)
      have sub : PySem.W.Looks (model prog w) s.heap (isInstance (.ref x) (.type "object")) true := I.type.andThen (PySem.W.looks_mroIn XK hob)
      refine @PySem.W.check_slot (model prog w) _ _ _ "object.__ne__" "object" "__ne__" (.ref x) [b] [] _ F.cmpKind_ne F.cmpSplit_ne sub (F.cmpArgs_ne _ _) ?_
      unfold Builtin.«object.__ne__»
      refine wpAny_bind (wpAny_of_eq (a := ((Value.ref x : Value), [b])) (by first | rfl | (simp only [slotArgs]; rfl)) ?_)
      have hu1 : A.in1.units < cLine := hu
      refine wpAny_bind (wpAny_cRoomFor hu1 ?_)
      refine wpAny_bind (PySem.W.ifBound_K XK I hs hf (wpAny_mono h (fun v s' hv => ?_) fun _ _ z => z))
      obtain ⟨c, rfl, hq⟩ := hv
      refine wpAny_bind (wpAny_truthy_bool ?_)
      exact wpAny_pure ⟨_, rfl, hq⟩
    have fin : wpAny (model prog w) A (call (.builtin "object.__ne__") ([.ref x] ++ [b]) >>= fun v => Pure.pure (some v)) (fun r s' => ∃ c, r = some (.bool c) ∧ Q (.bool c) s') E s :=
      wpAny_bind (wpAny_mono body (fun v s' z => by
        obtain ⟨c, rfl, q⟩ := z
        exact wpAny_pure ⟨c, rfl, q⟩) fun _ _ z => z)
    rw [F.cmp_object.ne.bind]
    have fin2 : wpAny (model prog w) A (call (.builtin "object.__ne__") ([.ref x] ++ [b]) >>= fun v => Pure.pure (some v)) (fun r s' => wpAny (model prog w) A (match r with | some .notImplemented | none => Pure.pure none | some v => Pure.pure (some v)) (fun r s' => ∃ v, r = some v ∧ Q v s') E s') E s :=
      wpAny_mono fin (fun r s' z => by
        obtain ⟨c, rfl, q⟩ := z
        exact wpAny_pure ⟨_, rfl, q⟩) fun _ _ z => z
    split
    · refine wpAny_bind (wpAny_pure (wpAny_pure ?_))
      exact fin2
    · refine wpAny_tryCatch (wpAny_bind (wpAny_pure (wpAny_pure ?_)))
      exact fin2
  show wpAny (model prog w) A (richCompare .NotEq (.ref x) b) Q E s
  unfold richCompare
  simp only [oneThing_ref]
  have hu0 : A.units < cLine := by omega
  refine wpAny_holding (wpAny_bind (wpAny_cRoomFor hu0 ?_))
  refine wpAny_bind (I.type.here ?_)
  refine wpAny_bind (hb.here ?_)
  split
  · rename_i q
    have e : PySem.W.subIn K tb (.ref C) = some false := by
      rcases Bool.or_eq_true_iff.mp hn with e | e
      · rw [beq_iff_eq.mp e] at q
        simp at q
      · exact beq_iff_eq.mp e
    refine wpAny_bind ((PySem.W.looks_subIn XK e).here ?_)
    rw [if_neg Bool.false_ne_true]
    refine wpAny_bind (wpAny_mono one (fun r s' z => ?_) fun _ _ z => z)
    obtain ⟨v, rfl, q⟩ := z
    exact wpAny_pure q
  · refine wpAny_bind (wpAny_pure ?_)
    rw [if_neg Bool.false_ne_true]
    refine wpAny_bind (wpAny_mono one (fun r s' z => ?_) fun _ _ z => z)
    obtain ⟨v, rfl, q⟩ := z
    exact wpAny_pure q
theorem or_neO (D : Mtn X.prog X.w X.K X.mg X.base C "__eq__" k ps dvs sp) (hne : PySem.W.findIn X.K (.ref C) "__ne__" = some (some (.builtin "object.__ne__"))) (hob : PySem.W.mroIn X.K C (.type "object") = some true) (hr : RoomG (k + 1) X.A) :
    OpR X (compareOp .NotEq) (fun x y H Q => ∃ (a dx : Addr) (fs : List (Str × V)) (t : Value), x = .ref a ∧ H a = some (.ins C dx fs) ∧ TyX X.K H y t ∧ PySem.W.notFirst X.K C t = true ∧ sp (.ref a :: y :: dvs) H (fun v H' => ∃ b, v = .bl b ∧ Q (.bl (!b)) H') E0) := by
  obtain ⟨f, fd, ds, c, hm, F, hb, hd⟩ := D.ex
  intro pins s σ H x y v u Q I rx ry h
  obtain ⟨a, dx, fs, t, rfl, ea, ty, nf, q⟩ := h
  obtain rfl : v = Value.ref a := rx
  obtain ⟨ox, od, J⟩ := insAt I ea
  obtain ⟨PH, Z, pH, _⟩ := kit_of I ry ty
  refine ne_inK (hug hr) I.kIn J (Z.ty _ _ I.kIn pH) nf hne hob hm.at_ hm.fn (wpAny_mono (goIn (us := [.ref a, u]) (vs := [.ref a, y]) F hr.in1 I.env0.in1 hb hd I (.cons rfl (.cons ry .nil)) q) (fun w s1 hw => ?_) fun _ _ z => z)
  obtain ⟨t1, H1, I1, rt, b, rfl, q1⟩ := hw
  obtain rfl : w = Value.bool b := rt
  exact ⟨b, rfl, .bl (!b), H1, I1, rfl, q1⟩
/-! ### o * y, y of a built-in type -/
theorem op_ownT {op : Operator} {nm : Str} {T : String} {fo ro rc : Option Value} (D : Mtn X.prog X.w X.K X.mg X.base C nm k ps dvs sp) (e : PySem.dunder op.info.2 = nm) (hc : PySem.W.selfFirst X.K C = true) (hr : RoomG k X.A)
    (h0 : PySem.W.findIn X.K (.ref C) (dunderR op.info.2) = some rc) (hp : rc = none ∨ ∃ g : Addr, rc = some (.ref g)) (h1 : PySem.W.findIn X.K (.type T) (PySem.dunder op.info.2) = some fo) (h2 : PySem.W.findIn X.K (.type T) (dunderR op.info.2) = some ro) (h3 : PySem.W.subIn X.K (.type T) (.ref C) = some false)
    (hT : ∀ y u, L2.RelV y u → (∃ i, y = .int i) → typeOf u = Pure.pure (.type T)) :
    OpR X (binaryOp op) (fun x y H Q => ∃ a dx fs, x = .ref a ∧ H a = some (.ins C dx fs) ∧ (∃ i, y = .int i) ∧ sp (.ref a :: y :: dvs) H Q E0) := by
  subst e
  obtain ⟨f, fd, ds, c, hm, F, hb, hd⟩ := D.ex
  intro pins s σ H x y v u Q I rx ry h
  obtain ⟨a, dx, fs, rfl, ea, hy, q⟩ := h
  obtain rfl : v = Value.ref a := rx
  obtain ⟨ox, od, J⟩ := insAt I ea
  obtain ⟨mf, fr⟩ := I.fr
  exact PySem.W.ksp_binT fr I.mod.kin J (hT _ _ ry hy) hc hm.at_ hm.fn h0 hp h1 h2 h3 (wpAny_mono (goIn (us := [.ref a, u]) (vs := [.ref a, y]) F hr I.env0 hb hd I (.cons rfl (.cons ry .nil)) q) (fun w s1 hw => back hw) fun _ _ z => z)
theorem typeOf_int {y : V} {u : Value} (r : L2.RelV y u) (h : ∃ i, y = .int i) : typeOf u = Pure.pure (.type "int") := by
  obtain ⟨i, rfl⟩ := h
  obtain ⟨t, rfl⟩ := (show ∃ t, u = Value.int i t from r)
  rfl
/-! ### i * o, by o's own __rmul__ -/
theorem insAt' {a dx : Addr} {fs : List (Str × V)} (I : Inv X pins σ H s) (e : H a = some (.ins C dx fs)) : ∃ od, PySem.W.InstAt s.heap a (PySem.W.instObj C dx) C (some od) := by
  obtain ⟨mA, O, _⟩ := ins_get I.hok e
  obtain ⟨od, J, _⟩ := O.look
  exact ⟨_, J⟩
theorem int_mul_own (i : Int) (t : Tok) (x C dx : Addr) : Meets (Builtin.«int.__mul__» ⟨[.int i t, .ref x], []⟩) (fun _ R s => s.heap.get? x = some (PySem.W.instObj C dx) ∧ R (.ok (.ret Value.notImplemented)) s) :=
  .of_wp fun prog w A R s h => by
    obtain ⟨hp, g, d, tk, os⟩ := s
    obtain ⟨hl, h⟩ := h
    unfold PySem.W.instObj at hl
    wp_walk
    exact ⟨_, rfl, h⟩
theorem rmul_inK {prog : Program} {w : World} {A : Around} {E : Value → Shared → Prop} {s : Shared} {K : PySem.W.Frag} {x C dx f f0 : Addr} {od : Option Obj} {i : Int} {t : Tok} {Q : Value → Shared → Prop} (XK : K.In s.heap) (I : PySem.W.InstAt s.heap x (PySem.W.instObj C dx) C od) (hc : PySem.W.selfFirst K C = true)
    (hs : PySem.W.findIn K (.ref C) "__mul__" = some (some (.ref f0))) (hr : PySem.W.findIn K (.ref C) "__rmul__" = some (some (.ref f))) (hf : PySem.W.isFn K (.ref f) = true) (hsub : PySem.W.subIn K (.ref C) (.type "int") = some false)
    (h : wpAny (model prog w) A (call (.ref f) [.ref x, .int i t]) (PySem.W.CmpBack Q) E s) : wpAny (model prog w) A (binaryOp .Mult (.int i t) (.ref x)) Q E s := by
  obtain ⟨cd, rest, hcd, hm⟩ := PySem.W.ksp_first hc
  have one := PySem.W.ksp_try XK I hr hf h
  have L2 := PySem.W.fills_K (M := model prog w) (nm := "mul") XK hcd hm hs
  unfold binaryOp
  refine wpAny_holding (wpAny_bind ?_)
  simp only [binaryOp1]
  refine wpAny_bind (wpAny_typeOf (typeIs_int s i t) (wpAny_bind (I.type.here (wpAny_bind (wpAny_of_eq F.fills_int_mul ?_)))))
  have hne : (Value.type "int" == Value.ref C) = false := Bool.eq_false_iff.mpr fun q => by cases beq_iff_eq.mp q
  rw [if_neg (by rw [hne]; exact Bool.false_ne_true)]
  refine wpAny_bind (L2.here ?_)
  rw [if_pos (show (true && true) = true from rfl)]
  refine wpAny_bind ((PySem.W.looks_subIn XK hsub).here ?_)
  rw [if_neg Bool.false_ne_true]
  simp only [Bool.not_false, Bool.and_self, if_true]
  have hpy : numberSlotInPython (.type "int") "mul" = Pure.pure false := rfl
  rw [hpy]
  simp only [pure_bind, Bool.false_eq_true, if_false]
  have dec : wpAny (model prog w) A (call (.builtin "int.__mul__") [.int i t, .ref x]) (fun v s' => v = .notImplemented ∧ s' = s) E s :=
    call_meets F.slot_int_mul (typeIs_int s i t) F.entry_int_mul (F.args_int_mul_2 _ _) (int_mul_own i t x C dx) ⟨I.at_, rfl, rfl⟩
  refine wpAny_bind (wpAny_tryMethod_declines (typeIs_int s i t) F.slot_int_mul (wpAny_mono dec (fun v s' z => ⟨z.1, ?_⟩) fun _ _ z => z))
  obtain ⟨_, rfl⟩ := z
  dsimp only
  refine wpAny_bind (wpAny_mono one (fun r s' z => ?_) fun _ _ z => z)
  obtain ⟨v, rfl, q⟩ := z
  refine wpAny_bind (wpAny_rule (wpAny_pure ?_))
  exact wpAny_pure q
theorem op_rmulO (D0 : ∃ f0 : Addr, PySem.W.findIn X.K (.ref C) "__mul__" = some (some (.ref f0))) (D : Mtn X.prog X.w X.K X.mg X.base C "__rmul__" k ps dvs sp) (hc : PySem.W.selfFirst X.K C = true) (hsub : PySem.W.subIn X.K (.ref C) (.type "int") = some false) (hr : RoomG k X.A) :
    OpR X (binaryOp .Mult) (fun x y H Q => ∃ (i : Int) (a dx : Addr) (fs : List (Str × V)), x = .int i ∧ y = .ref a ∧ H a = some (.ins C dx fs) ∧ sp (.ref a :: .int i :: dvs) H Q E0) := by
  obtain ⟨f0, h0⟩ := D0
  obtain ⟨f, fd, ds, c, hm, F, hb, hd⟩ := D.ex
  intro pins s σ H x y v u Q I rx ry h
  obtain ⟨i, a, dx, fs, rfl, rfl, ea, q⟩ := h
  obtain ⟨t, rfl⟩ := (show ∃ t, v = Value.int i t from rx)
  obtain rfl : u = Value.ref a := ry
  obtain ⟨od, J⟩ := insAt' I ea
  exact rmul_inK I.kIn J hc h0 hm.at_ hm.fn hsub (wpAny_mono (goIn (us := [.ref a, .int i t]) (vs := [.ref a, .int i]) F hr I.env0 hb hd I (.cons rfl (.cons ⟨t, rfl⟩ .nil)) q) (fun w s1 hw => back hw) fun _ _ z => z)
end
end My

namespace My
open PySem L2 PySem.Spec PyProof.Rows Sem
/-! ### calls with keywords -/
/-- a method as it is called with n values (itself among them) and keywords ks -/
structure Mtk (P : Program) (w : World) (K : PySem.W.Frag) (mg : Str → Option Value) (base : Heap) (C : Addr) (m : Str) (k : Nat) (n : Nat) (ks : List Str) (gV : List V → List V → List V) (sp : Sp) : Prop where
  ex : ∃ (f : Addr) (fd : FuncData) (ps : List Str) (g : List Value → List Value → List Value), Cls K C ∧ Meth K C m f ∧ FnG P w K mg base CX0 k f fd ps sp ∧ KBn K fd ps n ks g gV
/-- a class likewise, by its __init__ -/
structure Mkk (P : Program) (w : World) (K : PySem.W.Frag) (mg : Str → Option Value) (base : Heap) (x : Str) (C : Addr) (k : Nat) (n : Nat) (ks : List Str) (gV : List V → List V → List V) (sp : Sp) : Prop where
  ex : ∃ (f : Addr) (fd : FuncData) (ps : List Str) (g : List Value → List Value → List Value), Mk K C f ∧ FnG P w K mg base CX0 k f fd ps sp ∧ mg x = some (.ref C) ∧ KBn K fd ps n ks g gV
theorem kbn0 {K : PySem.W.Frag} {x qual : Str} {params : Arguments} {body : List Stmt} {scope : Scope} {f : Addr} {fd : FuncData} {ps : List Str} (F : FunD K x qual params body scope [] [] f fd) (n : Nat) (ks : List Str) (g : {α : Type} → List α → List α → List α)
    (hrel : ∀ {vs zs : List V} {us ws : List Value}, Vals vs us → Vals zs ws → Vals (g vs zs) (g us ws))
    (h : ∀ (kV doc pm : Value) (an : Option Addr) (cdv ct : Value) (us ws : List Value), us.length = n → ws.length = ks.length → bindArgs (PySem.W.fnOf x qual params body scope .none kV doc pm an cdv ct) ⟨us, ks.zip ws⟩ = Pure.pure (ps.zip (g us ws))) :
    KBn K fd ps n ks (fun us ws => g us ws) (fun vs zs => g vs zs) := by
  obtain ⟨oc, od, dV, kV, doc, pm, an, cdv, ct, osl, rfl, lk, hcd, hD, hK⟩ := F.ex
  rcases hD with ⟨_, rfl⟩ | ⟨z, _⟩
  · refine ⟨fun s us ws _ l1 l2 => ?_, fun r1 r2 => hrel r1 r2⟩
    refine BindsTo.of_looks fun M => ?_
    rw [h kV doc pm an cdv ct us ws l1 l2]
    exact .of_pure rfl
  · exact absurd rfl z
section
variable {X : Cx} {j k n : Nat} {C : Addr} {sp : Sp} {m x : Str} {ks : List Str} {gV : List V → List V → List V} {p pos apos : Pos} {o : Expr} {kws : List Keyword} {ta : TE} {t tk : TA} {pins : List (Addr × Obj)} {σ : L2.St} {H : Hp} {s : Shared}
theorem goKw {f : Addr} {fd : FuncData} {ps : List Str} {g : List Value → List Value → List Value} {Q : VK} {us ws : List Value} {vs zs : List V} (F : FnG X.prog X.w X.K X.mg X.base CX0 k f fd ps sp) (hr : RoomG k X.A) (hb : KBn X.K fd ps n ks g gV)
    (I : Inv X pins σ H s) (r : Vals vs us) (rz : Vals zs ws) (l1 : vs.length = n) (l2 : zs.length = ks.length) (h : sp (gV vs zs) H Q E0) : wpAny (model X.prog X.w) X.A (call (.ref f) us (ks.zip ws)) (EP X pins σ Q) X.xe s := by
  refine wpAny_call (codeAny_mono (F.go X.A X.stack s H ⟨us, ks.zip ws⟩ (g us ws) (gV vs zs) Q E0 hr I.env0 (hb.to s us ws I.kIn (r.length.symm.trans l1) (rz.length.symm.trans l2)) (hb.rel r rz) h) fun r s' hq => ?_)
  cases r with
  | error e => exact (show False from hq).elim
  | ok fl => cases fl with
    | ret u => exact I.after hq
    | next => exact (show False from hq).elim
    | brk => exact (show False from hq).elim
    | cont => exact (show False from hq).elim
/-- o.m(k = v, ..) -/
def tMethK (C : Addr) (m : Str) (l : Nat) (sp : Sp) (gV : List V → List V → List V) (ta : TE) (tk : TA) : TE := fun σ H Q => ta σ H fun y H1 => ∃ a dx fs, y = .ref a ∧ H1 a = some (.ins C dx fs) ∧ fs.lookup m = none ∧ tk σ H1 fun zs H2 => zs.length = l ∧ sp (gV [.ref a] zs) H2 Q E0
theorem pe_methK {pl : Sem Bool} (D : Mtk X.prog X.w X.K X.mg X.base C m k 1 ks gV sp) (he : PE X o ta) (hr : RoomG k X.A) (hkw : PK X kws tk) (hall : (backToKw pos (keywordEach kws X.env)).all (·.1.isSome) = true := by rfl) (hks : (backToKw pos (keywordEach kws X.env)).filterMap (·.1) = ks := by rfl)
    (hpl : ((backTo pos (starEach [] X.env)).any (fun q => q.1) || (backToKw pos (keywordEach kws X.env)).any (fun q => q.1.isNone)) = false := by rfl)
    (h3 : eval (.Call (.Attribute o m apos) [] kws pos) X.env = (do
      let v ← eval o X.env
      standAt apos.atName
      let (g, fst) ← holding [v] (getMethod v m pl)
      callWith pos g fst (backTo pos (starEach [] X.env)) (backToKw pos (keywordEach kws X.env))) := by rfl) : PE X (.Call (.Attribute o m apos) [] kws pos) (tMethK C m ks.length sp gV ta tk) := by
  obtain ⟨f, fd, ps, g, c, hm, F, hb⟩ := D.ex
  constructor
  intro pins s σ H Q I h
  refine PySem.W.methodCall_KW (pl := pl) (thn (he.run pins s σ H _ I h) ?_) h3
  rintro u s1 ⟨y, H1, I1, ry, a, dx, fs, rfl, ea, l, q⟩
  obtain rfl : u = Value.ref a := ry
  refine getmeth_ok I1 ea c hm l ?_
  refine PySem.W.callWith_KW0 (first := [.ref a]) (h₀ := X.base) I1.ok.mod.kin hm.kp hall ?_ hpl
  refine thn (hkw.run pos pins s1 σ H1 _ I1 q) fun ws s2 ⟨zs, H2, I2, rz, l2, q2⟩ => ⟨I2.kIn, ?_⟩
  rw [hks]
  exact goKw (us := [.ref a]) (vs := [.ref a]) F hr hb I2 (.cons rfl .nil) rz rfl l2 q2
/-- C(k = v, ..) -/
def tMakeKw (C : Addr) (l : Nat) (sp : Sp) (gV : List V → List V → List V) (tk : TA) : TE := fun σ H Q => tk σ H fun zs H2 => zs.length = l ∧ ∀ x dx, H2 x = none → H2 dx = none → dx ≠ x → sp (gV [.ref x] zs) (upd (upd H2 dx (.own x)) x (.ins C dx [])) (fun v H3 => v = .non ∧ Q (.ref x) H3) E0
theorem pe_makeKw (D : Mkk X.prog X.w X.K X.mg X.base x C k 1 ks gV sp) (hr : RoomG (k + 1) X.A) (hg : Gl X x) (hkw : PK X kws tk)
    (h1 : (backToKw pos (keywordEach kws X.env)).all (fun q => q.1.isSome) = true := by rfl)
    (h2 : (backToKw pos (keywordEach kws X.env)).filterMap (fun q => q.1) = ks := by rfl)
    (h3 : ((backTo pos (starEach [] X.env)).any (fun q => q.1) || (backToKw pos (keywordEach kws X.env)).any (fun q => q.1.isNone)) = false := by rfl) (h4 : (x == ("__debug__" : Str)) = false := by decide) :
    PE X (.Call (.Name x p) [] kws pos) (tMakeKw C ks.length sp gV tk) := by
  obtain ⟨f, fd, ps, g, M, F, hm, hb⟩ := D.ex
  refine ⟨fun pins s σ H Q I h => ?_⟩
  refine wpAny_Call_Name_kw (ld_glob I hg hm ?_ h4)
  have kin := I.ok.mod.kin
  refine PySem.W.callWith_KW0 (first := []) kin M.kp h1 ?_ h3
  refine thn (hkw.run pos pins s σ H _ I h) fun ws s2 ⟨zs, H2, I2, rz, l2, q2⟩ => ⟨I2.kIn, ?_⟩
  rw [h2]
  have hq := q2 (s2.heap.objs.size + 1) s2.heap.objs.size (I2.hok.fresh (Nat.le_succ _)) (I2.hok.fresh (Nat.le_refl _)) (Nat.ne_of_lt (Nat.lt_succ_self _))
  have I3 := Inv.made (C := C) I2
  have hr2 : RoomG k (X.A.under (.builtin "type.__call__" ⟨.ref C :: [], ks.zip ws⟩)) := ⟨hr.r.make C [] (ks.zip ws), hr.g⟩
  have r1 : Vals [V.ref (s2.heap.objs.size + 1)] [Value.ref (s2.heap.objs.size + 1)] := .cons rfl .nil
  refine wpAny_call (make_map (f := f) I2.kIn M.makes M.init (beq_iff_eq.mp M.fn) (codeAny_mono (F.go _ X.stack _ _ ⟨[Value.ref (s2.heap.objs.size + 1)], ks.zip ws⟩ (g [Value.ref (s2.heap.objs.size + 1)] ws) _ _ E0 hr2
    (I3.env0.make C [] (ks.zip ws)) (hb.to _ [Value.ref (s2.heap.objs.size + 1)] ws I3.kIn rfl (rz.length.symm.trans l2)) (hb.rel r1 rz) hq) fun r s' hq' => ?_))
  cases r with
  | error e => exact (show False from hq').elim
  | ok fl => cases fl with
    | ret u =>
      obtain ⟨v, H', I4, rv, ev, q3⟩ := I3.after hq'
      subst ev
      exact ⟨rv, V.ref (s2.heap.objs.size + 1), H', I4, rfl, q3⟩
    | next => exact (show False from hq').elim
    | brk => exact (show False from hq').elim
    | cont => exact (show False from hq').elim
end
end My

namespace My
open PySem L2 PySem.Spec PyProof.Rows Sem
section
variable {X : Cx} {j k n : Nat} {C : Addr} {sp : Sp} {ps : List Str} {dvs : List V} {pins : List (Addr × Obj)} {σ : L2.St} {H : Hp} {s : Shared}
/-! ### bool(o), by o's own __bool__ -/
theorem plain_bool_new : plainId "bool.__new__" = true := by decide +kernel
theorem call_boolO (D : Mtn X.prog X.w X.K X.mg X.base C "__bool__" k ps dvs sp) (hr : RoomG (k + 2) X.A) :
    CallR X (.type "bool") (fun xs H Q => ∃ a dx fs, xs = [.ref a] ∧ H a = some (.ins C dx fs) ∧ sp (.ref a :: dvs) H (fun v H' => ∃ b, v = .bl b ∧ Q (.bl b) H') E0) := by
  obtain ⟨f, fd, ds, c, hm, F, hb, hd⟩ := D.ex
  intro pins s σ H xs us Q I r h
  obtain ⟨a, dx, fs, rfl, ea, q⟩ := h
  rw [Vals.ref1 r]
  obtain ⟨ox, od, J⟩ := insAt I ea
  obtain ⟨mf, fr⟩ := I.fr
  refine callType_codes (Q₁ := fun obj s1 => ∃ b, obj = .bool b ∧ EP X pins σ Q (.bool b) s1) PySem.F.called_bool (PySem.F.typeCall_bool_1 _) PySem.F.entry_object_init ?_ fun obj s1 h1 => ?_
  · refine codeAny_of_tree ?_
    show wpAny _ X.A.in1.in1 (do checkBuiltinCall "bool.__new__" ⟨[.type "bool", .ref a], []⟩; again (.builtin "bool.__new__" ⟨[.type "bool", .ref a], []⟩)) _ _ s
    refine wpAny_bind (wpAny_of_eq (PySem.F.newCall_bool_1 _) (wpAny_pure ⟨plainId_quiet plain_bool_new _, codeAny_builtin PySem.F.entry_bool_new ?_⟩))
    rw [Around.under_plainId plain_bool_new _]
    have f1 := PySem.F.conv_sub_bool
    have tr : ∀ (Q' : Bool → Shared → Prop), (∀ b s', EP X pins σ Q (.bool b) s' → Q' b s') → wpAny (model X.prog X.w) X.A.in1.in1 (truthy (.ref a)) Q' (fun e s' => X.xe e s') s := fun Q' hq =>
      PySem.W.truthy_K fr I.mod.kin J hm.at_ hm.fn (wpAny_mono (goIn (us := [.ref a]) (vs := [.ref a]) F hr.in1.in1 I.env0.in1.in1 hb hd I (.cons rfl .nil) q) (fun w s1 hw => by
        obtain ⟨t, H1, I1, rt, b, rfl, q1⟩ := hw
        obtain rfl : w = Value.bool b := rt
        exact hq b s1 ⟨.bl b, H1, I1, rfl, q1⟩) fun _ _ z => z)
    unfold Builtin.«bool.__new__»
    repeat (any_goals (first | assumption | with_reducible refine wpAny_bind (tr _ ?_) | wp_step))
    intro b s' hb'
    exact wpAny_pure ⟨b, rfl, hb'⟩
  · obtain ⟨b, rfl, q1⟩ := h1
    refine ⟨show Shared.TypeIs s1 (.bool b) "bool" from PySem.typeIs_bool _ _, PySem.F.args_object_init_2 _ _, ?_⟩
    have f2 := PySem.F.called_bool.init.lookup
    have f3 := PySem.F.called_bool.made
    have f4 := PySem.F.newNe_bool
    unfold Builtin.«object.__init__»
    repeat (any_goals (first | assumption | wp_step))
    all_goals exact ⟨rfl, q1⟩
end
end My

namespace My
open PySem L2 PySem.Spec PyProof.Rows PySem.W Builtin Builtin.ObjectAttr
/-! ### own exception objects as values -/
/-- what the written part says of an own exception class with an __init__, over a built-in base -/
structure OexG (K : Frag) (C : Addr) : Prop where
  base : ∃ (B newId initId : String) (bmB : List Value), ExcBaseFacts B newId initId bmB ∧ StoreFacts B bmB "object.__setattr__" "object" ∧ excInitIn K C bmB newId = true ∧ excOver K C bmB = true
  hd : hasDictIn K C = true
  sa : findIn K (.ref C) "__setattr__" = some (some (.builtin "object.__setattr__"))
  kp : keepIn K (.ref C) = true
section
variable {prog : Program} {w : World} {A : Around} {R : Result → Shared → Prop} {hp : Heap} {g : Array GenState} {d : Drawn} {t : Nat} {os : OsState} {K : Frag}
theorem osaNew {B : String} {bmB : List Value} {name : Str} {tk : Tok} {v : Value} {x C : Addr} {fv : Array Value} (SF : StoreFacts B bmB "object.__setattr__" "object") (X : K.In hp) (hx : hp.get? x = some { cls := .ref C, data := .fields fv }) (ov : excOver K C bmB = true) (hh : hasDictIn K C = true)
    (ha : NoAttr K C name)
    (hq : ∀ h' tk' dx, (∀ b o, b ≠ x → hp.get? b = some o → h'.get? b = some o) → hp.objs.size ≤ dx → dx ≠ x → h'.get? x = some { cls := .ref C, dict := some dx, data := .fields fv } → h'.Ns1 dx (fun y => if y = name then some v else none) → R (.ok (.ret .none)) ⟨h', g, d, tk', os⟩) :
    codeAny (model prog w) A (.call (.builtin "object.__setattr__") ⟨[.ref x, .str name tk, v], []⟩) R ⟨hp, g, d, t, os⟩ := by
  have I : InstAt hp x { cls := .ref C, data := .fields fv } C none := ⟨hx, rfl, rfl, trivial⟩
  obtain ⟨cd, hc, hdct⟩ := any_some hh
  have hxs : x ≠ hp.objs.size := Nat.ne_of_lt (Heap.lt_size hx)
  have Lc : Looks (model prog w) hp (classData C) cd := looks_clsIn X hc
  refine osa_openX SF X I ov ha.taker fun b => ?_
  show wpAny _ _ (storeInOwnDict (.ref x) (.ref C) (.str name tk) name v b) _ _ _
  obtain ⟨nm, bs, mro, ns, qn, hd, sn, sb, ab, col, del⟩ := cd
  dsimp only at hdct
  subst hdct
  unfold storeInOwnDict ownDictForStores
  repeat (first | with_reducible refine HandSPX.store_in_new ?_ ?_ | with_reducible refine wpAny_loadPart_at hx ?_ | with_reducible refine Lc.at ?_ | wp_step)
  · exact ⟨_, #[], _, (Heap.get?_update_ne _ _ _ _ hxs.symm).trans (Heap.get?_push_at rfl rfl), rfl, fun e he => absurd he (by simp), fun _ => rfl⟩
  · intro h' tk' hn' hs
    have hx1 : (hp.push { cls := .type "dict", data := .dict #[] }).get? x = some { cls := .ref C, data := .fields fv } := Heap.get?_push_of_some _ hx
    refine hq h' tk' hp.objs.size (fun b o nb ho => ?_) (Nat.le_refl _) hxs.symm ((hs.2 x hxs).trans (Heap.get?_update_self _ hx1 rfl)) hn'
    have nb2 : b ≠ hp.objs.size := Nat.ne_of_lt (Heap.lt_size ho)
    exact (hs.2 b nb2).trans ((Heap.get?_update_ne _ _ _ _ nb).trans (Heap.get?_push_of_some _ ho))
theorem osaOld {B : String} {bmB : List Value} {name : Str} {tk : Tok} {v : Value} {x C dx : Addr} {fv : Array Value} {m0 : Str → Option Value} {nl : List Str} (SF : StoreFacts B bmB "object.__setattr__" "object") (X : K.In hp) (hx : hp.get? x = some { cls := .ref C, dict := some dx, data := .fields fv })
    (hns : hp.Ns1 dx m0) (hw : Within m0 nl) (hz : nl.length ≤ 1000) (ov : excOver K C bmB = true) (hh : hasDictIn K C = true) (ha : NoAttr K C name)
    (hq : ∀ h' tk', (∀ b o, b ≠ dx → hp.get? b = some o → h'.get? b = some o) → h'.Ns1 dx (fun y => if y = name then some v else m0 y) → R (.ok (.ret .none)) ⟨h', g, d, tk', os⟩) :
    codeAny (model prog w) A (.call (.builtin "object.__setattr__") ⟨[.ref x, .str name tk, v], []⟩) R ⟨hp, g, d, t, os⟩ := by
  obtain ⟨oD, esD, epD, hoD, hdD, _⟩ := hns.count hw
  have I : InstAt hp x { cls := .ref C, dict := some dx, data := .fields fv } C (some oD) := ⟨hx, rfl, rfl, hoD⟩
  obtain ⟨cd, hc, hdct⟩ := any_some hh
  have Lc : Looks (model prog w) hp (classData C) cd := looks_clsIn X hc
  refine osa_openX SF X I ov ha.taker fun b => ?_
  show wpAny _ _ (storeInOwnDict (.ref x) (.ref C) (.str name tk) name v b) _ _ _
  obtain ⟨nm, bs, mro, ns, qn, hd, sn, sb, ab, col, del⟩ := cd
  dsimp only at hdct
  subst hdct
  unfold storeInOwnDict ownDictForStores
  repeat (first | with_reducible refine OEX.store_in_old hns hw hz ?_ | with_reducible refine wpAny_loadPart_at hx ?_ | with_reducible refine Lc.at ?_ | wp_step)
  intro h' tk' hn' hs
  exact hq h' tk' (fun b o nb ho => (hs.2 b nb).trans ho) hn'
end
section
variable {X : Cx} {pins : List (Addr × Obj)} {σ : L2.St} {H : Hp} {s : Shared} {a C dx : Addr} {f : Str} {y : V} {u : Value} {fs : List (Str × V)} {Q : Unit → Shared → Prop} {E : Value → Shared → Prop} {A : Around}
/-- a.f = y, the first field -/
theorem ostNew (T : OexG X.K C) (I : Inv X pins σ H s) (e : H a = some (exo a C none)) (hno : NoAttr X.K C f) (ry : L2.RelV y u)
    (h : ∀ dx s', H dx = none → dx ≠ a → Inv X pins σ (L2.upd (L2.upd H dx (exd dx [(f, y)])) a (exo a C (some dx))) s' → Q () s') : wpAny (model X.prog X.w) A (setAttr (.ref a) f u) Q E s := by
  obtain ⟨B, ni, ii, bmB, FB, SF, ini, ov⟩ := T.base
  obtain ⟨t1, ho⟩ := exo_at I.hok e
  obtain ⟨hp, g, d, t, os⟩ := s
  refine set_plain I.kIn (ox := { cls := .ref C, dict := none, data := .fields #[.ref t1, .none, .none, .none, .bool false, .none] }) (od := none) ⟨ho, rfl, rfl, trivial⟩ T.sa ?_
  refine osaNew SF I.kIn ho ov T.hd hno fun h' tk' dx k dn dne hx hn => ?_
  have hnd : H dx = none := I.hok.fresh dn
  have nd : ∀ {b : Addr} {o : Obj}, hp.get? b = some o → b ≠ dx := fun {b o} q => Nat.ne_of_lt (Nat.lt_of_lt_of_le (Heap.lt_size q) dn)
  have na : ∀ {b : Addr}, H b = none → b ≠ a := fun {b} n z => by
    rw [z, e] at n
    cases n
  have U : Un X.fs [] H (L2.upd (L2.upd H dx (exd dx [(f, y)])) a (exo a C (some dx))) hp h' := by
    constructor
    · intro b o q n _ _
      exact k b o (na n) q
    · intro b o q n _ _
      exact ⟨o.slots, k b o (na n) q⟩
    · intro b o q n _
      rw [upd_ne (na n), upd_ne (nd q)]
      exact n
    · intro b o q _
      by_cases hb : b = a
      · exact ⟨_, by rw [hb]; exact hx⟩
      · exact ⟨o, k b o hb q⟩
    · intro b xs q
      rw [upd_ne (at_ne e q exo_tup), upd_ne (ne_of_none q hnd)]
      exact q
    · intro b o v q
      rw [upd_ne (at_ne e q exo_frz), upd_ne (ne_of_none q hnd)]
      exact q
    · intro b ps q
      exact ⟨#[], by rw [upd_ne (at_ne e q exo_tbl), upd_ne (ne_of_none q hnd), q]; simp⟩
  refine h dx _ hnd dne (I.un (t' := tk') U fun b o q => ?_)
  by_cases hb : b = a
  · subst hb
    rw [upd_same] at q
    cases q
    exact exo_ok hx
  rw [upd_ne hb] at q
  by_cases hd : b = dx
  · subst hd
    rw [upd_same] at q
    cases q
    exact exd_ok hn (relO_put (fs := []) ry fun g => True.intro)
  rw [upd_ne hd] at q
  refine (I.hok b o q).stay (fun c v hc z => k c v ?_ z) (fun c hc => ?_) fun c xs hc => ?_
  · rcases hc with hc | hc
    · rw [hc]
      exact hb
    · exact at_ne e hc exo_own
  · rw [upd_ne (at_ne e hc exo_own), upd_ne (ne_of_none hc hnd)]
    exact hc
  · rw [upd_ne (at_ne e hc exo_tup), upd_ne (ne_of_none hc hnd)]
    exact hc
/-- a.f = y, a further field -/
theorem ostOld (T : OexG X.K C) (I : Inv X pins σ H s) (e : H a = some (exo a C (some dx))) (ed : H dx = some (exd dx fs)) (hl : fs.length ≤ 900) (hno : NoAttr X.K C f) (ry : L2.RelV y u)
    (h : ∀ s', Inv X pins σ (L2.upd H dx (exd dx ((f, y) :: fs))) s' → Q () s') : wpAny (model X.prog X.w) A (setAttr (.ref a) f u) Q E s := by
  obtain ⟨B, ni, ii, bmB, FB, SF, ini, ov⟩ := T.base
  obtain ⟨t1, ho⟩ := exo_at I.hok e
  obtain ⟨mA, hns, rel⟩ := exd_at I.hok ed
  have hw := within_of rel
  obtain ⟨hp, g, d, t, os⟩ := s
  obtain ⟨oD, _, _, hoD, _, _⟩ := hns.count hw
  refine set_plain I.kIn (ox := { cls := .ref C, dict := some dx, data := .fields #[.ref t1, .none, .none, .none, .bool false, .none] }) (od := some oD) ⟨ho, rfl, rfl, hoD⟩ T.sa ?_
  refine osaOld SF I.kIn ho hns hw (by rw [List.length_map]; omega) ov T.hd hno fun h' tk' k hn => ?_
  have hd : ∃ o, h'.get? dx = some o := by
    obtain ⟨o, _, _, e', _⟩ := hn
    exact ⟨o, e'⟩
  exact h _ (I.write (t' := tk') (x := dx) (e := dx) (o := exd dx ((f, y) :: fs)) (by rw [ed]; exact True.intro) (.inl rfl) k hd (exd_ok hn (relO_put ry rel)))
end
section
variable {X : Cx} {o e : Expr} {es : List Expr} {to te : TE} {ta tk : TA} {f m : Str} {p p' pos : Pos} {pins : List (Addr × Obj)} {σ : L2.St} {H : Hp} {s : Shared}
/-- self.f = e of an exception that is being made -/
def tOstG (K : Frag) (f : Str) (to te : TE) : TS := fun D σ H => te σ H fun y H1 => to σ H1 fun x H2 => ∃ a C : Addr, x = .ref a ∧ OexG K C ∧ NoAttr K C f ∧
  ((H2 a = some (exo a C none) ∧ ∀ dx, H2 dx = none → dx ≠ a → D.nx σ (L2.upd (L2.upd H2 dx (exd dx [(f, y)])) a (exo a C (some dx)))) ∨
    ∃ (dx : Addr) (fs : List (Str × V)), H2 a = some (exo a C (some dx)) ∧ H2 dx = some (exd dx fs) ∧ fs.length ≤ 900 ∧ D.nx σ (L2.upd H2 dx (exd dx ((f, y) :: fs))))
theorem ps_ostG (ho : PE X o to) (he : PE X e te) (hs : swapsWith e (some (.Attribute o f p')) pos.line X.env = pure false := by rfl) : PS X (.Assign [.Attribute o f p'] e pos) (tOstG X.K f to te) := by
  constructor
  intro pins s σ H D I h
  refine plainObj_wpAny_Assign_Attribute (thn (he.run pins s σ H _ I h) fun v s1 z1 => ?_) hs
  obtain ⟨y, H1, I1, r1, q1⟩ := z1
  refine thn (ho.run pins s1 σ H1 _ I1 q1) fun u s2 z2 => ?_
  obtain ⟨x, H2, I2, r2, a, C, ex, T, hno, q⟩ := z2
  subst ex
  cases (show u = Value.ref a from r2)
  rcases q with ⟨ea, q⟩ | ⟨dx, fs, ea, ed, hl, q⟩
  · exact ostNew T I2 ea hno r1 fun dx s' n ne J => ⟨σ, _, J, q dx n ne⟩
  · exact ostOld T I2 ea ed hl hno r1 fun s' J => ⟨σ, _, J, q⟩
end
/-- an own exception class by its name, with its __init__ -/
structure Exn (P : Program) (w : World) (K : Frag) (mg : Str → Option Value) (base : Heap) (x : Str) (C : Addr) (k : Nat) (ps : List Str) (sp : Sp) : Prop where
  ex : ∃ (f : Addr) (fd : FuncData), OexG K C ∧ findIn K (.ref C) "__init__" = some (some (.ref f)) ∧ isFn K (.ref f) = true ∧ FnG P w K mg base CX0 k f fd ps sp ∧ mg x = some (.ref C) ∧ Binds K fd ps []
/-- C(e, ..): the exception object, then its __init__ -/
def tMkE (C : Addr) (sp : Sp) (ta : TA) : TE := fun σ H Q => ta σ H fun vs H1 => vs.length ≤ 1000 ∧ ∀ a, H1 a = none → sp (.ref a :: vs) (L2.upd H1 a (exo a C none)) (fun v H2 => v = .non ∧ Q (.ref a) H2) E0
section
variable {X : Cx} {k : Nat} {C : Addr} {x : Str} {ps : List Str} {sp : Sp} {e : Expr} {es : List Expr} {ta : TA} {p pos : Pos}
theorem pe_mkE (D : Exn X.prog X.w X.K X.mg X.base x C k ps sp) (hr : RoomG (k + 1) X.A) (hg : Gl X x) (ha : PA X (e :: es) ta)
    (h1 : (x == ("__debug__" : Str)) = false := by decide) (h2 : starEach (e :: es) X.env = (false, eval e X.env) :: starEach es X.env := by rfl) (h3 : (backTo pos (starEach es X.env)).any (fun q => q.1) = false := by rfl) :
    PE X (.Call (.Name x p) (e :: es) [] pos) (tMkE C sp ta) := by
  obtain ⟨f, fd, T, iC, fC, F, hm, hb⟩ := D.ex
  obtain ⟨B, ni, ii, bmB, FB, SF, ini, ov⟩ := T.base
  constructor
  intro pins s σ H Q I h
  refine wpAny_Call_Name_kw (ld_glob I hg hm ?_ h1)
  refine callWith_K (h₀ := X.base) I.ok.mod.kin T.kp (thn (ha.run pos pins s σ H _ I h) fun us s1 z => ?_) h2 h3
  obtain ⟨vs, H1, I1, r1, hz, q1⟩ := z
  refine ⟨I1.kIn, ?_⟩
  show wpAny _ _ (call (.ref C) us) _ _ _
  obtain ⟨hp, g, dr, tk, os⟩ := s1
  obtain ⟨nm, N, qn, bs, bm, hdct, sn, sub, ab, col, dd, k0, k1, k2, k3, k5, hC, hT⟩ := excInit_of I1.kIn ini
  have hsz : hp.objs.size ≤ hp.objs.size + 1 := Nat.le_succ _
  have hn : H1 (hp.objs.size + 1) = none := I1.hok.fresh hsz
  have hq := q1 (hp.objs.size + 1) hn
  have kk : ∀ b o, hp.get? b = some o → ((hp.push (kdv_tup us)).push (HandSPX.excO C hp.objs.size)).get? b = some o := fun b o z => Heap.get?_push_of_some _ (Heap.get?_push_of_some _ z)
  have hget : ((hp.push (kdv_tup us)).push (HandSPX.excO C hp.objs.size)).get? (hp.objs.size + 1) = some (HandSPX.excO C hp.objs.size) := by heap_get
  have I2 : Inv X pins σ (L2.upd H1 (hp.objs.size + 1) (exo (hp.objs.size + 1) C none)) ⟨(hp.push (kdv_tup us)).push (HandSPX.excO C hp.objs.size), g, dr, tk, os⟩ := I1.laid (t' := tk) kk hsz (exo_ok hget)
  have r2 : Vals (V.ref (hp.objs.size + 1) :: vs) (Value.ref (hp.objs.size + 1) :: us) := .cons rfl r1
  have hl : (Value.ref (hp.objs.size + 1) :: us ++ []).length = ps.length := by
    have z := r2.length
    rw [F.len _ _ _ _ hq] at z
    rw [List.append_nil]
    exact z.symm
  have hus : us.length ≤ sizeLine := by
    rw [← r1.length, sizeLine_eq]
    omega
  have bd := hb _ (Value.ref (hp.objs.size + 1) :: us) I2.kIn hl
  rw [List.append_nil] at bd
  have hr2 : RoomG k (X.A.under (.builtin "type.__call__" ⟨.ref C :: us, []⟩)) := ⟨hr.r.make C us [], hr.g⟩
  refine wpAny_call (HandSPX.call_own FB hT hC (looks_findIn I1.kIn iC) (fun self => bind_fn I1.kIn self (beq_iff_eq.mp fC)) hus
    (codeAny_mono (F.go _ X.stack _ _ ⟨Value.ref (hp.objs.size + 1) :: us, []⟩ _ _ _ E0 hr2 (I2.env0.make C us []) bd r2 hq) fun r s' hq' => ?_))
  cases r with
  | error er => exact (show False from hq').elim
  | ok fl => cases fl with
    | ret u =>
      obtain ⟨v, H', I3, rv, ev, q3⟩ := I2.after hq'
      subst ev
      exact ⟨rv, V.ref (hp.objs.size + 1), H', I3, rfl, q3⟩
    | next => exact (show False from hq').elim
    | brk => exact (show False from hq').elim
    | cont => exact (show False from hq').elim
end
end My

namespace My
open PySem L2 PySem.Spec PyProof.Rows PySem.W Builtin Builtin.ObjectAttr
/-! ### an exception class called with keywords alone -/
section
variable {M : Model} {A : Around} {E : Value → Shared → Prop} {h : Heap} {g : Array GenState} {d : Drawn} {t : Nat} {os : OsState}
variable {nm q : Str} {C N : Addr} {bs bm bmB : List Value} {hdct : Bool} {sn : List Str} {sub : List Value} {ab : Bool} {col : Option Bool} {dd : Option Addr} {k0 k1 k2 k3 k5 : Option Value} {B newId initId : String} {kw : List (Str × Value)}
theorem kwCheck (FB : ExcBaseFacts B newId initId bmB) (hT : ∀ X : String, bm.contains (.type X) = bmB.contains (.type X)) {Q : Unit → Shared → Prop}
    (hC : h.get? C = some (excClassObj nm q C N bs bm hdct sn sub ab col dd k0 k1 k2 k3 k5 newId)) (hq : Q () ⟨h, g, d, t, os⟩) : wpAny M A (checkBuiltinCall newId ⟨[.ref C], kw⟩) Q E ⟨h, g, d, t, os⟩ := by
  have hB : (Value.ref C :: bm).contains (.type B) = true := by
    rw [List.contains_cons, hT, FB.hasB, Bool.or_true]
  have st := FB.noStar
  simp only [checkBuiltinCall, FB.newKind, FB.newSplit, FB.newRow]
  repeat (first | refine wpAny_loadPart_at hC ?_ | (refine wpAny_isSubtype_exc hC ?_; rw [hB]) | refine wpAny_staticBase_exc hC ?_ | refine wpAny_madeBy_exc hC ?_ | simp only [bne_self_eq_false, Bool.false_eq_true, if_false] | wp_step)
  exact hq
end
section
variable {prog : Program} {w : World} {A : Around} {E : Value → Shared → Prop} {R : Result → Shared → Prop} {h : Heap} {g : Array GenState} {d : Drawn} {t : Nat} {os : OsState}
variable {nm q : Str} {C N : Addr} {bs bm bmB : List Value} {hdct : Bool} {sn : List Str} {sub : List Value} {ab : Bool} {col : Option Bool} {dd : Option Addr} {k0 k1 k2 k3 k5 : Option Value} {B newId initId : String} {kw : List (Str × Value)}
theorem kwNew (FB : ExcBaseFacts B newId initId bmB) (hT : ∀ X : String, bm.contains (.type X) = bmB.contains (.type X)) (hC : h.get? C = some (excClassObj nm q C N bs bm hdct sn sub ab col dd k0 k1 k2 k3 k5 newId))
    (hq : R (.ok (.ret (.ref (h.objs.size + 1)))) ⟨(h.push (kdv_tup [])).push (HandSPX.excO C h.objs.size), g, d, t, os⟩) :
    codeAny (model prog w) A (.builtin newId ⟨[.ref C], kw⟩) R ⟨h, g, d, t, os⟩ := by
  have en := FB.ends
  have hB : (Value.ref C :: bm).contains (.type B) = true := by
    rw [List.contains_cons, hT, FB.hasB, Bool.or_true]
  have hA : (Value.ref C :: bm).contains (.type "AttributeError") = false := by
    rw [List.contains_cons, hT, FB.noAttr]
    rfl
  have hN : (Value.ref C :: bm).contains (.type "NameError") = false := by
    rw [List.contains_cons, hT, FB.noName]
    rfl
  refine codeAny_builtinAt FB.entry ?_
  unfold Builtin.«BaseException.__new__»
  refine PySem.wpAt_bind ?_
  show PySem.wpAt _ _ _ (stack >>= _) _ _ _
  refine PySem.wpAt_bind (PySem.wpAt_stack fun p below => PySem.wpAt_of_wpAny ?_)
  wp_walk
  refine PySem.wpAt_of_wpAny ?_
  rw [FB.owner]
  repeat (first | with_reducible refine wpAny_madeHere_exc FB.canon hC ?_ | with_reducible refine wpAny_loadPart_at hC ?_ | (with_reducible refine wpAny_isSubtype_exc hC ?_; first | rw [hB] | rw [hA] | rw [hN]) | wp_step)
  show R _ _
  rw [Heap.size_push]
  exact hq
theorem kwType (FB : ExcBaseFacts B newId initId bmB) (hT : ∀ X : String, bm.contains (.type X) = bmB.contains (.type X)) {fI : Addr} {Q : PySem.Fin → Shared → Prop}
    (hC : h.get? C = some (excClassObj nm q C N bs bm hdct sn sub ab col dd k0 k1 k2 k3 k5 newId)) (hi : Looks (model prog w) h (typeLookup (.ref C) "__init__") (some (.ref fI))) (hb : ∀ self, Looks (model prog w) h (bindSpecial (.ref fI) self) (.ref fI, [self]))
    (hq : codeAny (model prog w) A (.call (.ref fI) ⟨[.ref (h.objs.size + 1)], kw⟩) (fun r s' => match r with | .ok (.ret v) => v = .none ∧ Q (.done (.ret (.ref (h.objs.size + 1)))) s' | .ok _ => False | .error e => E e s')
      ⟨(h.push (kdv_tup [])).push (HandSPX.excO C h.objs.size), g, d, t, os⟩) :
    wpAny (model prog w) A (Builtin.«type.__call__» ⟨[.ref C], kw⟩) Q E ⟨h, g, d, t, os⟩ := by
  repeat (first | with_reducible refine wpAny_loadPart_at hC ?_ | with_reducible refine wpAny_madeBy_exc hC ?_ | wp_step)
  refine codeAny_call_builtin_code (Code.quiet_builtin _ FB.quiet) (kwCheck FB hT hC ?_)
  refine kwNew FB hT hC ?_
  show wpAny _ _ _ _ _ _
  have k : ∀ b o, h.get? b = some o → ((h.push (kdv_tup [])).push (HandSPX.excO C h.objs.size)).get? b = some o := fun b o z => Heap.get?_push_of_some _ (Heap.get?_push_of_some _ z)
  have hC1 := k _ _ hC
  have hget : ((h.push (kdv_tup [])).push (HandSPX.excO C h.objs.size)).get? (h.objs.size + 1) = some (HandSPX.excO C h.objs.size) := by heap_get
  have hcC : (Value.ref C :: bm).contains (.ref C) = true := by simp
  have i1 := hi.keeps k
  have b1 := (hb (.ref (h.objs.size + 1))).keeps k
  unfold isInstance
  repeat (first | with_reducible refine wpAny_loadPart_at hget ?_ | (with_reducible refine wpAny_isSubtype_exc hC1 ?_; rw [hcC]) | wp_step)
  show wpAny _ _ (typeLookup (.ref C) _) _ _ _
  refine i1.at (wpAny_holding (wpAny_bind (b1.at ?_)))
  refine wpAny_bind (wpAny_call (codeAny_mono hq fun r s' z => ?_))
  rcases r with e | (v | _ | _ | _) <;> first | exact z | exact z.elim | skip
  obtain ⟨rfl, z⟩ := z
  first
    | exact wpAny_pure (wpAny_pure z)
    | (wp_walk; exact z)
theorem kwTop {Q : Unit → Shared → Prop} (hC : h.get? C = some (excClassObj nm q C N bs bm hdct sn sub ab col dd k0 k1 k2 k3 k5 newId)) (hq : Q () ⟨h, g, d, t, os⟩) : wpAny (model prog w) A (checkBuiltinCall "type.__call__" ⟨[.ref C], kw⟩) Q E ⟨h, g, d, t, os⟩ := by
  have f3 := tc_sub
  have hTy : (⟨h, g, d, t, os⟩ : Shared).TypeIs (.ref C) "type" := ⟨_, hC, rfl⟩
  simp only [checkBuiltinCall, tc_kind, tc_split]
  repeat (any_goals (first | assumption | with_reducible refine wpAny_loadPart_at hC ?_ | with_reducible refine wpAny_onRaise ?_ | with_reducible refine wpAny_map ?_ | wp_step))
theorem kwCall (FB : ExcBaseFacts B newId initId bmB) (hT : ∀ X : String, bm.contains (.type X) = bmB.contains (.type X)) {fI : Addr}
    (hC : h.get? C = some (excClassObj nm q C N bs bm hdct sn sub ab col dd k0 k1 k2 k3 k5 newId)) (hi : Looks (model prog w) h (typeLookup (.ref C) "__init__") (some (.ref fI))) (hb : ∀ self, Looks (model prog w) h (bindSpecial (.ref fI) self) (.ref fI, [self]))
    (hq : codeAny (model prog w) (A.under (.builtin "type.__call__" ⟨[.ref C], kw⟩)) (.call (.ref fI) ⟨[.ref (h.objs.size + 1)], kw⟩) (InitBack (h.objs.size + 1) R) ⟨(h.push (kdv_tup [])).push (HandSPX.excO C h.objs.size), g, d, t, os⟩) :
    codeAny (model prog w) A (.call (.ref C) ⟨[], kw⟩) R ⟨h, g, d, t, os⟩ := by
  have f1 := tc_lookup
  have f2 := tc_bind (.ref C)
  have hTy : (⟨h, g, d, t, os⟩ : Shared).TypeIs (.ref C) "type" := ⟨_, hC, rfl⟩
  refine codeAny_of_tree ?_
  show wpAny _ _ (callAny (.ref C) _) _ _ _
  repeat (any_goals (first | assumption | with_reducible refine wpAny_loadPart_at hC ?_ | wp_step))
  refine ⟨rfl, codeAny_call_builtin_at (Code.quiet_builtin _ (by decide +kernel)) entry_typeCall (kwTop hC (kwType FB hT hC hi hb ?_))⟩
  refine codeAny_mono hq fun r s' z => ?_
  rcases r with e | (v | _ | _ | _) <;> exact z
end
end My

namespace My
open PySem L2 PySem.Spec PyProof.Rows PySem.W Builtin Builtin.ObjectAttr
/-! ### C(k = v, ..) of an exception class -/
structure Exk (P : Program) (w : World) (K : Frag) (mg : Str → Option Value) (base : Heap) (x : Str) (C : Addr) (k : Nat) (ks : List Str) (gV : List V → List V → List V) (sp : Sp) : Prop where
  ex : ∃ (f : Addr) (fd : FuncData) (ps : List Str) (g : List Value → List Value → List Value), OexG K C ∧ findIn K (.ref C) "__init__" = some (some (.ref f)) ∧ isFn K (.ref f) = true ∧ FnG P w K mg base CX0 k f fd ps sp ∧ mg x = some (.ref C) ∧ KBn K fd ps 1 ks g gV
def tMkEK (C : Addr) (l : Nat) (sp : Sp) (gV : List V → List V → List V) (tk : TA) : TE := fun σ H Q => tk σ H fun zs H1 => zs.length = l ∧ ∀ a, H1 a = none → sp (gV [.ref a] zs) (L2.upd H1 a (exo a C none)) (fun v H2 => v = .non ∧ Q (.ref a) H2) E0
section
variable {X : Cx} {k : Nat} {C : Addr} {x : Str} {ks : List Str} {gV : List V → List V → List V} {sp : Sp} {kws : List Keyword} {tk : TA} {p pos : Pos}
theorem pe_mkEK (D : Exk X.prog X.w X.K X.mg X.base x C k ks gV sp) (hr : RoomG (k + 1) X.A) (hg : Gl X x) (hkw : PK X kws tk)
    (h1 : (backToKw pos (keywordEach kws X.env)).all (fun q => q.1.isSome) = true := by rfl)
    (h2 : (backToKw pos (keywordEach kws X.env)).filterMap (fun q => q.1) = ks := by rfl)
    (h3 : ((backTo pos (starEach [] X.env)).any (fun q => q.1) || (backToKw pos (keywordEach kws X.env)).any (fun q => q.1.isNone)) = false := by rfl) (h4 : (x == ("__debug__" : Str)) = false := by decide) :
    PE X (.Call (.Name x p) [] kws pos) (tMkEK C ks.length sp gV tk) := by
  obtain ⟨f, fd, ps, gg, T, iC, fC, F, hm, hb⟩ := D.ex
  obtain ⟨B, ni, ii, bmB, FB, SF, ini, ov⟩ := T.base
  constructor
  intro pins s σ H Q I h
  refine wpAny_Call_Name_kw (ld_glob I hg hm ?_ h4)
  have kin := I.ok.mod.kin
  refine callWith_KW0 (first := []) kin T.kp h1 ?_ h3
  refine thn (hkw.run pos pins s σ H _ I h) fun ws s1 z => ?_
  obtain ⟨zs, H1, I1, rz, l2, q1⟩ := z
  refine ⟨I1.kIn, ?_⟩
  rw [h2]
  obtain ⟨hp, g, dr, tt, os⟩ := s1
  obtain ⟨nm, N, qn, bs, bm, hdct, sn, sub, ab, col, dd, k0, k1, k2, k3, k5, hC, hT⟩ := excInit_of I1.kIn ini
  have hsz : hp.objs.size ≤ hp.objs.size + 1 := Nat.le_succ _
  have hn : H1 (hp.objs.size + 1) = none := I1.hok.fresh hsz
  have hq := q1 (hp.objs.size + 1) hn
  have kk : ∀ b o, hp.get? b = some o → ((hp.push (kdv_tup [])).push (HandSPX.excO C hp.objs.size)).get? b = some o := fun b o z => Heap.get?_push_of_some _ (Heap.get?_push_of_some _ z)
  have hget : ((hp.push (kdv_tup [])).push (HandSPX.excO C hp.objs.size)).get? (hp.objs.size + 1) = some (HandSPX.excO C hp.objs.size) := by heap_get
  have I2 : Inv X pins σ (L2.upd H1 (hp.objs.size + 1) (exo (hp.objs.size + 1) C none)) ⟨(hp.push (kdv_tup [])).push (HandSPX.excO C hp.objs.size), g, dr, tt, os⟩ := I1.laid (t' := tt) kk hsz (exo_ok hget)
  have r1 : Vals [V.ref (hp.objs.size + 1)] [Value.ref (hp.objs.size + 1)] := .cons rfl .nil
  have hr2 : RoomG k (X.A.under (.builtin "type.__call__" ⟨[.ref C], ks.zip ws⟩)) := ⟨hr.r.make C [] (ks.zip ws), hr.g⟩
  refine wpAny_call (kwCall FB hT hC (looks_findIn I1.kIn iC) (fun self => bind_fn I1.kIn self (beq_iff_eq.mp fC))
    (codeAny_mono (F.go _ X.stack _ _ ⟨[Value.ref (hp.objs.size + 1)], ks.zip ws⟩ (gg [Value.ref (hp.objs.size + 1)] ws) _ _ E0 hr2 (I2.env0.make C [] (ks.zip ws)) (hb.to _ [Value.ref (hp.objs.size + 1)] ws I2.kIn rfl (rz.length.symm.trans l2)) (hb.rel r1 rz) hq) fun r s' hq' => ?_))
  cases r with
  | error er => exact (show False from hq').elim
  | ok fl => cases fl with
    | ret u =>
      obtain ⟨v, H', I3, rv, ev, q3⟩ := I2.after hq'
      subst ev
      exact ⟨rv, V.ref (hp.objs.size + 1), H', I3, rfl, q3⟩
    | next => exact (show False from hq').elim
    | brk => exact (show False from hq').elim
    | cont => exact (show False from hq').elim
/-- C() of an exception class without an __init__ of its own -/
theorem pe_mkE0 {bmB : List Value} {B newId initId : String} (FB : ExcBaseFacts B newId initId bmB) (q : excIn X.K C bmB newId = true) (gC : X.mg x = some (.ref C)) (kC : keepIn X.K (.ref C) = true) (hg : Gl X x) (h4 : (x == ("__debug__" : Str)) = false := by decide) :
    PE X (.Call (.Name x p) [] [] pos) (fun _ H Q => ∀ a, H a = none → Q (.ref a) (L2.upd H a (exo a C none))) := by
  constructor
  intro pins s σ H Q I h
  refine wpAny_Call_Name_kw (ld_glob I hg gC (callWith_K0 I.kIn kC ?_) h4)
  show wpAny _ _ (call (.ref C) []) _ _ _
  obtain ⟨bm, N, nm, qn, bs, hdct, sn, sub, ab, col, dd, k0, k1, k2, k3, k5, mN, hC, hN, hni, T⟩ := exc_obj I.kIn q
  refine wpAny_call_exc_subT FB T hC hN hni (fun h' a hm => ?_) (by rw [sizeLine_eq]; exact Nat.zero_le _)
  have hn : H a = none := I.hok.gone hm.new
  obtain ⟨t, ht, _, _⟩ := hm.there
  exact ⟨.ref a, L2.upd H a (exo a C none), I.laidN hm.keeps hm.new hn (exo_ok ht), rfl, h a hn⟩
end
/-! ### its fields -/
/-- o.f, o an exception object with a dict -/
def tXfO (K : Frag) (f : Str) (te : TE) : TE := fun σ H Q => te σ H fun x H1 => ∃ (a C dd : Addr) (fs : List (Str × V)) (v : V), x = .ref a ∧ XfC K C ∧ NoAttr K C f ∧ H1 a = some (exo a C (some dd)) ∧ H1 dd = some (exd dd fs) ∧ fs.lookup f = some v ∧ Q v H1
theorem pe_xfO {X : Cx} {e : Expr} {te : TE} {pos : Pos} {f : Str} (he : PE X e te) (hb : attributeBase e f X.env (eval e X.env) = eval e X.env := by rfl) : PE X (.Attribute e f pos) (tXfO X.K f te) := by
  constructor
  intro pins s σ H Q I h
  refine attr_of hb (thn (he.run pins s σ H _ I h) fun u s1 z => ?_)
  obtain ⟨x, H1, I1, rx, a, C, dd, fs, v, rfl, T, hno, ea, ed, l, q⟩ := z
  cases (show u = Value.ref a from rx)
  obtain ⟨t1, ho⟩ := exo_at I1.hok ea
  obtain ⟨mA, hns1, rel⟩ := exd_at I1.hok ed
  obtain ⟨od, hod, hl⟩ := lookIn_ns hns1
  obtain ⟨u, hu, ru⟩ := RelO.some_of (v := v) (o := mA f) (by rw [← l]; exact rel f)
  have J : InstAt s1.heap a { cls := .ref C, dict := some dd, data := .fields #[.ref t1, .none, .none, .none, .bool false, .none] } C (some od) := ⟨ho, rfl, rfl, hod⟩
  exact HandSPX.exc_get I1.kIn J T.ga T.gg T.exC (findObj_own T.hdC hno rfl (by rw [hl, hu])) (handed_of ru) ⟨v, H1, I1.tok _, ru, q⟩
/-! ### isinstance of an exception object -/
section
variable {prog : Program} {w : World} {A : Around} {E : Value → Shared → Prop} {s : Shared} {K : Frag} {x D : Addr} {ox : Obj} {od : Option Obj}
theorem exClass {Q : Option Value → Shared → Prop} (T : ExcC K D) (X : K.In s.heap) (I : InstAt s.heap x ox D od) (h : Q (some (.ref D)) { s with toks := s.toks + 1 }) : wpAny (model prog w) A (getAttr? (.ref x) "__class__") Q E s := by
  have hf : findObj K D od "__class__" = some (.bind (.builtin "getset_descriptor.__get__") (.builtin "object.__class__")) := by
    have hc : (clsIn K D).isSome = true := by
      obtain ⟨cd, hc, _⟩ := any_some T.hd
      rw [hc]
      rfl
    cases od with
    | none => exact findObj_dataN hc T.ha T.hn T.ht
    | some od => exact findObj_data hc T.ha T.hn T.ht
  obtain ⟨hp, g, d, t, os⟩ := s
  have l0 := I.type (M := model prog w)
  have l1 := looks_findIn (M := model prog w) X T.hg
  have l2 := looks_findIn (M := model prog w) X T.hk
  have l3 := looks_find (M := model prog w) X I hf
  have sub : Looks (model prog w) hp (isInstance (.ref x) (.type "BaseException")) true := l0.andThen (looks_subIn X T.hs)
  have b2 : (Value.builtin "BaseException.__getattribute__" == Value.builtin "object.__getattribute__") = false := by decide +kernel
  have b1 : (onTheHeap (Value.ref D) && Value.builtin "BaseException.__getattribute__" == Value.builtin "object.__getattribute__") = false := by
    rw [b2]
    rfl
  have b0 : (false && onTheHeap (Value.builtin "BaseException.__getattribute__")) = false := rfl
  unfold getAttr? getAttrBy? getAttrBy
  refine wpAny_bind (wpAny_mkText (wpAny_bind (wpAny_attempt (wpAny_holding (wpAny_bind (l0.at (wpAny_bind (l1.at ?_))))))))
  show wpAny _ _ (if (onTheHeap (Value.ref D) && Value.builtin "BaseException.__getattribute__" == Value.builtin "object.__getattribute__") = true then _ else _) _ _ _
  rw [b1, if_neg Bool.false_ne_true]
  unfold getAttrByItsOwn hookBefore
  refine wpAny_bind ?_
  rw [if_pos (show onTheHeap (Value.ref D) = true from rfl)]
  refine l2.at (wpAny_bind (wpAny_attempt (wpAny_holding ?_)))
  unfold callGetattribute
  rw [b0, if_neg Bool.false_ne_true]
  unfold boundAndCalled
  rw [PySem.F.excAttr_ValueError.ga.bind (.ref x)]
  refine wpAny_bind (wpAny_pure ?_)
  show wpAny _ _ (call (.builtin "BaseException.__getattribute__") [.ref x, .str "__class__" t]) _ _ _
  refine wpAny_call (codeAny_call_builtin PySem.F.excAttr_ValueError.ga.plain PySem.F.entry_bexc_ga ?_)
  refine @check_slot (model prog w) _ _ ⟨hp, g, d, t + 1, os⟩ "BaseException.__getattribute__" "BaseException" "__getattribute__" (.ref x) [.str "__class__" t] [] _ (by decide +kernel) (by decide +kernel) sub (PySem.F.args_bexc_ga (.ref x) (.str "__class__" t)) ?_
  unfold Builtin.«object.__getattribute__»
  refine wpAny_bind (wpAny_of_eq (a := ((Value.ref x : Value), [Value.str "__class__" t])) (by first | rfl | (simp only [slotArgs]; rfl)) ?_)
  refine wpAny_bind (wpAny_pure (wpAny_bind (l0.at (wpAny_bind (l3.at ?_)))))
  show wpAny _ _ (holding [Value.builtin "object.__class__"] (call (.builtin "getset_descriptor.__get__") [.builtin "object.__class__", .ref x, .ref D]) >>= ret) _ _ _
  refine wpAny_bind (wpAny_holding (wpAny_call (class_get (s := ⟨hp, g, d, t + 1, os⟩) (ox := ox) (od := od) X I T.hm ?_)))
  refine wpAny_pure ?_
  show wpAny _ _ (handedOut (.ref D)) _ _ _
  rw [handedOut_of (v := .ref D) rfl]
  first
    | exact wpAny_pure (wpAny_pure h)
    | exact wpAny_pure h
    | exact wpAny_pure (wpAny_bind (wpAny_pure (wpAny_pure h)))
theorem exKit (T : ExcC K D) : KitX K (.ref x) (.ref D) (fun h => InstAt h x ox D od) where
  ty := fun _ _ _ I => I.type
  it := fun _ _ X _ => by
    obtain ⟨cdD, hcD, _⟩ := any_some T.hd
    unfold clsIn at hcD
    split at hcD
    · rename_i c' d' cd' sl' ho
      intro A' Q' E' s' k q
      unfold isType loadHead
      exact wpAny_bind (wpAny_loadPart (k _ _ (X _ _ ho)) (wpAny_pure q))
    · cases hcD
  ne := fun h tp dd its n sl X htp => by
    obtain ⟨cdD, hcD, _⟩ := any_some T.hd
    refine Bool.eq_false_iff.mpr fun q => ?_
    have e : D = tp := Value.ref.inj (beq_iff_eq.mp q)
    subst e
    unfold clsIn at hcD
    split at hcD
    · rename_i c' d' cd' sl' ho
      cases (X _ _ ho).symm.trans htp
    · cases hcD
  ca := fun X I k => exClass T X I k
end
/-- an exception object of the class at C: with its dict or without one -/
def IsExo (H : Hp) (a C : Addr) : Prop := H a = some (exo a C none) ∨ ∃ (dd : Addr) (fs : List (Str × V)), H a = some (exo a C (some dd)) ∧ H dd = some (exd dd fs)
def rIsX (K : Frag) : List V → Hp → VK → Prop := fun xs H Q => ∃ (a C : Addr) (c : V) (u : Value) (b : Bool), xs = [.ref a, c] ∧ IsExo H a C ∧ ExcC K C ∧ ClsV c u ∧ kitOne K (.ref C) u = some b ∧ Q (.bl b) H
theorem call_isX {X : Cx} : CallR X (.builtin "isinstance") (rIsX X.K) := by
  intro pins s σ H xs us Q I r h
  obtain ⟨a, C, c, u, b, rfl, hx, T, kc, e, q⟩ := h
  obtain ⟨u1, u2, rfl, r1, r2⟩ := vals2 r
  cases (show u1 = Value.ref a from r1)
  have e2 := kc.eq r2
  subst e2
  obtain ⟨ox, od, J⟩ : ∃ ox od, InstAt s.heap a ox C od := by
    rcases hx with ea | ⟨dd, fs, ea, ed⟩
    · obtain ⟨t1, ho⟩ := exo_at I.hok ea
      exact ⟨_, none, ho, rfl, rfl, trivial⟩
    · obtain ⟨t1, ho⟩ := exo_at I.hok ea
      obtain ⟨mA, hns1, _⟩ := exd_at I.hok ed
      obtain ⟨od, hod, _⟩ := lookIn_ns hns1
      exact ⟨_, some od, ho, rfl, rfl, hod⟩
  exact kia_one (exKit T) I.kIn J e (fun z => nomatch z) fun tk => ⟨.bl b, H, I.tok tk, rfl, q⟩
end My

namespace My
open PySem L2 PySem.Spec PyProof.Rows PySem.W
/-! ### what the written part says of an exception class -/
structure ExF (K : Frag) (C : Addr) (mro : List Value) (newId : String) : Prop where
  look : ∃ (nm qn : Str) (bs sb : List Value) (ns : Addr) (sn : List Str) (ab : Bool) (co : Option Bool) (dd : Option Addr) (k0 k1 k2 k3 k5 : Option Value), K.lookup C = some ⟨.type "type", dd, .cls ⟨nm, bs, mro, ns, qn, true, sn, sb, ab, co, false⟩, #[k0, k1, k2, k3, some (.builtin newId), k5]⟩
  sa : findIn K (.ref C) "__setattr__" = some (some (.builtin "object.__setattr__"))
  kp : keepIn K (.ref C) = true
  ga : findIn K (.ref C) "__getattribute__" = some (some (.builtin "BaseException.__getattribute__"))
  gg : findIn K (.ref C) "__getattr__" = some none
  ca : findIn K (.ref C) "__class__" = some (some (.builtin "object.__class__"))
  ty : typeIn K (.ref C) = some (.type "type")
section
variable {K : Frag} {C D : Addr} {m m' : List Value} {n n' : String}
theorem ExF.cls (x : ExF K C m n) : ∃ cd, clsIn K C = some cd ∧ cd.mro = m ∧ cd.hasDict = true := by
  obtain ⟨nm, qn, bs, sb, ns, sn, ab, co, dd, k0, k1, k2, k3, k5, e⟩ := x.look
  exact ⟨_, by unfold clsIn; rw [e], rfl, rfl⟩
theorem ExF.sub (x : ExF K C m n) (h : m.isEmpty = false) (v : Value) : subIn K (.ref C) v = some (m.contains v) := by
  obtain ⟨cd, e, rfl, _⟩ := x.cls
  show mroIn K C v = _
  unfold mroIn
  rw [e, Option.bind_some, if_neg (by rw [h]; exact Bool.false_ne_true)]
theorem ExF.hd (x : ExF K C m n) : hasDictIn K C = true := by
  obtain ⟨cd, e, _, h⟩ := x.cls
  unfold hasDictIn
  rw [e]
  exact h
/-- an own class over a built-in one -/
structure Ups (C : Addr) (m bm : List Value) : Prop where
  head : ∃ r, m = .ref C :: r ∧ excTail bm r = true
  base : m.contains (.type "BaseException") = true
  obj : m.contains (.type "object") = true
theorem ups (C G : Addr) (b : String) : Ups C (.ref C :: .ref G :: .type b :: [.type "Exception", .type "BaseException", .type "object"]) (.type b :: [.type "Exception", .type "BaseException", .type "object"]) := by
  refine ⟨⟨_, rfl, ?_⟩, ?_, ?_⟩
  · show (Value.type b :: [.type "Exception", .type "BaseException", .type "object"] == _) = true
    exact beq_self_eq_true _
  · simp
  · simp
theorem ups0 (C : Addr) (b : String) : Ups C (.ref C :: .type b :: [.type "Exception", .type "BaseException", .type "object"]) (.type b :: [.type "Exception", .type "BaseException", .type "object"]) := by
  refine ⟨⟨_, rfl, ?_⟩, ?_, ?_⟩
  · show (Value.type b :: [.type "Exception", .type "BaseException", .type "object"] == _) = true
    exact beq_self_eq_true _
  · simp
  · simp
theorem Ups.ne {bm : List Value} (u : Ups C m bm) : m.isEmpty = false := by
  obtain ⟨r, rfl, _⟩ := u.head
  rfl
theorem ExF.oex {bm : List Value} {B ii : String} (x : ExF K C m n) (u : Ups C m bm) (FB : ExcBaseFacts B n ii bm) (SF : StoreFacts B bm "object.__setattr__" "object") : OexG K C := by
  obtain ⟨r, rfl, ht⟩ := u.head
  refine ⟨⟨B, n, ii, bm, FB, SF, ?_, ?_⟩, x.hd, x.sa, x.kp⟩
  · obtain ⟨nm, qn, bs, sb, ns, sn, ab, co, dd, k0, k1, k2, k3, k5, e⟩ := x.look
    unfold excInitIn
    rw [e]
    simp [ht]
  · obtain ⟨cd, e, hm, _⟩ := x.cls
    unfold excOver
    rw [e]
    show (match cd.mro with | .ref C' :: bm' => C' == C && excTail bm bm' | _ => false) = true
    rw [hm]
    simp [ht]
theorem ExF.xf {bm : List Value} (x : ExF K C m n) (u : Ups C m bm) : XfC K C := ⟨x.ga, x.gg, by rw [x.sub u.ne, u.base], x.hd⟩
theorem ExF.exc {bm : List Value} (x : ExF K C m n) (u : Ups C m bm) (h1 : specialIn K (.builtin "object.__class__") "__get__" = some (some (.builtin "getset_descriptor.__get__"))) (h2 : takesIn K (.builtin "object.__class__") = some true) : ExcC K C :=
  ⟨x.ga, x.gg, by rw [x.sub u.ne, u.base], x.hd, x.ca, h1, h2, (x.sub u.ne _).trans (by rw [u.obj])⟩
theorem ExF.kit {bm : List Value} (x : ExF K C m n) (u : Ups C m bm) (y : ExF K D m' n') : kitOne K (.ref C) (.ref D) = some (m.contains (.ref D)) := by
  unfold kitOne
  obtain ⟨r, hm, _⟩ := u.head
  by_cases h : C = D
  · subst h
    rw [if_pos (beq_self_eq_true _), hm]
    simp
  · rw [if_neg (by simpa using h)]
    unfold kitCls
    obtain ⟨cd, e, _, _⟩ := y.cls
    show (if ((clsIn K D).isSome && typeIn K (.ref D) == some (.type "type")) = true then subIn K (.ref C) (.ref D) else none) = _
    rw [e, y.ty, if_pos (by simp), x.sub u.ne]
theorem ExF.kitT {bm : List Value} {T : String} (x : ExF K C m n) (u : Ups C m bm) (h : kitMeta T = true) : kitOne K (.ref C) (.type T) = some (m.contains (.type T)) := by
  unfold kitOne
  rw [if_neg (by simp)]
  show (if kitMeta T = true then subIn K (.ref C) (.type T) else none) = _
  rw [if_pos h, x.sub u.ne]
end
end My

namespace My
open PySem L2 PySem.Spec PyProof.Rows
section
variable {X : Cx} {pins : List (Addr × Obj)} {σ : L2.St} {H : Hp} {s : Shared}
/-! ### new lists, none of them where sys.modules stands -/
def tLstN (t : TA) : TE := fun σ H Q => t σ H fun xs H1 => xs.length ≤ sizeLine ∧ ∀ p, H1 p = none → p ≠ sysModules → Q (.ref p) (L2.upd H1 p (.lst xs))
theorem pe_lstN {es : List Expr} {t : TA} {pos : Pos} (h : PA X es t) : PE X (.List es pos) (tLstN t) := by
  constructor
  intro pins s σ H Q I hq
  refine wpAny_List_spliced (thn (h.run pos pins s σ H _ I hq) fun us s1 y => ?_)
  obtain ⟨xs, H1, I1, r, z, q⟩ := y
  refine ⟨by rw [← r.length]; exact z, ?_⟩
  have hf : H1 s1.heap.objs.size = none := I1.hok.fresh (Nat.le_refl _)
  exact ⟨.ref s1.heap.objs.size, L2.upd H1 s1.heap.objs.size (.lst xs), I1.laid (t' := s1.toks) (fun b u e => Heap.get?_push_of_some _ e) (Nat.le_refl _) ⟨z, us, 0, r, Heap.get?_push_size _ rfl⟩, rfl, q _ hf (Nat.ne_of_gt I1.big)⟩
def rSlN (K : PySem.W.Frag) : V → Option Int → Option Int → Hp → VK → Prop := fun x lo hi H Q => ∃ a xs, x = .ref a ∧ SqL K H a xs ∧ ∀ p, H p = none → p ≠ sysModules → Q (.ref p) (L2.upd H p (.lst (cutV xs lo hi)))
theorem sl_listN : SlR X (rSlN X.K) := by
  intro pins s σ H x v vl vu lo hi sl Q I rx hs pl pu h
  obtain ⟨a, xs, rfl, hx, q⟩ := h
  cases (show v = Value.ref a from rx)
  obtain ⟨its, r, ht, hz⟩ := I.list hx
  have hlen := r.length
  refine ⟨"list", _, slot_list_getitem.lookup, ht.isList.typeIs, ?_⟩
  refine wpAny_getItem_list_slice ht.isList hs pl pu .none (by simp) ?_ (by rw [List.size_toArray] <;> omega)
  rw [slicePick_cut, ← hlen]
  have new : ObjOk X.prog X.w (L2.upd H s.heap.objs.size (.lst (cutV xs lo hi))) (s.heap.push { cls := .type "list", data := .seq ((its.drop (HT.sIx xs.length 0 lo)).take (HT.sIx xs.length xs.length hi - HT.sIx xs.length 0 lo)).toArray }) s.heap.objs.size (.lst (cutV xs lo hi)) :=
    ⟨Nat.le_trans (cutV_length xs lo hi) hz, _, 0, (r.drop (HT.sIx xs.length 0 lo)).take (HT.sIx xs.length xs.length hi - HT.sIx xs.length 0 lo), Heap.get?_push_size _ rfl⟩
  exact ⟨.ref s.heap.objs.size, _, I.laid (t' := s.toks) (fun b ob q => Heap.get?_push_of_some _ q) (Nat.le_refl _) new, rfl, q _ (I.hok.fresh (Nat.le_refl _)) (Nat.ne_of_gt I.big)⟩
/-! ### data with a dict of one entry in it -/
mutual
inductive Dq (H : Hp) : V → PyData → Prop
  | non : Dq H .non .none
  | bl (b : Bool) : Dq H (.bl b) (.bool b)
  | int (i : Int) : Dq H (.int i) (.int i)
  | str (x : Str) : Dq H (.str x) (.str x)
  | lst {a : Addr} {xs : List V} {ds : List PyData} (h : H a = some (.lst xs)) (n : a ≠ sysModules) (r : DqAll H xs ds) : Dq H (.ref a) (.list ds)
  | tup {a : Addr} {xs : List V} {ds : List PyData} (h : H a = some (.tup xs)) (r : DqAll H xs ds) : Dq H (.ref a) (.tuple ds)
  | dct {a : Addr} {x : Str} {i : Int} (h : H a = some (.dK [(.inr x, .int i)])) : Dq H (.ref a) (.dict [(.str x, .int i)])
inductive DqAll (H : Hp) : List V → List PyData → Prop
  | nil : DqAll H [] []
  | cons {x : V} {xs : List V} {d : PyData} {ds : List PyData} (h : Dq H x d) (r : DqAll H xs ds) : DqAll H (x :: xs) (d :: ds)
end
mutual
theorem Dq.same {H H' : Hp} (s : Same H H') : ∀ {v : V} {d : PyData}, Dq H v d → Dq H' v d
  | _, _, .non => .non
  | _, _, .bl b => .bl b
  | _, _, .int i => .int i
  | _, _, .str x => .str x
  | _, _, .lst h n r => .lst (s _ _ h) n (DqAll.same s r)
  | _, _, .tup h r => .tup (s _ _ h) (DqAll.same s r)
  | _, _, .dct h => .dct (s _ _ h)
theorem DqAll.same {H H' : Hp} (s : Same H H') : ∀ {vs : List V} {ds : List PyData}, DqAll H vs ds → DqAll H' vs ds
  | _, _, .nil => .nil
  | _, _, .cons h r => .cons (Dq.same s h) (DqAll.same s r)
end
theorem dctReads {a : Addr} {x : Str} {i : Int} (I : Inv X pins σ H s) (h : H a = some (.dK [(.inr x, .int i)])) : ∃ as, Reads s.heap (.ref a) (.dict [(.str x, .int i)]) as ∧ sysModules ∉ as := by
  obtain ⟨_, hd, vs, kv, o, es, ep, ho, hx, hdt, hk, hp, _⟩ := dk_of I.hok h
  have na : a ≠ sysModules := by simpa using hd
  cases kv with
  | @cons _ p _ ps hkv rest =>
    cases rest
    obtain ⟨k', u⟩ := p
    obtain ⟨ek, ru⟩ := hkv
    obtain ⟨t, rfl⟩ := (show ∃ t, u = Value.int i t from ru)
    dsimp only at ek
    subst ek
    cases he : es.toList with
    | nil =>
      rw [he] at hp
      cases hp
    | cons e1 er =>
      rw [he] at hp
      cases hp with
      | cons h1 h2 h3 =>
        cases h3
        obtain ⟨t2, hk2⟩ : ∃ t2, e1.key = .str x t2 := by
          have h1' : keyIs (Sum.inr x) e1.key = true := h1
          rcases keyIs_shape h1' with ⟨j, t2, z, _⟩ | ⟨y, t2, z, q⟩
          · cases z
          · cases z
            exact ⟨t2, q⟩
        have h2' : e1.val = Value.int i t := h2
        refine ⟨_, Reads.dict ho hx.1 hdt (kvs := [(.str x, .int i)]) (by rw [he]; simp only [List.map_cons, List.map_nil]; rw [hk2]; exact ReadsAll.cons (Reads.str x t2) ReadsAll.nil) (by rw [he]; simp only [List.map_cons, List.map_nil]; rw [h2']; exact ReadsAll.cons (Reads.int i t) ReadsAll.nil), ?_⟩
        simp
        exact na.symm
mutual
theorem Dq.reads (I : Inv X pins σ H s) : ∀ (d : PyData) (v : V) (u : Value), Dq H v d → L2.RelV v u → ∃ as, Reads s.heap u d as ∧ sysModules ∉ as
  | .none, _, _, h, r => by
    cases h
    cases r
    exact ⟨_, Reads.none, by simp⟩
  | .bool b, _, _, h, r => by
    cases h
    cases r
    exact ⟨_, Reads.bool b, by simp⟩
  | .int i, _, _, h, r => by
    cases h
    obtain ⟨t, rfl⟩ := r
    exact ⟨_, Reads.int i t, by simp⟩
  | .str x, _, _, h, r => by
    cases h
    obtain ⟨t, rfl⟩ := r
    exact ⟨_, Reads.str x t, by simp⟩
  | .list ds, _, _, h, r => by
    cases h with
    | lst hs n ha =>
      cases r
      obtain ⟨_, its, m, rv, ho⟩ := I.hok _ _ hs
      obtain ⟨as, hr, hn⟩ := DqAll.reads I ds _ its ha rv
      exact ⟨_, Reads.list ho rfl rfl hr, by
        rw [List.mem_cons, not_or]
        exact ⟨n.symm, hn⟩⟩
  | .tuple ds, _, _, h, r => by
    cases h with
    | tup hs ha =>
      cases r
      obtain ⟨_, its, rv, o, ho, hc, m, hd⟩ := I.hok _ _ hs
      obtain ⟨as, hr, hn⟩ := DqAll.reads I ds _ its ha rv
      exact ⟨_, Reads.tuple ho hc hd hr, hn⟩
  | .dict kvs, _, _, h, r => by
    cases h with
    | dct hs =>
      cases r
      exact dctReads I hs
theorem DqAll.reads (I : Inv X pins σ H s) : ∀ (ds : List PyData) (vs : List V) (us : List Value), DqAll H vs ds → Vals vs us → ∃ as, ReadsAll s.heap us ds as ∧ sysModules ∉ as
  | [], _, _, h, r => by
    cases h
    cases r
    exact ⟨_, ReadsAll.nil, by simp⟩
  | d :: ds, _, _, h, r => by
    cases h with
    | cons h1 h2 =>
      cases r with
      | cons r1 r2 =>
        obtain ⟨as, q1, n1⟩ := Dq.reads I d _ _ h1 r1
        obtain ⟨bs, q2, n2⟩ := DqAll.reads I ds _ _ h2 r2
        exact ⟨_, ReadsAll.cons q1 q2, by
          rw [List.mem_append, not_or]
          exact ⟨n1, n2⟩⟩
end
end
section
variable {X : Cx} {k : Nat}
theorem call_reprQ (hr : RoomG k X.A) : CallR X (.builtin "repr") (fun xs H Q => ∃ y d, xs = [y] ∧ Dq H y d ∧ d.depth ≤ 64 ∧ d.showable = true ∧ d.shown.length ≤ sizeLine ∧ Q (.str d.shown) H) := by
  intro pins s σ H xs us Q I r h
  obtain ⟨y, d, rfl, hd, hdp, hw, hz, q⟩ := h
  obtain ⟨u, rfl, ru⟩ := vals1 r
  obtain ⟨as, rd, nm⟩ := Dq.reads I d y u hd ru
  have hA : X.A.units + (d.depth + 1) < cLine := by
    have := hr.r.un
    omega
  have fin : ∀ {t : Tok} {s' : Shared}, Inv X pins σ H s' → EP X pins σ Q (.str d.shown t) s' := fun J => ⟨.str d.shown, H, J, ⟨_, rfl⟩, q⟩
  cases rd with
  | none => exact PySem.P.repr_of_none (fin (I.tok _))
  | bool b => exact PySem.P.repr_of_bool (fin (I.tok _))
  | int i t => exact PySem.P.repr_of_int (of_decide_eq_true hw) (fin (I.tok _))
  | str z t => exact PySem.P.repr_of_str (fin (I.tok _)) hz
  | list h1 h2 h3 h4 => exact PySem.repr_of_reads' (.list h1 h2 h3 h4) hw (fun _ => nm) hr.g hA (fun _ _ e => e) (fun h' t tk hk => fin (I.kept hk)) hz
  | tuple h1 h2 h3 h4 => exact PySem.repr_of_reads' (.tuple h1 h2 h3 h4) hw (fun _ => nm) hr.g hA (fun _ _ e => e) (fun h' t tk hk => fin (I.kept hk)) hz
  | dict h1 h2 h3 h4 h5 => exact PySem.repr_of_reads' (.dict h1 h2 h3 h4 h5) hw (fun _ => nm) hr.g hA (fun _ _ e => e) (fun h' t tk hk => fin (I.kept hk)) hz
end
section
variable {σ : L2.St} {H : Hp} {D : Ends} {Q : VK} {K : PySem.W.Frag} {C : Addr} {sp : Sp} {f : Str} {l : Nat} {gV : List V → List V → List V} {to te : TE} {ta tk : TA}
theorem s_ostG (h : te σ H fun y H1 => to σ H1 fun x H2 => ∃ a C : Addr, x = .ref a ∧ OexG K C ∧ NoAttr K C f ∧
  ((H2 a = some (exo a C none) ∧ ∀ dx, H2 dx = none → dx ≠ a → D.nx σ (L2.upd (L2.upd H2 dx (exd dx [(f, y)])) a (exo a C (some dx)))) ∨
    ∃ (dx : Addr) (fs : List (Str × V)), H2 a = some (exo a C (some dx)) ∧ H2 dx = some (exd dx fs) ∧ fs.length ≤ 900 ∧ D.nx σ (L2.upd H2 dx (exd dx ((f, y) :: fs))))) : tOstG K f to te D σ H := h
theorem s_mkE (h : ta σ H fun vs H1 => vs.length ≤ 1000 ∧ ∀ a, H1 a = none → sp (.ref a :: vs) (L2.upd H1 a (exo a C none)) (fun v H2 => v = .non ∧ Q (.ref a) H2) E0) : tMkE C sp ta σ H Q := h
theorem s_mkEK (h : tk σ H fun zs H1 => zs.length = l ∧ ∀ a, H1 a = none → sp (gV [.ref a] zs) (L2.upd H1 a (exo a C none)) (fun v H2 => v = .non ∧ Q (.ref a) H2) E0) : tMkEK C l sp gV tk σ H Q := h
theorem s_xf (h : te σ H fun x H1 => ∃ (a C dd : Addr) (fs : List (Str × V)) (v : V), x = .ref a ∧ XfC K C ∧ NoAttr K C f ∧ H1 a = some (exo a C (some dd)) ∧ H1 dd = some (exd dd fs) ∧ fs.lookup f = some v ∧ Q v H1) : tXfO K f te σ H Q := h
theorem s_lstN (h : ta σ H fun xs H1 => xs.length ≤ sizeLine ∧ ∀ p, H1 p = none → p ≠ sysModules → Q (.ref p) (L2.upd H1 p (.lst xs))) : tLstN ta σ H Q := h
end
end My

namespace My
open PySem L2 PySem.Spec PyProof.Rows
/-! ### dicts from texts to ints -/
def dk (d : List (Str × Int)) : List (Key × V) := d.map fun p => (.inr p.1, .int p.2)
def look : List (Str × Int) → Str → Option Int
  | [], _ => none
  | p :: r, k => if p.1 = k then some p.2 else look r k
theorem valV_dk (d : List (Str × Int)) (k : Str) : valV (dk d) (.inr k) = (look d k).map V.int := by
  induction d with
  | nil => rfl
  | cons p r ih =>
    unfold look
    by_cases h : p.1 = k
    · rw [if_pos h]
      exact valV_pos (congrArg Sum.inr h)
    · rw [if_neg h]
      exact (valV_neg (fun z => h (Sum.inr.inj z))).trans ih
theorem dk_length (d : List (Str × Int)) : (dk d).length = d.length := List.length_map ..
/-- all of d is in e -/
def subD (d e : List (Str × Int)) : Bool := d.all fun p => decide (look e p.1 = some p.2)
section
variable {X : Cx} {pins : List (Addr × Obj)} {σ : L2.St} {H : Hp} {s : Shared}
theorem hits_dk {A : Around} {e : List (Str × Int)} {vb : List (Key × Value)} (rb : KV (dk e) vb) : ∀ {d : List (Str × Int)} {va : List (Key × Value)}, KV (dk d) va → PySem.W.KeqHits A s vb va (subD d e) := by
  intro d
  induction d with
  | nil =>
    intro va ra
    cases ra
    exact .nil
  | cons p r ih =>
    intro va ra
    cases ra with
    | @cons _ q _ qs h t =>
      obtain ⟨h1, h2⟩ := h
      obtain ⟨k, v⟩ := q
      obtain ⟨tk, h3⟩ := (show ∃ tk, v = Value.int p.2 tk from h2)
      have h4 : (Sum.inr p.1 : Key) = k := h1
      clear h1 h2
      subst h4
      subst h3
      have rr := rb.val (Sum.inr p.1)
      rw [valV_dk] at rr
      cases hl : look e p.1 with
      | none =>
        rw [hl] at rr
        have e0 : subD (p :: r) e = false := by
          unfold subD
          rw [List.all_cons, hl]
          rfl
        rw [e0]
        refine .miss ?_
        cases hv : valueAt vb (Sum.inr p.1) with
        | none => rfl
        | some y =>
          rw [hv] at rr
          exact rr.elim
      | some i =>
        rw [hl] at rr
        obtain ⟨y, hy, ry⟩ := rr.some_of
        obtain ⟨tk2, rz⟩ := (show ∃ tk, y = Value.int i tk from ry)
        clear ry
        subst rz
        have e1 : subD (p :: r) e = ((p.2 == i) && subD r e) := by
          unfold subD
          rw [List.all_cons, hl]
          congr 1
          by_cases z : p.2 = i
          · rw [z]
            simp
          · rw [decide_eq_false (fun q => z (Option.some.inj q).symm)]
            exact (beq_false_of_ne z).symm
        rw [e1]
        refine .hit hy ?_ (ih t)
        have q := PySem.W.keq_flat (A := A) (s := s) (v := .int p.2 tk) (y := .int i tk2) (d := .int p.2) (e := .int i) (fun h => .int _ _) (fun h => .int _ _)
        rw [show PyData.eqv (.int p.2) (.int i) = (p.2 == i) by simp [PyData.eqv]] at q
        exact q
def eqD (d e : List (Str × Int)) : Bool := d.length == e.length && subD d e
/-- a == b, both dicts from texts to ints -/
def rEqDD (g : Bool → Bool) : R2 := fun x y H Q => ∃ a b d e, x = .ref a ∧ y = .ref b ∧ H a = some (.dK (dk d)) ∧ H b = some (.dK (dk e)) ∧ Q (.bl (g (eqD d e))) H
theorem op_eqDD (hu : X.A.units + 1 < cLine) : OpR X (compareOp .Eq) (rEqDD id) := by
  intro pins s σ H x y v u Q I rx ry h
  obtain ⟨a, b, d, e, rfl, rfl, ea, eb, q⟩ := h
  cases (show v = Value.ref a from rx)
  cases (show u = Value.ref b from ry)
  obtain ⟨_, ya, va, ra, da⟩ := dk_of I.hok ea
  obtain ⟨_, yb, vb, rb, db⟩ := dk_of I.hok eb
  refine PySem.W.keq_eq (r := subD d e) ya yb da db (by omega) (fun _ => hits_dk rb ra) (fin_bl I q ?_)
  unfold eqD
  rw [← ra.length, ← rb.length, dk_length, dk_length]
  rfl
theorem op_neDD (hu : X.A.units + 1 < cLine) : OpR X (compareOp .NotEq) (rEqDD (!·)) := by
  intro pins s σ H x y v u Q I rx ry h
  obtain ⟨a, b, d, e, rfl, rfl, ea, eb, q⟩ := h
  cases (show v = Value.ref a from rx)
  cases (show u = Value.ref b from ry)
  obtain ⟨_, ya, va, ra, da⟩ := dk_of I.hok ea
  obtain ⟨_, yb, vb, rb, db⟩ := dk_of I.hok eb
  refine PySem.W.keq_ne (r := subD d e) ya yb da db (by omega) (fun _ => hits_dk rb ra) (fin_bl I q ?_)
  unfold eqD
  rw [← ra.length, ← rb.length, dk_length, dk_length]
/-! ### the text of such a dict -/
def dP (d : List (Str × Int)) : PyData := .dict (d.map fun p => (.str p.1, .int p.2))
theorem pairs_reads {h : Heap} {P : Program} {w : World} : ∀ {d : List (Str × Int)} {va : List (Key × Value)} {es : List DictEntry}, KV (dk d) va → Pairs (mixKind P w) es va →
    ReadsAll h (es.map (·.key)) ((d.map fun p => ((PyData.str p.1, PyData.int p.2) : PyData × PyData)).map (·.1)) [] ∧ ReadsAll h (es.map (·.val)) ((d.map fun p => ((PyData.str p.1, PyData.int p.2) : PyData × PyData)).map (·.2)) [] := by
  intro d
  induction d with
  | nil =>
    intro va es ra pr
    cases ra
    cases pr
    exact ⟨.nil, .nil⟩
  | cons p r ih =>
    intro va es ra pr
    cases ra with
    | @cons _ q _ qs h1 t =>
      obtain ⟨h1, h2⟩ := h1
      obtain ⟨k, v⟩ := q
      obtain ⟨tk, h3⟩ := (show ∃ tk, v = Value.int p.2 tk from h2)
      have h4 : (Sum.inr p.1 : Key) = k := h1
      clear h1 h2
      subst h4
      subst h3
      cases pr with
      | @cons e1 _ er _ k1 k2 k3 =>
        obtain ⟨i1, i2⟩ := ih t k3
        have k1' : keyIs (Sum.inr p.1) e1.key = true := k1
        obtain ⟨t2, hk2⟩ : ∃ t2, e1.key = .str p.1 t2 := by
          rcases keyIs_shape k1' with ⟨j, t2, z, _⟩ | ⟨y, t2, z, q⟩
          · cases z
          · cases z
            exact ⟨t2, q⟩
        have k2' : e1.val = Value.int p.2 tk := k2
        refine ⟨?_, ?_⟩
        · rw [List.map_cons, hk2]
          exact ReadsAll.cons (Reads.str _ _) i1
        · rw [List.map_cons, k2']
          exact ReadsAll.cons (Reads.int _ _) i2
theorem dk_reads {a : Addr} {d : List (Str × Int)} (I : Inv X pins σ H s) (h : H a = some (.dK (dk d))) : ∃ as, Reads s.heap (.ref a) (dP d) as ∧ sysModules ∉ as := by
  obtain ⟨_, hd, vs, kv, o, es, ep, ho, hx, hdt, hk, hp, _⟩ := dk_of I.hok h
  have na : a ≠ sysModules := by simpa using hd
  obtain ⟨r1, r2⟩ := pairs_reads (h := s.heap) kv hp
  refine ⟨_, Reads.dict ho hx.1 hdt r1 r2, ?_⟩
  simp
  exact na.symm
end
section
variable {X : Cx} {k : Nat} {e : Expr} {te : TE} {pos : Pos}
/-- {x!r}, x a dict from texts to ints -/
def tFmtRD (te : TE) : TE := fun σ H Q => te σ H fun x H1 => ∃ a d, x = .ref a ∧ H1 a = some (.dK (dk d)) ∧ (dP d).showable = true ∧ (dP d).shown.length ≤ sizeLine ∧ Q (.str (dP d).shown) H1
theorem pe_fmtRD (hr : RoomG k X.A) (he : PE X e te) : PE X (.FormattedValue e 114 none pos) (tFmtRD te) := by
  constructor
  intro pins s σ H Q I h
  refine wpAny_FormattedValue_repr (thn (he.run pins s σ H _ I h) ?_)
  rintro v s1 ⟨x, H1, I1, rx, a, d, rfl, ea, hw, hz, q⟩
  cases (show v = Value.ref a from rx)
  obtain ⟨as, rd, nm⟩ := dk_reads I1 ea
  have hdep : (dP d).depth ≤ 1 := by
    unfold dP
    simp only [PyData.depth]
    have : ∀ d : List (Str × Int), PyData.depthKv (d.map fun p => (PyData.str p.1, PyData.int p.2)) = 0 := by
      intro d
      induction d with
      | nil => simp [PyData.depthKv]
      | cons p r ih => simp [PyData.depthKv, PyData.depth, ih]
    rw [this]
    exact Nat.le_refl _
  have hA : X.A.units + (dP d).depth < cLine := by
    have := hr.r.un
    omega
  refine pyReprObj_of_reads rd hw (fun _ => nm) hr.g hA (fun _ _ e => e) (fun h' u tk hk => ?_) hz
  exact wpAny_formatField_str ⟨.str (dP d).shown, H1, I1.kept (t' := tk) hk, ⟨_, rfl⟩, q⟩ ⟨.str (dP d).shown, H1, (I1.kept (t' := tk) hk).tok _, ⟨_, rfl⟩, q⟩ hz
end
end My

namespace My
open PySem L2 PySem.Spec PyProof.Rows Sem
section
variable {prog : Program} {w : World} {A : Around} {E : Value → Shared → Prop} {s : Shared}
theorem wpAny_putDict {d : Addr} {kvs : List (Key × Value)} {k : Key} {key v : Value} {Q : Unit → Shared → Prop} (hkey : (mixKind prog w).is k key = true) (hm : s.heap.DictOf (mixKind prog w) d kvs)
    (hQ : ∀ h', h'.DictOf (mixKind prog w) d (stored kvs k v) → Heap.SameBut d s.heap h' → Q () { s with heap := h' }) (hsz : kvs.length ≤ sizeLine) :
    wpAny (model prog w) A (dictPut d ((mixKind prog w).hash k) key v) Q E s := by
  obtain ⟨o, es, ep, ho, hc, hd, hk, hp, hn⟩ := hm
  have hes : es.size ≤ sizeLine := by
    have e1 := hp.length
    have e2 : es.toList.length = es.size := by simp
    omega
  have hidx : (es.findIdx? fun e => (mixKind prog w).is k e.key) = kvs.findIdx? fun kv => decide (kv.1 = k) := by
    rw [← hp.findIdx k]
    obtain ⟨l⟩ := es
    simp
  unfold dictPut
  refine wpAny_bind (wpAny_dictFind_of hkey ho hd hk ?_)
  cases hi : es.findIdx? fun e => (mixKind prog w).is k e.key with
  | some i =>
    have hany := any_of_findIdx_some (hidx ▸ hi)
    refine wpAny_updateDict ho hd (hQ _ ⟨_, _, ep, Heap.get?_update_self _ ho (Obj.isFreed_of_dict (Obj.data_mapDict hd _)), hc.mapDict _, Obj.data_mapDict hd _, hk.modify _ _, ?_, ?_⟩ (Heap.SameBut.update ..))
    · have hl : (es.toList.findIdx? fun e => (mixKind prog w).is k e.key) = some i := by
        rw [← hi]
        obtain ⟨l⟩ := es
        simp
      have := hp.modify hn hl v
      rw [stored, if_pos hany]
      obtain ⟨l⟩ := es
      simpa using this
    · rw [stored, if_pos hany, keys_map_store]
      exact hn
  | none =>
    have hnot : k ∉ kvs.map (·.1) := not_mem_of_findIdx_none (hidx ▸ hi)
    have hany : ¬ (kvs.any fun kv => decide (kv.1 = k)) = true := by
      intro z
      obtain ⟨kv, hkv, he⟩ := List.any_eq_true.mp z
      exact hnot (List.mem_map.mpr ⟨kv, hkv, of_decide_eq_true he⟩)
    refine wpAny_updateDictKeys (hz := hes) ho hd (hQ _ ⟨_, _, ep + 1, Heap.get?_update_self _ ho (Obj.isFreed_of_dict (Obj.data_mapDictKeys hd _)), hc.mapDictKeys _, Obj.data_mapDictKeys hd _, hk.push hkey _, ?_, ?_⟩ (Heap.SameBut.update ..))
    · have := hp.append hkey ((mixKind prog w).hash k) v
      rw [stored, if_neg hany]
      obtain ⟨l⟩ := es
      simpa using this
    · rw [stored, if_neg hany, List.map_append, List.nodup_append]
      refine ⟨hn, by simp, fun a ha b hb => ?_⟩
      simp only [List.map_cons, List.map_nil, List.mem_singleton] at hb
      rw [hb]
      exact fun e => hnot (e ▸ ha)
theorem loop_none {es : Array DictEntry} (hk : KeysOf (mixKind prog w) es) : ∀ e ∈ es.toList, ∀ a : Addr, e.key ≠ .ref a := by
  intro e he a z
  obtain ⟨k, h1, _⟩ := hk e (by simpa using he)
  have h1' : keyIs k e.key = true := h1
  rcases keyIs_shape h1' with ⟨j, t2, z1, q⟩ | ⟨y, t2, z1, q⟩
  · rw [z] at q
    cases q
  · rw [z] at q
    cases q
theorem wpAny_mergeDD {d o : Addr} {kvs more : List (Key × Value)} {Q : Unit → Shared → Prop} (hdo : d ≠ o) (hoS : (o == sysModules) = false) (hd : s.heap.DictOf (mixKind prog w) d kvs) (ho : s.heap.DictOf (mixKind prog w) o more)
    (hQ : ∀ h', h'.DictOf (mixKind prog w) d (merged kvs more) → Heap.SameBut d s.heap h' → Q () { s with heap := h' }) (hsz : kvs.length + more.length ≤ sizeLine) :
    wpAny (model prog w) A (mergeMapping d (.ref o) false) Q E s := by
  obtain ⟨od, esd, epd, hod, hcd, hdd, hkd, hpd, hnd⟩ := id hd
  obtain ⟨oo, eso, epo, hoo, hco, hdo', hko, hpo, hno⟩ := id ho
  have hlen : more.length = eso.size := by
    rw [← hpo.length]
    simp
  have loop : wpAny (model prog w) A (do
      let l ← dictEntries o
      let epoch ← dictEpoch o
      forIn (List.range l.size) PUnit.unit fun i (_ : PUnit) => (do
          let l' ← dictEntries o
          match l'[i]? with
            | some e => do
              holding [e.key, e.val] (dictPut d e.hash e.key e.val)
              let ep' ← dictEpoch o
              if (ep' != epoch) = true then do
                  (PySem.unsupported "dict.changed-during-merge" : Sem PUnit)
                  Pure.pure (ForInStep.yield PUnit.unit)
                else Pure.pure (ForInStep.yield PUnit.unit)
            | _ => do
              (PySem.unsupported "dict.changed-during-merge" : Sem PUnit)
              Pure.pure (ForInStep.yield PUnit.unit) : Sem (ForInStep PUnit))
      Pure.pure ()) Q E s := by
    refine wpAny_bind (wpAny_dictEntries hoo hdo' (wpAny_bind (wpAny_dictEpoch hoo hdo' (wpAny_bind ?_))))
    rw [List.range_eq_range']
    refine wpAny_forIn_list _ (fun rest _ s' => ∃ h' i, s' = { s with heap := h' } ∧ rest = List.range' i (eso.size - i) ∧ i ≤ eso.size ∧ h'.DictOf (mixKind prog w) d (merged kvs (more.take i)) ∧ h'.get? o = some oo ∧ Heap.SameBut d s.heap h') _ ?_ ?_ _ _
      ⟨s.heap, 0, rfl, by simp, Nat.zero_le _, by simpa [merged] using hd, hoo, Heap.SameBut.refl _ _⟩
    · rintro x rest b s' ⟨h', i, rfl, hr, hi, hd', hoo', hs'⟩
      have hlt : i < eso.size := by
        rcases Nat.lt_or_ge i eso.size with h | h
        · exact h
        · rw [Nat.sub_eq_zero_of_le h] at hr
          simp at hr
      have e1 : eso.size - i = (eso.size - (i + 1)) + 1 := by omega
      rw [e1, List.range'_succ] at hr
      injection hr with hx hrest
      subst hx
      obtain ⟨kv, hkv⟩ : ∃ kv, more[x]? = some kv := ⟨more[x]'(by rw [hlen]; exact hlt), List.getElem?_eq_getElem _⟩
      obtain ⟨k, v⟩ := kv
      obtain ⟨hkey, hval⟩ := hpo.get? (e := eso[x]) (by simp [hlt]) hkv
      obtain ⟨k', hkey', hhash⟩ := hko eso[x] (Array.getElem_mem hlt)
      have ek : k' = k := (mixKind prog w).inj _ _ _ hkey' hkey
      subst ek
      refine wpAny_bind (wpAny_dictEntries hoo' hdo' ?_)
      rw [Array.getElem?_eq_getElem hlt]
      show wpAny _ _ (holding [eso[x].key, eso[x].val] (dictPut d eso[x].hash eso[x].key eso[x].val) >>= _) _ _ _
      rw [hhash, hval]
      have hmx : (merged kvs (more.take x)).length ≤ sizeLine := by
        have l1 := merged_length_le kvs (more.take x)
        have l2 : (more.take x).length ≤ more.length := by
          rw [List.length_take]
          omega
        omega
      refine wpAny_bind (wpAny_holding (wpAny_putDict hkey hd' (fun h2 hd2 hs2 => ?_) hmx))
      have hoo2 : h2.get? o = some oo := (hs2.2 o (Ne.symm hdo)).trans hoo'
      refine wpAny_bind (wpAny_dictEpoch hoo2 hdo' ?_)
      rw [if_neg (by simp)]
      exact wpAny_pure ⟨h2, x + 1, rfl, hrest, hlt, by rw [merged_take_succ kvs more x (k', v) hkv]; exact hd2, hoo2, hs'.trans hs2⟩
    · rintro b s' ⟨h', i, rfl, hr, hi, hd', hoo', hs'⟩
      have hin : i = eso.size := by
        rcases Nat.lt_or_ge i eso.size with h | h
        · have e1 : eso.size - i = (eso.size - (i + 1)) + 1 := by omega
          rw [e1, List.range'_succ] at hr
          exact nomatch hr
        · exact Nat.le_antisymm hi h
      rw [hin, ← hlen, List.take_length] at hd'
      exact wpAny_pure (hQ h' hd' hs')
  unfold mergeMapping
  refine wpAny_bind (wpAny_isInstance (T := "dict") ho.typeIs PySem.F.sub_dict_dict ?_)
  rw [if_pos rfl]
  refine wpAny_bind (wpAny_specialOf ho.typeIs PySem.F.slot_dict_iter.lookup (wpAny_bind (wpAny_pure ?_)))
  simp only [beq_self_eq_true]
  rw [if_neg (by rw [hoS]; exact Bool.false_ne_true)]
  refine wpAny_bind (wpAny_dictEntries hod hdd ?_)
  split
  · refine wpAny_bind (wpAny_dictEntries hoo hdo' (wpAny_bind ?_))
    have nr := loop_none hko
    refine wpAny_forIn_array' _ (fun l _ s' => s' = s ∧ ∀ e ∈ l, ∀ a : Addr, e.key ≠ .ref a) _ (fun e rest b s1 hI => ?_) (fun b s1 hI => ?_) _ _ ⟨rfl, nr⟩
    · obtain ⟨rfl, hI⟩ := hI
      have ne := hI e List.mem_cons_self
      cases hk : e.key with
      | ref a => exact absurd hk (ne a)
      | _ =>
        dsimp only
        exact wpAny_pure ⟨rfl, fun e' h' => hI e' (List.mem_cons_of_mem _ h')⟩
    · obtain ⟨rfl, _⟩ := hI
      exact loop
  · exact loop
end
end My

namespace My
open PySem L2 PySem.Spec PyProof.Rows Sem
/-- {**d, k: v}, keys ints and texts -/
def tSplat (td tk tv : TE) : TE := fun σ H Q => ∀ p, H p = none → td σ (L2.upd H p (.dK [])) fun x H1 => ∃ (a : Addr) (kvs : List (Key × V)), x = .ref a ∧ a ≠ p ∧ H1 p = some (.dK []) ∧ Rd H1 a (.dK kvs) ∧
  ∀ q, q ≠ p → (L2.upd H1 p (.dK (mergeK [] kvs))) q = none → tk σ (L2.upd (L2.upd H1 p (.dK (mergeK [] kvs))) q (.dK [])) fun y H2 => tv σ H2 fun z H3 => ∃ (k : Key) (ms : List (Key × V)), y = kV k ∧ H3 q = some (.dK []) ∧ H3 p = some (.dK ms) ∧ ms.length < sizeLine ∧
    Q (.ref p) (L2.upd (L2.upd H3 q (.dK [(k, z)])) p (.dK (mergeK ms [(k, z)])))
section
variable {X : Cx} {d k v : Expr} {td tk tv : TE} {pos : Pos}
theorem pe_splat (hd : PE X d td) (hk : PE X k tk) (hv : PE X v tv) : PE X (.Dict [none, some k] [d, v] pos) (tSplat td tk tv) := by
  constructor
  intro pins s σ H Q I h
  rw [arm_eval_Dict]
  refine wpAny_bind (wpAny_standAt ?_)
  have e1 : (evalEachOpt [none, some k] X.env).zip ((evalEach [d, v] X.env).map fun v => do let x ← v; standAt pos; Pure.pure x) = [(none, (do let x ← eval d X.env; standAt pos; Pure.pure x)), (some (eval k X.env), (do let x ← eval v X.env; standAt pos; Pure.pure x))] := by
    rfl
  rw [e1]
  unfold dictDisplay
  simp only [List.forIn_cons, List.forIn_nil, List.isEmpty_nil, if_true]
  have hn := I.hok.fresh (Nat.le_refl s.heap.objs.size)
  have I1 := I.laid (a := s.heap.objs.size) (o := .dK []) (h' := s.heap.push { cls := .type "dict", data := .dict #[] }) (t' := s.toks) (fun _ _ q => Heap.get?_push_of_some _ q) (Nat.le_refl _) (dk_empty s.heap I.big)
  refine wpAny_bind (wpAny_bind (wpAny_bind (wpAny_bind (wpAny_pure ?_))))
  refine wpAny_pure ?_
  dsimp only
  refine wpAny_bind (wpAny_alloc ?_)
  refine wpAny_bind (wpAny_holding (wpAny_bind (thn (hd.run pins _ σ _ _ I1 (h _ hn)) ?_)))
  rintro u s2 ⟨x, H1, I2, rx, a, kvs, rfl, nap, hp, ha, q⟩
  cases (show u = Value.ref a from rx)
  refine wpAny_bind (wpAny_standAt (wpAny_pure ?_))
  obtain ⟨zl, ya, va, ra, da⟩ := dk_rd I2.hok ha
  obtain ⟨_, yp, vp, rp, dp⟩ := dk_of I2.hok hp
  cases rp
  have hl := ra.length
  refine wpAny_bind (wpAny_onRaise (wpAny_tryCatch (wpAny_onRaise (wpAny_holding (wpAny_mergeDD (Ne.symm nap) ya dp da (fun h3 d3 s3 => ?_) (by simp; omega))))))
  have lm := length_mergeK kvs []
  rw [List.length_nil] at lm
  have he3 : ∃ z, h3.get? s.heap.objs.size = some z := let ⟨z, _, _, hz, _⟩ := d3; ⟨z, hz⟩
  have I3 := d_write (t' := s2.toks) I2 (by rw [hp]; exact True.intro) s3 he3 (dk_new (by omega) yp (ra.merge .nil) d3)
  have big3 := I3.big
  have pl : s.heap.objs.size < h3.objs.size := by
    obtain ⟨z, hz⟩ := he3
    exact Heap.lt_size hz
  have n4 := I3.hok.fresh (Nat.le_refl h3.objs.size)
  have I4 := I3.laid (a := h3.objs.size) (o := .dK []) (h' := h3.push { cls := .type "dict", data := .dict #[] }) (t' := s2.toks) (fun _ _ q => Heap.get?_push_of_some _ q) (Nat.le_refl _) (dk_empty h3 I3.big)
  have q' := q h3.objs.size (Nat.ne_of_gt pl) n4
  refine wpAny_pure ?_
  dsimp only
  rw [if_neg (by simp)]
  refine wpAny_bind (wpAny_pure ?_)
  dsimp only
  refine wpAny_pure ?_
  rw [if_neg (by simp)]
  dsimp only
  refine wpAny_bind (wpAny_bind (wpAny_holding (wpAny_subDict (knd := mixKind X.prog X.w) (by simp) ?_)))
  refine evalPairs_cons (thn (hk.run pins _ σ _ _ I4 q') ?_)
  rintro yv s5 ⟨y, H5, I5, ry, q5⟩
  refine wpAny_bind (thn (hv.run pins s5 σ H5 _ I5 q5) ?_)
  rintro zv s6 ⟨z, H6, I6, rz, ky, ms, rfl, eq, ep, lms, q6⟩
  refine wpAny_bind (wpAny_standAt (wpAny_pure (evalPairs_nil ?_)))
  obtain ⟨_, yq, vq, rq, dq⟩ := dk_of I6.hok eq
  cases rq
  refine ⟨[(ky, zv)], ⟨kV_is ry, rfl, True.intro⟩, dq, fun h7 d7 s7 => ?_⟩
  have he7 : ∃ z, h7.get? h3.objs.size = some z := let ⟨z, _, _, hz, _⟩ := d7; ⟨z, hz⟩
  have k1 : KV [(ky, z)] [(ky, zv)] := .cons ⟨rfl, rz⟩ .nil
  have I7 := d_write (t' := s6.toks + 1) I6 (by rw [eq]; exact True.intro) s7 he7 (dk_new (by rw [sizeLine_eq]; show 1 ≤ 16777216; decide) yq (k1.merge .nil) d7)
  have ep7 : (L2.upd H6 h3.objs.size (.dK (mergeK [] [(ky, z)]))) s.heap.objs.size = some (.dK ms) := (upd_ne (Nat.ne_of_lt pl)).trans ep
  obtain ⟨_, yp7, vp7, rp7, dp7⟩ := dk_of I7.hok ep7
  have lp7 := rp7.length
  refine wpAny_bind (wpAny_onRaise (wpAny_holding (wpAny_mergeDD (Nat.ne_of_lt pl) yq dp7 d7 (fun h8 d8 s8 => ?_) (by rw [← lp7]; show ms.length + 1 ≤ sizeLine; omega))))
  have he8 : ∃ z, h8.get? s.heap.objs.size = some z := let ⟨z, _, _, hz, _⟩ := d8; ⟨z, hz⟩
  have lm8 := length_mergeK [(ky, z)] ms
  have I8 := d_write (t' := s6.toks + 1) I7 (by rw [ep7]; exact True.intro) s8 he8 (dk_new (by rw [List.length_singleton] at lm8; omega) yp7 (k1.merge rp7) d8)
  refine wpAny_pure ?_
  dsimp only
  refine wpAny_pure ⟨.ref s.heap.objs.size, _, I8, rfl, ?_⟩
  exact q6
end
end My

namespace My
open PySem L2 PySem.Spec PyProof.Rows Sem
/-! ### a def with **kw: what it gathers -/
def kwK (ex : List (Str × Value)) : List (Key × Value) := ex.map fun x => (.inr x.1, x.2)
section
variable {prog : Program} {w : World} {A : Around} {E : Value → Shared → Prop} {d : Addr}
theorem nsSet_at {s : Shared} {es : List DictEntry} {n : Nat} {k : Str} {v : Value} {Q : Unit → Shared → Prop} (D : s.heap.get? d = some (PySem.W.dictOf es n)) (hs : ∀ e ∈ es, e.key.isStr k = false) (hr : ∀ e ∈ es, e.refKey = false)
    (h : ∀ h', h'.get? d = some (PySem.W.dictOf (es ++ [⟨PyData.keyHash w.params k, .str k s.toks, v⟩]) (n + 1)) → Heap.SameBut d s.heap h' → Q () { s with heap := h', toks := s.toks + 1 }) : wpAny (model prog w) A (nsSet d k v) Q E s := by
  have e1 : es.any (·.key.isStr k) = false := by
    rw [Bool.eq_false_iff]
    intro q
    obtain ⟨e, he, z⟩ := List.any_eq_true.mp q
    rw [hs e he] at z
    cases z
  have e2 : es.any (·.refKey) = false := by
    rw [Bool.eq_false_iff]
    intro q
    obtain ⟨e, he, z⟩ := List.any_eq_true.mp q
    rw [hr e he] at z
    cases z
  have put : Obj.putName k (PyData.keyHash w.params k) (.str k s.toks) v (PySem.W.dictOf es n) = PySem.W.dictOf (es ++ [⟨PyData.keyHash w.params k, .str k s.toks, v⟩]) (n + 1) := by
    rw [PySem.W.putName_dict, PySem.W.putL_new hs]
    show PySem.W.dictOf _ (if es.any (·.key.isStr k) then n else n + 1) = _
    rw [e1, if_neg Bool.false_ne_true]
  have c : aRefKeyMayBeTheName k es.toArray = false := by
    rw [aRefKeyMayBeTheName_at, ← Array.any_toList, ← Array.any_toList]
    show (!es.any (·.key.isStr k) && es.any (·.refKey)) = false
    rw [e2, Bool.and_false]
  unfold nsSet
  refine wpAny_bind (wpAny_bind (wpAny_askSetting (wpAny_pure (wpAny_bind (wpAny_mkText (wpAny_bind (wpAny_loadPart D ?_)))))))
  dsimp only
  rw [c]
  refine wpAny_updatePart D (h _ ?_ (Heap.SameBut.update ..))
  rw [← put]
  exact Heap.get?_update_self _ D ((congrArg Obj.isFreed put).trans rfl)
theorem fill_at {Q : PUnit → Shared → Prop} : ∀ (ex : List (Str × Value)) (s : Shared) (es : List DictEntry) (n : Nat), s.heap.get? d = some (PySem.W.dictOf es n) → (∀ e ∈ es, ∀ x ∈ ex, e.key.isStr x.1 = false) → (∀ e ∈ es, e.refKey = false) → (ex.map (·.1)).Nodup →
    (∀ h', h'.get? d = some (PySem.W.dictOf (es ++ PySem.W.kwEs w.params s.toks ex) (n + ex.length)) → Heap.SameBut d s.heap h' → Q ⟨⟩ { s with heap := h', toks := s.toks + ex.length }) →
    wpAny (model prog w) A (forIn ex PUnit.unit fun x _ => (nsSet d x.1 x.2 >>= fun _ => Pure.pure (ForInStep.yield PUnit.unit))) Q E s := by
  intro ex
  induction ex with
  | nil =>
    intro s es n D _ _ _ h
    rw [List.forIn_nil]
    refine wpAny_pure (h s.heap ?_ (Heap.SameBut.refl _ _))
    show s.heap.get? d = some (PySem.W.dictOf (es ++ []) (n + 0))
    rw [List.append_nil]
    exact D
  | cons x r ih =>
    intro s es n D h1 h2 h3 h
    rw [List.map_cons, List.nodup_cons] at h3
    rw [List.forIn_cons]
    refine wpAny_bind (wpAny_bind (nsSet_at D (fun e he => h1 e he x List.mem_cons_self) h2 fun h' D' s' => wpAny_pure ?_))
    refine ih { s with heap := h', toks := s.toks + 1 } _ _ D' (fun e he y hy => ?_) (fun e he => ?_) h3.2 fun h5 D5 s5 => ?_
    · rcases List.mem_append.mp he with z | z
      · exact h1 e z y (List.mem_cons_of_mem _ hy)
      · rw [List.mem_singleton.mp z]
        show (x.1 == y.1) = false
        exact beq_false_of_ne fun q => h3.1 (List.mem_map.mpr ⟨y, hy, q.symm⟩)
    · rcases List.mem_append.mp he with z | z
      · exact h2 e z
      · rw [List.mem_singleton.mp z]
        rfl
    · have q := h h5 (by
        rw [D5, List.append_assoc]
        show _ = some (PySem.W.dictOf _ (n + (r.length + 1)))
        rw [show n + 1 + r.length = n + (r.length + 1) by omega]
        rfl) (s'.trans s5)
      have e : s.toks + 1 + r.length = s.toks + (r.length + 1) := by omega
      show Q _ { s with heap := h5, toks := s.toks + 1 + r.length }
      rw [e]
      exact q
theorem kwEs_mix : ∀ (ex : List (Str × Value)) (t : Tok), Pairs (mixKind prog w) (PySem.W.kwEs w.params t ex) (kwK ex)
  | [], _ => Pairs.nil
  | x :: r, t => Pairs.cons (kV_is (P := prog) (w := w) (k := .inr x.1) ⟨t, rfl⟩) rfl (kwEs_mix r (t + 1))
theorem kw_dict {h : Heap} {ex : List (Str × Value)} {t : Tok} {n : Nat} (e : h.get? d = some (PySem.W.dictOf (PySem.W.kwEs w.params t ex) n)) (nd : (ex.map (·.1)).Nodup) : h.DictOf (mixKind prog w) d (kwK ex) := by
  refine ⟨_, _, n, e, ⟨rfl, rfl, rfl⟩, rfl, fun e he => ?_, by simpa using kwEs_mix ex t, ?_⟩
  · obtain ⟨k, u, hk, hh⟩ := PySem.W.kwEs_key ex t e (List.mem_toArray.mp he)
    refine ⟨.inr k, ?_, ?_⟩
    · rw [hk]
      exact kV_is (P := prog) (w := w) (k := .inr k) ⟨u, rfl⟩
    · exact hh.trans rfl
  · unfold kwK
    rw [List.map_map]
    have e2 : ((fun x : Key × Value => x.1) ∘ fun x : Str × Value => ((Sum.inr x.1, x.2) : Key × Value)) = (Sum.inr : Str → Key) ∘ fun x : Str × Value => x.1 := rfl
    rw [e2, ← List.map_map]
    exact List.Pairwise.map _ (fun a b (h : a ≠ b) q => h (Sum.inr.inj q)) nd
end
section
variable {prog : Program} {w : World} {A : Around} {E : Value → Shared → Prop}
theorem gather (kw : List (Str × Value)) (g : Str × Value → List (Str × Value) × List (Str × Value) → Sem (ForInStep (List (Str × Value) × List (Str × Value)))) (hg : ∀ x e, g x ([], e) = Pure.pure (.yield ([], e ++ [x]))) :
    ∀ e : List (Str × Value), forIn kw (([], e) : List (Str × Value) × List (Str × Value)) g = Pure.pure ([], e ++ kw) := by
  induction kw with
  | nil =>
    intro e
    rw [List.forIn_nil, List.append_nil]
  | cons x r ih =>
    intro e
    rw [List.forIn_cons, hg, pure_bind]
    show forIn r ([], e ++ [x]) g = _
    rw [ih, List.append_assoc]
    rfl
theorem bind_kw {fd : FuncData} {kw : List (Str × Value)} {p : Arg} {s : Shared} {Q : List (Str × Value) → Shared → Prop} (h1 : fd.params = { posonlyargs := [], args := [], vararg := none, kwonlyargs := [], kw_defaults := [], kwarg := some p, defaults := [] }) (h2 : fd.defaults = .none) (nd : (kw.map (·.1)).Nodup) (hz : kw.length ≤ 1000)
    (h : ∀ h' tk, h'.DictOf (mixKind prog w) s.heap.objs.size (kwK kw) → (∀ b o, s.heap.get? b = some o → h'.get? b = some o) → Q [(p.arg, .ref s.heap.objs.size)] { s with heap := h', toks := tk }) :
    wpAny (model prog w) A (bindArgs fd ⟨[], kw⟩) Q E s := by
  unfold bindArgs
  rw [h1, h2]
  simp only [List.map_nil, List.append_nil, List.length_nil, List.zip_nil_left, List.contains_nil, Bool.false_or, Option.isSome_some, if_true, Bool.false_eq_true, if_false]
  rw [gather kw _ (fun x e => rfl) [], pure_bind, List.nil_append]
  have e0 : (seqItems? Value.none : Sem (Option (Array Value))) = Pure.pure none := rfl
  rw [e0, pure_bind]
  simp only [Option.getD_none, List.drop_nil, List.take_nil, List.filter_nil, List.isEmpty_nil, List.length_nil, List.zip_nil_left, List.forIn_nil, pure_bind, Bool.not_true, Bool.false_eq_true, if_false, List.filterMap_nil, List.nil_append]
  rw [if_neg (by decide), if_neg (by rw [sizeLine_eq]; omega)]
  refine wpAny_bind (wpAny_alloc (wpAny_bind ?_))
  have D0 : (s.heap.push { cls := Value.type "dict", data := Data.dict #[] }).get? s.heap.objs.size = some (PySem.W.dictOf [] 0) := Heap.get?_push_size _ rfl
  refine fill_at kw { s with heap := s.heap.push { cls := Value.type "dict", data := Data.dict #[] } } [] 0 D0 (fun e he => nomatch he) (fun e he => nomatch he) nd fun h' D' s' => wpAny_pure ?_
  rw [List.nil_append] at D'
  refine h h' (s.toks + kw.length) (kw_dict D' nd) fun b o e => ?_
  have nb : b ≠ s.heap.objs.size := Nat.ne_of_lt (Heap.lt_size e)
  exact (s'.2 b nb).trans (Heap.get?_push_of_some _ e)
/-! ### C.m(k = v, ..), m a staticmethod with **kw alone -/
end
section
variable {X : Cx} {pins : List (Addr × Obj)} {σ : L2.St} {H : Hp} {s : Shared} {C p f : Addr} {m : Str} {mc : Value} {k : Nat}
/-- C.m is a staticmethod: its record at p, its def at f -/
structure StaM (K : PySem.W.Frag) (C : Addr) (m : Str) (f : Addr) : Prop where
  ex : ∃ (mc : Value) (p : Addr) (rest : List Value), PySem.W.readsIn K C mc = true ∧ PySem.W.specialIn K (.ref C) "__getattribute__" = some (some (.builtin "type.__getattribute__")) ∧
    PySem.W.findCls K (.ref C) mc m = some (.get (.builtin "staticmethod.__get__") (.ref p) .none (.ref C)) ∧ PySem.W.recIn K p "staticmethod" = some (.ref f :: rest)
  kp : PySem.W.keepIn K (.ref f) = true
theorem getsta {pl : Sem Bool} {A : Around} {E : Value → Shared → Prop} {Q : Value × List Value → Shared → Prop} (I : Inv X pins σ H s) (r : StaM X.K C m f) (h : ∀ s', Inv X pins σ H s' → Q (.ref f, []) s') : wpAny (model X.prog X.w) A (getMethod (.ref C) m pl) Q E s := by
  obtain ⟨mc, p, rest, r1, r2, r3, r4⟩ := r.ex
  refine PySem.W.method_cls I.kIn r2 (PySem.W.cls_bind I.kIn r1 r3 (wpAny_call (PySem.W.sm_get (s := { s with toks := s.toks + 1 }) I.kIn r4 (PySem.W.handed_on rfl ?_))))
  exact h _ (I.tok _)
/-- the promise of a def whose one parameter is **kw: the pairs handed in -/
def keyV (ks : List Str) (zs : List V) : List (Key × V) := (ks.zip zs).map fun x => (.inr x.1, x.2)
theorem kv_zip : ∀ {ks : List Str} {zs : List V} {us : List Value}, Vals zs us → KV (keyV ks zs) (kwK (ks.zip us))
  | [], _, _, _ => by
    show KV ([] : List (Key × V)) ([] : List (Key × Value))
    exact .nil
  | _ :: _, _, _, .nil => by
    show KV ([] : List (Key × V)) ([] : List (Key × Value))
    exact .nil
  | k :: ks, _, _, .cons r t => .cons ⟨rfl, r⟩ (kv_zip t)
end
end My

namespace My
open PySem L2 PySem.Spec PyProof.Rows Sem
theorem pe_globE {X : Cx} {x : Str} {v : V} {pos : Pos} (hg : Gl X x) (h : ∃ u, X.mg x = some u ∧ RelV v u) (hdb : (x == ("__debug__" : Str)) = false := by decide) : PE X (.Name x pos) (tC v) := by
  obtain ⟨u, h1, h2⟩ := h
  exact pe_glob hg h1 h2 hdb
section
variable {X : Cx} {pins : List (Addr × Obj)} {σ : L2.St} {H : Hp} {s : Shared} {C f : Addr} {fd : FuncData} {m x qual : Str} {k : Nat} {st : Stmt} {N : List Str} {p : Arg} {ks : List Str}
theorem zip_keys : ∀ {ks : List Str} {us : List Value}, us.length = ks.length → (ks.zip us).map (·.1) = ks
  | [], _, _ => rfl
  | k :: ks, [], h => by simp at h
  | k :: ks, u :: us, h => by
    show k :: (ks.zip us).map (·.1) = _
    rw [zip_keys (by simpa using h)]
/-- the promise of such a def: where its dict will stand, the heap with it -/
abbrev SpK := List V → Hp → VK → Prop
theorem go_kw {zs : List V} {us : List Value} {Q : VK} (F : FunD X.K x qual (defArgs st) (defBody st) (defScope st) [] [] f fd) (S : FnScope N [p.arg] (defScope st)) (hp : defArgs st = { posonlyargs := [], args := [], vararg := none, kwonlyargs := [], kw_defaults := [], kwarg := some p, defaults := [] })
    (nd : ks.Nodup) (hz : ks.length ≤ 1000) (hr : RoomG (k + 1) X.A) (I : Inv X pins σ H s) (rz : Vals zs us) (hl : zs.length = ks.length)
    (hb : ∀ (cdv : Value) (s1 : Shared) (d : Addr), H d = none → RoomG k (X.A.deeper (envOfC qual (defScope st) s1.heap.objs.size f cdv)) → ∃ t, PSs (cxOf CX0 X.prog X.w X.K X.mg X.base N qual (defScope st) f cdv X.A X.stack s1 (L2.upd H d (.dK (keyV ks zs))) E0) (defBody st) t ∧
      t { nx := fun _ H' => Q .non H', rt := Q } (L2.start N [.ref d]) (L2.upd H d (.dK (keyV ks zs)))) :
    wpAny (model X.prog X.w) X.A (call (.ref f) [] (ks.zip us)) (EP X pins σ Q) X.xe s := by
  obtain ⟨oc, od, dV, kV, doc, pm, an, cdv, ct, osl, rfl, lk, hcd, hD, _⟩ := F.ex
  have dV0 : dV = .none := by
    rcases hD with ⟨_, z⟩ | ⟨z, _⟩
    · exact z
    · exact absurd rfl z
  subst dV0
  have hlu : us.length = ks.length := rz.length.symm.trans hl
  have ndz : ((ks.zip us).map (·.1)).Nodup := by
    rw [zip_keys hlu]
    exact nd
  have lz : (ks.zip us).length ≤ 1000 := by
    rw [List.length_zip]
    omega
  refine wpAny_call (codeAny_mono (R := fun r s' => match r with | .ok (.ret u) => EP X pins σ Q u s' | _ => False) ?_ fun r s' hq => ?_)
  · refine codeAny_call_function hr.r.depth (I.kIn _ _ lk) rfl S.co S.gen rfl (PySem.W.codeRec_of I.kIn hcd) (bind_kw (by exact hp) rfl ndz lz fun h' tk hd hk => ?_)
    have nH := I.hok.fresh (Nat.le_refl s.heap.objs.size)
    have rel : KV (keyV ks zs) (kwK (ks.zip us)) := kv_zip rz
    have zl : (keyV ks zs).length ≤ sizeLine := by
      unfold keyV
      rw [List.length_map, List.length_zip, sizeLine_eq]
      omega
    have I1 := I.laid (a := s.heap.objs.size) (t' := tk) hk (Nat.le_refl _) (o := .dK (keyV ks zs)) ⟨zl, beq_eq_false_iff_ne.mpr (Ne.symm (Nat.ne_of_lt I.big)), _, rel, hd⟩
    have e0 := I1.env0
    refine wpAny_newFunctionEnv_cells S.kind ?_ fun env he s1 xx => ?_
    · rintro ⟨n, v⟩ hy
      have hn : n = p.arg := (show n = p.arg ∧ v = Value.ref s.heap.objs.size by simpa using hy).1
      subst hn
      cases S.par _ (List.mem_singleton.mpr rfl) with
      | inl q => exact Or.inl q
      | inr q => exact Or.inr ⟨q, PySem.W.cellsFrom_some _ _ _ (Or.inl q)⟩
    · subst he
      refine ⟨(I1.nolimit).keeps xx.toInCall.keep, codeAny_func ?_⟩
      obtain ⟨t, ht, hq⟩ := hb cdv { s with heap := h', toks := tk } s.heap.objs.size nH ⟨hr.r.deeper _, hr.g⟩
      have I0 := inv_start (CX := CX0) (P := X.prog) (E := E0) (ps := [p.arg]) (us := [.ref s.heap.objs.size]) (vs := [.ref s.heap.objs.size]) S hr.r.hd e0 rfl (.cons rfl .nil) xx
      refine wpAny_mono (ht.run [] s1 (L2.start N [.ref s.heap.objs.size]) _ _ I0 hq) ?_ (fun _ _ z => ?_)
      · intro fl s' hs
        have fin : ∀ {u : Value} {v : V} {H' : Hp} {σ' : L2.St}, Inv (cxOf CX0 X.prog X.w X.K X.mg X.base N qual (defScope st) f cdv X.A X.stack { s with heap := h', toks := tk } (L2.upd H s.heap.objs.size (.dK (keyV ks zs))) E0) [] σ' H' s' → RelV v u → Q v H' → EP X pins σ Q u s' := fun {u v H' σ'} J rv q => I1.after ⟨v, H', J.os, J.bare, J.base, J.hok, rv, q⟩
        cases fl with
        | ret u => obtain ⟨v, σ', H', J, rv, q⟩ := hs; exact fin J rv q
        | next => obtain ⟨σ', H', J, q⟩ := hs; exact fin (v := V.non) J rfl q
        | brk => exact hs.elim fun _ z => z.elim fun _ y => y.2.elim
        | cont => exact hs.elim fun _ z => z.elim fun _ y => y.2.elim
      · exact z
  · cases r with
    | error e => exact (show False from hq).elim
    | ok fl => cases fl with
      | ret u => exact hq
      | next => exact (show False from hq).elim
      | brk => exact (show False from hq).elim
      | cont => exact (show False from hq).elim
/-- C.m(k = v, ..) -/
def tStaK (l : Nat) (sp : SpK) (tk : TA) : TE := fun σ H Q => tk σ H fun zs H1 => zs.length = l ∧ sp zs H1 Q
/-- a staticmethod with **kw by its class's name -/
structure StaK (P : Program) (w : World) (K : PySem.W.Frag) (mg : Str → Option Value) (base : Heap) (y : Str) (C : Addr) (m : Str) (k : Nat) (ks : List Str) (sp : SpK) : Prop where
  ex : ∃ (f : Addr) (fd : FuncData) (qual : Str) (st : Stmt) (N : List Str) (p : Arg), mg y = some (.ref C) ∧ StaM K C m f ∧ FunD K m qual (defArgs st) (defBody st) (defScope st) [] [] f fd ∧ FnScope N [p.arg] (defScope st) ∧
    defArgs st = { posonlyargs := [], args := [], vararg := none, kwonlyargs := [], kw_defaults := [], kwarg := some p, defaults := [] } ∧ ks.Nodup ∧ ks.length ≤ 1000 ∧
    ∀ (cdv : Value) (A : Around) (outer : List Env) (s1 : Shared) (H : Hp) (zs : List V) (Q : VK) (d : Addr), zs.length = ks.length → H d = none → sp zs H Q → RoomG k (A.deeper (envOfC qual (defScope st) s1.heap.objs.size f cdv)) →
      ∃ t, PSs (cxOf CX0 P w K mg base N qual (defScope st) f cdv A outer s1 (L2.upd H d (.dK (keyV ks zs))) E0) (defBody st) t ∧ t { nx := fun _ H' => Q .non H', rt := Q } (L2.start N [.ref d]) (L2.upd H d (.dK (keyV ks zs)))
theorem pe_staK {y : Str} {sp : SpK} {tk : TA} {kws : List Keyword} {p1 pos apos : Pos} {pl : Sem Bool} (D : StaK X.prog X.w X.K X.mg X.base y C m k ks sp) (hr : RoomG (k + 1) X.A) (hg : Gl X y) (hkw : PK X kws tk)
    (hall : (backToKw pos (keywordEach kws X.env)).all (·.1.isSome) = true := by rfl) (hks : (backToKw pos (keywordEach kws X.env)).filterMap (·.1) = ks := by rfl)
    (hpl : ((backTo pos (starEach [] X.env)).any (fun q => q.1) || (backToKw pos (keywordEach kws X.env)).any (fun q => q.1.isNone)) = false := by rfl)
    (h3 : eval (.Call (.Attribute (.Name y p1) m apos) [] kws pos) X.env = (do
      let v ← eval (.Name y p1) X.env
      standAt apos.atName
      let (g, fst) ← holding [v] (getMethod v m pl)
      callWith pos g fst (backTo pos (starEach [] X.env)) (backToKw pos (keywordEach kws X.env))) := by rfl) (hdb : (y == ("__debug__" : Str)) = false := by decide) : PE X (.Call (.Attribute (.Name y p1) m apos) [] kws pos) (tStaK ks.length sp tk) := by
  obtain ⟨f, fd, qual, st, N, p, hm, hS, F, S, hp, nd, hz, hb⟩ := D.ex
  constructor
  intro pins s σ H Q I h
  refine PySem.W.methodCall_KW (pl := pl) (ld_glob I hg hm ?_ hdb) h3
  refine getsta I hS fun s1 I1 => ?_
  refine PySem.W.callWith_KW0 (first := []) (h₀ := X.base) I1.ok.mod.kin hS.kp hall ?_ hpl
  refine thn (hkw.run pos pins s1 σ H _ I1 h) fun ws s2 ⟨zs, H2, I2, rz, l2, q2⟩ => ⟨I2.kIn, ?_⟩
  rw [hks]
  exact go_kw F S hp nd hz hr I2 rz l2 fun cdv s3 d nd' hr' => hb cdv X.A X.stack s3 H2 zs Q d l2 nd' q2 hr'
end
end My

namespace My
open PySem L2 PySem.Spec PyProof.Rows PySem.W
/-! ### an end by one run of the top -/
theorem walkGE {l : OpenLaw} {n k : Nat} {q : Program} {loose : List Str} {XP : (Str → Option Value) → Heap → Prop} {YP : World → Heap → Prop} {d : DefRec} {x : Str} (hn : l.most = some n) (hn2 : n ≤ sizeLine) (hdf : d.params.defaults = []) (hr : RoomG k callerA)
    (F : ∀ (w : World) (mg : Str → Option Value) (fa : Addr) (h : Heap), YP w h → h.Ns mainGlobals mg → mg d.name = some (.ref fa) → ∃ (K : Frag) (fd : FuncData) (sp : Sp), K.In h ∧ (∀ (s : Shared) (u : Value), BindsTo s fd ⟨[u], []⟩ [(x, u)]) ∧
      (∀ (H : Hp) (a : Addr) (ns : List Int), ns.length ≤ n → Only H → SqL K H a (ns.map V.int) → sp [.ref a] H (fun v _ => v = .bl true) E0) ∧ ∀ base : Heap, K.In base → base.Ns mainGlobals mg → FnG l.prog w K mg base CX0 k fa fd [x] sp) :
    WalkO q loose XP YP l.row.toRowW d [] (fun f vs => PySem.call f vs) := by
  refine Att.attach_call hn hdf ?_
  intro w s₀ s₁ mg mb fa o pm cd doc a vs ns G Y ho hd hcd hmg hobj hints hlen hg
  obtain ⟨K, fd, sp, KX, hb, hsp, hF⟩ := F w mg fa _ Y G.T.g hmg
  exact lawG KX G.T.g G.T.b G.T.builtins G.T.nolimit hg hobj hints (Nat.le_trans hlen hn2) hr hF hb fun H h1 h2 => hsp H a ns hlen h1 h2
/-! ### the facts of an exception class as one test -/
theorem exfB_ok {K : Frag} {C : Addr} {mro : List Value} {newId : String} (h : exfB K C mro newId = true) : ∃ (nm qn : Str) (bs sb : List Value) (ns : Addr) (sn : List Str) (ab : Bool) (co : Option Bool) (dd : Option Addr) (k0 k1 k2 k3 k5 : Option Value),
    K.lookup C = some ⟨.type "type", dd, .cls ⟨nm, bs, mro, ns, qn, true, sn, sb, ab, co, false⟩, #[k0, k1, k2, k3, some (.builtin newId), k5]⟩ := by
  unfold exfB at h
  split at h
  · rename_i c dd cd sl e
    simp only [Bool.and_eq_true, decide_eq_true_eq, Bool.not_eq_true'] at h
    obtain ⟨h1, h2, h3, h4, h5, h6⟩ := h
    obtain ⟨nm, bs, mr, ns, qn, hd, sn, sb, ab, co, hl⟩ := cd
    obtain ⟨l⟩ := sl
    dsimp only at h1 h2 h3 h4 h5 h6
    subst h1
    subst h2
    subst h3
    subst h4
    match l, h5, h6 with
    | [a0, a1, a2, a3, a4, a5], _, h6 =>
      have e4 : a4 = some (.builtin newId) := Option.some.inj h6
      subst e4
      exact ⟨nm, qn, bs, sb, ns, sn, ab, co, dd, a0, a1, a2, a3, a5, e⟩
  · cases h
theorem excB_ok {K : Frag} {C : Addr} {mro : List Value} {newId : String} (h : excB K C mro newId = true) : ExF K C mro newId := by
  unfold excB eqO at h
  simp only [Bool.and_eq_true, decide_eq_true_eq] at h
  obtain ⟨h1, h2, h3, h4, h5, h6, h7⟩ := h
  exact ⟨exfB_ok h1, h2, h3, h4, h5, h6, h7⟩
theorem iniB_ok {K : Frag} {C : Addr} (h : iniB K C = true) : findIn K (.ref C) "__init__" = some (some (.ref (He.ma K C "__init__"))) ∧ isFn K (.ref (He.ma K C "__init__")) = true := by
  unfold iniB eqO at h
  simp only [Bool.and_eq_true, decide_eq_true_eq] at h
  exact h
/-- tests one behind the other, each found again by its place -/
theorem all_at {ts : List Bool} (h : (ts.all id) = true) (i : Nat) {b : Bool} (e : ts[i]? = some b) : b = true := by
  exact List.all_eq_true.mp h b (List.mem_of_getElem? e)
end My

namespace My
open PySem L2 PySem.Spec PyProof.Rows PySem.W
/-! ### defs that stand elsewhere: a staticmethod's, a property's -/
theorem funA {K : Frag} {a : Addr} {d : He.DefD} (e : fnA K a = d.val) (c : okA K a d = true) : ∃ fd, FunD K d.name d.qual d.params d.body d.scope (d.dvs K) (d.kws K) a fd := by
  obtain ⟨kp, c2⟩ := He.ba c
  unfold fnA at e
  cases q : K.lookup a with
  | none =>
    rw [q] at c2
    cases c2
  | some o =>
    obtain ⟨oc, od, dt, osl⟩ := o
    rw [q] at c2 e
    cases dt with
    | func fd =>
      obtain ⟨n1, n2, n3, n4, n5, n6, n7, n8, n9, n10, n11, n12, n13, n14, n15⟩ := fd
      have e2 : (some (n1, n2, n3, n4, n5, n6, n7, n15) : He.FnW) = some (d.name, d.qual, d.params, .stmts d.body, d.scope, mainGlobals, [], builtinsNs) := e
      simp only [Option.some.injEq, Prod.mk.injEq] at e2
      obtain ⟨h1, h2, h3, h4, h5, h6, h7, h8⟩ := e2
      subst h1 h2 h3 h4 h5 h6 h7 h8
      obtain ⟨k1, k2⟩ := He.ba (show (codeIn K n13 d.qual && (He.dflB K n8 (d.dvs K) && He.kwdB K n9 (d.kws K))) = true from c2)
      obtain ⟨k3, k4⟩ := He.ba k2
      exact ⟨_, ⟨oc, od, n8, n9, n10, n11, n12, n13, n14, osl, rfl, q, k1, He.dflB_ok k3, He.kwdB_ok k4⟩, kp⟩
    | _ => cases c2
section
variable {fa : List He.Fa} {fn : List He.DefD} {ad : List AtD} {ex : Frag → Bool} {K : Frag}
theorem SaysY.d (c : SaysY fa fn ad ex K) : He.SaysD fa fn K := congrArg (fun z : AlY => z.1) c
theorem SaysY.more (c : SaysY fa fn ad ex K) : ex K = true ∧ (ad.all fun d => okA K (d.1 K) d.2) = true := He.ba (congrArg (fun z : AlY => z.2.1) c)
theorem SaysY.at_ (c : SaysY fa fn ad ex K) (i : Nat) {d : AtD} (h : ad[i]? = some d) : ∃ fd, FunD K d.2.name d.2.qual d.2.params d.2.body d.2.scope (d.2.dvs K) (d.2.kws K) (d.1 K) fd := by
  have e : (ad.map fun d => fnA K (d.1 K)) = ad.map fun d => d.2.val := congrArg (fun z : AlY => z.2.2) c
  have e2 := congrArg (fun l => l[i]?) e
  simp only [List.getElem?_map, h, Option.map_some, Option.some.injEq] at e2
  exact funA e2 (List.all_eq_true.mp c.more.2 d (List.mem_of_getElem? h))
end
/-! ### staticmethods -/
theorem staB_ok {K : Frag} {C : Addr} {m : Str} (h : staB K C m = true) : StaM K C m (staF K C m) := by
  obtain ⟨h1, h2⟩ := He.ba h
  obtain ⟨h3, h4⟩ := He.ba h2
  have h5 : specialIn K (.ref C) "__getattribute__" = some (some (.builtin "type.__getattribute__")) := of_decide_eq_true h3
  have key : ∀ g p o t, findCls K (.ref C) (.type "type") m = some (.get g (.ref p) o t) → StaM K C m (staF K C m) := by
    intro g p o t e
    have ep : staP K C m = p := by
      unfold staP
      rw [e]
    rw [e] at h4
    obtain ⟨k1, k2⟩ := He.ba (show (decide (g = .builtin "staticmethod.__get__") && _) = true from h4)
    obtain ⟨k3, k4⟩ := He.ba k2
    obtain ⟨k5, k6⟩ := He.ba k4
    have g1 := of_decide_eq_true k1
    have g2 := of_decide_eq_true k3
    have g3 := of_decide_eq_true k5
    subst g1
    subst g2
    subst g3
    rw [ep] at k6
    split at k6
    · rename_i f rest er
      have ef : staF K C m = f := by
        unfold staF
        rw [ep, er]
      rw [ef]
      rw [ef] at k6
      exact ⟨⟨_, p, rest, h1, h5, e, er⟩, k6⟩
    · cases k6
  revert h4
  split
  · rename_i g p o t e
    intro _
    exact key g p o t e
  · intro z
    cases z
theorem int_okE {K : Frag} {h : Heap} {mg : Str → Option Value} (X : K.In h) (G : h.Ns mainGlobals mg) {x : Str} {i : Int} (c : (He.Fa.int x i).ok K = true) : ∃ u, mg x = some u ∧ RelV (.int i) u := by
  obtain ⟨t, e⟩ := He.int_ok X G c
  exact ⟨_, e, ⟨t, rfl⟩⟩
theorem str_okE {K : Frag} {h : Heap} {mg : Str → Option Value} (X : K.In h) (G : h.Ns mainGlobals mg) {x z : Str} (c : (He.Fa.str x z).ok K = true) : ∃ u, mg x = some u ∧ RelV (.str z) u := by
  obtain ⟨t, e⟩ := He.str_ok X G c
  exact ⟨_, e, ⟨t, rfl⟩⟩
/-- an own object's class, as isinstance sees it -/
theorem ins_ok {K : Frag} {C : Addr} (k : Cls K C) (ha : findIn K (.ref C) "__class__" = some (some (.builtin "object.__class__"))) (hn : specialIn K (.builtin "object.__class__") "__get__" = some (some (.builtin "getset_descriptor.__get__"))) (ht : takesIn K (.builtin "object.__class__") = some true)
    (hm : mroIn K C (.type "object") = some true) : ∀ {H : Hp} {a dx : Addr} {fs : List (Str × V)}, H a = some (.ins C dx fs) → TyOf K H (.ref a) (.ref C) := fun e => .ins e k ha hn ht hm
end My

namespace My
open PySem L2 PySem.Spec PyProof.Rows PySem.W
/-! ### displays over a dict's keys, over texts -/
theorem dc_it {J : It} {n : Nat} {G : Hp → Prop} {Y : Nat → Hp → V → Hp → Prop} (w : Walk J n G Y) {g : TG} {tt : TT} {tk tv : TE} {vs : List Nat} {σ : L2.St} {H1 : Hp} {D : Addr} {Qd : Hp → Prop} (Pv : Nat → Hp → Prop) (h0 : Pv 0 (L2.upd H1 D (.dK []))) (hG : ∀ i H, i ≤ n → Pv i H → G H)
    (hs : ∀ i x H H', i < n → Pv i H → Y i H x H' → g x (wipe σ vs) H' fun σ2 H2 => wipe σ2 vs = wipe σ vs ∧ tt σ2 H2 fun b H3 =>
      if b = true then tk σ2 H3 fun y H4 => tv σ2 H4 fun z H5 => ∃ kvs k, y = kV k ∧ H5 D = some (.dK kvs) ∧ kvs.length < sizeLine ∧ Pv (i + 1) (L2.upd H5 D (.dK (putK kvs k z))) else Pv (i + 1) H3) (hd : ∀ H, Pv n H → Qd H) :
    ∃ W : Nat → Nat → Hp → Prop, (∃ m, W 0 m (L2.upd H1 D (.dK []))) ∧ ∀ i m H, W i m H →
      (J.stop i H ∧ Qd H) ∨ (J.go i H ∧ ∃ Nx : Hp → Prop, (∀ H', Nx H' → ∃ m', m' < m ∧ W (i + 1) m' H') ∧ ∀ x H', J.yld i H x H' → g x (wipe σ vs) H' fun σ2 H2 => wipe σ2 vs = wipe σ vs ∧ tt σ2 H2 fun b H3 =>
        if b = true then tk σ2 H3 fun y H4 => tv σ2 H4 fun z H5 => ∃ kvs k, y = kV k ∧ H5 D = some (.dK kvs) ∧ kvs.length < sizeLine ∧ Nx (L2.upd H5 D (.dK (putK kvs k z))) else Nx H3) := by
  refine ⟨fun i m H => m = n - i ∧ (i ≤ n ∧ Pv i H), ⟨n, ⟨by simp, Nat.zero_le _, h0⟩⟩, fun i m H hW => ?_⟩
  obtain ⟨rfl, hi, p⟩ := hW
  have q := hG i H hi p
  rcases Nat.lt_or_ge i n with hlt | hge
  · exact .inr ⟨w.goes i H hlt q, Pv (i + 1), fun H' p' => ⟨n - (i + 1), by omega, ⟨rfl, hlt, p'⟩⟩, fun x H' y => hs i x H H' hlt p (w.yields i H x H' hlt q y)⟩
  · obtain rfl : i = n := Nat.le_antisymm hi hge
    exact .inl ⟨w.stops H q, hd H p⟩
theorem putK_new {κ : Type} [DecidableEq κ] {kvs : List (κ × V)} {k : κ} {v : V} (h : ∀ p ∈ kvs, p.1 ≠ k) : putK kvs k v = kvs ++ [(k, v)] := by
  unfold putK
  rw [if_neg]
  intro z
  obtain ⟨p, hp, e⟩ := List.any_eq_true.mp z
  exact h p hp (of_decide_eq_true e)
theorem dk_append (a b : List (Str × Int)) : dk (a ++ b) = dk a ++ dk b := List.map_append
theorem dk_at {d : List (Str × Int)} {i : Nat} {k : Key} {v : V} (h : (dk d)[i]? = some (k, v)) : ∃ p, d[i]? = some p ∧ k = .inr p.1 := by
  unfold dk at h
  rw [List.getElem?_map] at h
  cases e : d[i]? with
  | none => rw [e] at h; cases h
  | some p =>
    rw [e] at h
    have h2 := Option.some.inj h
    exact ⟨p, rfl, (congrArg Prod.fst h2).symm⟩
/-- one more, at its end, in the dict of the first i -/
theorem putK_dk {d : List (Str × Int)} {i : Nat} {p : Str × Int} (nd : (d.map (·.1)).Nodup) (h : d[i]? = some p) : putK (dk (d.take i)) (.inr p.1) (.int p.2) = dk (d.take (i + 1)) := by
  rw [putK_new]
  · rw [List.take_add_one, h, dk_append]
    rfl
  · intro q hq e
    obtain ⟨r, hr, rfl⟩ := List.mem_map.mp hq
    have e2 : r.1 = p.1 := Sum.inr.inj e
    obtain ⟨j, hj, ej⟩ := List.getElem_of_mem hr
    rw [List.length_take] at hj
    obtain ⟨hi, ei⟩ := List.getElem?_eq_some_iff.mp h
    have hj2 : j < d.length := by omega
    rw [List.getElem_take] at ej
    have hne := (List.nodup_iff_pairwise_ne.mp nd)
    have := List.pairwise_iff_getElem.mp hne j i (by simpa using hj2) (by simpa using hi) (by omega)
    simp only [List.getElem_map] at this
    rw [ej, ei] at this
    exact this e2
section
variable {K : PySem.W.Frag} {d : List (Str × Int)} {q : Addr} {g : TG} {te tk tv td : TE} {vs : List Nat} {σ : L2.St} {H : Hp} {Q : VK}
/-- [e for k in d]: Rel by the list's place, the turn, the value -/
theorem lock_lcR (Rel : Addr → Nat → V → Hp → Prop) (hq : H q = some (.dK (dk d))) (hl : d.length < 1000)
    (hm : ∀ D i v H1 H2, (∀ x o, x ≠ q → x ≠ D → H1 x = some o → H2 x = some o) → Rel D i v H1 → Rel D i v H2)
    (ht : ∀ (H' : Hp) (R : VK), (∀ x, x ≠ q → H' x = H x) → R (.ref q) H' → td σ H' R)
    (hs : ∀ (od : Obj) (D : Addr) (i : Nat) (p : Str × Int) (H' : Hp) (R : VK) (F : Hp → Prop), d[i]? = some p → H D = none → D ≠ q → H' q = some (.frz od (.dK (dk d))) → (∀ x o, x ≠ q → H x = some o → H' x = some o) → H' D ≠ none →
      (∀ v H5, L2.Same H' H5 → Rel D i v H5 → R v H5) → g (.str p.1) (wipe σ vs) H' fun σ2 H2 => wipe σ2 vs = wipe σ vs ∧ tYes σ2 H2 fun b H3 => if b = true then te σ2 H3 R else F H3)
    (hQ : ∀ D H' xs, H D = none → L2.Same H H' → H' D = some (.lst xs) → xs.length = d.length → (∀ i v, xs[i]? = some v → Rel D i v H') → Q (.ref D) H') : tLockE (tLc (iKeys td) g tYes te vs) σ H Q := by
  refine ⟨q, _, hq, True.intro, fun od => ?_⟩
  refine s_lc ?_
  refine ht _ _ (fun x e => upd_ne e) ?_
  refine ⟨q, od, rfl, .inl ⟨_, upd_same, fun D nD => ?_⟩⟩
  have hDq : D ≠ q := fun e => by
    rw [e, upd_same] at nD
    cases nD
  have nD0 : H D = none := by
    rw [upd_ne hDq] at nD
    exact nD
  refine L2.lc_it walk_keys (fun i H' => H' q = some (.frz od (.dK (dk d))) ∧ (∀ x o, x ≠ q → H x = some o → H' x = some o) ∧ ∃ xs, H' D = some (.lst xs) ∧ xs.length = i ∧ ∀ j v, xs[j]? = some v → Rel D j v H') ?_ (fun _ _ _ h => h.1) ?_ ?_
  · refine ⟨(upd_ne hDq.symm).trans upd_same, fun x o hx e => ?_, [], upd_same, rfl, fun j v e => by cases e⟩
    have hxD : x ≠ D := fun z => by
      rw [z, nD0] at e
      cases e
    exact (upd_ne hxD).trans ((upd_ne hx).trans e)
  · rintro i x H1 H2 hi ⟨h1, h2, xs, hD, hlen, hr⟩ ⟨rfl, k, v, hk, rfl⟩
    obtain ⟨p, hp, rfl⟩ := dk_at hk
    refine hs od D i p H2 _ _ hp nD0 hDq h1 h2 (by rw [hD]; simp) (fun y H5 s5 r5 => ⟨xs, s5 _ _ hD, ?_, ?_⟩)
    · rw [dk_length] at hi
      rw [sizeLine_eq]
      omega
    · have up : ∀ x o, x ≠ q → x ≠ D → H5 x = some o → (L2.upd H5 D (.lst (xs ++ [y]))) x = some o := fun x o _ hx e => (upd_ne hx).trans e
      refine ⟨(upd_ne hDq.symm).trans (s5 _ _ h1), fun x o hx e => ?_, _, upd_same, by rw [List.length_append, hlen]; rfl, fun j z ez => ?_⟩
      · have hxD : x ≠ D := fun z => by
          rw [z, nD0] at e
          cases e
        exact (upd_ne hxD).trans (s5 _ _ (h2 x o hx e))
      · rcases Nat.lt_or_ge j xs.length with hj | hj
        · rw [List.getElem?_append_left hj] at ez
          exact hm D j z _ _ up (hm D j z _ _ (fun x o _ _ e => s5 x o e) (hr j z ez))
        · rw [List.getElem?_append_right hj] at ez
          have ej : j = i := by
            rcases Nat.eq_or_lt_of_le hj with e | e
            · omega
            · rw [List.getElem?_eq_none (by simp; omega)] at ez
              cases ez
          subst ej
          rw [hlen, Nat.sub_self] at ez
          have e2 : y = z := Option.some.inj ez
          subst e2
          exact hm D j y _ _ up r5
  · rintro H1 ⟨h1, h2, xs, hD, hlen, hr⟩
    refine ⟨h1, hQ D _ xs nD0 (fun x o e => ?_) ((upd_ne hDq).trans hD) (hlen.trans (dk_length d)) fun i v e => hm D i v _ _ (fun x o hx _ e => (upd_ne hx).trans e) (hr i v e)⟩
    by_cases hx : x = q
    · subst hx
      rw [upd_same, ← hq]
      exact e
    · exact (upd_ne hx).trans (h2 x o hx e)
/-- .. whose values are no new things -/
theorem lock_lc (f : Str × Int → V) (hq : H q = some (.dK (dk d))) (hl : d.length < 1000)
    (ht : ∀ (H' : Hp) (R : VK), (∀ x, x ≠ q → H' x = H x) → R (.ref q) H' → td σ H' R)
    (hs : ∀ (od : Obj) (D : Addr) (i : Nat) (p : Str × Int) (H' : Hp) (R : VK) (F : Hp → Prop), d[i]? = some p → H D = none → D ≠ q → H' q = some (.frz od (.dK (dk d))) → (∀ x o, x ≠ q → H x = some o → H' x = some o) → H' D ≠ none →
      (∀ H5, L2.Same H' H5 → R (f p) H5) → g (.str p.1) (wipe σ vs) H' fun σ2 H2 => wipe σ2 vs = wipe σ vs ∧ tYes σ2 H2 fun b H3 => if b = true then te σ2 H3 R else F H3)
    (hQ : ∀ D H', H D = none → L2.Same H H' → H' D = some (.lst (d.map f)) → Q (.ref D) H') : tLockE (tLc (iKeys td) g tYes te vs) σ H Q := by
  refine lock_lcR (fun _ i v _ => d[i]?.map f = some v) hq hl (fun _ _ _ _ _ _ h => h) ht (fun od D i p H' R F h1 h2 h3 h4 h5 h6 h7 => hs od D i p H' R F h1 h2 h3 h4 h5 h6 fun H5 s5 => h7 _ H5 s5 (by rw [h1]; rfl)) fun D H' xs h1 h2 h3 h4 h5 => hQ D H' h1 h2 ?_
  rw [h3]
  congr 2
  refine List.ext_getElem (by rw [h4, List.length_map]) fun i hi hj => ?_
  have := h5 i xs[i] (List.getElem?_eq_getElem hi)
  rw [List.getElem?_eq_getElem (by rw [← h4]; exact hi)] at this
  rw [List.getElem_map]
  exact (Option.some.inj this).symm
/-- {k: e for k in d} -/
theorem lock_dc (f : Str × Int → Int) (hq : H q = some (.dK (dk d))) (hl : d.length < 1000) (nd : (d.map (·.1)).Nodup)
    (ht : ∀ (H' : Hp) (R : VK), (∀ x, x ≠ q → H' x = H x) → R (.ref q) H' → td σ H' R)
    (hs : ∀ (od : Obj) (D : Addr) (i : Nat) (p : Str × Int) (H' : Hp) (R : V → V → Hp → Prop) (F : Hp → Prop), d[i]? = some p → H D = none → D ≠ q → H' q = some (.frz od (.dK (dk d))) → (∀ x o, x ≠ q → H x = some o → H' x = some o) → H' D ≠ none →
      (∀ H5, L2.Same H' H5 → R (.str p.1) (.int (f p)) H5) → g (.str p.1) (wipe σ vs) H' fun σ2 H2 => wipe σ2 vs = wipe σ vs ∧ tYes σ2 H2 fun b H3 => if b = true then tk σ2 H3 fun y H4 => tv σ2 H4 fun z H5 => R y z H5 else F H3)
    (hQ : ∀ D H', H D = none → L2.Same H H' → H' D = some (.dK (dk (d.map fun p => (p.1, f p)))) → Q (.ref D) H') : tLockE (tDc (iKeys td) g tYes tk tv vs) σ H Q := by
  refine ⟨q, _, hq, True.intro, fun od => ?_⟩
  refine ht _ _ (fun x e => upd_ne e) ?_
  refine ⟨q, od, rfl, .inl ⟨_, upd_same, fun D nD => ?_⟩⟩
  have hDq : D ≠ q := fun e => by
    rw [e, upd_same] at nD
    cases nD
  have nD0 : H D = none := by
    rw [upd_ne hDq] at nD
    exact nD
  have nd2 : ((d.map fun p => (p.1, f p)).map (·.1)).Nodup := by
    rw [List.map_map]
    exact nd
  refine dc_it walk_keys (fun i H' => H' q = some (.frz od (.dK (dk d))) ∧ (∀ x o, x ≠ q → H x = some o → H' x = some o) ∧ H' D = some (.dK (dk ((d.map fun p => (p.1, f p)).take i)))) ?_ (fun _ _ _ h => h.1) ?_ ?_
  · refine ⟨(upd_ne hDq.symm).trans upd_same, fun x o hx e => ?_, upd_same⟩
    have hxD : x ≠ D := fun z => by
      rw [z, nD0] at e
      cases e
    exact (upd_ne hxD).trans ((upd_ne hx).trans e)
  · rintro i x H1 H2 hi ⟨h1, h2, hD⟩ ⟨rfl, k, v, hk, rfl⟩
    obtain ⟨p, hp, rfl⟩ := dk_at hk
    refine hs od D i p H2 (fun y z H5 => ∃ kvs k, y = kV k ∧ H5 D = some (.dK kvs) ∧ kvs.length < sizeLine ∧ _) _ hp nD0 hDq h1 h2 (by rw [hD]; simp) (fun H5 s5 => ⟨_, .inr p.1, rfl, s5 _ _ hD, ?_, ?_⟩)
    · rw [dk_length, List.length_take, List.length_map, sizeLine_eq]
      omega
    · rw [putK_dk (p := (p.1, f p)) nd2 (by rw [List.getElem?_map, hp]; rfl)]
      refine ⟨(upd_ne hDq.symm).trans (s5 _ _ h1), fun x o hx e => ?_, upd_same⟩
      have hxD : x ≠ D := fun z => by
        rw [z, nD0] at e
        cases e
      exact (upd_ne hxD).trans (s5 _ _ (h2 x o hx e))
  · rintro H1 ⟨h1, h2, hD⟩
    rw [dk_length, List.take_of_length_le (by rw [List.length_map]; exact Nat.le_refl _)] at hD
    refine ⟨h1, hQ D _ nD0 (fun x o e => ?_) ((upd_ne hDq).trans hD)⟩
    by_cases hx : x = q
    · subst hx
      rw [upd_same, ← hq]
      exact e
    · exact (upd_ne hx).trans (h2 x o hx e)
theorem s_tdc {wi : TI} {tt : TT} (h : wi σ H fun J H1 => ∀ D, H1 D = none → ∃ W : Nat → Nat → Hp → Prop, (∃ m, W 0 m (L2.upd H1 D (.dK []))) ∧ ∀ i m H, W i m H →
  (J.stop i H ∧ Q (.ref D) H) ∨ (J.go i H ∧ ∃ Nx : Hp → Prop, (∀ H', Nx H' → ∃ m', m' < m ∧ W (i + 1) m' H') ∧ ∀ x H', J.yld i H x H' → g x (wipe σ vs) H' fun σ2 H2 => wipe σ2 vs = wipe σ vs ∧ tt σ2 H2 fun b H3 =>
    if b = true then tk σ2 H3 fun y H4 => tv σ2 H4 fun z H5 => ∃ kvs k, y = kV k ∧ H5 D = some (.dK kvs) ∧ kvs.length < sizeLine ∧ Nx (L2.upd H5 D (.dK (putK kvs k z))) else Nx H3)) : tDc wi g tt tk tv vs σ H Q := h
/-- {y: e for y in ys}, ys texts of which Cond holds -/
theorem list_dc {ta : TE} (Cond : List Str → Prop) (f : Str → Int) (hc : ∀ ys, Cond ys → ys.length < 1000 ∧ ys.Nodup)
    (ht : ∀ R : VK, (∀ ys p H', Cond ys → SqL K H' p (ys.map V.str) → L2.Same H H' → R (.ref p) H') → ta σ H R)
    (hs : ∀ (ys : List Str) (D : Addr) (i : Nat) (y : Str) (H' : Hp) (R : V → V → Hp → Prop) (F : Hp → Prop), Cond ys → ys[i]? = some y → H D = none → L2.Same H H' → H' D ≠ none →
      (∀ H5, L2.Same H' H5 → R (.str y) (.int (f y)) H5) → g (.str y) (wipe σ vs) H' fun σ2 H2 => wipe σ2 vs = wipe σ vs ∧ tYes σ2 H2 fun b H3 => if b = true then tk σ2 H3 fun y H4 => tv σ2 H4 fun z H5 => R y z H5 else F H3)
    (hQ : ∀ ys D H', Cond ys → H D = none → L2.Same H H' → H' D = some (.dK (dk (ys.map fun y => (y, f y)))) → Q (.ref D) H') : tDc (iList K ta) g tYes tk tv vs σ H Q := by
  refine ht _ fun ys p H0 cy e0 s0 => ?_
  obtain ⟨hl, nd⟩ := hc ys cy
  refine ⟨p, rfl, ⟨_, e0⟩, fun D nD => ?_⟩
  have nD0 : H D = none := L2.Same.free s0 nD
  have nd2 : ((ys.map fun y => (y, f y)).map (·.1)).Nodup := by
    rw [List.map_map]
    exact (List.map_id'' (fun _ => rfl) ys).symm ▸ nd
  refine dc_it (walk_list (xs := ys.map V.str)) (fun i H' => L2.Same H0 H' ∧ H' D = some (.dK (dk ((ys.map fun y => (y, f y)).take i)))) ⟨My.Same.new nD, upd_same⟩ (fun _ _ _ h => L2.Same.seq h.1 e0) ?_ ?_
  · rintro i x H1 H2 hi ⟨h2, hD⟩ ⟨rfl, hx⟩
    rw [List.getElem?_map] at hx
    cases ey : ys[i]? with
    | none => rw [ey] at hx; cases hx
    | some y =>
      rw [ey] at hx
      cases hx
      refine hs ys D i y H2 (fun y z H5 => ∃ kvs k, y = kV k ∧ H5 D = some (.dK kvs) ∧ kvs.length < sizeLine ∧ _) _ cy ey nD0 (My.Same.tr s0 h2) (by rw [hD]; simp) (fun H5 s5 => ⟨_, .inr y, rfl, s5 _ _ hD, ?_, ?_⟩)
      · rw [dk_length, List.length_take, List.length_map, sizeLine_eq]
        omega
      · rw [putK_dk (p := (y, f y)) nd2 (by rw [List.getElem?_map, ey]; rfl)]
        exact ⟨My.Same.at_ nD (My.Same.tr h2 s5), upd_same⟩
  · rintro H1 ⟨h2, hD⟩
    rw [List.length_map, List.take_of_length_le (by rw [List.length_map]; exact Nat.le_refl _)] at hD
    exact hQ ys D _ cy nD0 (My.Same.tr s0 h2) hD
/-- [e for x in xs], xs at a -/
theorem list_lcW {a D : Addr} {xs : List V} {H1 : Hp} {Qd : Hp → Prop} (Rel : Nat → V → Hp → Prop) (e0 : SqL K H1 a xs) (nD : H1 D = none) (hl : xs.length < 1000)
    (hm : ∀ i v H H', (∀ x o, x ≠ D → H x = some o → H' x = some o) → Rel i v H → Rel i v H')
    (hs : ∀ (i : Nat) (x : V) (H' : Hp) (R : VK) (F : Hp → Prop), xs[i]? = some x → L2.Same H1 H' → H' D ≠ none → (∀ v H5, L2.Same H' H5 → Rel i v H5 → R v H5) →
      g x (wipe σ vs) H' fun σ2 H2 => wipe σ2 vs = wipe σ vs ∧ tYes σ2 H2 fun b H3 => if b = true then te σ2 H3 R else F H3)
    (hQ : ∀ H' zs, L2.Same H1 H' → H' D = some (.lst zs) → zs.length = xs.length → (∀ i v, zs[i]? = some v → Rel i v H') → Qd H') :
    ∃ W : Nat → Nat → Hp → Prop, (∃ m, W 0 m (L2.upd H1 D (.lst []))) ∧ ∀ i m H, W i m H →
      ((Itl K a).stop i H ∧ Qd H) ∨ ((Itl K a).go i H ∧ ∃ Nx : Hp → Prop, (∀ H', Nx H' → ∃ m', m' < m ∧ W (i + 1) m' H') ∧ ∀ x H', (Itl K a).yld i H x H' → g x (wipe σ vs) H' fun σ2 H2 => wipe σ2 vs = wipe σ vs ∧ tYes σ2 H2 fun b H3 =>
        if b = true then te σ2 H3 fun y H4 => ∃ acc, H4 D = some (.lst acc) ∧ acc.length < sizeLine ∧ Nx (L2.upd H4 D (.lst (acc ++ [y]))) else Nx H3) := by
  refine L2.lc_it (walk_list (xs := xs)) (fun i H' => L2.Same H1 H' ∧ ∃ zs, H' D = some (.lst zs) ∧ zs.length = i ∧ ∀ j v, zs[j]? = some v → Rel j v H') ⟨My.Same.new nD, [], upd_same, rfl, fun j v e => by cases e⟩ (fun _ _ _ h => L2.Same.seq h.1 e0) ?_ ?_
  · rintro i x H0 H2 hi ⟨h2, zs, hD, hlen, hr⟩ ⟨rfl, hx⟩
    refine hs i x H2 _ _ hx h2 (by rw [hD]; simp) (fun y H5 s5 r5 => ⟨zs, s5 _ _ hD, ?_, ?_⟩)
    · rw [sizeLine_eq]
      omega
    · have up : ∀ x o, x ≠ D → H5 x = some o → (L2.upd H5 D (.lst (zs ++ [y]))) x = some o := fun x o hx e => (upd_ne hx).trans e
      refine ⟨My.Same.at_ nD (My.Same.tr h2 s5), _, upd_same, by rw [List.length_append, hlen]; rfl, fun j z ez => ?_⟩
      rcases Nat.lt_or_ge j zs.length with hj | hj
      · rw [List.getElem?_append_left hj] at ez
        exact hm j z _ _ up (hm j z _ _ (fun x o _ e => s5 x o e) (hr j z ez))
      · rw [List.getElem?_append_right hj] at ez
        have ej : j = i := by
          rcases Nat.eq_or_lt_of_le hj with e | e
          · omega
          · rw [List.getElem?_eq_none (by simp; omega)] at ez
            cases ez
        subst ej
        rw [hlen, Nat.sub_self] at ez
        have e2 : y = z := Option.some.inj ez
        subst e2
        exact hm j y _ _ up r5
  · rintro H0 ⟨h2, zs, hD, hlen, hr⟩
    exact hQ H0 zs h2 hD hlen hr
/-- .. whose values are no new things -/
theorem list_lcF {a D : Addr} {xs : List V} {H1 : Hp} {Qd : Hp → Prop} (f : Nat → V) (e0 : SqL K H1 a xs) (nD : H1 D = none) (hl : xs.length < 1000)
    (hs : ∀ (i : Nat) (x : V) (H' : Hp) (R : VK) (F : Hp → Prop), xs[i]? = some x → L2.Same H1 H' → H' D ≠ none → (∀ H5, L2.Same H' H5 → R (f i) H5) →
      g x (wipe σ vs) H' fun σ2 H2 => wipe σ2 vs = wipe σ vs ∧ tYes σ2 H2 fun b H3 => if b = true then te σ2 H3 R else F H3)
    (hQ : ∀ H', L2.Same H1 H' → H' D = some (.lst ((List.range xs.length).map f)) → Qd H') :
    ∃ W : Nat → Nat → Hp → Prop, (∃ m, W 0 m (L2.upd H1 D (.lst []))) ∧ ∀ i m H, W i m H →
      ((Itl K a).stop i H ∧ Qd H) ∨ ((Itl K a).go i H ∧ ∃ Nx : Hp → Prop, (∀ H', Nx H' → ∃ m', m' < m ∧ W (i + 1) m' H') ∧ ∀ x H', (Itl K a).yld i H x H' → g x (wipe σ vs) H' fun σ2 H2 => wipe σ2 vs = wipe σ vs ∧ tYes σ2 H2 fun b H3 =>
        if b = true then te σ2 H3 fun y H4 => ∃ acc, H4 D = some (.lst acc) ∧ acc.length < sizeLine ∧ Nx (L2.upd H4 D (.lst (acc ++ [y]))) else Nx H3) := by
  refine list_lcW (fun i v _ => f i = v) e0 nD hl (fun _ _ _ _ _ h => h) (fun i x H' R F h1 h2 h3 h7 => hs i x H' R F h1 h2 h3 fun H5 s5 => h7 _ H5 s5 rfl) (fun H' zs h2 h3 h4 h5 => hQ H' h2 ?_)
  rw [h3]
  congr 2
  refine List.ext_getElem (by simp [h4]) fun i hi hj => ?_
  have := h5 i zs[i] (List.getElem?_eq_getElem hi)
  rw [List.getElem_map, List.getElem_range]
  exact this.symm
theorem s_tdget {td ty : TE} (h : td σ H fun x H1 => ty σ H1 fun y H2 => ∃ a v, x = .ref a ∧ DGet H2 a y (some v) ∧ Q v H2) : tDGet td ty σ H Q := h
theorem s_tdin {td ty : TE} (h : ty σ H fun y H1 => td σ H1 fun x H2 => ∃ a o, x = .ref a ∧ DGet H2 a y o ∧ Q (.bl o.isSome) H2) : tDIn ty td σ H Q := h
theorem s_din {P : V → Prop} {a : Addr} {k : Str} (h : Rd H a (.dK (dk d))) (q : P (.bl (look d k).isSome)) : ∃ b o, V.ref a = .ref b ∧ DGet H b (.str k) o ∧ P (.bl o.isSome) :=
  ⟨a, (look d k).map V.int, rfl, .inl ⟨_, .inr k, h, rfl, by rw [valV_dk]⟩, by rw [Option.isSome_map]; exact q⟩
theorem s_dget {P : V → Prop} {a : Addr} {k : Str} {i : Int} (h : Rd H a (.dK (dk d))) (e : look d k = some i) (q : P (.int i)) : ∃ b v, V.ref a = .ref b ∧ DGet H b (.str k) (some v) ∧ P v :=
  ⟨a, .int i, rfl, .inl ⟨_, .inr k, h, rfl, by rw [valV_dk, e]; rfl⟩, q⟩
end
/-! ### an own class's methods behind * and [] -/
section
variable {K : PySem.W.Frag} {C : Addr} {m q : Str} {params : Arguments} {body : List Stmt} {scope : Scope} {dvs : List V}
theorem hasM (e : ∃ (f : Addr) (fd : FuncData), Meth K C m f ∧ FunD K m q params body scope dvs [] f fd) : ∃ g : Addr, PySem.W.findIn K (.ref C) m = some (some (.ref g)) := by
  obtain ⟨f, fd, h, F⟩ := e
  exact ⟨f, h.at_⟩
theorem gi_of (e : ∃ (f : Addr) (fd : FuncData), Meth K C m f ∧ FunD K m q params body scope dvs [] f fd) : ∀ f, PySem.W.findIn K (.ref C) m = some (some (.ref f)) → PySem.W.fnIn K f = true := by
  obtain ⟨f, fd, h, F⟩ := e
  intro g hg
  rw [h.at_] at hg
  cases hg
  obtain ⟨oc, od, dV, kV, doc, pm, an, cdv, ct, osl, rfl, lk, _⟩ := F.ex
  unfold PySem.W.fnIn
  rw [lk]
end
section
variable {X : Cx} {C : Addr} {k : Nat} {ps : List Str} {dvs : List V} {sp : Sp}
theorem op_mulT (hm : ∃ g : Addr, PySem.W.findIn X.K (.ref C) "__rmul__" = some (some (.ref g))) (D : Mtn X.prog X.w X.K X.mg X.base C "__mul__" k ps dvs sp) (hc : PySem.W.selfFirst X.K C = true)
    (h1 : PySem.W.findIn X.K (.type "int") "__mul__" = some (some (.builtin "int.__mul__"))) (h2 : PySem.W.findIn X.K (.type "int") "__rmul__" = some (some (.builtin "int.__rmul__"))) (h3 : PySem.W.subIn X.K (.type "int") (.ref C) = some false) (hr : RoomG k X.A) :
    OpR X (binaryOp .Mult) (fun x y H Q => ∃ a dx fs, x = .ref a ∧ H a = some (.ins C dx fs) ∧ (∃ i, y = .int i) ∧ sp (.ref a :: y :: dvs) H Q E0) := by
  obtain ⟨g, hg⟩ := hm
  refine op_ownT (T := "int") D rfl hc hr hg (.inr ⟨g, rfl⟩) h1 h2 h3 fun y u r e => ?_
  obtain ⟨i, rfl⟩ := e
  obtain ⟨t, rfl⟩ := (show ∃ t, u = Value.int i t from r)
  rfl
end
end My

namespace My
open PySem L2 PySem.Spec PyProof.Rows
/-! ### rules within a comprehension: repr -/
def rReprD (K : PySem.W.Frag) : List V → Hp → VK → Prop := fun xs H Q => ∃ y d, xs = [y] ∧ Dp K H y d ∧ SeqAt.shaped d = true ∧ d.showable = true ∧ d.hasDict = false ∧ d.shown.length ≤ sizeLine ∧ Q (.str d.shown) H
theorem call_reprDK {X : Cx} {K : PySem.W.Frag} {k : Nat} (h : X.K = K) (hr : RoomG k X.A) : CallR X (.builtin "repr") (rReprD K) := by
  subst h
  exact call_reprD hr
theorem pg_tupK {X : Cx} {K : PySem.W.Frag} {es : List Expr} {k : Nat} {t : TGs} {n : Nat} {pos : Pos} (hK : X.K = K) (hc : X.calm = true) (h : PGs X es t)
    (hn : (assignEach es X.env).length = n := by rfl) (hst : (assignEach es X.env).findIdx? (·.1) = none := by rfl) : PG X (.Tuple es k pos) (gTup K n t) := by
  subst hK
  exact pg_tup hc h hn hst
end My

namespace My
open PySem L2 PySem.Spec PyProof.Rows PySem.W
/-! ### str(o) by an own __str__ -/
section
variable {X : Cx} {j k : Nat} {f C : Addr} {fd : FuncData} {ps : List Str} {sp : Sp} {dvs : List V} {ds : List Value} {m : Str} {pins : List (Addr × Obj)} {σ : L2.St} {H : Hp} {s : Shared}
theorem call_strO (D : Mtn X.prog X.w X.K X.mg X.base C "__str__" k ps dvs sp) (hr : RoomG (k + 2) X.A) :
    CallR X (.type "str") (fun xs H Q => ∃ a dx fs, xs = [.ref a] ∧ H a = some (.ins C dx fs) ∧ sp (.ref a :: dvs) H (fun v H' => ∃ y : Str, v = .str y ∧ Q (.str y) H') E0) := by
  obtain ⟨f, fd, ds, c, hm, F, hb, hd⟩ := D.ex
  intro pins s σ H xs us Q I r h
  obtain ⟨a, dx, fs, rfl, ea, q⟩ := h
  rw [Vals.ref1 r]
  obtain ⟨ox, od, J⟩ := insAt I ea
  have hu : X.A.in1.in1.units < cLine := by
    have := hr.in1.in1.units
    omega
  refine kso_call hu I.kIn J hm.at_ hm.fn (wpAny_mono (goIn (us := [.ref a]) (vs := [.ref a]) F hr.in1.in1 I.env0.in1.in1 hb hd I (.cons rfl .nil) q) (fun w s1 hw => ?_) fun _ _ z => z)
  obtain ⟨t, H1, I1, rt, y, rfl, q1⟩ := hw
  obtain ⟨tk, rfl⟩ := (show ∃ t, w = Value.str y t from rt)
  exact ⟨.str y, H1, I1, ⟨_, rfl⟩, q1⟩
end
/-! ### an own exception made and raised -/
/-- C(e, ..), C's own __init__ keeping sp, to be raised -/
def tRaE (C : Addr) (sp : Sp) (ta : TA) : L2.St → Hp → XK → Prop := fun σ H Q => ta σ H fun vs H1 => vs.length ≤ 1000 ∧ ∀ a, H1 a = none → sp (.ref a :: vs) (L2.upd H1 a (exo a C none))
  (fun v H2 => v = .non ∧ ∃ (d : Addr) (fs : List (Str × V)), H2 a = some (exo a C (some d)) ∧ H2 d = some (exd d fs) ∧ H1 d = none ∧ Q (.ref C) (some d) (L2.upd (L2.del H2 a) d (.xd fs))) E0
theorem ExF.raises {X : Cx} {C : Addr} {m bm : List Value} {n : String} (x : ExF X.K C m n) (u : Ups C m bm) : Raises X (.ref C) := by
  refine raises_own ?_ x.ty
  rw [x.sub u.ne, u.base]
section
variable {X : Cx} {k : Nat} {C : Addr} {x : Str} {ps : List Str} {sp : Sp} {e : Expr} {es : List Expr} {ta : TA} {p pos : Pos}
theorem pmk_E (R : Raises X (.ref C)) (D : Exn X.prog X.w X.K X.mg X.base x C k ps sp) (hr : RoomG (k + 1) X.A) (hg : Gl X x) (ha : PA X (e :: es) ta)
    (h1 : (x == ("__debug__" : Str)) = false := by decide) (h2 : starEach (e :: es) X.env = (false, eval e X.env) :: starEach es X.env := by rfl) (h3 : (backTo pos (starEach es X.env)).any (fun q => q.1) = false := by rfl) :
    PMk X (.Call (.Name x p) (e :: es) [] pos) (tRaE C sp ta) := by
  obtain ⟨f, fd, T, iC, fC, F, hm, hb⟩ := D.ex
  obtain ⟨B, ni, ii, bmB, FB, SF, ini, ov⟩ := T.base
  intro pins s σ H Q I h
  refine wpAny_Call_Name_kw (ld_glob I hg hm ?_ h1)
  refine callWith_K (h₀ := X.base) I.ok.mod.kin T.kp (thn (ha.run pos pins s σ H _ I h) fun us s1 z => ?_) h2 h3
  obtain ⟨vs, H1, I1, r1, hz, q1⟩ := z
  refine ⟨I1.kIn, ?_⟩
  show wpAny _ _ (call (.ref C) us) _ _ _
  obtain ⟨hp, g, dr, tk, os⟩ := s1
  obtain ⟨nm, N, qn, bs, bm, hdct, sn, sub, ab, col, dd, k0, k1, k2, k3, k5, hC, hT⟩ := excInit_of I1.kIn ini
  have hsz : hp.objs.size ≤ hp.objs.size + 1 := Nat.le_succ _
  have hn : H1 (hp.objs.size + 1) = none := I1.hok.fresh hsz
  have hq := q1 (hp.objs.size + 1) hn
  have kk : ∀ b o, hp.get? b = some o → ((hp.push (kdv_tup us)).push (HandSPX.excO C hp.objs.size)).get? b = some o := fun b o z => Heap.get?_push_of_some _ (Heap.get?_push_of_some _ z)
  have hget : ((hp.push (kdv_tup us)).push (HandSPX.excO C hp.objs.size)).get? (hp.objs.size + 1) = some (HandSPX.excO C hp.objs.size) := by heap_get
  have I2 : Inv X pins σ (L2.upd H1 (hp.objs.size + 1) (exo (hp.objs.size + 1) C none)) ⟨(hp.push (kdv_tup us)).push (HandSPX.excO C hp.objs.size), g, dr, tk, os⟩ := I1.laid (t' := tk) kk hsz (exo_ok hget)
  have r2 : Vals (V.ref (hp.objs.size + 1) :: vs) (Value.ref (hp.objs.size + 1) :: us) := .cons rfl r1
  have hl : (Value.ref (hp.objs.size + 1) :: us ++ []).length = ps.length := by
    have z := r2.length
    rw [F.len _ _ _ _ hq] at z
    rw [List.append_nil]
    exact z.symm
  have hus : us.length ≤ sizeLine := by
    rw [← r1.length, sizeLine_eq]
    omega
  have bd := hb _ (Value.ref (hp.objs.size + 1) :: us) I2.kIn hl
  rw [List.append_nil] at bd
  have hr2 : RoomG k (X.A.under (.builtin "type.__call__" ⟨.ref C :: us, []⟩)) := ⟨hr.r.make C us [], hr.g⟩
  refine wpAny_call (HandSPX.call_own FB hT hC (looks_findIn I1.kIn iC) (fun self => bind_fn I1.kIn self (beq_iff_eq.mp fC)) hus
    (codeAny_mono (F.go _ X.stack _ _ ⟨Value.ref (hp.objs.size + 1) :: us, []⟩ _ _ _ E0 hr2 (I2.env0.make C us []) bd r2 hq) fun r s' hq' => ?_))
  cases r with
  | error er => exact (show False from hq').elim
  | ok fl => cases fl with
    | ret u =>
      obtain ⟨v, H2, os2, bare2, un2, hok2, rv, ev, d, fs, ea, ed, hd1, q2⟩ := hq'
      subst ev
      obtain ⟨h2, g2, d2, t2, os'⟩ := s'
      exact ⟨rv, mk_end R I1 hsz kk un2 hok2 os2 bare2 ea ed hd1 q2⟩
    | next => exact (show False from hq').elim
    | brk => exact (show False from hq').elim
    | cont => exact (show False from hq').elim
end
/-! ### calls of defs that may raise -/
section
variable {X : Cx} {CX : CXT} {j k : Nat} {f C : Addr} {fd : FuncData} {ps : List Str} {sp : Sp} {dvs : List V} {ds : List Value} {x m : Str} {p pos apos : Pos} {e o : Expr} {es : List Expr} {ta : TE} {t : TA} {W : WX}
/-- as goG, for a def that may raise: what it lets out is taken -/
theorem goX {pins : List (Addr × Obj)} {σ : L2.St} {H : Hp} {s : Shared} {Q : VK} {us : List Value} {vs : List V} (F : FnG X.prog X.w X.K X.mg X.base (L2.CX X.prog X.w) k f fd ps sp) (tk : Takes X W) (hr : RoomG k X.A) (hb : Binds X.K fd ps ds) (hd : Vals dvs ds)
    (I : Inv X pins σ H s) (r : Vals vs us) (h : sp (vs ++ dvs) H Q (WE W σ)) : wpAny (model X.prog X.w) X.A (call (.ref f) us) (EP X pins σ Q) X.xe s := by
  have r2 := r.append hd
  have hl : (us ++ ds).length = ps.length := r2.length.symm.trans (F.len _ _ _ _ h)
  refine wpAny_call (codeAny_mono (F.go X.A X.stack s H ⟨us, []⟩ (us ++ ds) _ Q (WE W σ) hr I.env0 (hb s us I.kIn hl) r2 h) ?_)
  intro r s' hq
  cases r with
  | error er => exact passAt tk σ pins H s er s' I hq
  | ok fl => cases fl with
    | ret u => exact I.after hq
    | next => exact (show False from hq).elim
    | brk => exact (show False from hq).elim
    | cont => exact (show False from hq).elim
structure DnX (P : Program) (w : World) (K : PySem.W.Frag) (mg : Str → Option Value) (base : Heap) (x : Str) (k : Nat) (ps : List Str) (dvs : List V) (sp : Sp) : Prop where
  ex : ∃ (f : Addr) (fd : FuncData) (ds : List Value), FnG P w K mg base (L2.CX P w) k f fd ps sp ∧ mg x = some (.ref f) ∧ PySem.W.keepIn K (.ref f) = true ∧ Binds K fd ps ds ∧ Vals dvs ds
def tCallX (sp : Sp) (dvs : List V) (W : WX) (t : TA) : TE := fun σ H Q => t σ H fun vs H1 => sp (vs ++ dvs) H1 Q (WE W σ)
theorem pe_callX (D : DnX X.prog X.w X.K X.mg X.base x k ps dvs sp) (tk : Takes X W) (hr : RoomG k X.A) (hg : Gl X x) (ha : PA X (e :: es) t) (hdb : (x == ("__debug__" : Str)) = false := by decide)
    (h1 : starEach (e :: es) X.env = (false, eval e X.env) :: starEach es X.env := by rfl) (h2 : (backTo pos (starEach es X.env)).any (·.1) = false := by rfl) : PE X (.Call (.Name x p) (e :: es) [] pos) (tCallX sp dvs W t) := by
  obtain ⟨f, fd, ds, F, hm, hk, hb, hd⟩ := D.ex
  constructor
  intro pins s σ H Q I h
  exact wpAny_Call_Name_kw (ld_glob I hg hm (PySem.W.callWith_K (h₀ := X.base) I.ok.mod.kin hk (thn (ha.run pos pins s σ H _ I h) fun us s1 ⟨vs, H1, I1, r, q⟩ => ⟨I1.kIn, goX F tk hr hb hd I1 r q⟩) h1 h2) hdb)
/-- a staticmethod by its class's name, of given parameters -/
structure StaX (P : Program) (w : World) (K : PySem.W.Frag) (mg : Str → Option Value) (base : Heap) (y : Str) (C : Addr) (m : Str) (k : Nat) (ps : List Str) (sp : Sp) : Prop where
  ex : ∃ (f : Addr) (fd : FuncData), mg y = some (.ref C) ∧ StaM K C m f ∧ FnG P w K mg base (L2.CX P w) k f fd ps sp ∧ Binds K fd ps []
theorem pe_staX {y : Str} {p1 : Pos} {pl : Sem Bool} (D : StaX X.prog X.w X.K X.mg X.base y C m k ps sp) (tk : Takes X W) (hr : RoomG k X.A) (hg : Gl X y) (ha : PA X (e :: es) t)
    (h1 : starEach (e :: es) X.env = (false, eval e X.env) :: starEach es X.env := by rfl) (h2 : (backTo pos (starEach es X.env)).any (·.1) = false := by rfl)
    (h3 : eval (.Call (.Attribute (.Name y p1) m apos) (e :: es) [] pos) X.env = (do
      let v ← eval (.Name y p1) X.env
      standAt apos.atName
      let (g, fst) ← holding [v] (getMethod v m pl)
      callWith pos g fst (backTo pos (starEach (e :: es) X.env)) (backToKw pos (keywordEach [] X.env))) := by rfl) (hdb : (y == ("__debug__" : Str)) = false := by decide) :
    PE X (.Call (.Attribute (.Name y p1) m apos) (e :: es) [] pos) (tCallX sp [] W t) := by
  obtain ⟨f, fd, hm, hS, F, hb⟩ := D.ex
  constructor
  intro pins s σ H Q I h
  refine PySem.W.methodCall_KW (pl := pl) (ld_glob I hg hm ?_ hdb) h3
  refine getsta I hS fun s1 I1 => ?_
  exact callWith_K (first := []) (h₀ := X.base) I1.ok.mod.kin hS.kp (thn (ha.run pos pins s1 σ H _ I1 h) fun us s2 ⟨vs, H2, I2, r, q2⟩ => ⟨I2.kIn, goX F tk hr hb .nil I2 r q2⟩) h1 h2
/-- .. with keywords alone -/
structure StaXk (P : Program) (w : World) (K : PySem.W.Frag) (mg : Str → Option Value) (base : Heap) (y : Str) (C : Addr) (m : Str) (k : Nat) (ks : List Str) (gV : List V → List V → List V) (sp : Sp) : Prop where
  ex : ∃ (f : Addr) (fd : FuncData) (ps : List Str) (g : List Value → List Value → List Value), mg y = some (.ref C) ∧ StaM K C m f ∧ FnG P w K mg base (L2.CX P w) k f fd ps sp ∧ KBn K fd ps 0 ks g gV
def tStaXk (l : Nat) (sp : Sp) (gV : List V → List V → List V) (W : WX) (tk : TA) : TE := fun σ H Q => tk σ H fun zs H1 => zs.length = l ∧ sp (gV [] zs) H1 Q (WE W σ)
theorem pe_staXk {y : Str} {ks : List Str} {gV : List V → List V → List V} {tq : TA} {kws : List Keyword} {p1 : Pos} {pl : Sem Bool} (D : StaXk X.prog X.w X.K X.mg X.base y C m k ks gV sp) (tk : Takes X W) (hr : RoomG k X.A) (hg : Gl X y) (hkw : PK X kws tq)
    (hall : (backToKw pos (keywordEach kws X.env)).all (·.1.isSome) = true := by rfl) (hks : (backToKw pos (keywordEach kws X.env)).filterMap (·.1) = ks := by rfl)
    (hpl : ((backTo pos (starEach [] X.env)).any (fun q => q.1) || (backToKw pos (keywordEach kws X.env)).any (fun q => q.1.isNone)) = false := by rfl)
    (h3 : eval (.Call (.Attribute (.Name y p1) m apos) [] kws pos) X.env = (do
      let v ← eval (.Name y p1) X.env
      standAt apos.atName
      let (g, fst) ← holding [v] (getMethod v m pl)
      callWith pos g fst (backTo pos (starEach [] X.env)) (backToKw pos (keywordEach kws X.env))) := by rfl) (hdb : (y == ("__debug__" : Str)) = false := by decide) :
    PE X (.Call (.Attribute (.Name y p1) m apos) [] kws pos) (tStaXk ks.length sp gV W tq) := by
  obtain ⟨f, fd, ps, g, hm, hS, F, hb⟩ := D.ex
  constructor
  intro pins s σ H Q I h
  refine PySem.W.methodCall_KW (pl := pl) (ld_glob I hg hm ?_ hdb) h3
  refine getsta I hS fun s1 I1 => ?_
  refine PySem.W.callWith_KW0 (first := []) (h₀ := X.base) I1.ok.mod.kin hS.kp hall ?_ hpl
  refine thn (hkw.run pos pins s1 σ H _ I1 h) fun ws s2 ⟨zs, H2, I2, rz, l2, q2⟩ => ⟨I2.kIn, ?_⟩
  rw [hks]
  refine wpAny_call (codeAny_mono (F.go X.A X.stack s2 H2 ⟨[], ks.zip ws⟩ (g [] ws) (gV [] zs) Q (WE W σ) hr I2.env0 (hb.to s2 [] ws I2.kIn rfl (rz.length.symm.trans l2)) (hb.rel .nil rz) q2) fun r s' hq => ?_)
  cases r with
  | error er => exact passAt tk σ pins H2 s2 er s' I2 hq
  | ok fl => cases fl with
    | ret u => exact I2.after hq
    | next => exact (show False from hq).elim
    | brk => exact (show False from hq).elim
    | cont => exact (show False from hq).elim
end
/-! ### within an except suite: isinstance of what is caught, texts of leaves -/
def rIsS (K : PySem.W.Frag) (cls : Value) (d : Option Addr) (a : Addr) : List V → Hp → VK → Prop := fun xs H Q => ∃ D : Addr, cls = .ref D ∧ L2.ExcC K D ∧ (∀ dd, d = some dd → ∃ fs, H dd = some (.xd fs)) ∧ rIsE K D a xs H Q
theorem call_isS {X : Cx} {a : Addr} {cls : Value} {oe : Obj} {d : Option Addr} {pn : List (Addr × Obj)} (hz : Zc cls d oe) (hf : ∃ vs, oe.data = .fields vs) :
    CallR (X.suite a ((a, oe) :: pn)) (.builtin "isinstance") (rIsS X.K cls d a) := by
  intro pins s σ H xs us Q I r h
  obtain ⟨D, ecls, C, hdd, c, cv, b, rfl, hcv, e, q⟩ := h
  subst ecls
  cases r with
  | cons rx rr =>
    cases rr with
    | cons rt rr =>
      cases rr
      cases rx
      have ec := hcv _ rt
      subst ec
      obtain ⟨hget, _⟩ := I.pin (a, oe) (List.mem_append.mpr (.inl List.mem_cons_self))
      obtain ⟨vs, hv⟩ := hf
      have J : ∃ od, PySem.W.InstAt s.heap a oe D od := by
        obtain ⟨oc, oda, odt, osl⟩ := oe
        obtain ⟨h1, h2⟩ := hz
        dsimp only at h1 h2 hv
        subst h1 h2 hv
        cases oda with
        | none => exact ⟨none, hget, rfl, rfl, trivial⟩
        | some dd =>
          obtain ⟨fs, hx⟩ := hdd dd rfl
          have hx2 : ObjOk X.prog X.w H s.heap dd (.xd fs) := I.hok dd _ hx
          obtain ⟨mA, hns, hr⟩ := hx2
          obtain ⟨od, ho, hl⟩ := lookIn_ns hns
          exact ⟨some od, hget, rfl, rfl, ho⟩
      obtain ⟨od, J⟩ := J
      exact PySem.W.kia_one (exKit C) I.kIn J e (fun z => nomatch z) fun tk => ⟨.bl b, H, I.kept (t' := tk) fun _ _ z => z, rfl, q⟩
/-- the text of an int or a bool -/
def rReprL : List V → Hp → VK → Prop := fun xs H Q => (∃ i : Int, xs = [.int i] ∧ i.natAbs.log2 < 1920 ∧ Q (.str (PyData.shown (.int i))) H) ∨ ∃ b : Bool, xs = [.bl b] ∧ Q (.str (PyData.shown (.bool b))) H
theorem call_reprL {X : Cx} : CallR X (.builtin "repr") rReprL := by
  intro pins s σ H xs us Q I r h
  rcases h with ⟨i, rfl, hz, q⟩ | ⟨b, rfl, q⟩
  · obtain ⟨u, rfl, ru⟩ := vals1 r
    obtain ⟨t, rfl⟩ := (show ∃ t, u = Value.int i t from ru)
    exact PySem.P.repr_of_int hz ⟨.str _, H, I.tok _, ⟨_, rfl⟩, q⟩
  · obtain ⟨u, rfl, ru⟩ := vals1 r
    obtain rfl : u = Value.bool b := ru
    exact PySem.P.repr_of_bool ⟨.str _, H, I.tok _, ⟨_, rfl⟩, q⟩

/-! ### properties: the record's address, its getter -/
theorem prB_ok {K : PySem.W.Frag} {c m : Str} (h : prB K c m = true) : PropOf K (He.ga K c) m (prP K c m) (prA K c m) := by
  obtain ⟨h1, h2⟩ := He.ba h
  obtain ⟨h3, h4⟩ := He.ba h2
  obtain ⟨h5, h6⟩ := He.ba h4
  refine ⟨of_decide_eq_true h1, of_decide_eq_true h3, of_decide_eq_true h5, ?_⟩
  unfold prA
  split at h6
  · rename_i g rest e
    rw [e]
    exact ⟨rest, rfl⟩
  · cases h6
/-! ### an exception with one field, raised -/
def spE1 (C : Addr) (n : Str) : Sp := fun vs H Q _ => ∃ (a : Addr) (y : V), vs = [.ref a, y] ∧ H a = some (exo a C none) ∧ ∀ d, H d = none → d ≠ a → Q .non (L2.upd (L2.upd H d (exd d [(n, y)])) a (exo a C (some d)))
def spE2 (C : Addr) (n m : Str) : Sp := fun vs H Q _ => ∃ (a : Addr) (y z : V), vs = [.ref a, y, z] ∧ H a = some (exo a C none) ∧ ∀ d, H d = none → d ≠ a → Q .non (L2.upd (L2.upd (L2.upd H d (exd d [(n, y)])) a (exo a C (some d))) d (exd d [(m, z), (n, y)]))
theorem s_raE {C : Addr} {sp : Sp} {ta : TA} {σ : L2.St} {H : Hp} {Q : XK} (h : ta σ H fun vs H1 => vs.length ≤ 1000 ∧ ∀ a, H1 a = none → sp (.ref a :: vs) (L2.upd H1 a (exo a C none))
  (fun v H2 => v = .non ∧ ∃ (d : Addr) (fs : List (Str × V)), H2 a = some (exo a C (some d)) ∧ H2 d = some (exd d fs) ∧ H1 d = none ∧ Q (.ref C) (some d) (L2.upd (L2.del H2 a) d (.xd fs))) E0) : tRaE C sp ta σ H Q := h
theorem raise1 {C : Addr} {n : Str} {H : Hp} {v : V} {Q : XK} (q : ∀ d H', L2.Same H H' → H d = none → H' d = some (.xd [(n, v)]) → Q (.ref C) (some d) H') :
    [v].length ≤ 1000 ∧ ∀ a, H a = none → spE1 C n (.ref a :: [v]) (L2.upd H a (exo a C none))
      (fun w H2 => w = .non ∧ ∃ (d : Addr) (fs : List (Str × V)), H2 a = some (exo a C (some d)) ∧ H2 d = some (exd d fs) ∧ H d = none ∧ Q (.ref C) (some d) (L2.upd (L2.del H2 a) d (.xd fs))) E0 := by
  refine ⟨by simp, fun a na => ⟨a, v, rfl, upd_same, fun d nd ne => ⟨rfl, d, [(n, v)], upd_same, (upd_ne ne).trans upd_same, ?_, ?_⟩⟩⟩
  · rw [upd_ne ne] at nd
    exact nd
  · rw [upd_ne ne] at nd
    refine q d _ (fun c o e => ?_) nd upd_same
    have h1 := ne_of_none e nd
    have h2 := ne_of_none e na
    rw [upd_ne h1, L2.del_ne h2, upd_ne h2, upd_ne h1, upd_ne h2]
    exact e
theorem s_callX {sp : Sp} {dvs : List V} {W : WX} {t : TA} {σ : L2.St} {H : Hp} {Q : VK} (h : t σ H fun vs H1 => sp (vs ++ dvs) H1 Q (WE W σ)) : tCallX sp dvs W t σ H Q := h
theorem s_staXk {l : Nat} {sp : Sp} {gV : List V → List V → List V} {W : WX} {tk : TA} {σ : L2.St} {H : Hp} {Q : VK} (h : tk σ H fun zs H1 => zs.length = l ∧ sp (gV [] zs) H1 Q (WE W σ)) : tStaXk l sp gV W tk σ H Q := h
/-! ### comparisons of own objects, by K's own name -/
section
variable {X : Cx} {K : PySem.W.Frag} {k : Nat} {C : Addr} {ps : List Str} {sp : Sp} {dvs : List V}
theorem or_eqOK (h : X.K = K) (D : Mtn X.prog X.w X.K X.mg X.base C "__eq__" k ps dvs sp) (hr : RoomG k X.A) : OpR X (compareOp .Eq) (fun x y H Q => ∃ (a dx : Addr) (fs : List (Str × V)) (t : Value), x = .ref a ∧ H a = some (.ins C dx fs) ∧ TyX K H y t ∧ PySem.W.notFirst K C t = true ∧ sp (.ref a :: y :: dvs) H Q E0) := by
  subst h
  exact or_eqO D hr
theorem or_neOK (h : X.K = K) (D : Mtn X.prog X.w X.K X.mg X.base C "__eq__" k ps dvs sp) (hne : PySem.W.findIn X.K (.ref C) "__ne__" = some (some (.builtin "object.__ne__"))) (hob : PySem.W.mroIn X.K C (.type "object") = some true) (hr : RoomG (k + 1) X.A) :
    OpR X (compareOp .NotEq) (fun x y H Q => ∃ (a dx : Addr) (fs : List (Str × V)) (t : Value), x = .ref a ∧ H a = some (.ins C dx fs) ∧ TyX K H y t ∧ PySem.W.notFirst K C t = true ∧ sp (.ref a :: y :: dvs) H (fun v H' => ∃ b, v = .bl b ∧ Q (.bl (!b)) H') E0) := by
  subst h
  exact or_neO D hne hob hr
end
end My

namespace My
open PySem PySem.Calls PyProof.Rows Builtin PySem.W
/-! ### the text of an own object within the text of a list, a tuple, a dict: pyReprUnder of an instance with an own __repr__ -/
section
variable {prog : Program} {w : World} {A : Around} {E : Value → Shared → Prop} {s : Shared} {K : PySem.W.Frag} {x C L f : Addr} {h₀ : Heap} {m : Str → Option Value} {ox : Obj} {od : Option Obj} {base : Nat}
theorem ifBoundBy_K {M : Model} {name : Str} {last : Value → List Value → Sem Value} {Q : Option Value → Shared → Prop} (X : K.In s.heap) (I : InstAt s.heap x ox C od) (hs : findIn K (.ref C) name = some (some (.ref f))) (hf : isFn K (.ref f) = true)
    (h : wpAny M A (last (.ref f) [.ref x]) (fun v => Q (some v)) E s) : wpAny M A (callSpecialIfBoundBy? last (.ref x) name) Q E s := by
  simp only [callSpecialIfBoundBy?, bindSpecialIfBound?]
  refine wpAny_holding (wpAny_bind (wpAny_bind (wpAny_bind (I.type.here ((looks_findIn X hs).here ?_)))))
  refine wpAny_bind (wpAny_askSetting (wpAny_ite ?_))
  have fin : wpAny M A (last (.ref f) [.ref x] >>= fun v => pure (some v)) Q E s := wpAny_bind (wpAny_mono h (fun v s' h' => wpAny_pure h') fun _ _ h' => h')
  split
  · exact wpAny_bind ((bind_fn X _ (beq_iff_eq.mp hf)).here (wpAny_pure (by exact fin)))
  · exact wpAny_tryCatch (wpAny_bind ((bind_fn X _ (beq_iff_eq.mp hf)).here (wpAny_pure (by exact fin))))
theorem reprUnder_K {Q : Str → Shared → Prop} (hb : base ≤ sizeLine) (hu : A.units < cLine) (F : Fr h₀ L s.heap m) (X₀ : K.In h₀) (I : InstAt s.heap x ox C od) (hs : findIn K (.ref C) "__repr__" = some (some (.ref f))) (hf : isFn K (.ref f) = true)
    (h : wpAny (model prog w) A (call (.ref f) [.ref x]) (fun v s' => ∃ y u, v = .str y u ∧ Q y s') E s) : wpAny (model prog w) A (pyReprUnder base (.ref x)) Q E s := by
  refine wpAny_pyReprUnder_ref hb ?_
  unfold pyReprObjUnder pyReprObjBy
  refine wpAny_bind (wpAny_cRoomFor hu ?_)
  refine wpAny_bind (wpAny_bind (I.type.here ((looks_findIn (X₀.keeps F.keep) hs).here ?_)))
  show wpAny _ _ (if (some (Value.ref f)).isNone = true then _ else _) _ _ _
  rw [if_neg (by simp)]
  refine wpAny_bind (ifBoundBy_K (X₀.keeps F.keep) I hs hf ?_)
  show wpAny _ _ (call (.ref f) ([.ref x] ++ [])) _ _ _
  refine wpAny_mono h (fun r s' hr => ?_) fun _ _ z => z
  obtain ⟨y, u, rfl, q⟩ := hr
  refine wpAny_bind (wpAny_isInstance (T := "str") (b := true) rfl isSubtype_str_str ?_)
  exact wpAny_pure ⟨y, u, rfl, q⟩
end
/-! ### the loop of list.__repr__ over items of any kind -/
section
open L2 Builtin.List
variable {X : Cx} {A A1 : Around}
/-- under A the text of v is t: all that stands is kept -/
def Shows (X : Cx) (A : Around) (H0 : Hp) (v : V) (t : Str) : Prop :=
  ∀ (base : Nat) (pins : List (Addr × Obj)) (σ : L2.St) (H : Hp) (s : Shared) (u : Value) (E : Value → Shared → Prop) (Q : Str → Shared → Prop), base + t.length ≤ sizeLine → Same H0 H → Inv X pins σ H s → RelV v u →
    (∀ H' s', Same H H' → Inv X pins σ H' s' → Q t s') → wpAny (model X.prog X.w) A (pyReprUnder base u) Q E s
theorem vals_strs_of : ∀ {ts : List Str} {us : List Value}, Vals (ts.map V.str) us → ∃ done : List (Str × Tok), us = strValues done ∧ done.map (·.1) = ts
  | [], _, .nil => ⟨[], rfl, rfl⟩
  | t :: ts, _, .cons r v => by
    obtain ⟨done, rfl, e⟩ := vals_strs_of v
    obtain ⟨k, rfl⟩ := (show ∃ k, _ = Value.str t k from r)
    exact ⟨(t, k) :: done, rfl, by rw [List.map_cons, e]⟩
theorem loopI {pins : List (Addr × Obj)} {σ : L2.St} {H0 : Hp} {a P : Addr} {xs : List V} {ts : List Str} {R : Result → Shared → Prop} (ha : H0 a = some (.lst xs)) (hP : H0 P = none) (hlen : ts.length = xs.length)
    (hT : ∀ (args : Args) (i : Nat) (v : V), xs[i]? = some v → ∃ t, ts[i]? = some t ∧ Shows X (A.under (.builtin "list.__repr__.loop" args)) H0 v t)
    (hsz : (listText ts).length ≤ sizeLine)
    (hR : ∀ H' s' u, Same H0 H' → Inv X pins σ H' s' → R (.ok (.ret (.str (listText ts) u))) s') :
    ∀ (k i : Nat) (H : Hp) (s : Shared), xs.length - i = k → i ≤ xs.length → Inv X pins σ H s → Same H0 H → H P = some (.lst ((ts.take i).map V.str)) →
      codeAny (model X.prog X.w) A (.builtin "list.__repr__.loop" ⟨[.ref a, rawInt i, .ref P, rawInt ((piled (ts.take i) : Nat) : Int)], []⟩) R s := by
  have hX : (listText ts).length = (textFrom 0 "[" ts).length + 1 := by
    show (textFrom 0 "[" ts ++ "]").length = _
    rw [strLen_append]; rfl
  have hL := textFrom_len ts 0 "["
  have hsz2 : ∀ t ∈ ts, t.length ≤ sizeLine := fun t ht => by
    have h2 := hL.2.1 t ht
    omega
  have hp3 := piled_le_listText ts
  intro k
  induction k with
  | zero =>
    intro i H s hk hi I S eP
    have hin : i = xs.length := by omega
    obtain ⟨its, n, r, hg, _⟩ := I.lst (S _ _ ha)
    obtain ⟨jts, m, rj, hgP, _⟩ := I.lst eP
    obtain ⟨done, rfl, hdone⟩ := vals_strs_of rj
    refine codeAny_builtin PySem.F.entry_list_repr_loop ?_
    show wpAny _ _ (Builtin.«list.__repr__.loop» ⟨[.ref a, .int i 0, .ref P, .int ((piled (ts.take i) : Nat) : Int) 0], []⟩) _ _ s
    rw [repr_loop_tree]
    refine wpAny_bind (wpAny_listItems hg rfl ?_)
    have hnone : its.toArray[(i : Int).toNat]? = none := by
      have := r.length
      simp [hin, this]
    simp only [hnone]
    unfold reprEnd
    refine wpAny_bind (wpAny_listItems hgP rfl ?_)
    rw [repr_fold]
    refine wpAny_bind (wpAny_pure ?_)
    have hall : done.map (·.1) = ts := by rw [hdone, hin, ← hlen, List.take_length]
    rw [hall]
    refine wpAny_bind (wpAny_mkStr (wpAny_pure ?_) hsz)
    exact hR H _ _ S (I.tok _)
  | succ k ih =>
    intro i H s hk hi I S eP
    have hlt : i < xs.length := by omega
    obtain ⟨t, ht, hrep⟩ := hT ⟨[.ref a, rawInt i, .ref P, rawInt ((piled (ts.take i) : Nat) : Int)], []⟩ i xs[i] (by simp [hlt])
    have hp1 := piled_take_succ ht
    have hp2 := piled_take_le ts (i + 1)
    obtain ⟨its, n, r, hg, _⟩ := I.lst (S _ _ ha)
    obtain ⟨u, hu, ru⟩ := r.get (show xs[i]? = some xs[i] by simp [hlt])
    refine codeAny_builtin PySem.F.entry_list_repr_loop ?_
    show wpAny _ _ (Builtin.«list.__repr__.loop» ⟨[.ref a, .int i 0, .ref P, .int ((piled (ts.take i) : Nat) : Int) 0], []⟩) _ _ s
    rw [repr_loop_tree]
    refine wpAny_bind (wpAny_listItems hg rfl ?_)
    have hsome : its.toArray[(i : Int).toNat]? = some u := by simpa using hu
    simp only [hsome]
    rw [Int.toNat_natCast]
    refine wpAny_bind (wpAny_holding (hrep (piled (ts.take i) + 1) pins σ H s u _ _ (by omega) S I ru fun H1 s1 S1 I1 => ?_))
    refine wpAny_bind (wpAny_mkStr ?_ (hsz2 t (List.mem_of_getElem? ht)))
    refine wpAny_bind ?_
    show wpAny _ _ (updateSeq P _) _ _ _
    have I1' := I1.tok (s1.toks + 1)
    obtain ⟨jts, m, rj, hgP, zP⟩ := I1'.lst (S1 _ _ eP)
    obtain ⟨done, rfl, hdone⟩ := vals_strs_of rj
    have hasz : (strValues done).toArray.size ≤ sizeLine := by
      have := rj.length
      rw [List.size_toArray, ← this]
      exact zP
    refine wpAny_updateSeq hgP rfl (wpAny_pure ⟨PySem.F.quiet_list_repr_loop _, ?_⟩) hasz
    have e1 : ((i : Int) + 1) = ((i + 1 : Nat) : Int) := by omega
    have e2 : piled (ts.take i) + (t.length + 2) = piled (ts.take (i + 1)) := by omega
    rw [e1, e2]
    refine ih (i + 1) (L2.upd H1 P (.lst ((ts.take (i + 1)).map V.str))) _ (by omega) hlt ?_ ?_ L2.upd_same
    · refine I1'.lstUpd (its' := strValues (done ++ [(t, s1.toks)])) (n' := if ((strValues done).toArray.push (.str t s1.toks)).size == (strValues done).toArray.size then m else m + 1) (S1 _ _ eP) hgP ?_ ?_ ?_ _
      · have ep : (strValues (done ++ [(t, s1.toks)])).toArray = (strValues done).toArray.push (.str t s1.toks) := by simp [strValues]
        rw [ep]
        rfl
      · rw [show ts.take (i + 1) = (done ++ [(t, s1.toks)]).map (·.1) from by rw [List.map_append, hdone, List.take_add_one, ht]; rfl]
        exact vals_strs _
      · rw [List.length_map, List.length_take]
        have := hL.1
        have z : (textFrom 0 "[" ts).length ≤ sizeLine := by omega
        rw [if_neg (Nat.lt_irrefl 0)] at this
        omega
    · exact My.Same.at_ hP (S.trans S1)
theorem list_reprI {pins : List (Addr × Obj)} {σ : L2.St} {H : Hp} {s : Shared} {a : Addr} {xs : List V} {ts : List Str} {E : Value → Shared → Prop} {Q : Value → Shared → Prop} (hg : A.guards = some []) (ha : H a = some (.lst xs)) (hne : xs ≠ []) (hlen : ts.length = xs.length)
    (hT : ∀ (args : Args) (i : Nat) (v : V), xs[i]? = some v → ∃ t, ts[i]? = some t ∧ Shows X (A.under (.builtin "list.__repr__.loop" args)) H v t)
    (hsz : (listText ts).length ≤ sizeLine) (I : Inv X pins σ H s)
    (hQ : ∀ H' s' u, Same H H' → Inv X pins σ H' s' → Q (.str (listText ts) u) s') : wpAny (model X.prog X.w) A (call (.builtin "list.__repr__") [.ref a]) Q E s := by
  obtain ⟨its, n, r, hget, _⟩ := I.lst ha
  have hl := r.length
  cases its with
  | nil =>
    cases xs with
    | nil => exact absurd rfl hne
    | cons _ _ => cases hl
  | cons x l =>
  refine wpAny_call (codeAny_call_builtin PySem.F.slot_list_repr.plain PySem.F.entry_list_repr (PySem.F.slot_list_repr.check _ _ _ _ _ _ _ _ ⟨_, hget, rfl⟩ (PySem.F.args_list_repr_1 _) ?_))
  refine wpAny_list_repr_head (A := A.in1) hg (fun v rest kw hm => nomatch hm) hget rfl ?_
  refine wpAny_bind (m := newList []) (wpAny_newObj_type ?_)
  refine wpAny_pure ⟨PySem.F.quiet_list_repr_loop _, ?_⟩
  have hP : H s.heap.objs.size = none := I.hok.fresh (Nat.le_refl _)
  refine loopI (X := X) (pins := pins) (σ := σ) (H0 := H) (P := s.heap.objs.size) ha hP hlen hT hsz ?_ _ 0 (L2.upd H s.heap.objs.size (.lst [])) _ rfl (Nat.zero_le _) ?_ (My.Same.new hP) L2.upd_same
  · intro H' s' u S J
    exact hQ H' s' u S J
  · exact I.laid (t' := s.toks) (fun b u q => Heap.get?_push_of_some _ q) (Nat.le_refl _) ⟨Nat.zero_le _, [], _, .nil, Heap.get?_push_size _ rfl⟩
/-- the text of an own object, by its own __repr__ -/
theorem Shows.own {H0 : Hp} {a C : Addr} {dx : Addr} {fs : List (Str × V)} {t : Str} {k : Nat} {f : Addr} {fd : FuncData} {ps : List Str} {sp : Sp} {dvs : List V} {ds : List Value} (c : Cls X.K C) (hm : Meth X.K C "__repr__" f)
    (F : FnOk X.prog X.w X.K X.mg X.base CX0 k f fd ps sp) (hb : Binds X.K fd ps ds) (hd : Vals dvs ds) (hr : Room k A) (hA : A.frames = X.A.frames) (ea : H0 a = some (.ins C dx fs))
    (h : ∀ H, Same H0 H → ∀ Q : VK, (∀ H', Same H H' → Q (.str t) H') → sp (.ref a :: dvs) H Q E0) : Shows X A H0 (.ref a) t := by
  intro base pins σ H s u E Q hb0 S I ru hQ
  obtain rfl : u = Value.ref a := ru
  have ea1 := S _ _ ea
  obtain ⟨ox, od, J⟩ := insAt I ea1
  obtain ⟨mf, fr⟩ := I.fr
  have q := h H S (fun v H' => v = .str t ∧ Same H H') fun H' s' => ⟨rfl, s'⟩
  refine reprUnder_K (by omega) hr.units0 fr I.mod.kin J hm.at_ hm.fn ?_
  have hl : ([Value.ref a] ++ ds).length = ps.length := by
    have z := F.len _ _ _ _ q
    have y := hd.length
    simp only [List.length_cons, List.length_append, List.length_nil] at z ⊢
    omega
  have ev : Env0 X.prog X.w X.K X.mg X.base A X.stack s H := ⟨hA.trans I.env0.frames, I.env0.mod, I.env0.bs, I.env0.bsz, I.env0.funs, I.env0.frf, I.env0.hok, I.env0.bare⟩
  refine wpAny_call (codeAny_mono (F.run A X.stack s H ⟨[.ref a], []⟩ (.ref a :: ds) (.ref a :: dvs) _ E0 hr ev (hb _ [.ref a] I.kIn hl) (.cons rfl hd) q) ?_)
  intro r s' hq
  cases r with
  | error er => exact (show False from hq).elim
  | ok fl => cases fl with
    | ret u =>
      obtain ⟨v, H', I3, rv, rfl, s3⟩ := I.after hq
      obtain ⟨tk, rfl⟩ := (show ∃ k, _ = Value.str t k from rv)
      exact ⟨t, tk, rfl, hQ H' _ s3 I3⟩
    | next => exact (show False from hq).elim
    | brk => exact (show False from hq).elim
    | cont => exact (show False from hq).elim
theorem Shows.int {H0 : Hp} {i : Int} (h : i.natAbs.log2 < 1920) : Shows X A H0 (.int i) (toString i) := by
  intro base pins σ H s u E Q hb S I ru hQ
  obtain ⟨k, rfl⟩ := (show ∃ k, u = Value.int i k from ru)
  exact ReprIs.int k h base hb A E s Q fun tk => hQ H _ (L2.Same.refl _) (I.tok tk)
theorem Shows.bl {H0 : Hp} {b : Bool} : Shows X A H0 (.bl b) (if b then "True" else "False") := by
  intro base pins σ H s u E Q hb S I ru hQ
  obtain rfl : u = Value.bool b := ru
  exact ReprIs.bool b base hb A E s Q fun tk => hQ H _ (L2.Same.refl _) (I.tok tk)
theorem Shows.non {H0 : Hp} : Shows X A H0 .non "None" := by
  intro base pins σ H s u E Q hb S I ru hQ
  obtain rfl : u = Value.none := ru
  exact ReprIs.none base hb A E s Q fun tk => hQ H _ (L2.Same.refl _) (I.tok tk)
theorem Shows.str {H0 : Hp} {x : Str} (h : (reprText x).length ≤ sizeLine) : Shows X A H0 (.str x) (reprText x) := by
  intro base pins σ H s u E Q hb S I ru hQ
  obtain ⟨k, rfl⟩ := (show ∃ k, u = Value.str x k from ru)
  exact ReprIs.str x k h base hb A E s Q fun tk => hQ H _ (L2.Same.refl _) (I.tok tk)
/-- the around of an item's text within repr(a list) -/
def inLst (A : Around) (args : Args) : Around := A.in1.under (.builtin "list.__repr__.loop" args)
def rReprV (X : Cx) : List V → Hp → VK → Prop := fun xs H Q => ∃ (a : Addr) (vs : List V) (ts : List Str), xs = [.ref a] ∧ H a = some (.lst vs) ∧ vs ≠ [] ∧ ts.length = vs.length ∧
  (∀ (args : Args) (i : Nat) (v : V), vs[i]? = some v → ∃ t, ts[i]? = some t ∧ Shows X (inLst X.A args) H v t) ∧ (listText ts).length ≤ sizeLine ∧ ∀ H', Same H H' → Q (.str (listText ts)) H'
theorem call_reprV {k : Nat} (hr : RoomG (k + 1) X.A) : CallR X (.builtin "repr") (rReprV X) := by
  intro pins s σ H xs us Q I r h
  obtain ⟨a, vs, ts, rfl, ea, hne, hlen, hT, hsz, q⟩ := h
  rw [Vals.ref1 r]
  have hu : X.A.in1.units < cLine := by
    have := hr.in1.units
    omega
  obtain ⟨its, n, rv, hget, _⟩ := I.lst ea
  have hTy : s.TypeIs (.ref a) "list" := ⟨_, hget, rfl⟩
  refine Calls.call_function_entry PySem.F.kind_repr PySem.F.plain_repr PySem.F.entry_repr (PySem.F.args_repr1 _) ?_
  unfold Builtin.«repr»
  refine wpAny_bind (m := oneArg "repr" _) (wpAny_pure ?_)
  refine wpAny_bind (wpAny_cRoomFor hu ?_)
  refine wpAny_bind (wpAny_specialOf (name := Str.ofString "__repr__") hTy PySem.F.slot_list_repr.lookup ?_)
  refine wpAny_bind (m := callSpecialIfBound? (.ref a) (Str.ofString "__repr__")) (wpAny_callSpecialIfBound?_slot (name := Str.ofString "__repr__") hTy PySem.F.slot_list_repr
    (list_reprI (pins := pins) (σ := σ) (H := H) (A := X.A.in1) hr.in1.g ea hne hlen hT hsz I (fun H' s' u S J => ?_)))
  refine wpAny_bind (wpAny_isInstance (T := "str") (b := true) rfl isSubtype_str_str ?_)
  exact wpAny_pure ⟨_, rfl, .str (listText ts), H', J, ⟨_, rfl⟩, q H' S⟩
theorem lst_depth {A : Around} {args : Args} : (A.under (.builtin "list.__repr__.loop" args)).depth ≤ A.depth + 1 := by
  first | exact Nat.le_refl _ | exact Nat.le_succ _ | (simp [Around.under, Code.weight, Code.isCreation, Code.isGuard, Code.isCaller, Code.frames, Code.isFrame, guardIds])
theorem lst_frames {A : Around} {args : Args} : (inLst A args).frames = A.frames := by
  first | rfl | (simp [inLst, Around.in1, Around.under, Code.envs, Code.isFrame, pushEnvs])
theorem Room.lst {k : Nat} {A : Around} (r : Room (k + 2) A) (args : Args) : Room k (inLst A args) := by
  have r1 := r.in1
  refine ⟨r1.hd, ?_, ?_⟩
  · have := r1.dp
    have := lst_depth (A := A.in1) (args := args)
    show (A.in1.under _).depth + 3 * k + 5 < _
    omega
  · have := r1.un
    show (A.in1.under _).units + 16 * k + 200 < _
    rw [units_under_list_loop]
    omega
/-- a method whose def asks no quiet around -/
structure MtO (P : Program) (w : World) (K : PySem.W.Frag) (mg : Str → Option Value) (base : Heap) (C : Addr) (m : Str) (k : Nat) (ps : List Str) (dvs : List V) (sp : Sp) : Prop where
  ex : ∃ (f : Addr) (fd : FuncData) (ds : List Value), Cls K C ∧ Meth K C m f ∧ FnOk P w K mg base CX0 k f fd ps sp ∧ Binds K fd ps ds ∧ Vals dvs ds
inductive Leaf : V → Str → Prop
  | int {i : Int} (h : i.natAbs.log2 < 1920) : Leaf (.int i) (toString i)
  | bl {b : Bool} : Leaf (.bl b) (if b then "True" else "False")
  | non : Leaf .non "None"
  | str {x : Str} (h : (reprText x).length ≤ sizeLine) : Leaf (.str x) (reprText x)
/-- repr of a list of leaves and own objects of C -/
def rReprW (C : Addr) (sp : Sp) (dvs : List V) : List V → Hp → VK → Prop := fun xs H Q => ∃ (a : Addr) (vs : List V) (ts : List Str), xs = [.ref a] ∧ H a = some (.lst vs) ∧ vs ≠ [] ∧ ts.length = vs.length ∧
  (∀ (i : Nat) (v : V), vs[i]? = some v → ∃ t, ts[i]? = some t ∧ (Leaf v t ∨ ∃ (b dx : Addr) (fs : List (Str × V)), v = .ref b ∧ H b = some (.ins C dx fs) ∧ ∀ H1, Same H H1 → ∀ Q1 : VK, (∀ H2, Same H1 H2 → Q1 (.str t) H2) → sp (.ref b :: dvs) H1 Q1 E0)) ∧
  (listText ts).length ≤ sizeLine ∧ ∀ H', Same H H' → Q (.str (listText ts)) H'
theorem call_reprW {k : Nat} {C : Addr} {ps : List Str} {dvs : List V} {sp : Sp} (D : MtO X.prog X.w X.K X.mg X.base C "__repr__" k ps dvs sp) (hr : RoomG (k + 3) X.A) : CallR X (.builtin "repr") (rReprW C sp dvs) := by
  obtain ⟨f, fd, ds, c, hm, F, hb, hd⟩ := D.ex
  intro pins s σ H xs us Q I r h
  obtain ⟨a, vs, ts, rfl, ea, hne, hlen, hT, hsz, q⟩ := h
  refine call_reprV (k := k + 2) hr pins s σ H _ us Q I r ⟨a, vs, ts, rfl, ea, hne, hlen, fun args i v hv => ?_, hsz, q⟩
  obtain ⟨t, ht, z⟩ := hT i v hv
  refine ⟨t, ht, ?_⟩
  rcases z with z | ⟨b, dx, fs, rfl, eb, z⟩
  · cases z with
    | int h => exact .int h
    | bl => exact .bl
    | non => exact .non
    | str h => exact .str h
  · exact .own c hm F hb hd (My.Room.lst (hr.r.mono (by omega : k + 2 ≤ k + 3)) args) lst_frames eb z
end
end My

namespace My
open PySem PySem.Spec PyProof.Rows L2 LamX PySem.W
/-! ### a lambda without parameters handed to an own def; nothing is being shown -/
/-- the local i, the lambda f, is called: tl is what the lambda's body reads -/
def tAct (W : WX) (i : Nat) (f c' : Addr) (q : Str) (tl : XK → Hp → VK → Prop) : TE := fun σ H Q => σ[i]? = some (some (.ref f)) ∧ H c' = some (CodeO c' q) ∧ tl (WE W σ) H Q
section
variable {X : Cx} {pins : List (Addr × Obj)} {σ : L2.St} {H : Hp} {s : Shared}
abbrev heldCx (X : Cx) (Ng : List Str) (x : Str) (sg : Scope) (g : Addr) (cdg : Value) (s : Shared) (H : Hp) : Cx := cxOf CX0 X.prog X.w X.K X.mg X.base Ng x sg g cdg X.A X.stack s H E0
theorem pe_actG {Ng : List Str} {x a : Str} {sg : Scope} {g f c' : Addr} {cdg pm ctv : Value} {params : Arguments} {body : Expr} {scope : Scope} {k i : Nat} {pn : List (Addr × Obj)} {xe : Value → Shared → Prop} {W : WX} {t : XK → TE} {p1 p2 : Pos}
    (I : Inv X pins σ H s) (L : LamS X.env.scope scope)
    (hf : s.heap.get? f = some (kla_obj "<lambda>" (X.env.qual ++ "<lambda>") params body scope (cloFrom X.env.cells scope.names []) pm c' ctv)) (nf : H f = none) (nr : f ∉ frs X.stack)
    (bnd : bindArgs (kla_fn "<lambda>" (X.env.qual ++ "<lambda>") params body scope (cloFrom X.env.cells scope.names []) pm (.ref c') ctv) ⟨[], []⟩ = pure [])
    (tk : Takes ((heldCx X Ng x sg g cdg s H).tr pn xe) W) (hr : RoomG (k + 1) (X.A.deeper (envOfC x sg s.heap.objs.size g cdg)))
    (hbody : ∀ (A : Around) (outer : List Env) (s : Shared) (H : Hp) (E : XK), RoomG k (A.deeper (lamEnv X scope s.heap.objs.size f c')) → PE (lamCx X A outer s H E scope f c') body (t E))
    (hN : Ng[i]? = some a) (hv : Vis sg a) (h1 : (a == ("__debug__" : Str)) = false := by decide) (h2 : (a == ("__classdict__" : Str)) = false := by decide) :
    PE ((heldCx X Ng x sg g cdg s H).tr pn xe) (.Call (.Name a p1) [] [] p2) (tAct W i f c' (X.env.qual ++ "<lambda>") fun E H' Q' => t E σ H' Q') := by
  constructor
  intro pinsZ sZ σZ HZ Q IZ ⟨hs, hc, ht⟩
  have var := (pe_var (pos := p1) (i := i) hN hv h1 h2).run pinsZ sZ σZ HZ (fun v H1 => v = .ref f ∧ H1 = HZ) IZ ⟨.ref f, hs, rfl, rfl⟩
  refine wpAny_Call_Name_kw (thn var ?_)
  rintro u s1 ⟨v, H1, I1, rv, rfl, rfl⟩
  obtain rfl : u = Value.ref f := rv
  have bs : Un (frs X.stack) [] H H1 s.heap s1.heap := I1.base
  have at_ := bs.keep f _ hf nf nr List.not_mem_nil
  obtain ⟨⟨oc, vs, tt, hoc, hd, hn⟩, _⟩ := I1.hok c' _ hc
  refine callWith_F0 ⟨_, _, _, _, at_⟩ (wpAny_call ?_)
  refine codeAny_mono (R := CR (L2.CX X.prog X.w) (envOfC x sg s.heap.objs.size g cdg :: X.stack) X.prog X.w H1 s1 Q (WE W σZ)) ?_ ?_
  · show codeAny (model X.prog X.w) (X.A.deeper (envOfC x sg s.heap.objs.size g cdg)) (.call (.ref f) ⟨[], []⟩) (CR (L2.CX X.prog X.w) (envOfC x sg s.heap.objs.size g cdg :: X.stack) X.prog X.w H1 s1 Q (WE W σZ)) s1
    refine kla_callFunE hr.r.depth at_ rfl L.co L.gen rfl ⟨c', oc, vs, tt, rfl, hoc, hd, hn⟩ ?_
    rw [bnd]
    refine wpAny_pure (wpAny_newFunctionEnv (fun y hy => (L.own y hy).2) (fun y hy => nomatch hy) (fun h₁ ns sb => ?_) L.kind)
    refine ⟨I1.nolimit.fresh _ sb, ?_⟩
    have keep : ∀ b o, s1.heap.get? b = some o → h₁.get? b = some o := fun b o z => sb.extBut b o (Nat.ne_of_lt (Heap.lt_size z)) (Heap.get?_push_of_some _ z)
    have J := lam_start2 (E := WE W σZ) (c' := c') (f := f) (tk := s1.toks + ([] : List (Str × Value)).length) I L I1.env0 hr.r.hd bs ns keep
    show codeAny _ _ (.expr body (lamEnv X scope s1.heap.objs.size f c')) _ _
    refine kla_codeExpr (wpAny_mono ((hbody _ _ s1 H1 _ ⟨hr.r.deeper _, hr.g⟩).run [] _ _ H1 Q J ht) ?_ fun _ _ z => z)
    rintro v s' ⟨y, H', J', ry, q⟩
    exact ⟨y, H', J'.os, J'.bare, J'.base, J'.hok, ry, q⟩
  · intro r s' hq
    cases r with
    | error er => exact passAt tk σZ pinsZ H1 s1 er s' I1 hq
    | ok fl => cases fl with
      | ret u => exact I1.after hq
      | next => exact (show False from hq).elim
      | brk => exact (show False from hq).elim
      | cont => exact (show False from hq).elim
end
/-- what the def x, its one parameter a, makes of a lambda's reading -/
def GivesG (P : Program) (w : World) (K : Frag) (mg : Str → Option Value) (base : Heap) (k : Nat) (N : List Str) (x a : Str) (sc : Scope) (g : Addr) (cd : Value) (bd : List Stmt) (TT : (XK → Hp → VK → Prop) → Hp → VK → Prop) : Prop :=
  ∀ (A : Around) (outer : List Env) (s : Shared) (H : Hp) (f c' : Addr) (q : Str) (Q : VK) (tl : XK → Hp → VK → Prop), RoomG k (A.deeper (envOfC x sc s.heap.objs.size g cd)) →
    (∀ (W : WX) (pn : List (Addr × Obj)) (xe : Value → Shared → Prop) (p1 p2 : Pos), Takes ((cxOf CX0 P w K mg base N x sc g cd A outer s H E0).tr pn xe) W →
      PE ((cxOf CX0 P w K mg base N x sc g cd A outer s H E0).tr pn xe) (.Call (.Name a p1) [] [] p2) (tAct W 0 f c' q tl)) →
    H c' = some (CodeO c' q) → TT tl H Q → ∃ t, PSs (cxOf CX0 P w K mg base N x sc g cd A outer s H E0) bd t ∧ t { nx := fun _ H' => Q .non H', rt := Q } (L2.start N [.ref f]) H
structure DnL (P : Program) (w : World) (K : Frag) (mg : Str → Option Value) (base : Heap) (x a : Str) (k : Nat) (TT : (XK → Hp → VK → Prop) → Hp → VK → Prop) : Prop where
  ex : ∃ (g : Addr) (fd : FuncData) (st : Stmt) (N : List Str), FunD K x x (defArgs st) (defBody st) (defScope st) [] [] g fd ∧ mg x = some (.ref g) ∧ Binds K fd [a] [] ∧ FnScope N [a] (defScope st) ∧ N[0]? = some a ∧ Vis (defScope st) a ∧ ∀ cd, GivesG P w K mg base k N x a (defScope st) g cd (defBody st) TT
def tLamG (T : List (Addr × Str)) (TT : (XK → Hp → VK → Prop) → Hp → VK → Prop) (t : XK → TE) : TE := fun σ H Q => Tabs T H ∧ ∀ H1, ExtN H H1 → Tabs T H1 → TT (fun E H' Q' => t E σ H' Q') H1 Q
theorem pe_lamcallG {X : Cx} {T : List (Addr × Str)} {TT : (XK → Hp → VK → Prop) → Hp → VK → Prop} {x a : Str} {c Pt : Addr} {k : Nat} {params : Arguments} {body : Expr} {scope : Scope} {t : XK → TE} {p lpos pos : Pos}
    (D : DnL X.prog X.w X.K X.mg X.base x a (k + 1) TT) (hg : Gl X x) (TB : TabB X.base X.mg c Pt) (hcode : X.env.code = .ref c) (hT : (Pt, X.env.qual ++ "<lambda>") ∈ T) (hu : ∀ p ∈ T, p.1 = Pt → p.2 = X.env.qual ++ "<lambda>")
    (hr : RoomG (k + 2) X.A) (L : LamS X.env.scope scope) (hdef : defaultsOf params X.env = ([], []))
    (bnd : ∀ (q : Str) (cl : List (Str × Addr)) (pm cv ctv : Value), bindArgs (kla_fn "<lambda>" q params body scope cl pm cv ctv) ⟨[], []⟩ = pure [])
    (hbody : ∀ (A : Around) (outer : List Env) (s : Shared) (H : Hp) (E : XK) (f c' : Addr), RoomG k (A.deeper (lamEnv X scope s.heap.objs.size f c')) → PE (lamCx X A outer s H E scope f c') body (t E))
    (h1 : (x == ("__debug__" : Str)) = false := by decide) (h2 : (a == ("__debug__" : Str)) = false := by decide) (h3 : (a == ("__classdict__" : Str)) = false := by decide) :
    PE X (.Call (.Name x p) [.Lambda params body scope lpos] [] pos) (tLamG T TT t) := by
  obtain ⟨g, fd, st, N, F, hm, hb, S, hN, hv, G⟩ := D.ex
  have kp := F.kp
  obtain ⟨oc, od, dV, kV, doc, pm, an, cdv, ct, osl, rfl, lk, hcd, _, _⟩ := F.ex
  constructor
  intro pins s σ H Q I ⟨tb, go⟩
  refine wpAny_Call_Name_kw (ld_glob I hg hm ?_ h1)
  refine callWith_K (h₀ := X.base) I.ok.mod.kin kp ?_ (by rfl) (by rfl)
  refine Calls.spliced_cons (lam_make2 I TB hcode hT hu tb hdef (L.has I.ok) ?_)
  intro f c' pm' ctv H1 s' I1 eN T1 hf nf nr hco
  refine Calls.spliced_nil ⟨I1.kIn, wpAny_call (codeAny_mono (R := CR CX0 X.stack X.prog X.w H1 s' Q E0) ?_ ?_)⟩
  · refine run_ofS (N := N) (ps := [a]) (us := [.ref f]) (vs := [.ref f]) lk hcd S hr.r I1.env0 (hb s' [.ref f] I1.kIn rfl) (.cons rfl .nil) rfl fun hr' => ?_
    refine G cdv X.A X.stack s' H1 f c' _ Q _ ⟨hr', hr.g⟩ (fun W pn xe p1 p2 tk => ?_) hco (go H1 eN T1)
    exact pe_actG (i := 0) I1 L hf nf nr (bnd _ _ _ _ _) tk ⟨hr', hr.g⟩ (fun A outer s H E hr2 => hbody A outer s H E f c' hr2) hN hv h2 h3
  · intro r s2 hq
    cases r with
    | error er => exact (show False from hq).elim
    | ok fl => cases fl with
      | ret u => exact I1.after hq
      | next => exact (show False from hq).elim
      | brk => exact (show False from hq).elim
      | cont => exact (show False from hq).elim
theorem code_of {K : Frag} {x qual : Str} {pa : Arguments} {bd : List Stmt} {sc : Scope} {dvs : List V} {kws : List (Str × V)} {f : Addr} {fd : FuncData} (F : FunD K x qual pa bd sc dvs kws f fd) : fd.code = .ref (tcC K f) := by
  obtain ⟨oc, od, dV, kV, doc, pm, an, cdv, ct, osl, rfl, lk, hcd, _, _⟩ := F.ex
  unfold tcC
  rw [lk]
  cases cdv with
  | ref c => rfl
  | _ => cases (show false = true from hcd)
/-- as fnG_body, the def's code object known -/
theorem fnG_bodyC {P : Program} {w : World} {K : Frag} {mg : Str → Option Value} {base : Heap} {CX : CXT} {k : Nat} {f : Addr} {fd : FuncData} {ps : List Str} {sp : Sp} {x qual : Str} {st : Stmt} {N : List Str} {dvs0 : List V} {kws0 : List (Str × V)} (F : FunD K x qual (defArgs st) (defBody st) (defScope st) dvs0 kws0 f fd) (S : FnScope N ps (defScope st)) (len : ∀ vs H Q E, sp vs H Q E → vs.length = ps.length)
    (hb : ∀ (A : Around) (outer : List Env) (s : Shared) (H : Hp) (vs : List V) (Q : VK) (E : XK), RoomG k (A.deeper (envOfC qual (defScope st) s.heap.objs.size f (.ref (tcC K f)))) → sp vs H Q E →
      ∃ t, PSs (cxOf CX P w K mg base N qual (defScope st) f (.ref (tcC K f)) A outer s H E) (defBody st) t ∧ t { nx := fun _ H' => Q .non H', rt := Q } (start N vs) H) :
    FnG P w K mg base CX (k + 1) f fd ps sp := by
  have e := code_of F
  obtain ⟨oc, od, dV, kV, doc, pm, an, cdv, ct, osl, rfl, lk, hcd, _, _⟩ := F.ex
  obtain rfl : cdv = .ref (tcC K f) := e
  constructor
  · exact len
  · intro A outer s H args us vs Q E hr e0 hbi r hsp
    have keeps0 : ∀ b o, base.get? b = some o → s.heap.get? b = some o := fun b o e => (e0.bs b o e).1
    have inK : K.In s.heap := e0.mod.kin.keeps keeps0
    refine codeAny_call_function hr.r.depth (inK _ _ lk) rfl S.co S.gen rfl (PySem.W.codeRec_of inK hcd) (hbi _ _ _ _ ?_)
    refine wpAny_newFunctionEnv_cells S.kind ?_ fun env he s1 x => ?_
    · intro ⟨n, v⟩ hy
      cases S.par n (List.of_mem_zip hy).1 with
      | inl q => exact Or.inl q
      | inr q => exact Or.inr ⟨q, PySem.W.cellsFrom_some _ _ _ (Or.inl q)⟩
    · subst he
      refine ⟨(e0.mod.nolimit.keeps keeps0).keeps x.toInCall.keep, codeAny_func ?_⟩
      obtain ⟨t, ht, hq⟩ := hb A outer s H vs Q E ⟨hr.r.deeper _, hr.g⟩ hsp
      have I0 := inv_start (CX := CX) (P := P) (E := E) S hr.r.hd e0 (len _ _ _ _ hsp) r x
      refine wpAny_mono (ht.run [] s1 (start N vs) H _ I0 hq) ?_ (fun _ _ z => z)
      intro fl s' hs
      cases fl with
      | ret u => obtain ⟨v, σ', H', J, rv, q⟩ := hs; exact ⟨v, H', J.os, J.bare, J.base, J.hok, rv, q⟩
      | next => obtain ⟨σ', H', J, q⟩ := hs; exact ⟨V.non, H', J.os, J.bare, J.base, J.hok, rfl, q⟩
      | brk => exact hs.elim fun _ z => z.elim fun _ y => y.2.elim
      | cont => exact hs.elim fun _ z => z.elim fun _ y => y.2.elim
/-- one table, one name -/
def TabN (T : List (Addr × Str)) : Prop := ∀ p ∈ T, ∀ q ∈ T, p.1 = q.1 → p.2 = q.2
theorem TabN.by {T : List (Addr × Str)} (h : (T.all fun p => T.all fun q => !(p.1 == q.1) || p.2 == q.2) = true) : TabN T := by
  intro p hp q hq e
  have z := List.all_eq_true.mp (List.all_eq_true.mp h p hp) q hq
  rw [e, beq_self_eq_true, Bool.not_true, Bool.false_or] at z
  exact beq_iff_eq.mp z
/-- all but the tables and r stay -/
def ExtB (r : Addr) (H H' : Hp) : Prop := ∀ b o, H b = some o → (∀ ps, o ≠ .tbl ps) → b ≠ r → H' b = some o
theorem ExtB.refl (r : Addr) (H : Hp) : ExtB r H H := fun _ _ h _ _ => h
theorem ExtB.trans {r : Addr} {H H1 H2 : Hp} (a : ExtB r H H1) (b : ExtB r H1 H2) : ExtB r H H2 := fun c o h n m => b c o (a c o h n m) n m
theorem ExtB.ofN {r : Addr} {H H' : Hp} (e : ExtN H H') : ExtB r H H' := fun b o h n _ => e b o h n
theorem ExtB.ofB {r : Addr} {H H' : Hp} (e : But r H H') : ExtB r H H' := fun b o h _ m => e b o h m
theorem ExtB.get {r b : Addr} {o : HO} {H H' : Hp} (x : ExtB r H H') (h : H b = some o) (m : b ≠ r) (n : ∀ ps, o ≠ .tbl ps) : H' b = some o := x b o h n m
theorem ExtN.get' {b : Addr} {o : HO} {H H' : Hp} (x : ExtN H H') (h : H b = some o) (n : ∀ ps, o ≠ .tbl ps) : H' b = some o := x b o h n
theorem ExtN.sm {H H' : Hp} (e : L2.Same H H') : ExtN H H' := fun b o h _ => e b o h
theorem Tabs.sm {T : List (Addr × Str)} {H H' : Hp} (t : Tabs T H) (e : L2.Same H H') : Tabs T H' := t.ext e
theorem Tabs.nilT {T : List (Addr × Str)} {H : Hp} (h : ∀ p ∈ T, H p.1 = some (.tbl #[])) : Tabs T H := fun p hp => .nil (h p hp)
/-- a change beside the tables -/
theorem Tabs.but {T : List (Addr × Str)} {r : Addr} {H H' : Hp} {o : HO} (t : Tabs T H) (e : But r H H') (hr : H r = some o) (h1 : ∀ ps, o ≠ .tbl ps) (h2 : ∀ c q, o ≠ CodeO c q) : Tabs T H' := by
  intro p hp
  obtain ⟨ps, a1, a2, a3⟩ := t p hp
  refine ⟨ps, e _ _ a1 (fun z => ?_), a2, fun pos cv hc => ?_⟩
  · rw [z, hr] at a1
    exact h1 ps (Option.some.inj a1)
  · obtain ⟨c, e1, e2⟩ := a3 pos cv hc
    refine ⟨c, e1, e _ _ e2 (fun z => ?_)⟩
    have e3 := (congrArg H z).symm.trans e2
    rw [hr] at e3
    exact h2 c _ (Option.some.inj e3)
theorem codeO_lst {xs : List V} (c : Addr) (q : Str) : HO.lst xs ≠ CodeO c q := fun z => by
  unfold CodeO at z
  cases z
end My

namespace My
open PySem PySem.Spec PyProof.Rows L2 LamX PySem.W
/-! ### the end of a row whose defs make lambdas: code objects and their tables -/
/-- a maker: its code object is p.1, its table p.2 -/
structure Maker (K : Frag) (h : Heap) (p : Addr × Addr) : Prop where
  tab : h.get? p.2 = some (tabObj #[])
  out : K.lookup p.2 = none
  hd : CodeHd h p.1 p.2
/-- the script and the tables, nothing else -/
structure OnlyT (cs : List (Addr × Addr)) (a : Addr) (H : Hp) : Prop where
  tb : ∀ p ∈ cs, H p.2 = some (.tbl #[])
  one : ∀ b u, H b = some u → (b = a ∧ ∃ o xs, u = .frz o (.lst xs)) ∨ ∃ p ∈ cs, p.2 = b
section
variable {P : Program} {w : World} {K : Frag} {mg mb : Str → Option Value} {k : Nat} {fa a : Addr} {fd : FuncData} {x : Str} {sp : Sp} {s : Shared} {vs : List Value} {ns : List Int} {cs : List (Addr × Addr)}
theorem lawT_from {H : Hp} (KX : K.In s.heap) (hns : s.heap.Ns mainGlobals mg) (hb : s.heap.Ns builtinsNs mb) (hbb : ∀ y : Str, y ≠ "__name__" → mb y = bootBuiltins y) (hlim : s.heap.NoLimit) (hg : s.gens = #[])
    (mk : ∀ p ∈ cs, Maker K s.heap p)
    (hbm : ∃ (bm : Addr) (ob : Obj), mg "__builtins__" = some (.ref bm) ∧ bm ≠ builtinsNs ∧ s.heap.get? bm = some ob ∧ ob.cls = .type "module" ∧ ob.dict = some builtinsNs ∧ ob.data = .plain)
    (ha : s.heap.get? a = some { cls := .type "list", data := .seq vs.toArray }) (hr : RoomG k callerA)
    (F : ∀ base : Heap, K.In base → base.Ns mainGlobals mg → (∀ p ∈ cs, TabB base mg p.1 p.2) → FnG P w K mg base CX0 k fa fd [x] sp) (bnd : ∀ (s : Shared) (u : Value), BindsTo s fd ⟨[u], []⟩ [(x, u)])
    (hsp : sp [.ref a] H (fun v _ => v = .bl true) E0) (only : OnlyT cs a H) (ok : HOk P w H s.heap) (nK : H a ≠ none → K.lookup a = none) :
    codeAny (model P w) callerA (.call (.ref fa) ⟨[.ref a], []⟩) (lawEnd s) s := by
  -- what is tracked is the script's list or a table
  have sort : ∀ {b : Addr} {o : Obj}, s.heap.get? b = some o → (∀ us n, o.data ≠ .seq us n) → o.data ≠ .fields #[] → H b = none := by
    intro b o e h1 h2
    refine Classical.byContradiction fun z => ?_
    obtain ⟨u, hu⟩ := Option.ne_none_iff_exists'.mp z
    rcases only.one b u hu with ⟨rfl, _⟩ | ⟨p, hp, rfl⟩
    · rw [ha] at e
      cases e
      exact h1 _ _ rfl
    · rw [(mk p hp).tab] at e
      cases e
      exact h2 rfl
  have dictN : ∀ {b : Addr} {o : Obj} {es : Array DictEntry} {ep : Nat}, s.heap.get? b = some o → o.data = .dict es ep → H b = none := fun e d =>
    sort e (fun us n z => by rw [d] at z; cases z) fun z => by rw [d] at z; cases z
  have nsB : ∀ {b : Addr} {m : Str → Option Value}, s.heap.Ns b m → (hidT s.heap H).Ns b m := by
    rintro b m ⟨o, es, ep, e, d, r⟩
    exact ⟨o, es, ep, hidT_get e (dictN e d), d, r⟩
  have inB : K.In (hidT s.heap H) := by
    intro b o e
    refine hidT_get (KX b o e) (Classical.byContradiction fun z => ?_)
    obtain ⟨u, hu⟩ := Option.ne_none_iff_exists'.mp z
    rcases only.one b u hu with ⟨rfl, _⟩ | ⟨p, hp, rfl⟩
    · rw [nK z] at e
      cases e
    · rw [(mk p hp).out] at e
      cases e
  obtain ⟨mc, l1, l2⟩ := hlim
  have md : Mod K mg (hidT s.heap H) := ⟨inB, nsB hns, ⟨mb, nsB hb, hbb⟩, mc, nsB l1, l2⟩
  have env : Env0 P w K mg (hidT s.heap H) callerA [] s H :=
    ⟨rfl, md, fun b o e => of_hidT e, Nat.le_of_eq (hidT_size _ _), trivial, fun b z => (List.not_mem_nil (show b ∈ ([] : List Addr) from z)).elim, ok, .of_eq hg⟩
  have TB : ∀ p ∈ cs, TabB (hidT s.heap H) mg p.1 p.2 := by
    intro p hp
    constructor
    · obtain ⟨o, us, file, tf, fl, tg, inF, tx, tt, e1, e2, e3, e4, r⟩ := (mk p hp).hd
      refine ⟨o, us, file, tf, fl, tg, inF, tx, tt, hidT_get e1 (sort e1 (fun us n z => ?_) fun z => ?_), e2, e3, e4, r⟩
      · rw [e3] at z
        cases z
      · rw [e3] at z
        cases z
        cases e4
    · obtain ⟨bm, ob, b1, b2, b3, b4, b5, b6⟩ := hbm
      have pl : ∀ {us n}, ob.data ≠ .seq us n := fun {us n} z => by rw [b6] at z; cases z
      have nf : ∀ {us}, ob.data ≠ .fields us := fun {us} z => by rw [b6] at z; cases z
      refine ⟨bm, ob, b1, b2, ?_, ?_, hidT_get b3 (sort b3 (fun _ _ => pl) nf), b4, b5, b6⟩
      · rintro rfl
        obtain ⟨o, es, ep, e, d, _⟩ := hns
        rw [e] at b3
        cases b3
        rw [d] at b6
        cases b6
      · rintro rfl
        rw [(mk p hp).tab] at b3
        cases b3
        cases b6
    · intro z
      obtain ⟨o, es, ep, e, d, _⟩ := hns
      rw [z, (mk p hp).tab] at e
      cases e
      cases d
  refine codeAny_mono ((F _ inB (nsB hns) TB).go callerA [] s H ⟨[.ref a], []⟩ [.ref a] [.ref a] _ _ hr env (bnd s (.ref a)) (.cons rfl .nil) hsp) ?_
  rintro (e | fl) s' h
  · exact (show False from h).elim
  · cases fl with
    | ret u =>
      obtain ⟨v, H', os, bare, un, ok', rv, (rfl : v = .bl true)⟩ := h
      obtain rfl : u = Value.bool true := rv
      -- each old object: kept, or a table that has grown
      have key : ∀ b o, s.heap.get? b = some o → s'.heap.get? b = some o ∨ ∃ p ∈ cs, p.2 = b ∧ o = tabObj #[] ∧ ∃ more, s'.heap.get? b = some (tabObj more) := by
        intro b o e
        cases q : H b with
        | none => exact .inl (un.keep b o e q (fun z => (List.not_mem_nil (show b ∈ ([] : List Addr) from z)).elim) (by simp))
        | some u =>
          rcases only.one b u q with ⟨rfl, ob, xs, rfl⟩ | ⟨p, hp, rfl⟩
          · have y1 := (ok b _ q).1
            have y2 := (ok' b _ (un.frzs b ob _ q)).1
            rw [e] at y1
            cases y1
            exact .inl y2
          · rw [(mk p hp).tab] at e
            obtain ⟨more, z⟩ := un.tbls p.2 #[] (only.tb p hp)
            exact .inr ⟨p, hp, rfl, (Option.some.inj e).symm, _, ok' p.2 _ z⟩
      refine ⟨rfl, ⟨fun b o e => ?_, fun b o e => ?_⟩, os, bare⟩
      · rcases key b o e with z | ⟨p, hp, rfl, rfl, more, z⟩
        · exact .inl z
        · exact .inr (.inl ⟨((mk p hp).hd.tab (mk p hp).tab).isCodeTable, rfl, #[], more, rfl, by rw [Array.empty_append]; exact z⟩)
      · rcases key b o e with z | ⟨p, hp, rfl, rfl, more, z⟩
        · exact ⟨o, z⟩
        · exact ⟨_, z⟩
    | next => exact (show False from h).elim
    | brk => exact (show False from h).elim
    | cont => exact (show False from h).elim
theorem lawT (KX : K.In s.heap) (hns : s.heap.Ns mainGlobals mg) (hb : s.heap.Ns builtinsNs mb) (hbb : ∀ y : Str, y ≠ "__name__" → mb y = bootBuiltins y) (hlim : s.heap.NoLimit) (hg : s.gens = #[])
    (mk : ∀ p ∈ cs, Maker K s.heap p)
    (hbm : ∃ (bm : Addr) (ob : Obj), mg "__builtins__" = some (.ref bm) ∧ bm ≠ builtinsNs ∧ s.heap.get? bm = some ob ∧ ob.cls = .type "module" ∧ ob.dict = some builtinsNs ∧ ob.data = .plain)
    (ha : s.heap.get? a = some { cls := .type "list", data := .seq vs.toArray }) (hi : IntsAre vs ns) (hl : ns.length ≤ sizeLine) (hr : RoomG k callerA)
    (F : ∀ base : Heap, K.In base → base.Ns mainGlobals mg → (∀ p ∈ cs, TabB base mg p.1 p.2) → FnG P w K mg base CX0 k fa fd [x] sp) (bnd : ∀ (s : Shared) (u : Value), BindsTo s fd ⟨[u], []⟩ [(x, u)])
    (hsp : ∀ H : Hp, (∀ p ∈ cs, H p.2 = some (.tbl #[])) → SqL K H a (ns.map V.int) → sp [.ref a] H (fun v _ => v = .bl true) E0) :
    codeAny (model P w) callerA (.call (.ref fa) ⟨[.ref a], []⟩) (lawEnd s) s := by
  have rv := vals_ints hi
  have inT : ∀ b, b ∈ cs.map (·.2) ↔ ∃ p ∈ cs, p.2 = b := fun b => List.mem_map
  let T : Hp := fun b => if b ∈ cs.map (·.2) then some (.tbl #[]) else none
  have T1 : ∀ b, b ∈ cs.map (·.2) → T b = some (.tbl #[]) := fun b h => if_pos h
  have T0 : ∀ b, b ∉ cs.map (·.2) → T b = none := fun b h => if_neg h
  have Tok : ∀ b u, T b = some u → (∃ p ∈ cs, p.2 = b) ∧ u = .tbl #[] := by
    intro b u z
    rcases Classical.em (b ∈ cs.map (·.2)) with h | h
    · rw [T1 b h] at z
      exact ⟨(inT b).mp h, (Option.some.inj z).symm⟩
    · rw [T0 b h] at z
      cases z
  have aT : a ∉ cs.map (·.2) := by
    intro z
    obtain ⟨p, hp, e⟩ := (inT a).mp z
    have e1 := (mk p hp).tab
    rw [e, ha] at e1
    cases e1
  cases hk : K.lookup a with
  | some o =>
    have e := (ha.symm.trans (KX a o hk))
    cases e
    have on : OnlyT cs a T := ⟨fun p hp => T1 _ ((inT _).mpr ⟨p, hp, rfl⟩), fun b u z => .inr (Tok b u z).1⟩
    refine lawT_from (H := T) KX hns hb hbb hlim hg mk hbm ha hr F bnd (hsp T on.tb ?_) on ?_ fun z => (z (T0 a aT)).elim
    · exact Or.inr ⟨_, vs.toArray, _, hk, rfl, rfl, rfl, by rw [List.size_toArray, hi.length]; exact hl, by simpa using rv⟩
    · intro b u z
      obtain ⟨⟨p, hp, rfl⟩, rfl⟩ := Tok b u z
      exact (mk p hp).tab
  | none =>
    let H1 : Hp := upd T a (.frz { cls := .type "list", data := .seq vs.toArray } (.lst (ns.map V.int)))
    have same : H1 a = some (.frz { cls := .type "list", data := .seq vs.toArray } (.lst (ns.map V.int))) := upd_same
    have els : ∀ b, b ≠ a → H1 b = T b := fun b n => upd_ne n
    have on : OnlyT cs a H1 := by
      constructor
      · intro p hp
        have hm := (inT p.2).mpr ⟨p, hp, rfl⟩
        rw [els p.2 (fun z => aT (z ▸ hm))]
        exact T1 _ hm
      · intro b u z
        rcases Classical.em (b = a) with e | n
        · subst e
          rw [same] at z
          exact .inl ⟨rfl, _, _, (Option.some.inj z).symm⟩
        · rw [els b n] at z
          exact .inr (Tok b u z).1
    refine lawT_from (H := H1) KX hns hb hbb hlim hg mk hbm ha hr F bnd (hsp H1 on.tb (Or.inl (Or.inr ⟨_, same⟩))) on ?_ fun _ => hk
    intro b u z
    rcases Classical.em (b = a) with e | n
    · subst e
      rw [same] at z
      cases z
      exact ⟨ha, by rw [List.length_map]; exact hl, vs, _, rv, ha⟩
    · rw [els b n] at z
      obtain ⟨⟨p, hp, rfl⟩, rfl⟩ := Tok b u z
      exact (mk p hp).tab
end
theorem walkGT {l : OpenLaw} {n k : Nat} {q : Program} {loose : List Str} {XP : (Str → Option Value) → Heap → Prop} {YP : World → Heap → Prop} {d : DefRec} {x : Str} (hn : l.most = some n) (hn2 : n ≤ sizeLine) (hdf : d.params.defaults = []) (hr : RoomG k callerA)
    (F : ∀ (w : World) (mg : Str → Option Value) (fa : Addr) (h : Heap), YP w h → h.Ns mainGlobals mg → mg d.name = some (.ref fa) → ∃ (K : Frag) (fd : FuncData) (sp : Sp) (cs : List (Addr × Addr)), K.In h ∧ (∀ p ∈ cs, Maker K h p) ∧ (∀ (s : Shared) (u : Value), BindsTo s fd ⟨[u], []⟩ [(x, u)]) ∧
      (∀ (H : Hp) (a : Addr) (ns : List Int), ns.length ≤ n → (∀ p ∈ cs, H p.2 = some (.tbl #[])) → SqL K H a (ns.map V.int) → sp [.ref a] H (fun v _ => v = .bl true) E0) ∧
      ∀ base : Heap, K.In base → base.Ns mainGlobals mg → (∀ p ∈ cs, TabB base mg p.1 p.2) → FnG l.prog w K mg base CX0 k fa fd [x] sp) :
    WalkO q loose XP YP l.row.toRowW d [] (fun f vs => PySem.call f vs) := by
  refine Att.attach_call hn hdf ?_
  intro w s₀ s₁ mg mb fa o pm cd doc a vs ns G Y ho hd hcd hmg hobj hints hlen hg
  obtain ⟨K, fd, sp, cs, KX, mk, hb, hsp, hF⟩ := F w mg fa _ Y G.T.g hmg
  exact lawT KX G.T.g G.T.b G.T.builtins G.T.nolimit hg mk G.T.bmain hobj hints (Nat.le_trans hlen hn2) hr hF hb fun H h1 h2 => hsp H a ns hlen h1 h2
/-! ### the run of the top tells K without the tables, and the tables -/
theorem isTabO_ok {o : Obj} (h : isTabO o = true) : o = tabObj #[] := by
  unfold isTabO at h
  split at h
  · rename_i us sl
    simp only [Bool.and_eq_true, beq_iff_eq] at h
    obtain ⟨⟨u⟩, ⟨v⟩⟩ := us, sl
    obtain ⟨h1, h2⟩ := h
    have e1 : u = [] := List.eq_nil_of_length_eq_zero h1
    have e2 : v = [] := List.eq_nil_of_length_eq_zero h2
    subst e1 e2
    rfl
  · cases h
theorem tabOkB_ok {T K : Frag} {h : Heap} {a : Addr} (TX : T.In h) (KX : K.In h) (z : tabOkB T K a = true) : Maker K h (tcC K a, tcP K a) := by
  unfold tabOkB at z
  simp only [Bool.and_eq_true, Option.isNone_iff_eq_none] at z
  obtain ⟨z1, z2, z3⟩ := z
  refine ⟨?_, z2, codeHd_of_K KX z1⟩
  split at z3
  · rename_i o e
    rw [← isTabO_ok z3]
    exact TX _ _ e
  · cases z3
end My

namespace My
open PySem L2 PySem.Spec PyProof.Rows
/-! ### data with dicts of text keys in it -/
section
variable {X : Cx} {pins : List (Addr × Obj)} {σ : L2.St} {H : Hp} {s : Shared}
mutual
inductive Dz (H : Hp) : V → PyData → Prop
  | non : Dz H .non .none
  | bl (b : Bool) : Dz H (.bl b) (.bool b)
  | int (i : Int) : Dz H (.int i) (.int i)
  | str (x : Str) : Dz H (.str x) (.str x)
  | lst {a : Addr} {xs : List V} {ds : List PyData} (h : H a = some (.lst xs)) (n : a ≠ sysModules) (r : DzAll H xs ds) : Dz H (.ref a) (.list ds)
  | tup {a : Addr} {xs : List V} {ds : List PyData} (h : H a = some (.tup xs)) (r : DzAll H xs ds) : Dz H (.ref a) (.tuple ds)
  | dct {a : Addr} {kvs : List (Key × V)} {ds : List (PyData × PyData)} (h : H a = some (.dK kvs)) (r : DzKs H kvs ds) : Dz H (.ref a) (.dict ds)
inductive DzAll (H : Hp) : List V → List PyData → Prop
  | nil : DzAll H [] []
  | cons {x : V} {xs : List V} {d : PyData} {ds : List PyData} (h : Dz H x d) (r : DzAll H xs ds) : DzAll H (x :: xs) (d :: ds)
inductive DzKs (H : Hp) : List (Key × V) → List (PyData × PyData) → Prop
  | nil : DzKs H [] []
  | cons {x : Str} {v : V} {d : PyData} {kvs : List (Key × V)} {ds : List (PyData × PyData)} (h : Dz H v d) (r : DzKs H kvs ds) : DzKs H ((.inr x, v) :: kvs) ((.str x, d) :: ds)
end
mutual
theorem Dz.same {H H' : Hp} (s : L2.Same H H') : ∀ {v : V} {d : PyData}, Dz H v d → Dz H' v d
  | _, _, .non => .non
  | _, _, .bl b => .bl b
  | _, _, .int i => .int i
  | _, _, .str x => .str x
  | _, _, .lst h n r => .lst (s _ _ h) n (DzAll.same s r)
  | _, _, .tup h r => .tup (s _ _ h) (DzAll.same s r)
  | _, _, .dct h r => .dct (s _ _ h) (DzKs.same s r)
theorem DzAll.same {H H' : Hp} (s : L2.Same H H') : ∀ {vs : List V} {ds : List PyData}, DzAll H vs ds → DzAll H' vs ds
  | _, _, .nil => .nil
  | _, _, .cons h r => .cons (Dz.same s h) (DzAll.same s r)
theorem DzKs.same {H H' : Hp} (s : L2.Same H H') : ∀ {vs : List (Key × V)} {ds : List (PyData × PyData)}, DzKs H vs ds → DzKs H' vs ds
  | _, _, .nil => .nil
  | _, _, .cons h r => .cons (Dz.same s h) (DzKs.same s r)
end
mutual
/-- all but r and the tables stay, and r's part in the data is none -/
theorem Dz.on {H H' : Hp} (s : ∀ b o, H b = some o → (∀ xs, o = .lst xs → ∃ ds, DzAll H xs ds) → (∀ ps, o ≠ .tbl ps) → H' b = some o) : ∀ {v : V} {d : PyData}, Dz H v d → Dz H' v d
  | _, _, .non => .non
  | _, _, .bl b => .bl b
  | _, _, .int i => .int i
  | _, _, .str x => .str x
  | _, _, .lst h n r => .lst (s _ _ h (fun xs e => by cases e; exact ⟨_, r⟩) (fun ps z => nomatch z)) n (DzAll.on s r)
  | _, _, .tup h r => .tup (s _ _ h (fun xs e => nomatch e) (fun ps z => nomatch z)) (DzAll.on s r)
  | _, _, .dct h r => .dct (s _ _ h (fun xs e => nomatch e) (fun ps z => nomatch z)) (DzKs.on s r)
theorem DzAll.on {H H' : Hp} (s : ∀ b o, H b = some o → (∀ xs, o = .lst xs → ∃ ds, DzAll H xs ds) → (∀ ps, o ≠ .tbl ps) → H' b = some o) : ∀ {vs : List V} {ds : List PyData}, DzAll H vs ds → DzAll H' vs ds
  | _, _, .nil => .nil
  | _, _, .cons h r => .cons (Dz.on s h) (DzAll.on s r)
theorem DzKs.on {H H' : Hp} (s : ∀ b o, H b = some o → (∀ xs, o = .lst xs → ∃ ds, DzAll H xs ds) → (∀ ps, o ≠ .tbl ps) → H' b = some o) : ∀ {vs : List (Key × V)} {ds : List (PyData × PyData)}, DzKs H vs ds → DzKs H' vs ds
  | _, _, .nil => .nil
  | _, _, .cons h r => .cons (Dz.on s h) (DzKs.on s r)
end
theorem keyStr {x : Str} {k : Value} (h : keyIs (Sum.inr x) k = true) : ∃ t, k = .str x t := by
  rcases keyIs_shape h with ⟨j, t2, z, _⟩ | ⟨y, t2, z, q⟩
  · cases z
  · cases z
    exact ⟨t2, q⟩
mutual
theorem Dz.reads (I : Inv X pins σ H s) : ∀ (d : PyData) (v : V) (u : Value), Dz H v d → L2.RelV v u → ∃ as, Reads s.heap u d as ∧ sysModules ∉ as
  | .none, _, _, h, r => by
    cases h
    cases r
    exact ⟨_, Reads.none, by simp⟩
  | .bool b, _, _, h, r => by
    cases h
    cases r
    exact ⟨_, Reads.bool b, by simp⟩
  | .int i, _, _, h, r => by
    cases h
    obtain ⟨t, rfl⟩ := r
    exact ⟨_, Reads.int i t, by simp⟩
  | .str x, _, _, h, r => by
    cases h
    obtain ⟨t, rfl⟩ := r
    exact ⟨_, Reads.str x t, by simp⟩
  | .list ds, _, _, h, r => by
    cases h with
    | lst hs n ha =>
      cases r
      obtain ⟨_, its, m, rv, ho⟩ := I.hok _ _ hs
      obtain ⟨as, hr, hn⟩ := DzAll.reads I ds _ its ha rv
      exact ⟨_, Reads.list ho rfl rfl hr, by
        rw [List.mem_cons, not_or]
        exact ⟨n.symm, hn⟩⟩
  | .tuple ds, _, _, h, r => by
    cases h with
    | tup hs ha =>
      cases r
      obtain ⟨_, its, rv, o, ho, hc, m, hd⟩ := I.hok _ _ hs
      obtain ⟨as, hr, hn⟩ := DzAll.reads I ds _ its ha rv
      exact ⟨_, Reads.tuple ho hc hd hr, hn⟩
  | .dict ds, _, _, h, r => by
    cases h with
    | @dct a kvs _ hs hk =>
      cases r
      obtain ⟨_, hd, vs, kv, o, es, ep, ho, hx, hdt, hkk, hp, _⟩ := dk_of I.hok hs
      have na : a ≠ sysModules := by simpa using hd
      obtain ⟨as, bs, h1, h2, n1, n2⟩ := DzKs.reads I ds kvs vs es.toList hk kv hp
      refine ⟨_, Reads.dict ho hx.1 hdt h1 h2, ?_⟩
      rw [List.mem_append, List.mem_cons, not_or, not_or]
      exact ⟨⟨na.symm, n1⟩, n2⟩
theorem DzAll.reads (I : Inv X pins σ H s) : ∀ (ds : List PyData) (vs : List V) (us : List Value), DzAll H vs ds → Vals vs us → ∃ as, ReadsAll s.heap us ds as ∧ sysModules ∉ as
  | [], _, _, h, r => by
    cases h
    cases r
    exact ⟨_, ReadsAll.nil, by simp⟩
  | d :: ds, _, _, h, r => by
    cases h with
    | cons h1 h2 =>
      cases r with
      | cons r1 r2 =>
        obtain ⟨as, q1, n1⟩ := Dz.reads I d _ _ h1 r1
        obtain ⟨bs, q2, n2⟩ := DzAll.reads I ds _ _ h2 r2
        exact ⟨_, ReadsAll.cons q1 q2, by
          rw [List.mem_append, not_or]
          exact ⟨n1, n2⟩⟩
theorem DzKs.reads (I : Inv X pins σ H s) : ∀ (ds : List (PyData × PyData)) (kvs : List (Key × V)) (vs : List (Key × Value)) (es : List DictEntry), DzKs H kvs ds → KV kvs vs → Pairs (mixKind X.prog X.w) es vs →
    ∃ as bs, ReadsAll s.heap (es.map (·.key)) (ds.map (·.1)) as ∧ ReadsAll s.heap (es.map (·.val)) (ds.map (·.2)) bs ∧ sysModules ∉ as ∧ sysModules ∉ bs
  | [], _, _, _, h, kv, p => by
    cases h
    cases kv
    cases p
    exact ⟨_, _, ReadsAll.nil, ReadsAll.nil, by simp, by simp⟩
  | (k, d) :: ds, _, _, _, h, kv, p => by
    cases h with
    | cons h1 h2 =>
      cases kv with
      | cons q1 q2 =>
        cases p with
        | cons p1 p2 p3 =>
          obtain ⟨e1, e2⟩ := q1
          dsimp only at e1 e2
          rw [← e1] at p1
          obtain ⟨t, ek⟩ := keyStr p1
          rw [← p2] at e2
          obtain ⟨as, r1, n1⟩ := Dz.reads I d _ _ h1 e2
          obtain ⟨as2, bs2, r2, r3, n2, n3⟩ := DzKs.reads I ds _ _ _ h2 q2 p3
          refine ⟨[] ++ as2, as ++ bs2, ?_, ReadsAll.cons r1 r3, by simpa using n2, ?_⟩
          · simp only [List.map_cons]
            rw [ek]
            exact ReadsAll.cons (Reads.str _ t) r2
          · rw [List.mem_append, not_or]
            exact ⟨n1, n3⟩
end
/-- repr of data, calm or not -/
def rReprZ : List V → Hp → VK → Prop := fun xs H Q => ∃ y d, xs = [y] ∧ Dz H y d ∧ d.depth ≤ 64 ∧ d.showable = true ∧ d.shown.length ≤ sizeLine ∧ Q (.str d.shown) H
theorem call_reprZ (hu : X.A.units + 200 < cLine) (hg : X.A.guards = some []) : CallR X (.builtin "repr") rReprZ := by
  intro pins s σ H xs us Q I r h
  obtain ⟨y, d, rfl, hd, hdp, hw, hz, q⟩ := h
  obtain ⟨u, rfl, ru⟩ := vals1 r
  obtain ⟨as, rd, nm⟩ := Dz.reads I d y u hd ru
  have hA : X.A.units + (d.depth + 1) < cLine := by omega
  have fin : ∀ {t : Tok} {s' : Shared}, Inv X pins σ H s' → EP X pins σ Q (.str d.shown t) s' := fun J => ⟨.str d.shown, H, J, ⟨_, rfl⟩, q⟩
  cases rd with
  | none => exact PySem.P.repr_of_none (fin (I.tok _))
  | bool b => exact PySem.P.repr_of_bool (fin (I.tok _))
  | int i t => exact PySem.P.repr_of_int (of_decide_eq_true hw) (fin (I.tok _))
  | str z t => exact PySem.P.repr_of_str (fin (I.tok _)) hz
  | list h1 h2 h3 h4 => exact PySem.repr_of_reads' (.list h1 h2 h3 h4) hw (fun _ => nm) hg hA (fun _ _ e => e) (fun h' t tk hk => fin (I.kept hk)) hz
  | tuple h1 h2 h3 h4 => exact PySem.repr_of_reads' (.tuple h1 h2 h3 h4) hw (fun _ => nm) hg hA (fun _ _ e => e) (fun h' t tk hk => fin (I.kept hk)) hz
  | dict h1 h2 h3 h4 h5 => exact PySem.repr_of_reads' (.dict h1 h2 h3 h4 h5) hw (fun _ => nm) hg hA (fun _ _ e => e) (fun h' t tk hk => fin (I.kept hk)) hz
/-- one of two rules -/
theorem call_or {f : Value} {r1 r2 : List V → Hp → VK → Prop} (h1 : CallR X f r1) (h2 : CallR X f r2) : CallR X f (fun xs H Q => r1 xs H Q ∨ r2 xs H Q) := by
  intro pins s σ H xs us Q I r h
  rcases h with h | h
  · exact h1 pins s σ H xs us Q I r h
  · exact h2 pins s σ H xs us Q I r h
end
/-! ### defs called where an exception is handled; nothing is raised there -/
section
open L2H
/-- the def at f keeps the promise sp, whether an exception is handled or not; p: an object that is pinned -/
structure FnN (P : Program) (w : World) (K : PySem.W.Frag) (mg : Str → Option Value) (base : Heap) (CX : CXT) (k : Nat) (f : Addr) (fd : FuncData) (ps : List Str) (sp : Sp) : Prop where
  len : ∀ vs H Q E, sp vs H Q E → vs.length = ps.length
  run : ∀ (A : Around) (outer : List Env) (s : Shared) (H : Hp) (args : Args) (us : List Value) (vs : List V) (Q : VK) (E : XK) (p : Addr × Obj), RoomH k A → PinOk outer H s p → Env0 P w K mg base A outer s H → BindsTo s fd args (ps.zip us) → Vals vs us → sp vs H Q E →
    codeAny (model P w) A (.call (.ref f) args) (CR CX outer P w H s Q E) s
theorem fnN_body {P : Program} {w : World} {K : PySem.W.Frag} {mg : Str → Option Value} {base : Heap} {CX : CXT} {k : Nat} {f : Addr} {fd : FuncData} {ps : List Str} {sp : Sp} {x qual : Str} {st : Stmt} {N : List Str} {dvs0 : List V} {kws0 : List (Str × V)} (F : FunD K x qual (defArgs st) (defBody st) (defScope st) dvs0 kws0 f fd) (S : FnScope N ps (defScope st)) (len : ∀ vs H Q E, sp vs H Q E → vs.length = ps.length)
    (hb : ∀ (cdv : Value) (A : Around) (outer : List Env) (s : Shared) (H : Hp) (vs : List V) (Q : VK) (E : XK) (p : Addr × Obj), RoomH k (A.deeper (envOfC qual (defScope st) s.heap.objs.size f cdv)) → sp vs H Q E →
      ∃ t, PSs (cxH CX P w K mg base N qual (defScope st) f cdv A outer s H E p) (defBody st) t ∧ t { nx := fun _ H' => Q .non H', rt := Q } (L2.start N vs) H) :
    FnN P w K mg base CX (k + 1) f fd ps sp := by
  obtain ⟨oc, od, dV, kV, doc, pm, an, cdv, ct, osl, rfl, lk, hcd, _, _⟩ := F.ex
  refine ⟨len, ?_⟩
  intro A outer s H args us vs Q E p hr pin e0 hbi r hsp
  have keeps0 : ∀ b o, base.get? b = some o → s.heap.get? b = some o := fun b o e => (e0.bs b o e).1
  have inK : K.In s.heap := e0.mod.kin.keeps keeps0
  refine codeAny_call_function hr.depth (inK _ _ lk) rfl S.co S.gen rfl (PySem.W.codeRec_of inK hcd) (hbi _ _ _ _ ?_)
  refine wpAny_newFunctionEnv_cells S.kind ?_ fun env he s1 x => ?_
  · intro ⟨n, v⟩ hy
    cases S.par n (List.of_mem_zip hy).1 with
    | inl q => exact Or.inl q
    | inr q => exact Or.inr ⟨q, PySem.W.cellsFrom_some _ _ _ (Or.inl q)⟩
  · subst he
    refine ⟨(e0.mod.nolimit.keeps keeps0).keeps x.toInCall.keep, codeAny_func ?_⟩
    obtain ⟨t, ht, hq⟩ := hb cdv A outer s H vs Q E p (hr.deeper _) hsp
    have I0 := inv_startH (CX := CX) (P := P) (E := E) S pin e0 (len _ _ _ _ hsp) r x
    refine wpAny_mono (ht.run [] s1 (L2.start N vs) H _ I0 hq) ?_ (fun _ _ z => z)
    intro fl s' hs
    cases fl with
    | ret u => obtain ⟨v, σ', H', J, rv, q⟩ := hs; exact ⟨v, H', J.os, J.bare, J.base, J.hok, rv, q⟩
    | next => obtain ⟨σ', H', J, q⟩ := hs; exact ⟨V.non, H', J.os, J.bare, J.base, J.hok, rfl, q⟩
    | brk => exact hs.elim fun _ z => z.elim fun _ y => y.2.elim
    | cont => exact hs.elim fun _ z => z.elim fun _ y => y.2.elim
variable {X : Cx} {A : Around}
theorem Shows.ownH {H0 : Hp} {a C : Addr} {dx : Addr} {fs : List (Str × V)} {t : Str} {k : Nat} {f : Addr} {fd : FuncData} {ps : List Str} {sp : Sp} {p : Addr × Obj} (c : Cls X.K C) (hm : Meth X.K C "__repr__" f)
    (F : FnN X.prog X.w X.K X.mg X.base CX0 k f fd ps sp) (hb : Binds X.K fd ps []) (hr : RoomH k A) (hp : p ∈ X.pn) (hA : A.frames = X.A.frames) (ea : H0 a = some (.ins C dx fs))
    (h : ∀ H, L2.Same H0 H → ∀ Q : VK, (∀ H', L2.Same H H' → Q (.str t) H') → sp [.ref a] H Q E0) : Shows X A H0 (.ref a) t := by
  intro base pins σ H s u E Q hb0 S I ru hQ
  obtain rfl : u = Value.ref a := ru
  have ea1 := S _ _ ea
  obtain ⟨ox, od, J⟩ := insAt I ea1
  obtain ⟨mf, fr⟩ := I.fr
  have q := h H S (fun v H' => v = .str t ∧ L2.Same H H') fun H' s' => ⟨rfl, s'⟩
  have hu0 : A.units < cLine := by
    have := hr.un
    omega
  refine reprUnder_K (by omega) hu0 fr I.mod.kin J hm.at_ hm.fn ?_
  have hl : ([Value.ref a] : List Value).length = ps.length := F.len _ _ _ _ q
  have ev : Env0 X.prog X.w X.K X.mg X.base A X.stack s H := ⟨hA.trans I.env0.frames, I.env0.mod, I.env0.bs, I.env0.bsz, I.env0.funs, I.env0.frf, I.env0.hok, I.env0.bare⟩
  have P1 := I.pin p (List.mem_append_left _ hp)
  have pin : PinOk X.stack H s p := ⟨P1.1, P1.2.1, fun hm => (List.mem_cons.mp (I.stkSub p.1 hm)).elim P1.2.2.1 P1.2.2.2.1, P1.2.2.2.2⟩
  have bd := hb s [.ref a] I.kIn (by rw [List.append_nil]; exact hl)
  rw [List.append_nil] at bd
  refine wpAny_call (codeAny_mono (F.run A X.stack s H ⟨[.ref a], []⟩ [.ref a] [.ref a] _ E0 p hr pin ev bd (.cons rfl .nil) q) ?_)
  intro r s' hq
  cases r with
  | error er => exact (show False from hq).elim
  | ok fl => cases fl with
    | ret u =>
      obtain ⟨v, H', I3, rv, rfl, s3⟩ := I.after hq
      obtain ⟨tk, rfl⟩ := (show ∃ k, _ = Value.str t k from rv)
      exact ⟨t, tk, rfl, hQ H' _ s3 I3⟩
    | next => exact (show False from hq).elim
    | brk => exact (show False from hq).elim
    | cont => exact (show False from hq).elim
theorem call_reprV' (hu : X.A.in1.units < cLine) (hg : X.A.guards = some []) : CallR X (.builtin "repr") (rReprV X) := by
  intro pins s σ H xs us Q I r h
  obtain ⟨a, vs, ts, rfl, ea, hne, hlen, hT, hsz, q⟩ := h
  rw [Vals.ref1 r]
  obtain ⟨its, n, rv, hget, _⟩ := I.lst ea
  have hTy : s.TypeIs (.ref a) "list" := ⟨_, hget, rfl⟩
  refine Calls.call_function_entry PySem.F.kind_repr PySem.F.plain_repr PySem.F.entry_repr (PySem.F.args_repr1 _) ?_
  unfold Builtin.«repr»
  refine wpAny_bind (m := oneArg "repr" _) (wpAny_pure (wpAny_bind (wpAny_cRoomFor hu ?_)))
  refine wpAny_bind (wpAny_specialOf (name := Str.ofString "__repr__") hTy PySem.F.slot_list_repr.lookup ?_)
  refine wpAny_bind (m := callSpecialIfBound? (.ref a) (Str.ofString "__repr__")) (wpAny_callSpecialIfBound?_slot (name := Str.ofString "__repr__") hTy PySem.F.slot_list_repr
    (list_reprI (pins := pins) (σ := σ) (H := H) (A := X.A.in1) hg ea hne hlen hT hsz I (fun H' s' u S J => ?_)))
  exact wpAny_bind (wpAny_isInstance (T := "str") (b := true) rfl isSubtype_str_str (wpAny_pure ⟨_, rfl, .str (listText ts), H', J, ⟨_, rfl⟩, q H' S⟩))
/-- own objects of given classes, each with its own __repr__'s promise -/
abbrev OwnL := List (Addr × Sp)
/-- repr of a list of leaves and own objects of the classes L -/
def rReprM (L : OwnL) : List V → Hp → VK → Prop := fun xs H Q => ∃ (a : Addr) (vs : List V) (ts : List Str), xs = [.ref a] ∧ H a = some (.lst vs) ∧ vs ≠ [] ∧ ts.length = vs.length ∧
  (∀ (i : Nat) (v : V), vs[i]? = some v → ∃ t, ts[i]? = some t ∧ (Leaf v t ∨ ∃ (p : Addr × Sp) (b dx : Addr) (fs : List (Str × V)), p ∈ L ∧ v = .ref b ∧ H b = some (.ins p.1 dx fs) ∧ ∀ H1, L2.Same H H1 → ∀ Q1 : VK, (∀ H2, L2.Same H1 H2 → Q1 (.str t) H2) → p.2 [.ref b] H1 Q1 E0)) ∧
  (listText ts).length ≤ sizeLine ∧ ∀ H', L2.Same H H' → Q (.str (listText ts)) H'
theorem Leaf.shows {H : Hp} {v : V} {t : Str} (z : Leaf v t) : Shows X A H v t := by
  cases z with
  | int h => exact .int h
  | bl => exact .bl
  | non => exact .non
  | str h => exact .str h
theorem call_reprM {k : Nat} {L : OwnL} (D : ∀ p ∈ L, MtO X.prog X.w X.K X.mg X.base p.1 "__repr__" k ["self"] [] p.2) (hr : RoomG (k + 3) X.A) : CallR X (.builtin "repr") (rReprM L) := by
  intro pins s σ H xs us Q I r h
  obtain ⟨a, vs, ts, rfl, ea, hne, hlen, hT, hsz, q⟩ := h
  have hu : X.A.in1.units < cLine := by
    have := hr.r.in1.un
    omega
  refine call_reprV' hu hr.g pins s σ H _ us Q I r ⟨a, vs, ts, rfl, ea, hne, hlen, fun args i v hv => ?_, hsz, q⟩
  obtain ⟨t, ht, z⟩ := hT i v hv
  refine ⟨t, ht, ?_⟩
  rcases z with z | ⟨p, b, dx, fs, hp, rfl, eb, z⟩
  · exact z.shows
  · obtain ⟨f, fd, ds, c, hm, F, hb, hd⟩ := (D p hp).ex
    cases hd
    exact .own c hm F hb .nil (My.Room.lst (hr.r.mono (by omega : k + 2 ≤ k + 3)) args) lst_frames eb z
/-- a method that may be called where an exception is handled -/
structure MtH (P : Program) (w : World) (K : PySem.W.Frag) (mg : Str → Option Value) (base : Heap) (C : Addr) (m : Str) (k : Nat) (ps : List Str) (sp : Sp) : Prop where
  ex : ∃ (f : Addr) (fd : FuncData), Cls K C ∧ Meth K C m f ∧ FnN P w K mg base CX0 k f fd ps sp ∧ Binds K fd ps []
theorem roomH_lst {k : Nat} {A : Around} (r : RoomH (k + 2) A) (args : Args) : RoomH k (inLst A args) := by
  refine ⟨?_, ?_⟩
  · have := r.dp
    have := lst_depth (A := A.in1) (args := args)
    show (A.in1.under _).depth + 3 * k + 5 < _
    have e : A.in1.depth = A.depth := rfl
    omega
  · have := r.un
    show (A.in1.under _).units + 16 * k + 200 < _
    rw [units_under_list_loop]
    have e : A.in1.units = A.units + 1 := rfl
    omega
theorem call_reprMH {k : Nat} {L : OwnL} (D : ∀ p ∈ L, MtH X.prog X.w X.K X.mg X.base p.1 "__repr__" k ["self"] p.2) (hr : RoomH (k + 3) X.A) (hg : X.A.guards = some []) (hc : ∃ p, p ∈ X.pn) : CallR X (.builtin "repr") (rReprM L) := by
  obtain ⟨pn, hpn⟩ := hc
  intro pins s σ H xs us Q I r h
  obtain ⟨a, vs, ts, rfl, ea, hne, hlen, hT, hsz, q⟩ := h
  have hu : X.A.in1.units < cLine := by
    have := hr.un
    have e : X.A.in1.units = X.A.units + 1 := rfl
    omega
  refine call_reprV' hu hg pins s σ H _ us Q I r ⟨a, vs, ts, rfl, ea, hne, hlen, fun args i v hv => ?_, hsz, q⟩
  obtain ⟨t, ht, z⟩ := hT i v hv
  refine ⟨t, ht, ?_⟩
  rcases z with z | ⟨p, b, dx, fs, hp, rfl, eb, z⟩
  · exact z.shows
  · obtain ⟨f, fd, c, hm, F, hb⟩ := (D p hp).ex
    refine .ownH (p := pn) c hm F hb (roomH_lst (hr.mono (by omega : k + 2 ≤ k + 3)) args) hpn lst_frames eb z
theorem fnO_body {P : Program} {w : World} {K : PySem.W.Frag} {mg : Str → Option Value} {base : Heap} {CX : CXT} {k : Nat} {f : Addr} {fd : FuncData} {ps : List Str} {sp : Sp} {x qual : Str} {st : Stmt} {N : List Str} {dvs0 : List V} {kws0 : List (Str × V)} (F : FunD K x qual (defArgs st) (defBody st) (defScope st) dvs0 kws0 f fd) (S : FnScope N ps (defScope st)) (len : ∀ vs H Q E, sp vs H Q E → vs.length = ps.length)
    (hb : ∀ (cdv : Value) (A : Around) (outer : List Env) (s : Shared) (H : Hp) (vs : List V) (Q : VK) (E : XK), Room k (A.deeper (envOfC qual (defScope st) s.heap.objs.size f cdv)) → sp vs H Q E →
      ∃ t, PSs (cxOf CX P w K mg base N qual (defScope st) f cdv A outer s H E) (defBody st) t ∧ t { nx := fun _ H' => Q .non H', rt := Q } (L2.start N vs) H) :
    FnOk P w K mg base CX (k + 1) f fd ps sp := by
  obtain ⟨oc, od, dV, kV, doc, pm, an, cdv, ct, osl, rfl, lk, hcd, _, _⟩ := F.ex
  exact fn_of lk hcd S len fun A outer s H vs Q E h1 h2 => hb cdv A outer s H vs Q E h1 h2
end
/-! ### a def that may raise, used where it does not -/
theorem FnG.calm {P : Program} {w : World} {K : PySem.W.Frag} {mg : Str → Option Value} {base : Heap} {k : Nat} {f : Addr} {fd : FuncData} {ps : List Str} {sp : Sp} (F : FnG P w K mg base (L2.CX P w) k f fd ps sp) : FnG P w K mg base CX0 k f fd ps (fun vs H Q _ => sp vs H Q E0) := by
  refine ⟨fun vs H Q E h => F.len vs H Q E0 h, fun A outer s H args us vs Q E hr e0 hb r h => ?_⟩
  refine codeAny_mono (F.go A outer s H args us vs Q E0 hr e0 hb r h) fun r s' hq => ?_
  cases r with
  | error er =>
    obtain ⟨_, _, _, _, _, _, _, _, _, _, _, _, z⟩ := (show L2.CX P w outer H s E0 er s' from hq)
    exact z.elim
  | ok fl => cases fl with
    | ret u => exact hq
    | next => exact (show False from hq).elim
    | brk => exact (show False from hq).elim
    | cont => exact (show False from hq).elim
end My

namespace My
open PySem L2 PySem.Spec PyProof.Rows PySem.W
/-! ### own operators beside operands of other kinds -/
section
variable {prog : Program} {w : World} {A : Around} {E : Value → Shared → Prop} {s : Shared} {K : Frag} {x C f : Addr} {od : Option Obj} {nm : String}
/-- the left one's own method is asked, and answers -/
theorem bin_walk {op : Operator} {a b ta tb : Value} {right : Bool} {Q : Value → Shared → Prop} (hi : op.info.2 = nm)
    (one : wpAny (model prog w) A (tryMethod a (PySem.dunder nm) b) (fun r s' => ∃ v, r = some v ∧ Q v s') E s)
    (M1 : Looks (model prog w) s.heap (typeOf a) ta) (M2 : Looks (model prog w) s.heap (typeOf b) tb) (ne : (ta == tb) = false)
    (M3 : Looks (model prog w) s.heap (fillsNumberSlot ta nm) true) (M4 : Looks (model prog w) s.heap (fillsNumberSlot tb nm) right)
    (M5 : right = true → Looks (model prog w) s.heap (isSubtype tb ta) false ∧ Looks (model prog w) s.heap (numberSlotInPython ta nm) true ∧ (∃ p, Looks (model prog w) s.heap (numberSlotInPython tb nm) p) ∧ ∃ ro, Looks (model prog w) s.heap (typeLookup tb (dunderR nm)) ro) :
    wpAny (model prog w) A (binaryOp op a b) Q E s := by
  rcases e : op.info with ⟨sym, nm'⟩
  rw [e] at hi
  dsimp only at hi
  subst hi
  obtain ⟨hh, g, d, tt, os⟩ := s
  dsimp only at M1 M2 M3 M4 M5
  simp only [binaryOp, e]
  refine wpAny_holding (wpAny_bind ?_)
  unfold binaryOp1
  refine wpAny_bind (M1.at (wpAny_bind (M2.at (wpAny_bind (M3.at ?_)))))
  simp only [ne, Bool.false_eq_true, if_false]
  cases right with
  | false =>
    clear M5
    ksp_lk
    refine wpAny_mono one (fun r s' z => ?_) fun _ _ z => z
    obtain ⟨v, rfl, q⟩ := z
    ksp_lk
    exact q
  | true =>
    obtain ⟨N1, N2, ⟨p, N3⟩, ro, N4⟩ := M5 rfl
    clear M5
    cases p with
    | false =>
      ksp_lk
      refine wpAny_mono one (fun r s' z => ?_) fun _ _ z => z
      obtain ⟨v, rfl, q⟩ := z
      ksp_lk
      exact q
    | true =>
      ksp_lk
      refine wpAny_mono one (fun r s' z => ?_) fun _ _ z => z
      obtain ⟨v, rfl, q⟩ := z
      ksp_lk
      exact q
/-- the left one is of a built-in type and declines, or has no such method; the right one's own reflected method is asked, and answers -/
theorem rbin_walk {op : Operator} {a b tb : Value} {T : String} {left : Bool} {Q : Value → Shared → Prop} (hi : op.info.2 = nm)
    (two : wpAny (model prog w) A (tryMethod b (dunderR nm) a) (fun r s' => ∃ v, r = some v ∧ Q v s') E s)
    (M1 : Looks (model prog w) s.heap (typeOf a) (.type T)) (M2 : Looks (model prog w) s.heap (typeOf b) tb) (ne : (Value.type T == tb) = false)
    (M3 : Looks (model prog w) s.heap (fillsNumberSlot (.type T) nm) left) (M4 : Looks (model prog w) s.heap (fillsNumberSlot tb nm) true)
    (M5 : left = true → Looks (model prog w) s.heap (isSubtype tb (.type T)) false ∧ wpAny (model prog w) A (tryMethod a (PySem.dunder nm) b) (fun r s' => r = none ∧ s' = s) E s) :
    wpAny (model prog w) A (binaryOp op a b) Q E s := by
  rcases e : op.info with ⟨sym, nm'⟩
  rw [e] at hi
  dsimp only at hi
  subst hi
  simp only [binaryOp, e]
  refine wpAny_holding (wpAny_bind ?_)
  unfold binaryOp1
  refine wpAny_bind (M1.here (wpAny_bind (M2.here (wpAny_bind (M3.here ?_)))))
  simp only [ne, Bool.false_eq_true, if_false]
  have py : numberSlotInPython (.type T) nm' = Pure.pure false := rfl
  cases left with
  | false =>
    refine wpAny_bind (M4.here ?_)
    simp only [Bool.false_and, Bool.false_eq_true, if_false, pure_bind, Bool.not_false, Bool.and_true, if_true]
    refine wpAny_bind (wpAny_mono two (fun r s' z => ?_) fun _ _ z => z)
    obtain ⟨v, rfl, q⟩ := z
    exact wpAny_bind (wpAny_rule (wpAny_pure (wpAny_pure q)))
  | true =>
    obtain ⟨N1, N2⟩ := M5 rfl
    refine wpAny_bind (M4.here ?_)
    simp only [Bool.and_self, if_true]
    refine wpAny_bind (N1.here ?_)
    simp only [Bool.false_eq_true, if_false, pure_bind, Bool.not_false, Bool.and_true, if_true, Bool.and_self, py]
    refine wpAny_bind (wpAny_mono N2 (fun r s' z => ?_) fun _ _ z => z)
    obtain ⟨rfl, rfl⟩ := z
    dsimp only
    refine wpAny_bind (wpAny_mono two (fun r s' z => ?_) fun _ _ z => z)
    obtain ⟨v, rfl, q⟩ := z
    exact wpAny_bind (wpAny_rule (wpAny_pure (wpAny_pure q)))
theorem fills_none {M : Model} {h : Heap} {D : Addr} {cd : ClassData} (X : K.In h) (hc : clsIn K D = some cd) (hm : cd.mro = [.ref D, .type "object"]) (h1 : findIn K (.ref D) (PySem.dunder nm) = some none) (h2 : findIn K (.ref D) (dunderR nm) = some none)
    (h3 : findIn K (.type "object") (PySem.dunder nm) = some none) (h4 : findIn K (.type "object") (dunderR nm) = some none) : Looks M h (fillsNumberSlot (.ref D) nm) false := by
  intro A Q E s k q
  unfold fillsNumberSlot
  refine wpAny_bind ((looks_clsIn X hc).andThen (f := fun cd => pure cd.mro) .now A _ E s k ?_)
  rw [hm, List.anyM_cons]
  refine wpAny_bind ?_
  show wpAny M A (List.anyM _ [PySem.dunder nm, dunderR nm]) _ _ _
  rw [List.anyM_cons]
  refine wpAny_bind (wpAny_bind (looks_findIn X h1 A _ E s k ?_))
  refine wpAny_pure ?_
  simp only [Bool.false_eq_true, if_false]
  rw [List.anyM_cons]
  refine wpAny_bind (wpAny_bind (looks_findIn X h2 A _ E s k ?_))
  refine wpAny_pure ?_
  simp only [Bool.false_eq_true, if_false]
  rw [List.anyM_nil]
  refine wpAny_pure ?_
  rw [List.anyM_cons]
  refine wpAny_bind ?_
  refine wpAny_bind (looks_findIn X h3 A _ E s k (wpAny_bind (looks_findIn X h4 A _ E s k ?_)))
  refine wpAny_pure ?_
  simp only [Option.isSome_none, Bool.false_and, Bool.or_self, Bool.false_eq_true, if_false]
  rw [List.anyM_nil]
  exact wpAny_pure q
end
/-! ### values of many kinds -/
/-- v's type is t, one of the built-in ones or of the own classes L -/
structure AnyV (K : Frag) (L : List Addr) (H : Hp) (v : V) (t : Value) : Prop where
  ty : TyX K H v t
  mem : t ∈ aTys L
theorem isi_any {K : Frag} {L : List Addr} {H : Hp} {v : V} {t u : Value} (hk : kitsB K L = true) (a : AnyV K L H v t) (hu : u ∈ aTys L) : kitOne K t u = some (subT t u) :=
  beq_iff_eq.mp (List.all_eq_true.mp (List.all_eq_true.mp hk t a.mem) u hu)
theorem s_isiA {K : Frag} {L : List Addr} {H : Hp} {Q : VK} {v c : V} {t u : Value} (hk : kitsB K L = true) (a : AnyV K L H v t) (hc : ClsV c u) (hu : u ∈ aTys L) (q : Q (.bl (subT t u)) H) : rIsi K [v, c] H Q :=
  ⟨_, _, _, _, _, rfl, hc, a.ty, isi_any hk a hu, q⟩
theorem b_mem {L : List Addr} {t : Value} (h : t ∈ bTys) : t ∈ aTys L := List.mem_append_left _ h
theorem o_mem {L : List Addr} {C : Addr} (h : C ∈ L) : Value.ref C ∈ aTys L := List.mem_append_right _ (List.mem_map_of_mem h)
section
variable {K : Frag} {L : List Addr} {H : Hp}
theorem AnyV.non : AnyV K L H .non (.type "NoneType") := ⟨.base .non, b_mem (by decide +kernel)⟩
theorem AnyV.bl (b : Bool) : AnyV K L H (.bl b) (.type "bool") := ⟨.base (.bl b), b_mem (by decide +kernel)⟩
theorem AnyV.int (i : Int) : AnyV K L H (.int i) (.type "int") := ⟨.base (.int i), b_mem (by decide +kernel)⟩
theorem AnyV.str (x : Str) : AnyV K L H (.str x) (.type "str") := ⟨.base (.str x), b_mem (by decide +kernel)⟩
theorem AnyV.lst {a : Addr} {xs : List V} (e : H a = some (.lst xs)) : AnyV K L H (.ref a) (.type "list") := ⟨.base (.lst e), b_mem (by decide +kernel)⟩
theorem AnyV.tup {a : Addr} {xs : List V} (e : H a = some (.tup xs)) : AnyV K L H (.ref a) (.type "tuple") := ⟨.base (.tup e), b_mem (by decide +kernel)⟩
theorem AnyV.dK {a : Addr} {kvs : List (Key × V)} (e : H a = some (.dK kvs)) : AnyV K L H (.ref a) (.type "dict") := ⟨.base (.dK e), b_mem (by decide +kernel)⟩
theorem AnyV.own {a C dx : Addr} {fs : List (Str × V)} (ty : ∀ {H : Hp} {a dx : Addr} {fs : List (Str × V)}, H a = some (.ins C dx fs) → TyOf K H (.ref a) (.ref C)) (h : C ∈ L) (e : H a = some (.ins C dx fs)) : AnyV K L H (.ref a) (.ref C) := ⟨.base (ty e), o_mem h⟩
end
/-- an int, not a bool -/
def isI : V → Bool
  | .int _ => true
  | _ => false
def isCnt : V → Bool
  | .int i => decide (0 ≤ i)
  | _ => false
theorem AnyV.isI {K : Frag} {L : List Addr} {H : Hp} {v : V} {t : Value} (a : AnyV K L H v t) : (subT t (.type "int") && !subT t (.type "bool")) = My.isI v := by
  have h := a.mem
  have no : ∀ T ∈ ([.type "NoneType", .type "bool", .type "str", .type "tuple", .type "list", .type "dict"] : List Value), (subT T (.type "int") && !subT T (.type "bool")) = false := by decide +kernel
  have yes : (subT (.type "int") (.type "int") && !subT (.type "int") (.type "bool")) = true := by decide +kernel
  cases a.ty with
  | base b =>
    cases b with
    | ins e => rfl
    | int i => exact yes
    | flt x => exact absurd (List.mem_append.mp h) (fun z => by rcases z with z | z <;> simp [bTys] at z)
    | _ => exact no _ (by decide +kernel)
  | byt b => exact absurd (List.mem_append.mp h) (fun z => by rcases z with z | z <;> simp [bTys] at z)
  | set e => exact absurd (List.mem_append.mp h) (fun z => by rcases z with z | z <;> simp [bTys] at z)
  | _ => exact no _ (by decide +kernel)
theorem AnyV.int_of {K : Frag} {L : List Addr} {H : Hp} {v : V} {t : Value} (a : AnyV K L H v t) (h : subT t (.type "int") = true) : (∃ i, v = .int i) ∨ ∃ b, v = .bl b := by
  cases a.ty with
  | base b =>
    cases b with
    | int i => exact .inl ⟨i, rfl⟩
    | bl b => exact .inr ⟨b, rfl⟩
    | ins e => cases (show false = true from h)
    | _ => exact absurd h (by decide +kernel)
  | _ => exact absurd h (by decide +kernel)
theorem AnyV.on {K : Frag} {L : List Addr} {H H' : Hp} {v : V} {t : Value} (a : AnyV K L H v t) (s : ∀ b o, H b = some o → (∀ ps, o ≠ .tbl ps) → H' b = some o) : AnyV K L H' v t := by
  refine ⟨?_, a.mem⟩
  cases a.ty with
  | base b =>
    cases b with
    | non => exact .base .non
    | bl b => exact .base (.bl b)
    | int i => exact .base (.int i)
    | str x => exact .base (.str x)
    | flt x => exact .base (.flt x)
    | lst e => exact .base (.lst (s _ _ e (fun _ z => nomatch z)))
    | frz e => exact .base (.frz (s _ _ e (fun _ z => nomatch z)))
    | tup e => exact .base (.tup (s _ _ e (fun _ z => nomatch z)))
    | dK e => exact .base (.dK (s _ _ e (fun _ z => nomatch z)))
    | dT e => exact .base (.dT (s _ _ e (fun _ z => nomatch z)))
    | ins e cl ha hn htk hm => exact .base (.ins (s _ _ e (fun _ z => nomatch z)) cl ha hn htk hm)
  | byt b => exact .byt b
  | set e => exact .set (s _ _ e (fun _ z => nomatch z))
  | kList e c => exact .kList e c
  | kTuple e c => exact .kTuple e c
  | kDict e c => exact .kDict e c
  | fTuple e => exact .fTuple (s _ _ e (fun _ z => nomatch z))
  | fDict e => exact .fDict (s _ _ e (fun _ z => nomatch z))
theorem AnyV.sm {K : Frag} {L : List Addr} {H H' : Hp} {v : V} {t : Value} (a : AnyV K L H v t) (s : L2.Same H H') : AnyV K L H' v t := a.on fun b o e _ => s b o e
theorem AnyV.ex {K : Frag} {L : List Addr} {H H' : Hp} {v : V} {t : Value} (a : AnyV K L H v t) (s : LamX.ExtN H H') : AnyV K L H' v t := a.on s
/-! ### methods, constructors and operators that may raise -/
theorem fnAt_ok {K : Frag} {D : Addr} {x : Str} (h : fnAt K D x = true) : ∃ g : Addr, findIn K (.ref D) x = some (some (.ref g)) := by
  unfold fnAt at h
  split at h
  · exact ⟨_, by assumption⟩
  · cases h
theorem op_anyK {prog : Program} {w : World} {A : Around} {E : Value → Shared → Prop} {s : Shared} {K : Frag} {x C f : Addr} {ox : Obj} {od : Option Obj} {h₀ : Heap} {L0 : Addr} {mf : Str → Option Value} {op : Operator} {nm : String} {L : List Addr} {b t : Value} {Q : Value → Shared → Prop}
    (F : Fr h₀ L0 s.heap mf) (X₀ : K.In h₀) (I : InstAt s.heap x ox C od) (hi : op.info.2 = nm) (ho : opsB K C nm L = true) (ht : t ∈ aTys L) (hb : Looks (model prog w) s.heap (typeOf b) t)
    (hs : findIn K (.ref C) (PySem.dunder nm) = some (some (.ref f))) (hf : isFn K (.ref f) = true)
    (h : wpAny (model prog w) A (call (.ref f) [.ref x, b]) (PySem.W.CmpBack Q) E s) : wpAny (model prog w) A (binaryOp op (.ref x) b) Q E s := by
  have XK := X₀.keeps F.keep
  unfold opsB at ho
  simp only [Bool.and_eq_true] at ho
  obtain ⟨hc, hr, ha⟩ := ho
  have hr2 : ∃ rc, findIn K (.ref C) (dunderR nm) = some rc ∧ (rc = none ∨ ∃ g : Addr, rc = some (.ref g)) := by
    unfold reflB at hr
    rcases Bool.or_eq_true_iff.mp hr with z | z
    · exact ⟨none, beq_iff_eq.mp z, .inl rfl⟩
    · obtain ⟨g, e⟩ := fnAt_ok z
      exact ⟨_, e, .inr ⟨g, rfl⟩⟩
  obtain ⟨rc, hr3, hp⟩ := hr2
  have one := ksp_try XK I hs hf h
  obtain ⟨cd, rest, hcd, hm⟩ := ksp_first hc
  have rb := List.all_eq_true.mp ha t ht
  have M3 := fills_K (M := model prog w) (nm := nm) XK hcd hm hs
  have N2 : Looks (model prog w) s.heap (numberSlotInPython (.ref C) nm) true := ksp_inPy XK hs hr3 hp
  cases t with
  | type T =>
    simp only [rightB, Bool.and_eq_true, Option.isSome_iff_exists, beq_iff_eq] at rb
    obtain ⟨⟨fo, h1⟩, ⟨ro, h2⟩, h3⟩ := rb
    exact bin_walk hi one I.type hb (Bool.eq_false_iff.mpr fun q => by cases beq_iff_eq.mp q) M3 (ksp_fillsT XK h1 h2) fun _ => ⟨looks_subIn XK h3, N2, ⟨false, Looks.of_pure rfl⟩, ro, looks_findIn XK h2⟩
  | ref D =>
    rcases Classical.em (D = C) with e | n
    · subst e
      subst hi
      exact binop_K F X₀ I hb hc hs hf h
    · have hne : ((Value.ref C : Value) == .ref D) = false := Bool.eq_false_iff.mpr fun q => n (by cases beq_iff_eq.mp q; rfl)
      have hn2 : (D == C) = false := Bool.eq_false_iff.mpr fun q => n (beq_iff_eq.mp q)
      simp only [rightB, hn2, Bool.false_or, Bool.and_eq_true, Bool.or_eq_true, beq_iff_eq] at rb
      rcases rb.2 with ⟨h1, h2, h3, h4, h5⟩ | ⟨h1, h2, h3, h4⟩ | ⟨h1, h2, h3, h4⟩
      · obtain ⟨cd2, e1, e2⟩ := any_some h3
        exact bin_walk hi one I.type hb hne M3 (fills_none XK e1 (beq_iff_eq.mp e2) h1 h2 h4 h5) fun z => nomatch z
      · obtain ⟨g1, e1⟩ := fnAt_ok h1
        obtain ⟨g2, e2⟩ := fnAt_ok h2
        obtain ⟨cd2, r2, e3, e4⟩ := ksp_first h3
        exact bin_walk hi one I.type hb hne M3 (fills_K XK e3 e4 e1) fun _ => ⟨looks_subIn XK h4, N2, ⟨true, ksp_inPy XK e1 e2 (.inr ⟨g2, rfl⟩)⟩, _, looks_findIn XK e2⟩
      · obtain ⟨g1, e1⟩ := fnAt_ok h1
        obtain ⟨cd2, r2, e3, e4⟩ := ksp_first h3
        exact bin_walk hi one I.type hb hne M3 (fills_K XK e3 e4 e1) fun _ => ⟨looks_subIn XK h4, N2, ⟨true, ksp_inPy XK e1 h2 (.inl rfl)⟩, _, looks_findIn XK h2⟩
  | _ => cases rb
section
variable {X : Cx} {j k : Nat} {f C : Addr} {fd : FuncData} {ps : List Str} {sp : Sp} {dvs : List V} {ds : List Value} {x m : Str} {p pos apos : Pos} {e o a b : Expr} {es : List Expr} {ta tb : TE} {t : TA} {W : WX} {K : Frag} {L : List Addr}
structure MtX (P : Program) (w : World) (K : Frag) (mg : Str → Option Value) (base : Heap) (C : Addr) (m : Str) (k : Nat) (ps : List Str) (dvs : List V) (sp : Sp) : Prop where
  ex : ∃ (f : Addr) (fd : FuncData) (ds : List Value), Cls K C ∧ Meth K C m f ∧ FnG P w K mg base (L2.CX P w) k f fd ps sp ∧ Binds K fd ps ds ∧ Vals dvs ds
theorem MtX.calm {P : Program} {w : World} {mg : Str → Option Value} {base : Heap} (D : MtX P w K mg base C m k ps dvs sp) : Mtn P w K mg base C m k ps dvs (fun vs H Q _ => sp vs H Q E0) := by
  obtain ⟨f, fd, ds, c, hm, F, hb, hd⟩ := D.ex
  exact ⟨f, fd, ds, c, hm, F.calm, hb, hd⟩
structure MkX (P : Program) (w : World) (K : Frag) (mg : Str → Option Value) (base : Heap) (x : Str) (C : Addr) (k : Nat) (ps : List Str) (dvs : List V) (sp : Sp) : Prop where
  ex : ∃ (f : Addr) (fd : FuncData) (ds : List Value), Mk K C f ∧ FnG P w K mg base (L2.CX P w) k f fd ps sp ∧ mg x = some (.ref C) ∧ Binds K fd ps ds ∧ Vals dvs ds
theorem MkX.calm {P : Program} {w : World} {mg : Str → Option Value} {base : Heap} (D : MkX P w K mg base x C k ps dvs sp) : Mkn P w K mg base x C k ps dvs (fun vs H Q _ => sp vs H Q E0) := by
  obtain ⟨f, fd, ds, c, F, hm, hb, hd⟩ := D.ex
  exact ⟨f, fd, ds, c, F.calm, hm, hb, hd⟩
/-- a op b by a's own method, b of any kind -/
def tOpX (K : Frag) (L : List Addr) (C : Addr) (sp : Sp) (dvs : List V) (W : WX) (ta tb : TE) : TE := fun σ H Q => ta σ H fun x H1 => tb σ H1 fun y H2 => ∃ (a dx : Addr) (fs : List (Str × V)) (t : Value), x = .ref a ∧ H2 a = some (.ins C dx fs) ∧ AnyV K L H2 y t ∧ sp (.ref a :: y :: dvs) H2 Q (WE W σ)
theorem pe_opX {op : Operator} {nm : String} (hK : X.K = K) (D : MtX X.prog X.w X.K X.mg X.base C m k ps dvs sp) (tk : Takes X W) (hi : op.info.2 = nm) (hm : PySem.dunder nm = m) (ho : opsB K C nm L = true) (hr : RoomG k X.A) (ha : PE X a ta) (hb : PE X b tb) : PE X (.BinOp a op b pos) (tOpX K L C sp dvs W ta tb) := by
  subst hK
  subst hm
  obtain ⟨f, fd, ds, c, hmt, F, hbd, hd⟩ := D.ex
  constructor
  intro pins s σ H Q I h
  refine wpAny_BinOp (binT ha hb I h fun v u s2 x y H2 I2 rx ry q => ?_)
  obtain ⟨a, dx, fs, t, rfl, ea, ay, q⟩ := q
  obtain rfl : v = Value.ref a := rx
  obtain ⟨ox, od, J⟩ := insAt I2 ea
  obtain ⟨mf, fr⟩ := I2.fr
  obtain ⟨PH, Z, pH, _⟩ := kit_of I2 ry ay.ty
  exact op_anyK fr I2.mod.kin J hi ho ay.mem (Z.ty _ _ I2.kIn pH) hmt.at_ hmt.fn (wpAny_mono (goX (us := [.ref a, u]) (vs := [.ref a, y]) F tk hr hbd hd I2 (.cons rfl (.cons ry .nil)) q) (fun w s1 hw => back hw) fun _ _ z => z)
/-- the same where nothing is raised -/
def rBinA (K : Frag) (L : List Addr) (C : Addr) (sp : Sp) (dvs : List V) : R2 := fun x y H Q => ∃ (a dx : Addr) (fs : List (Str × V)) (t : Value), x = .ref a ∧ H a = some (.ins C dx fs) ∧ AnyV K L H y t ∧ sp (.ref a :: y :: dvs) H Q E0
theorem op_ownA {op : Operator} {nm : String} (hK : X.K = K) (D : Mtn X.prog X.w X.K X.mg X.base C m k ps dvs sp) (hi : op.info.2 = nm) (hm : PySem.dunder nm = m) (ho : opsB K C nm L = true) (hr : RoomG k X.A) : OpR X (binaryOp op) (rBinA K L C sp dvs) := by
  subst hK
  subst hm
  obtain ⟨f, fd, ds, c, hmt, F, hbd, hd⟩ := D.ex
  intro pins s σ H x y v u Q I rx ry h
  obtain ⟨a, dx, fs, t, rfl, ea, ay, q⟩ := h
  obtain rfl : v = Value.ref a := rx
  obtain ⟨ox, od, J⟩ := insAt I ea
  obtain ⟨mf, fr⟩ := I.fr
  obtain ⟨PH, Z, pH, _⟩ := kit_of I ry ay.ty
  exact op_anyK fr I.mod.kin J hi ho ay.mem (Z.ty _ _ I.kIn pH) hmt.at_ hmt.fn (wpAny_mono (goIn (us := [.ref a, u]) (vs := [.ref a, y]) F hr I.env0 hbd hd I (.cons rfl (.cons ry .nil)) q) (fun w s1 hw => back hw) fun _ _ z => z)
def tMethX (C : Addr) (m : Str) (sp : Sp) (dvs : List V) (W : WX) (ta : TE) (t : TA) : TE := fun σ H Q => ta σ H fun x H1 => ∃ a dx fs, x = .ref a ∧ H1 a = some (.ins C dx fs) ∧ fs.lookup m = none ∧ t σ H1 fun vs H2 => sp (x :: (vs ++ dvs)) H2 Q (WE W σ)
theorem pe_methX {pl : Sem Bool} (D : MtX X.prog X.w X.K X.mg X.base C m k ps dvs sp) (tk : Takes X W) (he : PE X o ta) (hr : RoomG k X.A) (ha : PA X (e :: es) t)
    (h1 : starEach (e :: es) X.env = (false, eval e X.env) :: starEach es X.env := by rfl) (h2 : (backTo pos (starEach es X.env)).any (·.1) = false := by rfl)
    (h3 : eval (.Call (.Attribute o m apos) (e :: es) [] pos) X.env = (do
      let v ← eval o X.env
      standAt apos.atName
      let (g, fst) ← holding [v] (getMethod v m pl)
      callWith pos g fst (backTo pos (starEach (e :: es) X.env)) (backToKw pos (keywordEach [] X.env))) := by rfl) : PE X (.Call (.Attribute o m apos) (e :: es) [] pos) (tMethX C m sp dvs W ta t) := by
  obtain ⟨f, fd, ds, c, hm, F, hb, hd⟩ := D.ex
  constructor
  intro pins s σ H Q I h
  refine PySem.W.methodCall_KW (pl := pl) (thn (he.run pins s σ H _ I h) ?_) h3
  rintro u s1 ⟨x, H1, I1, rx, a, dx, fs, rfl, ea, l, q⟩
  obtain rfl : u = Value.ref a := rx
  exact getmeth_ok I1 ea c hm l (PySem.W.callWith_K (first := [.ref a]) I1.kIn hm.kp (thn (ha.run pos pins s1 σ H1 _ I1 q) fun us s2 ⟨vs, H2, I2, r, q2⟩ => ⟨I2.kIn, goX (vs := .ref a :: vs) F tk hr hb hd I2 (.cons rfl r) q2⟩) h1 h2)
theorem goMakeX {pins : List (Addr × Obj)} {σ : L2.St} {H : Hp} {s : Shared} {Q : VK} {us : List Value} {vs : List V} (M : Mk X.K C f) (F : FnG X.prog X.w X.K X.mg X.base (L2.CX X.prog X.w) k f fd ps sp) (tk : Takes X W) (hr : RoomG (k + 1) X.A) (hb : Binds X.K fd ps ds) (hd : Vals dvs ds)
    (I : Inv X pins σ H s) (r : Vals vs us) (h : ∀ x dx, H x = none → H dx = none → dx ≠ x → sp (.ref x :: (vs ++ dvs)) (upd (upd H dx (.own x)) x (.ins C dx [])) (fun v H2 => v = .non ∧ Q (.ref x) H2) (WE W σ)) :
    wpAny (model X.prog X.w) X.A (call (.ref C) us) (EP X pins σ Q) X.xe s := by
  have nx : H (s.heap.objs.size + 1) = none := I.hok.fresh (Nat.le_succ _)
  have nd : H s.heap.objs.size = none := I.hok.fresh (Nat.le_refl _)
  have hq := h _ _ nx nd (Nat.ne_of_lt (Nat.lt_succ_self _))
  have J := Inv.made (C := C) I
  have r2 : Vals (V.ref (s.heap.objs.size + 1) :: (vs ++ dvs)) (Value.ref (s.heap.objs.size + 1) :: us ++ ds) := .cons rfl (r.append hd)
  have hl : (Value.ref (s.heap.objs.size + 1) :: us ++ ds).length = ps.length := r2.length.symm.trans (F.len _ _ _ _ hq)
  have hr2 : RoomG k (X.A.under (.builtin "type.__call__" ⟨.ref C :: us, []⟩)) := ⟨hr.r.make C us [], hr.g⟩
  refine wpAny_call (make_map (f := f) I.kIn M.makes M.init (beq_iff_eq.mp M.fn) (codeAny_mono
    (F.go _ X.stack _ _ ⟨Value.ref (s.heap.objs.size + 1) :: us, []⟩ _ _ _ _ hr2 (J.env0.make C us []) (hb _ (Value.ref (s.heap.objs.size + 1) :: us) J.kIn hl) r2 hq) ?_))
  intro r s' hq'
  cases r with
  | error e => exact passAt tk σ pins _ _ e s' J hq'
  | ok fl => cases fl with
    | ret u =>
      obtain ⟨v, H', I3, rv, ev, q3⟩ := J.after hq'
      subst ev
      exact ⟨rv, V.ref (s.heap.objs.size + 1), H', I3, rfl, q3⟩
    | next => exact (show False from hq').elim
    | brk => exact (show False from hq').elim
    | cont => exact (show False from hq').elim
def tMakeX (C : Addr) (sp : Sp) (dvs : List V) (W : WX) (t : TA) : TE := fun σ H Q => t σ H fun vs H1 => ∀ x dx, H1 x = none → H1 dx = none → dx ≠ x → sp (.ref x :: (vs ++ dvs)) (upd (upd H1 dx (.own x)) x (.ins C dx [])) (fun v H2 => v = .non ∧ Q (.ref x) H2) (WE W σ)
theorem pe_makeX (D : MkX X.prog X.w X.K X.mg X.base x C k ps dvs sp) (tk : Takes X W) (hr : RoomG (k + 1) X.A) (hg : Gl X x) (ha : PA X (e :: es) t) (hdb : (x == ("__debug__" : Str)) = false := by decide)
    (h1 : starEach (e :: es) X.env = (false, eval e X.env) :: starEach es X.env := by rfl) (h2 : (backTo pos (starEach es X.env)).any (·.1) = false := by rfl) : PE X (.Call (.Name x p) (e :: es) [] pos) (tMakeX C sp dvs W t) := by
  obtain ⟨f, fd, ds, M, F, hm, hb, hd⟩ := D.ex
  constructor
  intro pins s σ H Q I h
  exact wpAny_Call_Name_kw (ld_glob I hg hm (PySem.W.callWith_K (h₀ := X.base) I.ok.mod.kin M.kp (thn (ha.run pos pins s σ H _ I h) fun us s1 ⟨vs, H1, I1, r, q⟩ => ⟨I1.kIn, goMakeX M F tk hr hb hd I1 r q⟩) h1 h2) hdb)
end
/-! ### built-in left operands, own reflected methods -/
/-- a op b, a of a built-in kind, by b's own reflected method -/
def tReflX (K : Frag) (L : List Addr) (C : Addr) (sp : Sp) (dvs : List V) (W : WX) (ta tb : TE) : TE := fun σ H Q => ta σ H fun x H1 => tb σ H1 fun y H2 => ∃ (b dx : Addr) (fs : List (Str × V)) (t : Value), y = .ref b ∧ H2 b = some (.ins C dx fs) ∧ AnyV K L H2 x t ∧ t ∈ bTys ∧ sp (.ref b :: x :: dvs) H2 Q (WE W σ)
theorem tyx_bl {K : Frag} {H : Hp} {b : Bool} {t : Value} (h : TyX K H (.bl b) t) : t = .type "bool" := by
  cases h with
  | base h => cases h; rfl
theorem tyx_int {K : Frag} {H : Hp} {i : Int} {t : Value} (h : TyX K H (.int i) t) : t = .type "int" := by
  cases h with
  | base h => cases h; rfl
theorem rel_int {K : Frag} {L : List Addr} {H : Hp} {v : V} {u t : Value} (a : AnyV K L H v t) (r : L2.RelV v u) (e : t = .type "int") : ∃ i k, u = .int i k := by
  subst e
  rcases a.int_of (by decide +kernel) with ⟨i, rfl⟩ | ⟨b, rfl⟩
  · obtain ⟨k, rfl⟩ := (show ∃ k, u = Value.int i k from r)
    exact ⟨i, k, rfl⟩
  · exact absurd (tyx_bl a.ty) (by decide +kernel)
theorem rel_bool {K : Frag} {L : List Addr} {H : Hp} {v : V} {u t : Value} (a : AnyV K L H v t) (r : L2.RelV v u) (e : t = .type "bool") : ∃ b, u = .bool b := by
  subst e
  rcases a.int_of (by decide +kernel) with ⟨i, rfl⟩ | ⟨b, rfl⟩
  · exact absurd (tyx_int a.ty) (by decide +kernel)
  · exact ⟨b, r⟩
end My

namespace My
open PySem L2 PySem.Spec PyProof.Rows PySem.W
theorem bool_mul_ownA (i : Bool) (x C dx : Addr) : Meets (Builtin.«int.__mul__» ⟨[.bool i, .ref x], []⟩) (fun _ R s => s.heap.get? x = some (instObj C dx) ∧ R (.ok (.ret Value.notImplemented)) s) :=
  .of_wp fun prog w A R s h => by
    obtain ⟨hp, g, d, tk, os⟩ := s
    obtain ⟨hl, h⟩ := h
    unfold instObj at hl
    wp_walk
    exact ⟨_, rfl, h⟩
theorem noFill_mul {M : Model} {h : Heap} {K : Frag} (X : K.In h) {T : String} (hT : T ∈ ["NoneType", "str", "tuple", "list", "dict"]) : Looks M h (fillsNumberSlot (.type T) "mul") false := by
  have key : ∀ T ∈ ["NoneType", "str", "tuple", "list", "dict"], (match findIn [] (.type T) (PySem.dunder "mul"), findIn [] (.type T) (dunderR "mul") with
    | some fo, some ro => !((fo.isSome && !isSeqSlot fo) || (ro.isSome && !isSeqSlot ro))
    | _, _ => false) = true := by decide +kernel
  have z := key T hT
  split at z
  · rename_i fo ro h1 h2
    have q := ksp_fillsT (M := M) X (show findIn K (.type T) (PySem.dunder "mul") = some fo from h1) (show findIn K (.type T) (dunderR "mul") = some ro from h2)
    have e : ((fo.isSome && !isSeqSlot fo) || (ro.isSome && !isSeqSlot ro)) = false := (Bool.not_eq_true' _).mp z
    rw [e] at q
    exact q
  · cases z
theorem refl_mul {prog : Program} {w : World} {A : Around} {E : Value → Shared → Prop} {s : Shared} {K : Frag} {L : List Addr} {x C dx f : Addr} {od : Option Obj} {a t : Value} {Q : Value → Shared → Prop} {P : Heap → Prop} (XK : K.In s.heap) (I : InstAt s.heap x (instObj C dx) C od)
    (ho : reflOk K C "mul" = true) (Z : KitX K a t P) (pH : P s.heap) (ht : t ∈ bTys) (hr : findIn K (.ref C) (dunderR "mul") = some (some (.ref f))) (hf : isFn K (.ref f) = true)
    (hi : t = .type "int" → ∃ i k, a = .int i k) (hb : t = .type "bool" → ∃ b, a = .bool b)
    (h : wpAny (model prog w) A (call (.ref f) [.ref x, a]) (PySem.W.CmpBack Q) E s) : wpAny (model prog w) A (binaryOp .Mult a (.ref x)) Q E s := by
  unfold reflOk at ho
  simp only [Bool.and_eq_true, beq_iff_eq] at ho
  obtain ⟨h1, h2, h3, h4⟩ := ho
  obtain ⟨cd, rest, e1, e2⟩ := ksp_first h1
  obtain ⟨g, e3⟩ := fnAt_ok h2
  have two := ksp_try XK I hr hf h
  have M4 := fills_K (M := model prog w) (nm := "mul") XK e1 e2 e3
  have M1 : Looks (model prog w) s.heap (typeOf a) t := Z.ty _ _ XK pH
  have no : ∀ {T : String}, T ∈ ["NoneType", "str", "tuple", "list", "dict"] → t = .type T → wpAny (model prog w) A (binaryOp .Mult a (.ref x)) Q E s := fun {T} hT e => by
    subst e
    exact rbin_walk (left := false) rfl two M1 I.type (Bool.eq_false_iff.mpr fun q => by cases beq_iff_eq.mp q) (noFill_mul XK hT) M4 fun z => nomatch z
  simp only [bTys, List.mem_cons, List.not_mem_nil, or_false] at ht
  rcases ht with e | e | e | e | e | e | e
  · exact no (by decide) e
  · obtain ⟨b, rfl⟩ := hb e
    subst e
    refine rbin_walk (left := true) rfl two M1 I.type (Bool.eq_false_iff.mpr fun q => by cases beq_iff_eq.mp q) (Looks.of_pure F.fills_bool_mul) M4 fun _ => ⟨looks_subIn XK h4, ?_⟩
    have dec : wpAny (model prog w) A (call (.builtin "int.__mul__") [.bool b, .ref x]) (fun v s' => v = .notImplemented ∧ s' = s) E s :=
      call_meets F.slot_bool_mul rfl F.entry_int_mul (F.args_int_mul_2 _ _) (bool_mul_ownA b x C dx) ⟨I.at_, rfl, rfl⟩
    exact wpAny_tryMethod_declines (T := "bool") rfl F.slot_bool_mul (wpAny_mono dec (fun v s' z => ⟨z.1, rfl, z.2⟩) fun _ _ z => z)
  · obtain ⟨i, k, rfl⟩ := hi e
    subst e
    refine rbin_walk (left := true) rfl two M1 I.type (Bool.eq_false_iff.mpr fun q => by cases beq_iff_eq.mp q) (Looks.of_pure F.fills_int_mul) M4 fun _ => ⟨looks_subIn XK h3, ?_⟩
    have dec : wpAny (model prog w) A (call (.builtin "int.__mul__") [.int i k, .ref x]) (fun v s' => v = .notImplemented ∧ s' = s) E s :=
      call_meets F.slot_int_mul (typeIs_int s i k) F.entry_int_mul (F.args_int_mul_2 _ _) (int_mul_own i k x C dx) ⟨I.at_, rfl, rfl⟩
    exact wpAny_tryMethod_declines (typeIs_int s i k) F.slot_int_mul (wpAny_mono dec (fun v s' z => ⟨z.1, rfl, z.2⟩) fun _ _ z => z)
  · exact no (by decide) e
  · exact no (by decide) e
  · exact no (by decide) e
  · exact no (by decide) e
section
variable {X : Cx} {k : Nat} {C : Addr} {ps : List Str} {sp : Sp} {dvs : List V} {pos : Pos} {a b : Expr} {ta tb : TE} {W : WX} {K : Frag} {L : List Addr}
theorem pe_rmulX (hK : X.K = K) (D : MtX X.prog X.w X.K X.mg X.base C "__rmul__" k ps dvs sp) (tk : Takes X W) (ho : reflOk K C "mul" = true) (hr : RoomG k X.A) (ha : PE X a ta) (hb : PE X b tb) : PE X (.BinOp a .Mult b pos) (tReflX K L C sp dvs W ta tb) := by
  subst hK
  obtain ⟨f, fd, ds, c, hmt, F, hbd, hd⟩ := D.ex
  constructor
  intro pins s σ H Q I h
  refine wpAny_BinOp (binT ha hb I h fun v u s2 x y H2 I2 rx ry q => ?_)
  obtain ⟨b, dx, fs, t, rfl, eb, ax, tb, q⟩ := q
  obtain rfl : u = Value.ref b := ry
  obtain ⟨od, J⟩ := insAt' I2 eb
  obtain ⟨PH, Z, pH, _⟩ := kit_of I2 rx ax.ty
  exact refl_mul (L := L) I2.kIn J ho Z pH tb hmt.at_ hmt.fn (rel_int ax rx) (rel_bool ax rx) (wpAny_mono (goX (us := [.ref b, v]) (vs := [.ref b, x]) F tk hr hbd hd I2 (.cons rfl (.cons rx .nil)) q) (fun w s1 hw => back hw) fun _ _ z => z)
end
end My

namespace My
open PySem L2 PySem.Spec PyProof.Rows PySem.W
theorem int_add_ownA (i : Int) (t : Tok) (x C dx : Addr) : Meets (Builtin.«int.__add__» ⟨[.int i t, .ref x], []⟩) (fun _ R s => s.heap.get? x = some (instObj C dx) ∧ R (.ok (.ret Value.notImplemented)) s) :=
  .of_wp fun prog w A R s h => by
    obtain ⟨hp, g, d, tk, os⟩ := s
    obtain ⟨hl, h⟩ := h
    unfold instObj at hl
    wp_walk
    exact ⟨_, rfl, h⟩
theorem bool_add_ownA (i : Bool) (x C dx : Addr) : Meets (Builtin.«int.__add__» ⟨[.bool i, .ref x], []⟩) (fun _ R s => s.heap.get? x = some (instObj C dx) ∧ R (.ok (.ret Value.notImplemented)) s) :=
  .of_wp fun prog w A R s h => by
    obtain ⟨hp, g, d, tk, os⟩ := s
    obtain ⟨hl, h⟩ := h
    unfold instObj at hl
    wp_walk
    exact ⟨_, rfl, h⟩
theorem noFill_add {M : Model} {h : Heap} {K : Frag} (X : K.In h) {T : String} (hT : T ∈ ["NoneType", "str", "tuple", "list", "dict"]) : Looks M h (fillsNumberSlot (.type T) "add") false := by
  have key : ∀ T ∈ ["NoneType", "str", "tuple", "list", "dict"], (match findIn [] (.type T) (PySem.dunder "add"), findIn [] (.type T) (dunderR "add") with
    | some fo, some ro => !((fo.isSome && !isSeqSlot fo) || (ro.isSome && !isSeqSlot ro))
    | _, _ => false) = true := by decide +kernel
  have z := key T hT
  split at z
  · rename_i fo ro h1 h2
    have q := ksp_fillsT (M := M) X (show findIn K (.type T) (PySem.dunder "add") = some fo from h1) (show findIn K (.type T) (dunderR "add") = some ro from h2)
    have e : ((fo.isSome && !isSeqSlot fo) || (ro.isSome && !isSeqSlot ro)) = false := (Bool.not_eq_true' _).mp z
    rw [e] at q
    exact q
  · cases z
theorem refl_add {prog : Program} {w : World} {A : Around} {E : Value → Shared → Prop} {s : Shared} {K : Frag} {L : List Addr} {x C dx f : Addr} {od : Option Obj} {a t : Value} {Q : Value → Shared → Prop} {P : Heap → Prop} (XK : K.In s.heap) (I : InstAt s.heap x (instObj C dx) C od)
    (ho : reflOk K C "add" = true) (Z : KitX K a t P) (pH : P s.heap) (ht : t ∈ bTys) (hr : findIn K (.ref C) (dunderR "add") = some (some (.ref f))) (hf : isFn K (.ref f) = true)
    (hi : t = .type "int" → ∃ i k, a = .int i k) (hb : t = .type "bool" → ∃ b, a = .bool b)
    (h : wpAny (model prog w) A (call (.ref f) [.ref x, a]) (PySem.W.CmpBack Q) E s) : wpAny (model prog w) A (binaryOp .Add a (.ref x)) Q E s := by
  unfold reflOk at ho
  simp only [Bool.and_eq_true, beq_iff_eq] at ho
  obtain ⟨h1, h2, h3, h4⟩ := ho
  obtain ⟨cd, rest, e1, e2⟩ := ksp_first h1
  obtain ⟨g, e3⟩ := fnAt_ok h2
  have two := ksp_try XK I hr hf h
  have M4 := fills_K (M := model prog w) (nm := "add") XK e1 e2 e3
  have M1 : Looks (model prog w) s.heap (typeOf a) t := Z.ty _ _ XK pH
  have no : ∀ {T : String}, T ∈ ["NoneType", "str", "tuple", "list", "dict"] → t = .type T → wpAny (model prog w) A (binaryOp .Add a (.ref x)) Q E s := fun {T} hT e => by
    subst e
    exact rbin_walk (left := false) rfl two M1 I.type (Bool.eq_false_iff.mpr fun q => by cases beq_iff_eq.mp q) (noFill_add XK hT) M4 fun z => nomatch z
  simp only [bTys, List.mem_cons, List.not_mem_nil, or_false] at ht
  rcases ht with e | e | e | e | e | e | e
  · exact no (by decide) e
  · obtain ⟨b, rfl⟩ := hb e
    subst e
    refine rbin_walk (left := true) rfl two M1 I.type (Bool.eq_false_iff.mpr fun q => by cases beq_iff_eq.mp q) (Looks.of_pure F.fills_bool_add) M4 fun _ => ⟨looks_subIn XK h4, ?_⟩
    have dec : wpAny (model prog w) A (call (.builtin "int.__add__") [.bool b, .ref x]) (fun v s' => v = .notImplemented ∧ s' = s) E s :=
      call_meets F.slot_bool_add rfl F.entry_int_add (F.args_int_add_2 _ _) (bool_add_ownA b x C dx) ⟨I.at_, rfl, rfl⟩
    exact wpAny_tryMethod_declines (T := "bool") rfl F.slot_bool_add (wpAny_mono dec (fun v s' z => ⟨z.1, rfl, z.2⟩) fun _ _ z => z)
  · obtain ⟨i, k, rfl⟩ := hi e
    subst e
    refine rbin_walk (left := true) rfl two M1 I.type (Bool.eq_false_iff.mpr fun q => by cases beq_iff_eq.mp q) (Looks.of_pure F.fills_int_add) M4 fun _ => ⟨looks_subIn XK h3, ?_⟩
    have dec : wpAny (model prog w) A (call (.builtin "int.__add__") [.int i k, .ref x]) (fun v s' => v = .notImplemented ∧ s' = s) E s :=
      call_meets F.slot_int_add (typeIs_int s i k) F.entry_int_add (F.args_int_add_2 _ _) (int_add_ownA i k x C dx) ⟨I.at_, rfl, rfl⟩
    exact wpAny_tryMethod_declines (typeIs_int s i k) F.slot_int_add (wpAny_mono dec (fun v s' z => ⟨z.1, rfl, z.2⟩) fun _ _ z => z)
  · exact no (by decide) e
  · exact no (by decide) e
  · exact no (by decide) e
  · exact no (by decide) e
section
variable {X : Cx} {k : Nat} {C : Addr} {ps : List Str} {sp : Sp} {dvs : List V} {pos : Pos} {a b : Expr} {ta tb : TE} {W : WX} {K : Frag} {L : List Addr}
theorem pe_raddX (hK : X.K = K) (D : MtX X.prog X.w X.K X.mg X.base C "__radd__" k ps dvs sp) (tk : Takes X W) (ho : reflOk K C "add" = true) (hr : RoomG k X.A) (ha : PE X a ta) (hb : PE X b tb) : PE X (.BinOp a .Add b pos) (tReflX K L C sp dvs W ta tb) := by
  subst hK
  obtain ⟨f, fd, ds, c, hmt, F, hbd, hd⟩ := D.ex
  constructor
  intro pins s σ H Q I h
  refine wpAny_BinOp (binT ha hb I h fun v u s2 x y H2 I2 rx ry q => ?_)
  obtain ⟨b, dx, fs, t, rfl, eb, ax, tb, q⟩ := q
  obtain rfl : u = Value.ref b := ry
  obtain ⟨od, J⟩ := insAt' I2 eb
  obtain ⟨PH, Z, pH, _⟩ := kit_of I2 rx ax.ty
  exact refl_add (L := L) I2.kIn J ho Z pH tb hmt.at_ hmt.fn (rel_int ax rx) (rel_bool ax rx) (wpAny_mono (goX (us := [.ref b, v]) (vs := [.ref b, x]) F tk hr hbd hd I2 (.cons rfl (.cons rx .nil)) q) (fun w s1 hw => back hw) fun _ _ z => z)
end
end My

namespace My
open PySem L2 PySem.Spec PyProof.Rows PySem.W
/-! ### lists of own objects, equal by an own __eq__ -/
theorem op_eqOL {X : Cx} {C : Addr} {k : Nat} {R : Addr → Addr → Hp → Prop} (D : MtO X.prog X.w X.K X.mg X.base C "__eq__" k ["self", "other"] [] (L2.spEq R)) (hR : ∀ a b H H', L2.Ext H H' → R a b H → R a b H') (hr : Room (k + 1) X.A) : OpR X (compareOp .Eq) (L2.rEqG (L2.DList (L2.DIns C R))) := by
  obtain ⟨f, fd, ds, c, hm, F, hb, hd⟩ := D.ex
  cases hd
  exact L2.op_eqG (L2.rcG_list (L2.mon_ins hR) (L2.eqG_ins F hm.at_ hm.fn hb (E := E0) fun _ _ _ _ _ _ _ z => z.elim)) hr
/-! ### texts of values -/
/-- data that is small enough to be told -/
structure SmD (d : PyData) : Prop where
  dp : d.depth ≤ 60
  sh : d.showable = true
  len : d.shown.length ≤ 100000
theorem shown_list (ds : List PyData) : (PyData.list ds).shown = listText (PyData.shownAll ds) := by simp only [PyData.shown]
theorem leaf_int {i : Int} (h : Sm 1900 i) : Leaf (.int i) (toString i) := .int (Nat.lt_of_lt_of_le h.log (by decide))
theorem textFrom_le : ∀ (ts : List Str) (k : Nat) (acc : Str), (textFrom k acc ts).length ≤ acc.length + piled ts
  | [], k, acc => Nat.le_refl _
  | t :: r, k, acc => by
    have h := textFrom_le r (k + 1) (acc ++ (if k > 0 then ", " else "" : String) ++ t)
    rw [strLen_append, strLen_append] at h
    have e : (Str.ofString (if k > 0 then ", " else "" : String)).length ≤ 2 := by
      split
      · exact Nat.le_refl 2
      · exact Nat.zero_le 2
    rw [piled_cons]
    show (textFrom (k + 1) _ r).length ≤ _
    omega
theorem listText_le (ts : List Str) : (listText ts).length ≤ piled ts + 2 := by
  have h := textFrom_le ts 0 "["
  have e : (Str.ofString "[").length = 1 := rfl
  have e2 : (Str.ofString "]").length = 1 := rfl
  unfold listText
  rw [strLen_append]
  omega
/-- a list of two: data, or an own object, and a bool -/
theorem list2 {H : Hp} {L : OwnL} {a : Addr} {v : V} {b : Bool} {t : Str} {Q : VK} (ea : H a = some (.lst [v, .bl b])) (na : a ≠ sysModules) (hl : t.length ≤ 100000)
    (hv : (∃ d, Dz H v d ∧ SmD d ∧ d.shown = t) ∨ ∃ (p : Addr × Sp) (b dx : Addr) (fs : List (Str × V)), p ∈ L ∧ v = .ref b ∧ H b = some (.ins p.1 dx fs) ∧ ∀ H1, L2.Same H H1 → ∀ Q1 : VK, (∀ H2, L2.Same H1 H2 → Q1 (.str t) H2) → p.2 [.ref b] H1 Q1 E0)
    (q : ∀ H', L2.Same H H' → Q (.str (listText [t, if b then "True" else "False"])) H') : rReprZ [.ref a] H Q ∨ rReprM L [.ref a] H Q := by
  have hz : (listText [t, if b then "True" else "False"]).length ≤ sizeLine := by
    have e := listText_le [t, if b then "True" else "False"]
    have e2 : piled [t, if b then ("True" : Str) else "False"] ≤ t.length + 9 := by
      rw [piled_cons, piled_cons, piled_nil]
      cases b
      · show t.length + 2 + (5 + 2 + 0) ≤ _
        omega
      · show t.length + 2 + (4 + 2 + 0) ≤ _
        omega
    rw [sizeLine_eq]
    omega
  rcases hv with ⟨d, hd, sm, e⟩ | ⟨p, o, dx, fs, hp, rfl, eo, z⟩
  · refine .inl ⟨_, .list [d, .bool b], rfl, .lst ea na (.cons hd (.cons (.bl b) .nil)), ?_, ?_, ?_, ?_⟩
    · have := sm.dp
      simp only [PyData.depth, PyData.depthAll]
      omega
    · have := sm.sh
      simp only [PyData.showable, PyData.showableAll, this, Bool.and_self]
    · rw [shown_list]
      simp only [PyData.shownAll, e]
      simp only [PyData.shown]
      exact hz
    · rw [shown_list]
      simp only [PyData.shownAll, e]
      simp only [PyData.shown]
      exact q H (L2.Same.refl H)
  · refine .inr ⟨a, [.ref o, .bl b], [t, if b then "True" else "False"], rfl, ea, by simp, rfl, fun i v hv => ?_, hz, q⟩
    match i, hv with
    | 0, hv =>
      cases hv
      exact ⟨t, rfl, .inr ⟨p, o, dx, fs, hp, rfl, eo, z⟩⟩
    | 1, hv =>
      cases hv
      exact ⟨_, rfl, .inl .bl⟩
    | n + 2, hv => simp at hv
section
variable {σ : L2.St} {H : Hp} {Q : VK} {K : Frag} {L : List Addr} {C : Addr} {m : Str} {sp : Sp} {dvs : List V} {W : WX} {ta tb : TE} {t : TA}
theorem s_opX (h : ta σ H fun x H1 => tb σ H1 fun y H2 => ∃ (a dx : Addr) (fs : List (Str × V)) (t : Value), x = .ref a ∧ H2 a = some (.ins C dx fs) ∧ AnyV K L H2 y t ∧ sp (.ref a :: y :: dvs) H2 Q (WE W σ)) : tOpX K L C sp dvs W ta tb σ H Q := h
theorem s_reflX (h : ta σ H fun x H1 => tb σ H1 fun y H2 => ∃ (b dx : Addr) (fs : List (Str × V)) (t : Value), y = .ref b ∧ H2 b = some (.ins C dx fs) ∧ AnyV K L H2 x t ∧ t ∈ bTys ∧ sp (.ref b :: x :: dvs) H2 Q (WE W σ)) : tReflX K L C sp dvs W ta tb σ H Q := h
theorem s_methX (h : ta σ H fun x H1 => ∃ a dx fs, x = .ref a ∧ H1 a = some (.ins C dx fs) ∧ fs.lookup m = none ∧ t σ H1 fun vs H2 => sp (x :: (vs ++ dvs)) H2 Q (WE W σ)) : tMethX C m sp dvs W ta t σ H Q := h
theorem s_makeX (h : t σ H fun vs H1 => ∀ x dx, H1 x = none → H1 dx = none → dx ≠ x → sp (.ref x :: (vs ++ dvs)) (upd (upd H1 dx (.own x)) x (.ins C dx [])) (fun v H2 => v = .non ∧ Q (.ref x) H2) (WE W σ)) : tMakeX C sp dvs W t σ H Q := h
end
/-! ### numbers as texts -/
def numT (i : Int) : Str := Str.ofString (toString i)
theorem numT_len {i : Int} (h0 : 0 ≤ i) (h : Sm 1900 i) : (numT i).length ≤ 600 := by
  obtain ⟨n, rfl⟩ : ∃ n : Nat, i = n := ⟨i.toNat, by omega⟩
  have e : (numT (n : Int)).length = (numT (n : Int)).cps.toList.length := by
    rw [Array.length_toList]
    rfl
  rw [e, show (numT (n : Int)).cps.toList = TL.numL n from TL.tl_num n]
  refine TL.numL_len (by decide) ?_
  have h2 : ((n : Int)).natAbs < 2 ^ 1900 := h
  rw [Int.natAbs_natCast] at h2
  exact Nat.lt_trans h2 (by decide +kernel)
theorem fit {n : Nat} (h : n ≤ 5000) : n ≤ sizeLine := by
  rw [sizeLine_eq]
  omega
end My

namespace My
open PySem L2 PySem.Spec PyProof.Rows
/-! ### several except clauses, each with a name -/
abbrev Cls3 := Value × Nat × (Addr → Value → Option Addr → TS)
/-- what the clauses wish of the body's exception, one after the other -/
def wAsM (K : PySem.W.Frag) (Wout : WX) (D : Ends) : List Cls3 → WX
  | [] => Wout
  | e :: r => fun cls d σ H => wAs K e.1 e.2.1 e.2.2 (wAsM K Wout D r) D cls d σ H
inductive HdsAs (X : Cx) : List ExceptHandler → List Cls3 → Prop
  | nil : HdsAs X [] []
  | cons {x n : Str} {c : Value} {i : Nat} {ts : Addr → Value → Option Addr → TS} {b₀ : Stmt} {suite : List Stmt} {np pos' : Pos} {hds : List ExceptHandler} {l : List Cls3} (hi : X.N[i]? = some n) (hln : X.env.kindOf n = some .local) (hc : Names X x c)
      (hsu : ∀ (a : Addr) (oe : Obj) (cls : Value) (d : Option Addr) (pn : List (Addr × Obj)), Zc cls d oe → (∃ vs, oe.data = .fields vs) → PSs (X.suite a ((a, oe) :: pn)) (b₀ :: suite) (ts a cls d)) (r : HdsAs X hds l) :
      HdsAs X (.ExceptHandler (some (.Name x np)) (some n) (b₀ :: suite) pos' :: hds) ((c, i, ts) :: l)
section
variable {X : Cx} {body : List Stmt} {h₀ : ExceptHandler} {hds : List ExceptHandler} {l : List Cls3} {pos : Pos} {tb : WX → TS} {Wout : WX}
theorem ps_try_asM (hs : X.stack = X.env :: X.outer) (hf : X.env.frame = some X.env.locals) (hN : X.N.Nodup) (tk : Takes X Wout)
    (hb : ∀ (W : WX) (pn : List (Addr × Obj)) (xe : Value → Shared → Prop), Takes (X.tr pn xe) W → PassesOwn (model X.prog X.w) X.A X.env xe → PSs (X.tr pn xe) body (tb W))
    (hh : HdsAs X (h₀ :: hds) l) : PS X (.Try body (h₀ :: hds) [] [] pos) (fun D σ H => tb (wAsM X.K Wout D l) D σ H) := by
  refine ⟨fun pins s σ H D I h => ?_⟩
  have ok := I.ok
  have hfr : X.A.frames = some (X.env :: X.outer) := by rw [ok.frames, hs]
  refine wpAny_Try_except ?_
  refine wpAny_mono ((hb (wAsM X.K Wout D l) (X.pn ++ pins) (fun e s₁ => wpAny (model X.prog X.w) X.A (noteFrame e X.env) (fun _ s₂ => wpAny (model X.prog X.w) X.A (setFlight e none) (fun _ s₃ =>
    wpAny (model X.prog X.w) X.A (handleBy e X.env (h₀ :: hds)) (SP X pins D) X.xe s₃) X.xe s₂) X.xe s₁) (fun u s' xx => ?_) PassesOwn.looking).run [] s σ H D (I.toTry _) h) (fun f s1 hsp => ?_) (fun e s1 he => he)
  · obtain ⟨a, B, sI, pins', σ', H', cls, d, rfl, J', nb, up, sky, na, os, ag, w⟩ := xx
    have J : Inv X pins σ' H' sI := J'.ofTry ok
    have sky' : Sky B (X.env :: X.outer) a (Zc cls d) X.env.locals s'.heap := by rw [← hs]; exact sky
    show wpAny (model X.prog X.w) X.A (noteFrame (.ref a) X.env) _ _ _
    refine Sky.land Zc.steady hfr hf sky' fun h3 fl3 up3 => ?_
    have J3 : Inv X pins σ' H' { s' with heap := h3 } := J.landed nb fl3.1 (up.trans up3) os ag
    obtain ⟨oe3, vs3, he3, hz3, hd3⟩ := fl3.there
    have notFr : ∀ {h : Heap} {o : Obj} {vs : Array Value}, h.FunFrames B (X.env :: X.outer) → h.get? a = some o → o.data = .fields vs → a ∉ frs (X.env :: X.outer) := fun {h o vs} ff e dd hm => by
      obtain ⟨_, o', e', hnf⟩ := ff.mem hm
      rw [e] at e'; cases e'
      exact hnf _ dd
    have nfr := notFr fl3.2.2.1 he3 hd3
    have nL : a ≠ X.env.locals := fun z => nfr (List.mem_filterMap.mpr ⟨X.env, List.mem_cons_self, by rw [hf, z]⟩)
    have nF : a ∉ X.fs := fun hm => by
      obtain ⟨e, he, q⟩ := List.mem_filterMap.mp hm
      exact nfr (List.mem_filterMap.mpr ⟨e, List.mem_cons_of_mem _ he, q⟩)
    have S3 := J3.suite he3 hd3 na nL nF
    have go : ∀ {hds' : List ExceptHandler} {l' : List Cls3}, HdsAs X hds' l' → wAsM X.K Wout D l' cls d σ' H' →
        wpAny (model X.prog X.w) X.A (handleBy (.ref a) X.env hds') (SP X pins D) X.xe { s' with heap := h3 } := by
      intro hds' l' hk
      induction hk with
      | nil =>
        intro w
        refine wpAny_handleBy_nil ?_
        obtain ⟨k1, k2, k3, oe, vs, T, oT, ts', he, hz, hd, h1, hr⟩ := id fl3
        unfold PySem.passOn
        refine wpAny_bind (wpAny_field he hd h1 ?_)
        rw [if_neg (show ¬ ((Value.ref T == Value.none) = true) from by simp)]
        have fin : wpAny (model X.prog X.w) X.A (setFlight (.ref a) X.env.frame) (fun _ s4 => wpAny (model X.prog X.w) X.A (throw (.ref a) : Sem Flow) (SP X pins D) X.xe s4) X.xe { s' with heap := h3 } := by
          rw [hf]
          refine HandSPX.setFlight_upZ fl3 fun h4 hh4 up4 => wpAny_throw (tk _ _ ?_)
          exact ⟨a, B, sI, pins, σ', H', cls, d, rfl, J, nb, (up.trans up3).trans up4, .inr (.inr (by rw [hs]; exact hh4)), na, os, ag, w⟩
        first
          | exact wpAny_bind (wpAny_pure (wpAny_bind fin))
          | exact wpAny_bind fin
      | @cons x n c i ts b₀ suite np pos' hds2 l2 hi hln hc hsu r ih =>
        intro w
        obtain ⟨b, hb1, hyes, hno⟩ := w
        have hloc : Loc X.env.scope n := .inl hln
        refine wpAny_handleBy_cons (codeAny_handlers_test ?_) (by intro q; cases q)
        have LT : PySem.W.Looks (model X.prog X.w) h3 (typeOf (.ref a)) cls := fun A Q E s k q => wpAny_typeOf_ref (k _ _ he3) (by rw [hz3.1]; exact q)
        have LM := PySem.W.exm_one (M := model X.prog X.w) (J3.kIn) LT hb1
        have test : ∀ {Q : Value → Shared → Prop} {E : Value → Shared → Prop}, Q c { s' with heap := h3 } → wpAny (model X.prog X.w) (X.A.mark (some (.ref a))) (eval (.Name x np) X.env) Q E { s' with heap := h3 } := fun {Q E} q => by
          obtain ⟨hg, hdbg, hm | ⟨hm, hv, hnn⟩⟩ := hc
          · exact ld_glob (X := X.suite a ((a, oe3) :: (X.pn ++ pins))) S3 hg hm q hdbg
          · exact ld_blt (X := X.suite a ((a, oe3) :: (X.pn ++ pins))) S3 hg hm hv q hnn hdbg
        refine test (LM.here ?_)
        cases b with
        | true =>
          refine codeAny_handlers_suite_as ?_
          refine HandSPX.lands_againZ fl3 fun h4 fl4 up4 => ?_
          have J4 : Inv X pins σ' H' { s' with heap := h4 } := J.landed nb fl4.1 ((up.trans up3).trans up4) os ag
          obtain ⟨oe4, vs4, he4, hz4, hd4⟩ := fl4.there
          have S4 := J4.suite he4 hd4 na nL nF
          refine store_ok (X := X.suite a ((a, oe4) :: (X.pn ++ pins))) (v := .ref a) S4 hN hi hloc rfl (fun s5 S5 => ?_) (.inr hln)
          refine wpAny_mono ((hsu a oe4 cls d (X.pn ++ pins) hz4 ⟨_, hd4⟩).run [] s5 _ H' _ S5 (hyes rfl a na)) (fun f s6 hsp => ?_) (fun _ _ z => False.elim z)
          have end_ : ∀ {σ6 : L2.St} {H6 : Hp} {Q : Shared → Prop}, Inv (X.suite a ((a, oe4) :: (X.pn ++ pins))) [] σ6 H6 s6 → (∀ s7, Inv X pins (σ6.set i none) H6 s7 → Q s7) →
              wpAny (model X.prog X.w) X.A (do bindName X.env n .none; unbindBehindTheSuite X.env n pos') (fun _ s7 => Q s7) X.xe s6 := fun {σ6 H6 Q} S6 hq => gone_ok (S6.unsuite ok) hN hi hln hq
          cases f with
          | next =>
            obtain ⟨σ6, H6, S6, q6⟩ := hsp
            exact end_ S6 fun s7 J7 => ⟨_, _, J7, q6⟩
          | brk =>
            obtain ⟨σ6, H6, S6, q6⟩ := hsp
            exact end_ S6 fun s7 J7 => ⟨_, _, J7, q6⟩
          | cont =>
            obtain ⟨σ6, H6, S6, q6⟩ := hsp
            exact end_ S6 fun s7 J7 => ⟨_, _, J7, q6⟩
          | ret u =>
            obtain ⟨v6, σ6, H6, S6, r6, q6⟩ := hsp
            exact end_ S6 fun s7 J7 => ⟨_, _, _, J7, r6, q6⟩
        | false =>
          show wpAny _ X.A (handleBy (.ref a) X.env hds2) _ _ _
          exact ih (hno rfl)
    exact go hh w
  · cases f with
    | next =>
      obtain ⟨σ', H', J', q⟩ := hsp
      exact wpAny_execs_nil ⟨σ', H', J'.ofTry ok, q⟩
    | brk =>
      obtain ⟨σ', H', J', q⟩ := hsp
      exact ⟨σ', H', J'.ofTry ok, q⟩
    | cont =>
      obtain ⟨σ', H', J', q⟩ := hsp
      exact ⟨σ', H', J'.ofTry ok, q⟩
    | ret u =>
      obtain ⟨v, σ', H', J', r, q⟩ := hsp
      exact ⟨v, σ', H', J'.ofTry ok, r, q⟩
end
end My

namespace My
open PySem L2 PySem.Spec PyProof.Rows
/-! ### range(a, b) of any numbers, walked -/
theorem turn_long {P : Program} {w : World} {K : PySem.W.Frag} {tg : Expr} (it : Addr) (lo : Int) (n : Nat) : Turn P w K tg (Itr lo n) [it] it (fun i h => IsLongIter h it (lo + (i : Nat) * 1) ((n : Int) - (i : Nat)) 1) where
  mem := by simp
  obj := fun i h st b hb => by
    have e : b = it := by simpa using hb
    subst e
    exact ⟨_, st, fun v z => by
      have z' : Data.fields _ = Data.cell v := z
      cases z'⟩
  keep := fun i h h' st k => k it (by simp) _ st
  item := by
    intro X hP hw hK hc i pins s σ H E I hf st hg
    subst hP hw hK
    obtain ⟨f0, f1, f2, f3, f4, f5⟩ := hf it (by simp)
    have W := Walks.longrange (prog := X.prog) (w := X.w) (I.ok.hd hc) it lo 1 n
    refine W.item i s _ _ hg st fun v h' tk hv st' kk => ?_
    obtain ⟨t, rfl⟩ := hv
    have I1 : Inv X pins σ H { s with heap := h', toks := tk } := I.turned (fun b o hb e => kk b o (by simpa using hb) e) f0 f1 f3 f4 f5
    refine ⟨_, rfl, go_of (s := { s with heap := h', toks := tk }) (n := "longrange_iterator") st' rfl rfl (by decide) ⟨.int (lo + i), H, I1, ⟨t, ?_⟩, ⟨rfl, rfl⟩, st', fun b hb => (hf b hb).1⟩⟩
    rw [Int.mul_one]
  done := by
    intro X hP hw hK hc i pins s σ H E I hf st hg
    subst hP hw hK
    obtain ⟨f0, f1, f2, f3, f4, f5⟩ := hf it (by simp)
    exact wpAny_pyNext_long_end (I.ok.hd hc) st (by have : n ≤ i := hg; omega) fun h' eb => ⟨rfl, I.turned (t' := s.toks) (fun b o hb e => eb b o hb e) f0 f1 f3 f4 f5⟩
  self := fun _ _ _ _ _ st h => wpAny_pyIter_longiter st h
section
variable {X : Cx} {tg : Expr}
/-- a range object just made, walked: of any bounds -/
theorem range_itA {pins : List (Addr × Obj)} {σ : L2.St} {H : Hp} {s : Shared} {R : It → Hp → Prop} {E : Value → Shared → Prop} {lo hi : Int} {t u v : Tok} {tk : Nat} (I : Inv X pins σ H s)
    (q : R (Itr lo (hi - lo).toNat) H) : wpAny (model X.prog X.w) X.A (pyIter (.ref s.heap.objs.size)) (PIE X pins σ tg R) E { s with heap := s.heap.push { cls := .type "range", data := .fields #[.int lo t, .int hi u, .int 1 v] }, toks := tk } := by
  have I1 : Inv X pins σ H { s with heap := s.heap.push { cls := .type "range", data := .fields #[.int lo t, .int hi u, .int 1 v] }, toks := tk } := I.kept fun b o e => Heap.get?_push_of_some _ e
  have e1 : lo + ((0 : Nat) : Int) * 1 = lo := by simp
  have e2 : (((hi - lo).toNat : Nat) : Int) - ((0 : Nat) : Int) = Builtin.Range.rangeSize lo hi 1 := by rw [rangeSize_one]; split <;> omega
  cases hs : Builtin.Range.small lo hi 1 with
  | true =>
    refine wpAny_pyIter_range (IsRange.new ..) hs ?_
    refine ⟨(s.heap.push { cls := .type "range", data := .fields #[.int lo t, .int hi u, .int 1 v] }).objs.size, [(s.heap.push { cls := .type "range", data := .fields #[.int lo t, .int hi u, .int 1 v] }).objs.size], _, _, H, rfl,
      I1.kept (t' := tk) fun b o e => Heap.get?_push_of_some _ e, turn_range _ lo (hi - lo).toNat, ?_, fun b hb => ?_, q⟩
    · show IsRangeIter _ _ (lo + ((0 : Nat) : Int) * 1) ((((hi - lo).toNat : Nat) : Int) - ((0 : Nat) : Int)) 1
      rw [e1, e2]
      exact Heap.get?_push_size _ rfl
    · have e : b = (s.heap.push { cls := .type "range", data := .fields #[.int lo t, .int hi u, .int 1 v] }).objs.size := by simpa using hb
      subst e
      exact I1.fpOk (Nat.le_refl _) (I1.hok.fresh (Nat.le_refl _))
  | false =>
    refine wpAny_pyIter_longrange (IsRange.new ..) hs ?_
    refine ⟨(s.heap.push { cls := .type "range", data := .fields #[.int lo t, .int hi u, .int 1 v] }).objs.size, [(s.heap.push { cls := .type "range", data := .fields #[.int lo t, .int hi u, .int 1 v] }).objs.size], _, _, H, rfl,
      I1.kept (t' := tk) fun b o e => Heap.get?_push_of_some _ e, turn_long _ lo (hi - lo).toNat, ?_, fun b hb => ?_, q⟩
    · show IsLongIter _ _ (lo + ((0 : Nat) : Int) * 1) ((((hi - lo).toNat : Nat) : Int) - ((0 : Nat) : Int)) 1
      rw [e1, e2]
      exact Heap.get?_push_size _ rfl
    · have e : b = (s.heap.push { cls := .type "range", data := .fields #[.int lo t, .int hi u, .int 1 v] }).objs.size := by simpa using hb
      subst e
      exact I1.fpOk (Nat.le_refl _) (I1.hok.fresh (Nat.le_refl _))
def iRng2A (ta : TA) : TI := fun σ H R => ta σ H fun vs H1 => ∃ i j : Int, vs = [.int i, .int j] ∧ R (Itr i (j - i).toNat) H1
theorem s_iRng2A {σ : L2.St} {H : Hp} {R : It → Hp → Prop} {t : TA} (h : t σ H fun vs H1 => ∃ i j : Int, vs = [.int i, .int j] ∧ R (Itr i (j - i).toNat) H1) : iRng2A t σ H R := h
theorem pi_range2A {a b : Expr} {ta : TA} {p pos : Pos} (hg : Gl X "range") (hm : X.mg "range" = none) (ha : PA X [a, b] ta) (hs : starEach [a, b] X.env = [(false, eval a X.env), (false, eval b X.env)] := by rfl) (hs2 : starEach [b] X.env = [(false, eval b X.env)] := by rfl) :
    PI X tg (.Call (.Name "range" p) [a, b] [] pos) (iRng2A ta) := by
  refine ⟨fun pins s σ H R I h => ?_⟩
  refine Call_ (ld_blt I hg hm boot_range (PyProof.Rows.callWith_type1 (thn (ha.run pos pins s σ H _ I h) fun us s1 ⟨vs, H1, I1, r1, q1⟩ => ?_) (by rw [hs, hs2]) (by rw [hs2]; rfl)))
  obtain ⟨i, j, e, q⟩ := q1
  subst e
  cases r1 with
  | cons r rr =>
    cases rr with
    | cons r' rr =>
      cases rr
      obtain ⟨t, rfl⟩ := r
      obtain ⟨t', rfl⟩ := r'
      exact call_range_2 (range_itA I1 q)
end
end My

namespace My
open PySem L2 PySem.Spec PyProof.Rows L2H
/-! ### own defs and properties called where an exception is handled; nothing is raised there -/
structure DnN (P : Program) (w : World) (K : PySem.W.Frag) (mg : Str → Option Value) (base : Heap) (x : Str) (k : Nat) (ps : List Str) (sp : Sp) : Prop where
  ex : ∃ (f : Addr) (fd : FuncData), FnN P w K mg base CX0 k f fd ps sp ∧ mg x = some (.ref f) ∧ PySem.W.keepIn K (.ref f) = true ∧ Binds K fd ps []
structure PrN (P : Program) (w : World) (K : PySem.W.Frag) (mg : Str → Option Value) (base : Heap) (C : Addr) (m : Str) (k : Nat) (ps : List Str) (sp : Sp) : Prop where
  ex : ∃ (p g : Addr) (fd : FuncData), Cls K C ∧ PropOf K C m p g ∧ FnN P w K mg base CX0 k g fd ps sp ∧ Binds K fd ps []
theorem roomH_in1 {k : Nat} {A : Around} (r : RoomH (k + 1) A) : RoomH k A.in1 := by
  refine ⟨?_, ?_⟩
  · have := r.dp
    have e : A.in1.depth = A.depth := rfl
    omega
  · have := r.un
    have e : A.in1.units = A.units + 1 := rfl
    omega
section
variable {X : Cx} {j k : Nat} {f C : Addr} {fd : FuncData} {ps : List Str} {sp : Sp} {x m : Str} {p pos apos : Pos} {e o : Expr} {es : List Expr} {ta : TE} {t : TA}
theorem pinOk {pins : List (Addr × Obj)} {σ : L2.St} {H : Hp} {s : Shared} {p : Addr × Obj} (I : Inv X pins σ H s) (hp : p ∈ X.pn) : PinOk X.stack H s p := by
  have P1 := I.pin p (List.mem_append_left _ hp)
  exact ⟨P1.1, P1.2.1, fun hm => (List.mem_cons.mp (I.stkSub p.1 hm)).elim P1.2.2.1 P1.2.2.2.1, P1.2.2.2.2⟩
theorem goN {pins : List (Addr × Obj)} {σ : L2.St} {H : Hp} {s : Shared} {Q : VK} {us : List Value} {vs : List V} (F : FnN X.prog X.w X.K X.mg X.base CX0 k f fd ps sp) (hr : RoomH k X.A) (hc : ∃ p, p ∈ X.pn) (hb : Binds X.K fd ps [])
    (I : Inv X pins σ H s) (r : Vals vs us) (h : sp vs H Q E0) : wpAny (model X.prog X.w) X.A (call (.ref f) us) (EP X pins σ Q) X.xe s := by
  obtain ⟨pn, hpn⟩ := hc
  have hl : us.length = ps.length := r.length.symm.trans (F.len _ _ _ _ h)
  have bd := hb s us I.kIn (by rw [List.append_nil]; exact hl)
  rw [List.append_nil] at bd
  refine wpAny_call (codeAny_mono (F.run X.A X.stack s H ⟨us, []⟩ us _ Q E0 pn hr (pinOk I hpn) I.env0 bd r h) ?_)
  intro r s' hq
  cases r with
  | error e => exact (show False from hq).elim
  | ok fl => cases fl with
    | ret u => exact I.after hq
    | next => exact (show False from hq).elim
    | brk => exact (show False from hq).elim
    | cont => exact (show False from hq).elim
theorem pe_callDN (D : DnN X.prog X.w X.K X.mg X.base x k ps sp) (hr : RoomH k X.A) (hc : ∃ p, p ∈ X.pn) (hg : Gl X x) (ha : PA X (e :: es) t) (hdb : (x == ("__debug__" : Str)) = false := by decide)
    (h1 : starEach (e :: es) X.env = (false, eval e X.env) :: starEach es X.env := by rfl) (h2 : (backTo pos (starEach es X.env)).any (·.1) = false := by rfl) : PE X (.Call (.Name x p) (e :: es) [] pos) (tCall sp [] E0 t) := by
  obtain ⟨f, fd, F, hm, hk, hb⟩ := D.ex
  constructor
  intro pins s σ H Q I h
  refine wpAny_Call_Name_kw (ld_glob I hg hm (PySem.W.callWith_K (h₀ := X.base) I.ok.mod.kin hk (thn (ha.run pos pins s σ H _ I h) fun us s1 ⟨vs, H1, I1, r, q⟩ => ⟨I1.kIn, goN F hr hc hb I1 r (List.append_nil vs ▸ (show sp (vs ++ []) H1 Q E0 from q))⟩) h1 h2) hdb)
theorem pe_propDN (D : PrN X.prog X.w X.K X.mg X.base C m k ps sp) (he : PE X e ta) (hr : RoomH (k + 1) X.A) (hc : ∃ p, p ∈ X.pn) (hab : attributeBase e m X.env (eval e X.env) = eval e X.env) : PE X (.Attribute e m pos) (tProp C sp [] E0 ta) := by
  obtain ⟨p, g, fd, c, hp, F, hb⟩ := D.ex
  obtain ⟨pn, hpn⟩ := hc
  constructor
  intro pins s σ H Q I h
  refine attr_of hab (thn (he.run pins s σ H _ I h) ?_)
  rintro u s1 ⟨x, H1, I1, rx, a, dx, fs, rfl, ea, q⟩
  obtain rfl : u = Value.ref a := rx
  obtain ⟨mA, O, _, _, _, _⟩ := ins_get I1.hok ea
  obtain ⟨od, J, _⟩ := O.look
  obtain ⟨rest, hrec⟩ := hp.rec_
  have I2 := I1.tok (s1.toks + 1)
  have hl : ([Value.ref a] ++ []).length = ps.length := by
    have z := F.len _ _ _ _ q
    simp only [List.length_cons, List.length_append, List.length_nil] at z ⊢
    omega
  have hc : (PySem.W.clsIn X.K C).isSome = true := by
    obtain ⟨cd, hc, _⟩ := PySem.W.any_some c.hd
    simp [hc]
  have pg := PySem.W.plainGet_of (c.get m)
  have pin := pinOk I2 hpn
  refine PySem.W.get_bind I1.kIn J pg.1 (PySem.W.findObj_data hc hp.at_ hp.get hp.tak) pg.2 (wpAny_call (PySem.W.prop_get (s := { s1 with toks := s1.toks + 1 }) I1.kIn hrec ?_))
  refine codeAny_mono (F.run X.A.in1 X.stack { s1 with toks := s1.toks + 1 } H1 ⟨[.ref a], []⟩ [.ref a] [.ref a] Q E0 pn (roomH_in1 hr) pin I2.env0.in1 (hb _ [.ref a] I2.kIn hl) (.cons rfl .nil) q) ?_
  intro r s' hq
  cases r with
  | error er => exact (show False from hq).elim
  | ok fl => cases fl with
    | ret u =>
      obtain ⟨v, H', I3, rv, q3⟩ := I2.after hq
      show wpAny _ _ (handedOut u) _ _ _
      rw [PySem.W.handedOut_of (handed_of rv)]
      exact wpAny_pure ⟨v, H', I3, rv, q3⟩
    | next => exact (show False from hq).elim
    | brk => exact (show False from hq).elim
    | cont => exact (show False from hq).elim
end
end My

namespace My
open PySem L2 PySem.Spec PyProof.Rows
section
variable {X : Cx}
/-- list(xs), the new list not where sys.modules stands -/
theorem call_list_ofN : CallR X (.type "list") (fun xs H Q => ∃ p ys, xs = [.ref p] ∧ (SqL X.K H p ys ∨ SqT X.K H p ys) ∧ ∀ l, H l = none → l ≠ sysModules → Q (.ref l) (upd H l (.lst ys))) := by
  intro pins s σ H xs us Q I r h
  obtain ⟨p, ys, rfl, hq, q⟩ := h
  obtain ⟨u, rfl, rx⟩ := vals1 r
  cases rx
  have fin : ∀ (its : List Value), Vals ys its → ys.length ≤ sizeLine → ∀ (h' : Heap) (c' : Nat), (∀ b o', s.heap.get? b = some o' → h'.get? b = some o') →
      h'.get? s.heap.objs.size = some { cls := .type "list", dict := none, data := .seq its.toArray c', slots := #[] } → EP X pins σ Q (.ref s.heap.objs.size) { s with heap := h' } := fun its r' hz h' c' kp e =>
    ⟨.ref s.heap.objs.size, _, I.laid (t' := s.toks) kp (Nat.le_refl _) (show ObjOk X.prog X.w _ h' _ (.lst ys) from ⟨hz, its, c', r', e⟩), rfl, q _ (I.hok.fresh (Nat.le_refl _)) (Nat.ne_of_gt I.big)⟩
  rcases hq with hq | hq
  · obtain ⟨its, r', pl, hz⟩ := I.list hq
    have hlen := r'.length
    obtain ⟨o, ho, hc, n, hd⟩ := pl.isList
    exact call_list_seq p (.inl rfl) ho hc hd (fun h' c' kp e => fin its r' hz h' c' kp e) (by simp only [List.size_toArray] <;> omega)
  · obtain ⟨its, r', pl, hz⟩ := I.tuple hq
    have hlen := r'.length
    obtain ⟨o, ho, hc, n, hd⟩ := pl
    exact call_list_seq p (.inr rfl) ho hc hd (fun h' c' kp e => fin its r' hz h' c' kp e) (by simp only [List.size_toArray] <;> omega)
end
theorem vals_rev : ∀ {xs : List V} {us : List Value}, Vals xs us → Vals xs.reverse us.reverse
  | _, _, .nil => .nil
  | _, _, .cons r t => by
    rw [List.reverse_cons, List.reverse_cons]
    exact (vals_rev t).append (.cons r .nil)
/-! ### texts of data -/
/-- shallow data with a short text -/
structure Sz (d : PyData) (k n : Nat) : Prop where
  dp : d.depth ≤ k
  sh : d.showable = true
  len : d.shown.length ≤ n
theorem Sz.int {i : Int} (h0 : 0 ≤ i) (h : Sm 1900 i) : Sz (.int i) 0 600 := by
  refine ⟨by simp [PyData.depth], ?_, ?_⟩
  · exact decide_eq_true (Nat.lt_of_lt_of_le h.log (by decide))
  · show (PyData.shown (.int i)).length ≤ 600
    rw [PyData.shown]
    exact numT_len h0 h
theorem Sz.non : Sz .none 0 600 := ⟨by simp [PyData.depth], rfl, by decide +kernel⟩
theorem Sz.bool (b : Bool) : Sz (.bool b) 0 600 := ⟨by simp [PyData.depth], rfl, by cases b <;> decide +kernel⟩
inductive SzAll (k n : Nat) : List PyData → Prop
  | nil : SzAll k n []
  | cons {d : PyData} {ds : List PyData} (h : Sz d k n) (r : SzAll k n ds) : SzAll k n (d :: ds)
theorem SzAll.dp {k n : Nat} {ds : List PyData} (h : SzAll k n ds) : PyData.depthAll ds ≤ k := by
  induction h with
  | nil => simp [PyData.depthAll]
  | cons h r ih =>
    have := h.dp
    simp only [PyData.depthAll]
    omega
theorem SzAll.sh {k n : Nat} {ds : List PyData} (h : SzAll k n ds) : PyData.showableAll ds = true := by
  induction h with
  | nil => rfl
  | cons h r ih =>
    simp only [PyData.showableAll, h.sh, ih, Bool.and_self]
theorem SzAll.len {k n : Nat} {ds : List PyData} (h : SzAll k n ds) : piled (PyData.shownAll ds) ≤ ds.length * (n + 2) := by
  induction h with
  | nil => simp [PyData.shownAll, piled_nil]
  | cons h r ih =>
    have := h.len
    simp only [PyData.shownAll, piled_cons, List.length_cons, Nat.succ_mul]
    omega
theorem Sz.list {k n m : Nat} {ds : List PyData} (h : SzAll k n ds) (hm : ds.length * (n + 2) + 2 ≤ m) : Sz (.list ds) (k + 1) m := by
  refine ⟨?_, ?_, ?_⟩
  · have := h.dp
    simp only [PyData.depth]
    omega
  · simp only [PyData.showable, h.sh]
  · rw [shown_list]
    have h1 := listText_le (PyData.shownAll ds)
    have h2 := h.len
    omega
theorem Sz.mono {d : PyData} {k n k' n' : Nat} (h : Sz d k n) (a : k ≤ k') (b : n ≤ n') : Sz d k' n' := ⟨Nat.le_trans h.dp a, h.sh, Nat.le_trans h.len b⟩
theorem Sz.smD {d : PyData} {k n : Nat} (h : Sz d k n) (a : k ≤ 60) (b : n ≤ 100000) : SmD d := ⟨Nat.le_trans h.dp a, h.sh, Nat.le_trans h.len b⟩
theorem SmD.repr {d : PyData} {H : Hp} {v : V} {Q : VK} (h : SmD d) (z : Dz H v d) (q : Q (.str d.shown) H) : rReprZ [v] H Q := by
  refine ⟨v, d, rfl, z, Nat.le_trans h.dp (by decide), h.sh, ?_, q⟩
  have := h.len
  rw [sizeLine_eq]
  omega
/-- a list of a text, data or an own object, and True -/
theorem list3 {H : Hp} {L : OwnL} {a : Addr} {w : Str} {v : V} {t : Str} {Q : VK} (ea : H a = some (.lst [.str w, v, .bl true])) (na : a ≠ sysModules) (hw : w.length ≤ 40) (hw2 : (PyData.str w).shown.length ≤ 600) (hl : t.length ≤ 100000)
    (hv : (∃ d, Dz H v d ∧ SmD d ∧ d.shown = t) ∨ ∃ (p : Addr × Sp) (b dx : Addr) (fs : List (Str × V)), p ∈ L ∧ v = .ref b ∧ H b = some (.ins p.1 dx fs) ∧ ∀ H1, L2.Same H H1 → ∀ Q1 : VK, (∀ H2, L2.Same H1 H2 → Q1 (.str t) H2) → p.2 [.ref b] H1 Q1 E0)
    (q : ∀ H', L2.Same H H' → Q (.str (listText [(PyData.str w).shown, t, "True"])) H') : rReprZ [.ref a] H Q ∨ rReprM L [.ref a] H Q := by
  have hz : (listText [(PyData.str w).shown, t, "True"]).length ≤ sizeLine := by
    have e := listText_le [(PyData.str w).shown, t, "True"]
    have e2 : piled [(PyData.str w).shown, t, ("True" : Str)] = (PyData.str w).shown.length + 2 + (t.length + 2 + (4 + 2 + 0)) := by
      rw [piled_cons, piled_cons, piled_cons, piled_nil]
      rfl
    rw [e2] at e
    rw [sizeLine_eq]
    omega
  rcases hv with ⟨d, hd, sm, e⟩ | ⟨p, o, dx, fs, hp, rfl, eo, z⟩
  · refine .inl ⟨_, .list [.str w, d, .bool true], rfl, .lst ea na (.cons (.str w) (.cons hd (.cons (.bl true) .nil))), ?_, ?_, ?_, ?_⟩
    · have := sm.dp
      simp only [PyData.depth, PyData.depthAll]
      omega
    · have := sm.sh
      simp only [PyData.showable, PyData.showableAll, this, Bool.and_self]
    · rw [shown_list]
      simp only [PyData.shownAll, e]
      rw [show (PyData.bool true).shown = "True" from by simp only [PyData.shown]; rfl]
      exact hz
    · rw [shown_list]
      simp only [PyData.shownAll, e]
      rw [show (PyData.bool true).shown = "True" from by simp only [PyData.shown]; rfl]
      exact q H (L2.Same.refl H)
  · refine .inr ⟨a, [.str w, .ref o, .bl true], [(PyData.str w).shown, t, "True"], rfl, ea, by simp, rfl, fun i v hv => ?_, hz, q⟩
    match i, hv with
    | 0, hv =>
      cases hv
      refine ⟨_, rfl, .inl ?_⟩
      rw [PyData.shown]
      exact .str (by rw [PyData.shown] at hw2; rw [sizeLine_eq]; omega)
    | 1, hv =>
      cases hv
      exact ⟨t, rfl, .inr ⟨p, o, dx, fs, hp, rfl, eo, z⟩⟩
    | 2, hv =>
      cases hv
      exact ⟨_, rfl, .inl .bl⟩
    | n + 3, hv => simp at hv
end My

namespace My
open PySem PySem.Calls PyProof.Rows Builtin PySem.W
open L2 Builtin.List
/-! ### texts of lists and tuples with own objects in them, at any depth -/
section
variable {X : Cx} {A A1 : Around}
/-- the loop of list.__repr__, under any guards, with a text ahead of it -/
theorem loopB {pins : List (Addr × Obj)} {σ : L2.St} {H0 : Hp} {a P : Addr} {xs : List V} {ts : List Str} {base : Nat} {R : Result → Shared → Prop} (ha : H0 a = some (.lst xs)) (hP : H0 P = none) (hlen : ts.length = xs.length)
    (hT : ∀ (rest : List Value) (i : Nat) (v : V), xs[i]? = some v → ∃ t, ts[i]? = some t ∧ Shows X (A.under (.builtin "list.__repr__.loop" ⟨.ref a :: rest, []⟩)) H0 v t)
    (hsz0 : base + (listText ts).length ≤ sizeLine)
    (hR : ∀ H' s' u, Same H0 H' → Inv X pins σ H' s' → R (.ok (.ret (.str (listText ts) u))) s') :
    ∀ (k i : Nat) (H : Hp) (s : Shared), xs.length - i = k → i ≤ xs.length → Inv X pins σ H s → Same H0 H → H P = some (.lst ((ts.take i).map V.str)) →
      codeAny (model X.prog X.w) A (.builtin "list.__repr__.loop" ⟨[.ref a, rawInt i, .ref P, rawInt ((base + piled (ts.take i) : Nat) : Int)], []⟩) R s := by
  have hX : (listText ts).length = (textFrom 0 "[" ts).length + 1 := by
    show (textFrom 0 "[" ts ++ "]").length = _
    rw [strLen_append]; rfl
  have hsz : (listText ts).length ≤ sizeLine := by omega
  have hL := textFrom_len ts 0 "["
  have hsz2 : ∀ t ∈ ts, t.length ≤ sizeLine := fun t ht => by
    have h2 := hL.2.1 t ht
    omega
  have hp3 := piled_le_listText ts
  intro k
  induction k with
  | zero =>
    intro i H s hk hi I S eP
    have hin : i = xs.length := by omega
    obtain ⟨its, n, r, hg, _⟩ := I.lst (S _ _ ha)
    obtain ⟨jts, m, rj, hgP, _⟩ := I.lst eP
    obtain ⟨done, rfl, hdone⟩ := vals_strs_of rj
    refine codeAny_builtin PySem.F.entry_list_repr_loop ?_
    show wpAny _ _ (Builtin.«list.__repr__.loop» ⟨[.ref a, .int i 0, .ref P, .int ((base + piled (ts.take i) : Nat) : Int) 0], []⟩) _ _ s
    rw [repr_loop_tree]
    refine wpAny_bind (wpAny_listItems hg rfl ?_)
    have hnone : its.toArray[(i : Int).toNat]? = none := by
      have := r.length
      simp [hin, this]
    simp only [hnone]
    unfold reprEnd
    refine wpAny_bind (wpAny_listItems hgP rfl ?_)
    rw [repr_fold]
    refine wpAny_bind (wpAny_pure ?_)
    have hall : done.map (·.1) = ts := by rw [hdone, hin, ← hlen, List.take_length]
    rw [hall]
    refine wpAny_bind (wpAny_mkStr (wpAny_pure ?_) hsz)
    exact hR H _ _ S (I.tok _)
  | succ k ih =>
    intro i H s hk hi I S eP
    have hlt : i < xs.length := by omega
    obtain ⟨t, ht, hrep⟩ := hT [rawInt i, .ref P, rawInt ((base + piled (ts.take i) : Nat) : Int)] i xs[i] (by simp [hlt])
    have hp1 := piled_take_succ ht
    have hp2 := piled_take_le ts (i + 1)
    obtain ⟨its, n, r, hg, _⟩ := I.lst (S _ _ ha)
    obtain ⟨u, hu, ru⟩ := r.get (show xs[i]? = some xs[i] by simp [hlt])
    refine codeAny_builtin PySem.F.entry_list_repr_loop ?_
    show wpAny _ _ (Builtin.«list.__repr__.loop» ⟨[.ref a, .int i 0, .ref P, .int ((base + piled (ts.take i) : Nat) : Int) 0], []⟩) _ _ s
    rw [repr_loop_tree]
    refine wpAny_bind (wpAny_listItems hg rfl ?_)
    have hsome : its.toArray[(i : Int).toNat]? = some u := by simpa using hu
    simp only [hsome]
    rw [Int.toNat_natCast]
    refine wpAny_bind (wpAny_holding (hrep (base + piled (ts.take i) + 1) pins σ H s u _ _ (by omega) S I ru fun H1 s1 S1 I1 => ?_))
    refine wpAny_bind (wpAny_mkStr ?_ (hsz2 t (List.mem_of_getElem? ht)))
    refine wpAny_bind ?_
    show wpAny _ _ (updateSeq P _) _ _ _
    have I1' := I1.tok (s1.toks + 1)
    obtain ⟨jts, m, rj, hgP, zP⟩ := I1'.lst (S1 _ _ eP)
    obtain ⟨done, rfl, hdone⟩ := vals_strs_of rj
    have hasz : (strValues done).toArray.size ≤ sizeLine := by
      have := rj.length
      rw [List.size_toArray, ← this]
      exact zP
    refine wpAny_updateSeq hgP rfl (wpAny_pure ⟨PySem.F.quiet_list_repr_loop _, ?_⟩) hasz
    have e1 : ((i : Int) + 1) = ((i + 1 : Nat) : Int) := by omega
    have e2 : base + piled (ts.take i) + (t.length + 2) = base + piled (ts.take (i + 1)) := by omega
    rw [e1, e2]
    refine ih (i + 1) (L2.upd H1 P (.lst ((ts.take (i + 1)).map V.str))) _ (by omega) hlt ?_ ?_ L2.upd_same
    · refine I1'.lstUpd (its' := strValues (done ++ [(t, s1.toks)])) (n' := if ((strValues done).toArray.push (.str t s1.toks)).size == (strValues done).toArray.size then m else m + 1) (S1 _ _ eP) hgP ?_ ?_ ?_ _
      · have ep : (strValues (done ++ [(t, s1.toks)])).toArray = (strValues done).toArray.push (.str t s1.toks) := by simp [strValues]
        rw [ep]
        rfl
      · rw [show ts.take (i + 1) = (done ++ [(t, s1.toks)]).map (·.1) from by rw [List.map_append, hdone, List.take_add_one, ht]; rfl]
        exact vals_strs _
      · rw [List.length_map, List.length_take]
        have := hL.1
        have z : (textFrom 0 "[" ts).length ≤ sizeLine := by omega
        rw [if_neg (Nat.lt_irrefl 0)] at this
        omega
    · exact My.Same.at_ hP (S.trans S1)
/-- what list.__repr__ does at A, behind its check -/
theorem listAtB {pins : List (Addr × Obj)} {σ : L2.St} {H : Hp} {s : Shared} {a : Addr} {xs : List V} {ts : List Str} {base : Nat} {g : List Code} {R : Result → Shared → Prop} (hg : A.guards = some g) (hc : Clear g a) (ha : H a = some (.lst xs)) (hne : xs ≠ []) (hlen : ts.length = xs.length)
    (hT : ∀ (rest : List Value) (i : Nat) (v : V), xs[i]? = some v → ∃ t, ts[i]? = some t ∧ Shows X (A.under (.builtin "list.__repr__.loop" ⟨.ref a :: rest, []⟩)) H v t)
    (hsz : base + (listText ts).length ≤ sizeLine) (I : Inv X pins σ H s)
    (hQ : ∀ H' s' u, Same H H' → Inv X pins σ H' s' → R (.ok (.ret (.str (listText ts) u))) s') :
    wpAny (model X.prog X.w) A.in1 (Builtin.listReprAt base ⟨[.ref a], []⟩) (fun fin s' => match fin with | .done f => R (.ok f) s' | .again c' => c'.quiet = true ∧ codeAny (model X.prog X.w) A c' R s') (fun e s' => R (.error e) s') s := by
  obtain ⟨its, n, r, hget, _⟩ := I.lst ha
  have hl := r.length
  cases its with
  | nil =>
    cases xs with
    | nil => exact absurd rfl hne
    | cons _ _ => cases hl
  | cons x l =>
  refine wpAny_list_repr_head (A := A.in1) hg (fun v rest kw hm => listSameRef_of_ne (hc _ _ _ _ hm)) hget rfl ?_
  refine wpAny_bind (m := newList []) (wpAny_newObj_type ?_)
  refine wpAny_pure ⟨PySem.F.quiet_list_repr_loop _, ?_⟩
  have hP : H s.heap.objs.size = none := I.hok.fresh (Nat.le_refl _)
  refine loopB (X := X) (pins := pins) (σ := σ) (H0 := H) (P := s.heap.objs.size) (base := base) ha hP hlen hT hsz ?_ _ 0 (L2.upd H s.heap.objs.size (.lst [])) _ rfl (Nat.zero_le _) ?_ (My.Same.new hP) L2.upd_same
  · intro H' s' u S J
    exact hQ H' s' u S J
  · exact I.laid (t' := s.toks) (fun b u q => Heap.get?_push_of_some _ q) (Nat.le_refl _) ⟨Nat.zero_le _, [], _, .nil, Heap.get?_push_size _ rfl⟩
/-- an own object stands in the value -/
inductive OwnIn (H : Hp) : V → Prop
  | ins {b C dx : Addr} {fs : List (Str × V)} (e : H b = some (.ins C dx fs)) : OwnIn H (.ref b)
  | lst {a : Addr} {vs : List V} {v : V} (e : H a = some (.lst vs)) (m : v ∈ vs) (o : OwnIn H v) : OwnIn H (.ref a)
  | tup {a : Addr} {vs : List V} {v : V} (e : H a = some (.tup vs)) (m : v ∈ vs) (o : OwnIn H v) : OwnIn H (.ref a)
theorem OwnIn.same {H H' : Hp} (s : L2.Same H H') {v : V} (h : OwnIn H v) : OwnIn H' v := by
  induction h with
  | ins e => exact .ins (s _ _ e)
  | lst e m _ ih => exact .lst (s _ _ e) m ih
  | tup e m _ ih => exact .tup (s _ _ e) m ih
end
end My

namespace My
open PySem PySem.Calls PyProof.Rows Builtin PySem.W
open L2 Builtin.List
section
variable {X : Cx} {A A1 : Around} {pins : List (Addr × Obj)} {σ : L2.St} {H : Hp} {s : Shared}
theorem readsAll_mem {h : Heap} : ∀ {us : List Value} {ds : List PyData} {as : List Addr} {u : Value}, ReadsAll h us ds as → u ∈ us → ∃ d bs, Reads h u d bs
  | _, _, _, _, .cons r rr, m => by
    rcases List.mem_cons.mp m with rfl | m
    · exact ⟨_, _, r⟩
    · exact readsAll_mem rr m
theorem vals_mem {v : V} : ∀ {vs : List V} {us : List Value}, Vals vs us → v ∈ vs → ∃ u ∈ us, L2.RelV v u
  | _, _, .cons r rr, m => by
    rcases List.mem_cons.mp m with rfl | m
    · exact ⟨_, List.mem_cons_self, r⟩
    · obtain ⟨u, hu, ru⟩ := vals_mem rr m
      exact ⟨u, List.mem_cons_of_mem _ hu, ru⟩
theorem ins_cls {a C dx : Addr} {fs : List (Str × V)} (I : Inv X pins σ H s) (e : H a = some (.ins C dx fs)) : ∃ o, s.heap.get? a = some o ∧ o.cls = .ref C := by
  obtain ⟨od, J⟩ := insAt' I e
  exact ⟨_, J.at_, J.cls⟩
theorem OwnIn.noReads (I : Inv X pins σ H s) {v : V} (h : OwnIn H v) : ∀ {u : Value} {d : PyData} {as : List Addr}, L2.RelV v u → Reads s.heap u d as → False := by
  induction h with
  | ins e =>
    intro u d as ru r
    obtain rfl : u = Value.ref _ := ru
    obtain ⟨o, ho, hc⟩ := ins_cls I e
    cases r with
    | list h1 h2 h3 h4 => rw [ho] at h1; cases h1; rw [hc] at h2; cases h2
    | tuple h1 h2 h3 h4 => rw [ho] at h1; cases h1; rw [hc] at h2; cases h2
    | dict h1 h2 h3 h4 h5 => rw [ho] at h1; cases h1; rw [hc] at h2; cases h2
  | lst e m _ ih =>
    intro u d as ru r
    obtain rfl : u = Value.ref _ := ru
    obtain ⟨its, n, rv, hget, _⟩ := I.lst e
    cases r with
    | list h1 h2 h3 h4 =>
      rw [hget] at h1
      cases h1
      cases h3
      obtain ⟨w', hw, rw'⟩ := vals_mem rv m
      rw [List.toList_toArray] at h4
      obtain ⟨d', bs, r'⟩ := readsAll_mem h4 hw
      exact ih rw' r'
    | tuple h1 h2 h3 h4 => rw [hget] at h1; cases h1; exact absurd h2 (by simp)
    | dict h1 h2 h3 h4 h5 => rw [hget] at h1; cases h1; exact absurd h2 (by simp)
  | tup e m _ ih =>
    intro u d as ru r
    obtain rfl : u = Value.ref _ := ru
    obtain ⟨its, rv, pl, hz⟩ := I.tuple (SqT.of e)
    obtain ⟨o, ho, hc, n, hd⟩ := pl
    cases r with
    | list h1 h2 h3 h4 => rw [ho] at h1; cases h1; rw [hc] at h2; exact absurd h2 (by simp)
    | tuple h1 h2 h3 h4 =>
      rw [ho] at h1
      cases h1
      rw [hd] at h3
      cases h3
      obtain ⟨w', hw, rw'⟩ := vals_mem rv m
      rw [List.toList_toArray] at h4
      obtain ⟨d', bs, r'⟩ := readsAll_mem h4 hw
      exact ih rw' r'
    | dict h1 h2 h3 h4 h5 => rw [ho] at h1; cases h1; rw [hc] at h2; exact absurd h2 (by simp)
/-- data within a text, under lists and tuples that hold own objects -/
theorem Shows.dat {v : V} {d : PyData} {gs : List Addr} {g : List Code} (hg : A.guards = some g) (hcl : ∀ b, b ∉ gs → Clear g b) (hu : A.units + 61 < cLine) (z : Dz H v d) (sm : SmD d) (no : ∀ a ∈ gs, OwnIn H (.ref a)) : Shows X A H v d.shown := by
  intro base pins σ H1 s u E Q hb S I ru hQ
  have z1 := z.same S
  obtain ⟨as, r, hsys⟩ := z1.reads I d v u ru
  have hz : d.shown.length ≤ sizeLine := by omega
  obtain ⟨bs, hbs, k⟩ := ReprK.of_reads (prog := X.prog) (w := X.w) r sm.sh (fun _ => hsys) hz
  refine k base hb A g E s Q hg (fun b hb' => hcl b fun hm => ?_) ?_ (fun _ _ e => e) (fun h' tk hk => hQ H1 _ (L2.Same.refl _) (I.kept hk))
  · obtain ⟨d', as', r', _⟩ := hbs b hb'
    exact ((no b hm).same S).noReads I (show L2.RelV (.ref b) (.ref b) from rfl) r'
  · have := sm.dp
    omega
end
mutual
/-- the text of a value with own objects in it; gs: the lists and tuples about it; j: how deep own objects may stand -/
inductive Tx (X : Cx) (G : Nat → Around → Prop) (H : Hp) : Nat → List Addr → V → Str → Prop
  | leaf {j : Nat} {gs : List Addr} {v : V} {t : Str} (h : Leaf v t) : Tx X G H j gs v t
  | dat {j : Nat} {gs : List Addr} {v : V} {d : PyData} (z : Dz H v d) (sm : SmD d) (no : ∀ a ∈ gs, OwnIn H (.ref a)) : Tx X G H j gs v d.shown
  | own {j : Nat} {gs : List Addr} {v : V} {t : Str} (h : ∀ A, G j A → Shows X A H v t) : Tx X G H j gs v t
  | lst {j : Nat} {gs : List Addr} {a : Addr} {vs : List V} {ts : List Str} (e : H a = some (.lst vs)) (ne : vs ≠ []) (na : a ∉ gs) (r : TxAll X G H j (a :: gs) vs ts) : Tx X G H (j + 1) gs (.ref a) (listText ts)
  | tup {j : Nat} {gs : List Addr} {a : Addr} {vs : List V} {ts : List Str} (e : H a = some (.tup vs)) (na : a ∉ gs) (r : TxAll X G H j (a :: gs) vs ts) : Tx X G H (j + 1) gs (.ref a) (tupleText ts)
inductive TxAll (X : Cx) (G : Nat → Around → Prop) (H : Hp) : Nat → List Addr → List V → List Str → Prop
  | nil {j : Nat} {gs : List Addr} : TxAll X G H j gs [] []
  | cons {j : Nat} {gs : List Addr} {v : V} {t : Str} {vs : List V} {ts : List Str} (h : Tx X G H j gs v t) (r : TxAll X G H j gs vs ts) : TxAll X G H j gs (v :: vs) (t :: ts)
end
theorem TxAll.len {X : Cx} {G : Nat → Around → Prop} {H : Hp} {j : Nat} {gs : List Addr} : ∀ {vs : List V} {ts : List Str}, TxAll X G H j gs vs ts → ts.length = vs.length
  | _, _, .nil => rfl
  | _, _, .cons _ r => by rw [List.length_cons, List.length_cons, r.len]
/-- arounds in which texts may be asked, j levels down -/
structure GoodA (G : Nat → Around → Prop) : Prop where
  un : ∀ {j : Nat} {A : Around}, G j A → A.units + 61 < cLine
  lp : ∀ {j : Nat} {A : Around} {args : Args}, G (j + 1) A → G j (A.under (.builtin "list.__repr__.loop" args))
  tp : ∀ {j : Nat} {A : Around} {args : Args}, G (j + 1) A → G j (A.under (.builtin "tuple.__repr__" args))
  tu : ∀ {j : Nat} {A : Around} {args : Args}, G (j + 1) A → G j (A.under (.builtin "tuple.__repr__.under" args))
def UnderG (gs : List Addr) (A : Around) : Prop := ∃ g, A.guards = some g ∧ ∀ b, b ∉ gs → Clear g b
theorem UnderG.cons {gs : List Addr} {A : Around} {id : String} {a : Addr} {rest : List Value} {kw : List (Str × Value)} (h : UnderG gs A) (hg : (Code.builtin id ⟨.ref a :: rest, kw⟩).isGuard = true) : UnderG (a :: gs) (A.under (.builtin id ⟨.ref a :: rest, kw⟩)) := by
  obtain ⟨g, h1, h2⟩ := h
  refine ⟨_, guards_under_guard hg h1, fun b hb => ?_⟩
  rw [List.mem_cons, not_or] at hb
  exact (h2 b hb.2).cons (Ne.symm hb.1)
section
variable {X : Cx} {G : Nat → Around → Prop}
/-- a tuple's items, one after the other -/
theorem foldI {A : Around} {E : Value → Shared → Prop} {pins : List (Addr × Obj)} {σ : L2.St} {H0 : Hp} : ∀ (xs : List V) (ts : List Str) (us : List Value) (acc : Array Str) (n : Nat) (H : Hp) (s : Shared) (Q : (Array Str × Nat) → Shared → Prop), ts.length = xs.length →
    (∀ (i : Nat) (v : V), xs[i]? = some v → ∃ t, ts[i]? = some t ∧ Shows X A H0 v t) → n + piled ts ≤ sizeLine → Vals xs us → Same H0 H → Inv X pins σ H s →
    (∀ H' s', Same H H' → Inv X pins σ H' s' → Q ⟨acc ++ ts.toArray, n + piled ts⟩ s') → wpAny (model X.prog X.w) A (forIn us (⟨acc, n⟩ : (Array Str × Nat)) tupBody) Q E s := by
  intro xs
  induction xs with
  | nil =>
    intro ts us acc n H s Q hl hT hn rv S I h
    cases rv
    obtain rfl : ts = [] := List.eq_nil_of_length_eq_zero hl
    have h0 := h H s (L2.Same.refl _) I
    simp only [List.forIn_nil]
    exact wpAny_pure (by simpa [piled] using h0)
  | cons x xs ih =>
    intro ts us acc n H s Q hl hT hn rv S I h
    cases ts with
    | nil => cases hl
    | cons t ts =>
      cases rv with
      | cons ru rv =>
        rw [piled_cons] at hn
        rw [List.forIn_cons]
        obtain ⟨t', ht', hx⟩ := hT 0 x rfl
        obtain rfl : t = t' := by simpa using ht'
        refine wpAny_bind (wpAny_bind (hx (n + 1) pins σ H s _ _ _ (by omega) S I ru fun H1 s1 S1 I1 => wpAny_pure ?_))
        refine ih ts _ (acc.push t) (n + (t.length + 2)) H1 s1 Q (by simpa using hl) (fun i v hv => by simpa using hT (i + 1) v (by simpa using hv)) (by omega) rv (S.trans S1) I1 fun H' s' S' I' => ?_
        have h1 := h H' s' (S1.trans S') I'
        have e : n + piled (t :: ts) = n + (t.length + 2) + piled ts := by rw [piled_cons]; omega
        rw [e] at h1
        simpa using h1
theorem tupleAtB {A : Around} {pins : List (Addr × Obj)} {σ : L2.St} {H : Hp} {s : Shared} {a : Addr} {xs : List V} {ts : List Str} {base : Nat} {g : List Code} {R : Result → Shared → Prop} {id : String} {rest : List Value}
    (hcg : (Code.builtin id ⟨.ref a :: rest, []⟩).isGuard = true) (hg : A.guards = some g) (hc : Clear g a) (ha : H a = some (.tup xs)) (hlen : ts.length = xs.length)
    (hT : ∀ (i : Nat) (v : V), xs[i]? = some v → ∃ t, ts[i]? = some t ∧ Shows X (A.under (.builtin id ⟨.ref a :: rest, []⟩)) H v t)
    (hsz : base + (tupleText ts).length ≤ sizeLine) (I : Inv X pins σ H s)
    (hR : ∀ H' s' u, Same H H' → Inv X pins σ H' s' → R (.ok (.ret (.str (tupleText ts) u))) s') :
    wpOwn (model X.prog X.w) A (.builtin id ⟨.ref a :: rest, []⟩) (Builtin.tupleReprAt base ⟨[.ref a], []⟩) (fun fin s' => match fin with | .done f => R (.ok f) s' | .again c' => c'.quiet = true ∧ codeAny (model X.prog X.w) A c' R s') (fun e s' => R (.error e) s') s := by
  obtain ⟨its, rv, pl, hz⟩ := I.tuple (SqT.of ha)
  obtain ⟨o, ho, hcl, n, hd⟩ := pl
  have hl := rv.length
  have hlen' : ts.length = its.length := by omega
  have hp := piled_le_tupleText ts
  have hsz0 : (tupleText ts).length ≤ sizeLine := by omega
  rw [tuple_repr_tree, tupleReprUnderWay_eq]
  refine wpOwn_bind (wpOwn_stackTailAny hg (tupGuardF_off _) (tupGuardF_pos _) ?_)
  have hn : (g.any fun c => tupGuardF (.ref a) (c, default)) = false := by
    rw [List.any_eq_false]
    intro c hcm
    rw [tupGuardF_of_clear hc c hcm]
    exact Bool.false_ne_true
  rw [hn]
  refine wpOwn_of_wpAny ?_
  show wpAny _ _ (tupleReprRest base (.ref a)) _ _ s
  unfold tupleReprRest Builtin.Tuple.tupleItemsOf
  refine wpAny_bind (wpAny_bind (wpAny_seqItems ho hd (wpAny_pure ?_)))
  rw [← Array.forIn_toList, List.toList_toArray]
  refine wpAny_bind (foldI xs ts its _ _ H s _ hlen hT (by omega) rv (L2.Same.refl _) I fun H' s' S' I' => ?_)
  refine wpAny_bind (wpAny_mkStr (wpAny_pure ?_) (by simpa [tupleText, hlen'] using hsz0))
  have h1 := hR H' { s' with toks := s'.toks + 1 } s'.toks S' (I'.tok _)
  simpa [tupleText, hlen'] using h1
mutual
theorem Tx.shows (gd : GoodA G) {H : Hp} : ∀ {j : Nat} {gs : List Addr} {v : V} {t : Str}, Tx X G H j gs v t → ∀ {A : Around}, G j A → UnderG gs A → Shows X A H v t
  | _, _, _, _, .leaf h, _, _, _ => h.shows
  | _, _, _, _, .dat z sm no, _, hA, ⟨_, h1, h2⟩ => Shows.dat h1 h2 (gd.un hA) z sm no
  | _, _, _, _, .own h, _, hA, _ => h _ hA
  | _, _, _, _, .lst (j := j) (gs := gs) (a := a) (vs := vs) (ts := ts) e ne na r, A, hA, hU => by
    intro base pins σ H1 s u E Q hb S I ru hQ
    obtain rfl : u = Value.ref a := ru
    obtain ⟨g, hg, hcl⟩ := id hU
    have e1 := S _ _ e
    obtain ⟨its, n, rv, hget, _⟩ := I.lst e1
    have hTy : s.TypeIs (.ref a) "list" := ⟨_, hget, rfl⟩
    have hu := gd.un hA
    refine wpAny_pyReprUnder_ref (by omega) (wpAny_pyReprObjUnder_twin (twin := "list.__repr__.under") hTy PySem.F.slot_list_repr.toG rfl (by omega) ?_)
    refine call_twin_plain PySem.F.plain_list_repr_under PySem.F.entry_list_repr_under PySem.F.check_list_repr_under hTy PySem.F.slot_list_repr.toG (PySem.F.args_list_repr_1 _) ?_
    refine listAtB (X := X) (pins := pins) (σ := σ) (H := H1) (xs := vs) hg (hcl a na) e1 ne r.len (fun rest i v hv => ?_) hb I (fun H' s' u S' I' => ?_)
    · obtain ⟨t, ht, z⟩ := r.shows gd i v hv
      refine ⟨t, ht, ?_⟩
      intro base' pins' σ' H2 s2 u2 E2 Q2 hb2 S2 I2 ru2 hQ2
      exact z (gd.lp hA) (hU.cons (isGuard_list_loop _)) base' pins' σ' H2 s2 u2 E2 Q2 hb2 (S.trans S2) I2 ru2 hQ2
    · exact ⟨⟨_, _, rfl⟩, _, _, rfl, hQ H' s' S' I'⟩
  | _, _, _, _, .tup (j := j) (gs := gs) (a := a) (vs := vs) (ts := ts) e na r, A, hA, hU => by
    intro base pins σ H1 s u E Q hb S I ru hQ
    obtain rfl : u = Value.ref a := ru
    obtain ⟨g, hg, hcl⟩ := id hU
    have e1 := S _ _ e
    obtain ⟨its, rv, pl, hz⟩ := I.tuple (SqT.of e1)
    obtain ⟨o, ho, hcls, n, hd⟩ := id pl
    have hTy : s.TypeIs (.ref a) "tuple" := ⟨_, ho, hcls⟩
    have hu := gd.un hA
    refine wpAny_pyReprUnder_ref (by omega) (wpAny_pyReprObjUnder_twin (twin := "tuple.__repr__.under") hTy PySem.F.slot_tuple_repr rfl (by omega) ?_)
    refine call_twin_own (PySem.F.quiet_tuple_repr_under _) PySem.F.entry_tuple_repr_under PySem.F.check_tuple_repr_under hTy PySem.F.slot_tuple_repr (PySem.F.args_tuple_repr_1 _) ?_
    refine tupleAtB (X := X) (pins := pins) (σ := σ) (H := H1) (xs := vs) (isGuard_tuple_repr_under _) hg (hcl a na) e1 r.len (fun i v hv => ?_) hb I (fun H' s' u S' I' => ?_)
    · obtain ⟨t, ht, z⟩ := r.shows gd i v hv
      refine ⟨t, ht, ?_⟩
      intro base' pins' σ' H2 s2 u2 E2 Q2 hb2 S2 I2 ru2 hQ2
      exact z (gd.tu hA) (hU.cons (isGuard_tuple_repr_under _)) base' pins' σ' H2 s2 u2 E2 Q2 hb2 (S.trans S2) I2 ru2 hQ2
    · exact ⟨⟨_, _, rfl⟩, _, _, rfl, hQ H' s' S' I'⟩
theorem TxAll.shows (gd : GoodA G) {H : Hp} : ∀ {j : Nat} {gs : List Addr} {vs : List V} {ts : List Str}, TxAll X G H j gs vs ts → ∀ (i : Nat) (v : V), vs[i]? = some v → ∃ t, ts[i]? = some t ∧ ∀ {A : Around}, G j A → UnderG gs A → Shows X A H v t
  | _, _, _, _, .nil, i, v, hv => by simp at hv
  | _, _, _, _, .cons h r, 0, v, hv => by
    cases (show some _ = some v from hv)
    exact ⟨_, rfl, fun hA hU => h.shows gd hA hU⟩
  | _, _, _, _, .cons h r, i + 1, v, hv => r.shows gd i v (by simpa using hv)
end
end
end My

namespace My
open PySem PySem.Calls PyProof.Rows Builtin
open L2 Builtin.List
mutual
/-- as Tx, own objects of the classes L -/
inductive TxL (L : OwnL) (H : Hp) : Nat → List Addr → V → Str → Prop
  | leaf {j : Nat} {gs : List Addr} {v : V} {t : Str} (h : Leaf v t) : TxL L H j gs v t
  | dat {j : Nat} {gs : List Addr} {v : V} {d : PyData} (z : Dz H v d) (sm : SmD d) (no : ∀ a ∈ gs, OwnIn H (.ref a)) : TxL L H j gs v d.shown
  | own {j : Nat} {gs : List Addr} {p : Addr × Sp} {b dx : Addr} {fs : List (Str × V)} {t : Str} (hp : p ∈ L) (e : H b = some (.ins p.1 dx fs)) (z : ∀ H1, L2.Same H H1 → ∀ Q1 : VK, (∀ H2, L2.Same H1 H2 → Q1 (.str t) H2) → p.2 [.ref b] H1 Q1 E0) : TxL L H j gs (.ref b) t
  | lst {j : Nat} {gs : List Addr} {a : Addr} {vs : List V} {ts : List Str} (e : H a = some (.lst vs)) (ne : vs ≠ []) (na : a ∉ gs) (r : TxLs L H j (a :: gs) vs ts) : TxL L H (j + 1) gs (.ref a) (listText ts)
  | tup {j : Nat} {gs : List Addr} {a : Addr} {vs : List V} {ts : List Str} (e : H a = some (.tup vs)) (na : a ∉ gs) (r : TxLs L H j (a :: gs) vs ts) : TxL L H (j + 1) gs (.ref a) (tupleText ts)
inductive TxLs (L : OwnL) (H : Hp) : Nat → List Addr → List V → List Str → Prop
  | nil {j : Nat} {gs : List Addr} : TxLs L H j gs [] []
  | cons {j : Nat} {gs : List Addr} {v : V} {t : Str} {vs : List V} {ts : List Str} (h : TxL L H j gs v t) (r : TxLs L H j gs vs ts) : TxLs L H j gs (v :: vs) (t :: ts)
end
mutual
theorem TxL.same {L : OwnL} {H H' : Hp} (s : L2.Same H H') : ∀ {j : Nat} {gs : List Addr} {v : V} {t : Str}, TxL L H j gs v t → TxL L H' j gs v t
  | _, _, _, _, .leaf h => .leaf h
  | _, _, _, _, .dat z sm no => .dat (z.same s) sm fun a ha => (no a ha).same s
  | _, _, _, _, .own hp e z => .own hp (s _ _ e) fun H1 s1 => z H1 (s.trans s1)
  | _, _, _, _, .lst e ne na r => .lst (s _ _ e) ne na (r.same s)
  | _, _, _, _, .tup e na r => .tup (s _ _ e) na (r.same s)
theorem TxLs.same {L : OwnL} {H H' : Hp} (s : L2.Same H H') : ∀ {j : Nat} {gs : List Addr} {vs : List V} {ts : List Str}, TxLs L H j gs vs ts → TxLs L H' j gs vs ts
  | _, _, _, _, .nil => .nil
  | _, _, _, _, .cons h r => .cons (h.same s) (r.same s)
end
section
variable {X : Cx} {G : Nat → Around → Prop} {L : OwnL}
mutual
theorem TxL.tx {H : Hp} (D : ∀ p ∈ L, ∀ {j : Nat} {b dx : Addr} {fs : List (Str × V)} {t : Str}, H b = some (.ins p.1 dx fs) → (∀ H1, L2.Same H H1 → ∀ Q1 : VK, (∀ H2, L2.Same H1 H2 → Q1 (.str t) H2) → p.2 [.ref b] H1 Q1 E0) → ∀ A, G j A → Shows X A H (.ref b) t) :
    ∀ {j : Nat} {gs : List Addr} {v : V} {t : Str}, TxL L H j gs v t → Tx X G H j gs v t
  | _, _, _, _, .leaf h => .leaf h
  | _, _, _, _, .dat z sm no => .dat z sm no
  | _, _, _, _, .own hp e z => .own (D _ hp e z)
  | _, _, _, _, .lst e ne na r => .lst e ne na (r.tx D)
  | _, _, _, _, .tup e na r => .tup e na (r.tx D)
theorem TxLs.tx {H : Hp} (D : ∀ p ∈ L, ∀ {j : Nat} {b dx : Addr} {fs : List (Str × V)} {t : Str}, H b = some (.ins p.1 dx fs) → (∀ H1, L2.Same H H1 → ∀ Q1 : VK, (∀ H2, L2.Same H1 H2 → Q1 (.str t) H2) → p.2 [.ref b] H1 Q1 E0) → ∀ A, G j A → Shows X A H (.ref b) t) :
    ∀ {j : Nat} {gs : List Addr} {vs : List V} {ts : List Str}, TxLs L H j gs vs ts → TxAll X G H j gs vs ts
  | _, _, _, _, .nil => .nil
  | _, _, _, _, .cons h r => .cons (h.tx D) (r.tx D)
end
theorem frames_lp {A : Around} {args : Args} : (A.under (.builtin "list.__repr__.loop" args)).frames = A.frames := by
  first | rfl | (simp [Around.under, Code.envs, Code.isFrame, pushEnvs])
theorem frames_tp {A : Around} {args : Args} : (A.under (.builtin "tuple.__repr__" args)).frames = A.frames := by
  first | rfl | (simp [Around.under, Code.envs, Code.isFrame, pushEnvs])
theorem frames_tu {A : Around} {args : Args} : (A.under (.builtin "tuple.__repr__.under" args)).frames = A.frames := by
  first | rfl | (simp [Around.under, Code.envs, Code.isFrame, pushEnvs])
theorem tp_depth {A : Around} {args : Args} : (A.under (.builtin "tuple.__repr__" args)).depth ≤ A.depth + 1 := by
  first | exact Nat.le_refl _ | exact Nat.le_succ _ | (simp [Around.under, Code.weight, Code.isCreation, Code.isGuard, Code.isCaller, Code.frames, Code.isFrame, guardIds])
theorem tu_depth {A : Around} {args : Args} : (A.under (.builtin "tuple.__repr__.under" args)).depth ≤ A.depth + 1 := by
  first | exact Nat.le_refl _ | exact Nat.le_succ _ | (simp [Around.under, Code.weight, Code.isCreation, Code.isGuard, Code.isCaller, Code.frames, Code.isFrame, guardIds])
/-- rooms for own objects' texts, k levels, where no exception is handled -/
def GR (X : Cx) (k j : Nat) (A : Around) : Prop := Room (k + j) A ∧ A.frames = X.A.frames
theorem goodR {k : Nat} : GoodA (GR X k) := by
  refine ⟨fun {j A} h => ?_, fun {j A args} h => ⟨⟨h.1.hd, ?_, ?_⟩, frames_lp.trans h.2⟩, fun {j A args} h => ⟨⟨h.1.hd, ?_, ?_⟩, frames_tp.trans h.2⟩, fun {j A args} h => ⟨⟨h.1.hd, ?_, ?_⟩, frames_tu.trans h.2⟩⟩
  · have := h.1.un
    omega
  · have := h.1.dp
    have := lst_depth (A := A) (args := args)
    omega
  · have := h.1.un
    rw [units_under_list_loop]
    omega
  · have := h.1.dp
    have := tp_depth (A := A) (args := args)
    omega
  · have := h.1.un
    rw [units_under_tuple_repr]
    omega
  · have := h.1.dp
    have := tu_depth (A := A) (args := args)
    omega
  · have := h.1.un
    rw [units_under_tuple_repr_under]
    omega
/-- .. and where one is -/
def GH (X : Cx) (k j : Nat) (A : Around) : Prop := L2H.RoomH (k + j) A ∧ A.frames = X.A.frames
theorem goodH {k : Nat} : GoodA (GH X k) := by
  refine ⟨fun {j A} h => ?_, fun {j A args} h => ⟨⟨?_, ?_⟩, frames_lp.trans h.2⟩, fun {j A args} h => ⟨⟨?_, ?_⟩, frames_tp.trans h.2⟩, fun {j A args} h => ⟨⟨?_, ?_⟩, frames_tu.trans h.2⟩⟩
  · have := h.1.un
    omega
  · have := h.1.dp
    have := lst_depth (A := A) (args := args)
    omega
  · have := h.1.un
    rw [units_under_list_loop]
    omega
  · have := h.1.dp
    have := tp_depth (A := A) (args := args)
    omega
  · have := h.1.un
    rw [units_under_tuple_repr]
    omega
  · have := h.1.dp
    have := tu_depth (A := A) (args := args)
    omega
  · have := h.1.un
    rw [units_under_tuple_repr_under]
    omega
/-- repr of a list or a tuple with own objects of the classes L in it -/
def rReprT (L : OwnL) : List V → Hp → VK → Prop := fun xs H Q => ∃ (a : Addr) (vs : List V) (ts : List Str) (t : Str), xs = [.ref a] ∧ ((H a = some (.lst vs) ∧ vs ≠ [] ∧ t = listText ts) ∨ (H a = some (.tup vs) ∧ t = tupleText ts)) ∧ TxLs L H 3 [a] vs ts ∧ t.length ≤ sizeLine ∧ ∀ H', L2.Same H H' → Q (.str t) H'
theorem repr_top {G : Nat → Around → Prop} (gd : GoodA G) (hG : G 4 X.A.in1) (hg : X.A.guards = some []) (hu : X.A.in1.units < cLine) {pins : List (Addr × Obj)} {σ : L2.St} {H : Hp} {s : Shared} {a : Addr} {vs : List V} {ts : List Str} {t : Str} {Q : VK} (I : Inv X pins σ H s)
    (k : (H a = some (.lst vs) ∧ vs ≠ [] ∧ t = listText ts) ∨ (H a = some (.tup vs) ∧ t = tupleText ts)) (r : TxAll X G H 3 [a] vs ts) (hz : t.length ≤ sizeLine) (q : ∀ H', L2.Same H H' → Q (.str t) H') :
    wpAny (model X.prog X.w) X.A (call (.builtin "repr") [.ref a]) (EP X pins σ Q) X.xe s := by
  have hU : UnderG [] X.A.in1 := ⟨[], hg, fun b _ => Clear.nil b⟩
  rcases k with ⟨e, ne, rfl⟩ | ⟨e, rfl⟩
  · obtain ⟨its, n, rv, hget, _⟩ := I.lst e
    have hTy : s.TypeIs (.ref a) "list" := ⟨_, hget, rfl⟩
    refine Calls.call_function_entry PySem.F.kind_repr PySem.F.plain_repr PySem.F.entry_repr (PySem.F.args_repr1 _) ?_
    unfold Builtin.«repr»
    refine wpAny_bind (m := oneArg "repr" _) (wpAny_pure (wpAny_bind (wpAny_cRoomFor hu ?_)))
    refine wpAny_bind (wpAny_specialOf (name := Str.ofString "__repr__") hTy PySem.F.slot_list_repr.lookup ?_)
    refine wpAny_bind (m := callSpecialIfBound? (.ref a) (Str.ofString "__repr__")) (wpAny_callSpecialIfBound?_slot (name := Str.ofString "__repr__") hTy PySem.F.slot_list_repr ?_)
    refine wpAny_call (codeAny_call_builtin PySem.F.slot_list_repr.plain PySem.F.entry_list_repr (PySem.F.slot_list_repr.check _ _ _ _ _ _ _ _ ⟨_, hget, rfl⟩ (PySem.F.args_list_repr_1 _)
      (listAtB (A := X.A.in1) (X := X) (pins := pins) (σ := σ) (H := H) (xs := vs) (ts := ts) (base := 0) (R := callEnd _ _) hg (Clear.nil _) e ne r.len (fun rest i v hv => ?_) (by omega) I (fun H' s' u S' I' => ?_))))
    · obtain ⟨t, ht, z⟩ := r.shows gd i v hv
      exact ⟨t, ht, z (gd.lp hG) (hU.cons (isGuard_list_loop _))⟩
    · exact wpAny_bind (wpAny_isInstance (T := "str") (b := true) rfl isSubtype_str_str (wpAny_pure ⟨_, rfl, .str (listText ts), H', I', ⟨_, rfl⟩, q H' S'⟩))
  · obtain ⟨its, rv, pl, _⟩ := I.tuple (SqT.of e)
    obtain ⟨o, ho, hcls, n, hd⟩ := id pl
    have hTy : s.TypeIs (.ref a) "tuple" := ⟨_, ho, hcls⟩
    refine Calls.call_function_entry PySem.F.kind_repr PySem.F.plain_repr PySem.F.entry_repr (PySem.F.args_repr1 _) ?_
    unfold Builtin.«repr»
    refine wpAny_bind (m := oneArg "repr" _) (wpAny_pure (wpAny_bind (wpAny_cRoomFor hu ?_)))
    refine wpAny_bind (wpAny_specialOf (name := Str.ofString "__repr__") hTy PySem.F.slot_tuple_repr.lookup ?_)
    refine wpAny_bind (m := callSpecialIfBound? (.ref a) (Str.ofString "__repr__")) (wpAny_callSpecialIfBound?_slotG (name := Str.ofString "__repr__") hTy PySem.F.slot_tuple_repr ?_)
    refine wpAny_call (codeAny_call_builtin_own (Code.quiet_builtin _ (by decide +kernel)) PySem.F.entry_tuple_repr (PySem.F.slot_tuple_repr.check _ _ _ _ _ _ _ _ ⟨o, ho, hcls⟩ (PySem.F.args_tuple_repr_1 _)
      (tupleAtB (A := X.A.in1) (X := X) (pins := pins) (σ := σ) (H := H) (xs := vs) (ts := ts) (base := 0) (R := callEnd _ _) (isGuard_tuple_repr _) hg (Clear.nil _) e r.len (fun i v hv => ?_) (by omega) I (fun H' s' u S' I' => ?_))))
    · obtain ⟨t, ht, z⟩ := r.shows gd i v hv
      exact ⟨t, ht, z (gd.tp hG) (hU.cons (isGuard_tuple_repr _))⟩
    · exact wpAny_bind (wpAny_isInstance (T := "str") (b := true) rfl isSubtype_str_str (wpAny_pure ⟨_, rfl, .str (tupleText ts), H', I', ⟨_, rfl⟩, q H' S'⟩))
theorem call_reprT {k : Nat} (D : ∀ p ∈ L, MtO X.prog X.w X.K X.mg X.base p.1 "__repr__" k ["self"] [] p.2) (hr : RoomG (k + 5) X.A) : CallR X (.builtin "repr") (rReprT L) := by
  intro pins s σ H xs us Q I r h
  obtain ⟨a, vs, ts, t, rfl, kd, hx, hz, q⟩ := h
  rw [Vals.ref1 r]
  refine repr_top (G := GR X k) goodR ⟨hr.r.in1, rfl⟩ hr.g ?_ I kd (hx.tx fun p hp {j b dx fs t} eb z A hA => ?_) hz q
  · have := hr.r.in1.un
    omega
  · obtain ⟨f, fd, ds, c, hm, F, hb, hd⟩ := (D p hp).ex
    cases hd
    exact .own c hm F hb .nil (hA.1.mono (by omega)) hA.2 eb z
theorem call_reprTH {k : Nat} (D : ∀ p ∈ L, MtH X.prog X.w X.K X.mg X.base p.1 "__repr__" k ["self"] p.2) (hr : L2H.RoomH (k + 5) X.A) (hg : X.A.guards = some []) (hc : ∃ p, p ∈ X.pn) : CallR X (.builtin "repr") (rReprT L) := by
  obtain ⟨pn, hpn⟩ := hc
  intro pins s σ H xs us Q I r h
  obtain ⟨a, vs, ts, t, rfl, kd, hx, hz, q⟩ := h
  rw [Vals.ref1 r]
  refine repr_top (G := GH X k) goodH ⟨roomH_in1 hr, rfl⟩ hg ?_ I kd (hx.tx fun p hp {j b dx fs t} eb z A hA => ?_) hz q
  · have := (roomH_in1 hr).un
    omega
  · obtain ⟨f, fd, c, hm, F, hb⟩ := (D p hp).ex
    exact .ownH c hm F hb (hA.1.mono (by omega)) hpn hA.2 eb z
end
end My

namespace My
open PySem L2 PySem.Spec PyProof.Rows L2H PySem.W
/-! ### an exception that is handled, handed to an own def -/
structure FnNP (P : Program) (w : World) (K : Frag) (mg : Str → Option Value) (base : Heap) (CX : CXT) (k : Nat) (f : Addr) (fd : FuncData) (ps : List Str) (sp : (Addr × Obj) → Sp) : Prop where
  len : ∀ p vs H Q E, sp p vs H Q E → vs.length = ps.length
  run : ∀ (A : Around) (outer : List Env) (s : Shared) (H : Hp) (args : Args) (us : List Value) (vs : List V) (Q : VK) (E : XK) (p : Addr × Obj), RoomH k A → PinOk outer H s p → Env0 P w K mg base A outer s H → BindsTo s fd args (ps.zip us) → Vals vs us → sp p vs H Q E →
    codeAny (model P w) A (.call (.ref f) args) (CR CX outer P w H s Q E) s
theorem fnNP_body {P : Program} {w : World} {K : Frag} {mg : Str → Option Value} {base : Heap} {CX : CXT} {k : Nat} {f : Addr} {fd : FuncData} {ps : List Str} {sp : (Addr × Obj) → Sp} {x qual : Str} {st : Stmt} {N : List Str} {dvs0 : List V} {kws0 : List (Str × V)} (F : FunD K x qual (defArgs st) (defBody st) (defScope st) dvs0 kws0 f fd) (S : FnScope N ps (defScope st)) (len : ∀ p vs H Q E, sp p vs H Q E → vs.length = ps.length)
    (hb : ∀ (cdv : Value) (A : Around) (outer : List Env) (s : Shared) (H : Hp) (vs : List V) (Q : VK) (E : XK) (p : Addr × Obj), RoomH k (A.deeper (envOfC qual (defScope st) s.heap.objs.size f cdv)) → sp p vs H Q E →
      ∃ t, PSs (cxH CX P w K mg base N qual (defScope st) f cdv A outer s H E p) (defBody st) t ∧ t { nx := fun _ H' => Q .non H', rt := Q } (L2.start N vs) H) :
    FnNP P w K mg base CX (k + 1) f fd ps sp := by
  obtain ⟨oc, od, dV, kV, doc, pm, an, cdv, ct, osl, rfl, lk, hcd, _, _⟩ := F.ex
  refine ⟨len, ?_⟩
  intro A outer s H args us vs Q E p hr pin e0 hbi r hsp
  have keeps0 : ∀ b o, base.get? b = some o → s.heap.get? b = some o := fun b o e => (e0.bs b o e).1
  have inK : K.In s.heap := e0.mod.kin.keeps keeps0
  refine codeAny_call_function hr.depth (inK _ _ lk) rfl S.co S.gen rfl (PySem.W.codeRec_of inK hcd) (hbi _ _ _ _ ?_)
  refine wpAny_newFunctionEnv_cells S.kind ?_ fun env he s1 x => ?_
  · intro ⟨n, v⟩ hy
    cases S.par n (List.of_mem_zip hy).1 with
    | inl q => exact Or.inl q
    | inr q => exact Or.inr ⟨q, PySem.W.cellsFrom_some _ _ _ (Or.inl q)⟩
  · subst he
    refine ⟨(e0.mod.nolimit.keeps keeps0).keeps x.toInCall.keep, codeAny_func ?_⟩
    obtain ⟨t, ht, hq⟩ := hb cdv A outer s H vs Q E p (hr.deeper _) hsp
    have I0 := inv_startH (CX := CX) (P := P) (E := E) S pin e0 (len _ _ _ _ _ hsp) r x
    refine wpAny_mono (ht.run [] s1 (L2.start N vs) H _ I0 hq) ?_ (fun _ _ z => z)
    intro fl s' hs
    cases fl with
    | ret u => obtain ⟨v, σ', H', J, rv, q⟩ := hs; exact ⟨v, H', J.os, J.bare, J.base, J.hok, rv, q⟩
    | next => obtain ⟨σ', H', J, q⟩ := hs; exact ⟨V.non, H', J.os, J.bare, J.base, J.hok, rfl, q⟩
    | brk => exact hs.elim fun _ z => z.elim fun _ y => y.2.elim
    | cont => exact hs.elim fun _ z => z.elim fun _ y => y.2.elim
/-- what is handed is an exception of class cls with the dict d -/
def spX (spc : Addr → Value → Option Addr → Sp) : (Addr × Obj) → Sp := fun p vs H Q E => ∃ (cls : Value) (d : Option Addr), Zc cls d p.2 ∧ (∃ us, p.2.data = .fields us) ∧ spc p.1 cls d vs H Q E
structure DnNX (P : Program) (w : World) (K : Frag) (mg : Str → Option Value) (base : Heap) (x : Str) (k : Nat) (ps : List Str) (spc : Addr → Value → Option Addr → Sp) : Prop where
  ex : ∃ (f : Addr) (fd : FuncData), FnNP P w K mg base CX0 k f fd ps (spX spc) ∧ mg x = some (.ref f) ∧ keepIn K (.ref f) = true ∧ Binds K fd ps []
section
variable {X : Cx} {k : Nat} {ps : List Str} {spc : Addr → Value → Option Addr → Sp} {x : Str} {p pos : Pos} {e : Expr} {es : List Expr} {t : TA} {a : Addr} {oe : Obj} {cls : Value} {d : Option Addr} {pn : List (Addr × Obj)}
theorem pe_callDNX (D : DnNX X.prog X.w X.K X.mg X.base x k ps spc) (hz : Zc cls d oe) (hf : ∃ us, oe.data = .fields us) (hr : RoomH k (X.suite a ((a, oe) :: pn)).A) (hg : Gl (X.suite a ((a, oe) :: pn)) x) (ha : PA (X.suite a ((a, oe) :: pn)) (e :: es) t) (hdb : (x == ("__debug__" : Str)) = false := by decide)
    (h1 : starEach (e :: es) (X.suite a ((a, oe) :: pn)).env = (false, eval e (X.suite a ((a, oe) :: pn)).env) :: starEach es (X.suite a ((a, oe) :: pn)).env := by rfl) (h2 : (backTo pos (starEach es (X.suite a ((a, oe) :: pn)).env)).any (·.1) = false := by rfl) :
    PE (X.suite a ((a, oe) :: pn)) (.Call (.Name x p) (e :: es) [] pos) (tCall (spc a cls d) [] E0 t) := by
  obtain ⟨f, fd, F, hm, hk, hb⟩ := D.ex
  constructor
  intro pins s σ H Q I h
  refine wpAny_Call_Name_kw (ld_glob I hg hm (PySem.W.callWith_K (h₀ := X.base) I.ok.mod.kin hk (thn (ha.run pos pins s σ H _ I h) fun us s1 ⟨vs, H1, I1, r, q⟩ => ⟨I1.kIn, ?_⟩) h1 h2) hdb)
  have q' : spX spc (a, oe) vs H1 Q E0 := ⟨cls, d, hz, hf, List.append_nil vs ▸ (show spc a cls d (vs ++ []) H1 Q E0 from q)⟩
  have hl : us.length = ps.length := r.length.symm.trans (F.len _ _ _ _ _ q')
  have bd := hb s1 us I1.kIn (by rw [List.append_nil]; exact hl)
  rw [List.append_nil] at bd
  refine wpAny_call (codeAny_mono (F.run _ _ s1 H1 ⟨us, []⟩ us _ Q E0 (a, oe) hr (pinOk I1 List.mem_cons_self) I1.env0 bd r q') ?_)
  intro r s' hq
  cases r with
  | error e => exact (show False from hq).elim
  | ok fl => cases fl with
    | ret u => exact I1.after hq
    | next => exact (show False from hq).elim
    | brk => exact (show False from hq).elim
    | cont => exact (show False from hq).elim
/-- isinstance of such an exception -/
theorem call_isP (hp : (a, oe) ∈ X.pn) (hz : Zc cls d oe) (hf : ∃ vs, oe.data = .fields vs) : CallR X (.builtin "isinstance") (rIsS X.K cls d a) := by
  intro pins s σ H xs us Q I r h
  obtain ⟨D, ecls, C, hdd, c, cv, b, rfl, hcv, e, q⟩ := h
  subst ecls
  cases r with
  | cons rx rr =>
    cases rr with
    | cons rt rr =>
      cases rr
      cases rx
      have ec := hcv _ rt
      subst ec
      obtain ⟨hget, _⟩ := I.pin (a, oe) (List.mem_append_left _ hp)
      obtain ⟨vs, hv⟩ := hf
      have J : ∃ od, PySem.W.InstAt s.heap a oe D od := by
        obtain ⟨oc, oda, odt, osl⟩ := oe
        obtain ⟨h1, h2⟩ := hz
        dsimp only at h1 h2 hv
        subst h1 h2 hv
        cases oda with
        | none => exact ⟨none, hget, rfl, rfl, trivial⟩
        | some dd =>
          obtain ⟨fs, hx⟩ := hdd dd rfl
          have hx2 : ObjOk X.prog X.w H s.heap dd (.xd fs) := I.hok dd _ hx
          obtain ⟨mA, hns, hr⟩ := hx2
          obtain ⟨od, ho, hl⟩ := lookIn_ns hns
          exact ⟨some od, hget, rfl, rfl, ho⟩
      obtain ⟨od, J⟩ := J
      exact PySem.W.kia_one (exKit C) I.kIn J e (fun z => nomatch z) fun tk => ⟨.bl b, H, I.kept (t' := tk) fun _ _ z => z, rfl, q⟩
end
/-! ### C(k = v, ..) that may raise -/
structure MkkX (P : Program) (w : World) (K : Frag) (mg : Str → Option Value) (base : Heap) (x : Str) (C : Addr) (k : Nat) (n : Nat) (ks : List Str) (gV : List V → List V → List V) (sp : Sp) : Prop where
  ex : ∃ (f : Addr) (fd : FuncData) (ps : List Str) (g : List Value → List Value → List Value), Mk K C f ∧ FnG P w K mg base (L2.CX P w) k f fd ps sp ∧ mg x = some (.ref C) ∧ KBn K fd ps n ks g gV
theorem MkkX.calm {P : Program} {w : World} {K : Frag} {mg : Str → Option Value} {base : Heap} {x : Str} {C : Addr} {k n : Nat} {ks : List Str} {gV : List V → List V → List V} {sp : Sp} (D : MkkX P w K mg base x C k n ks gV sp) : Mkk P w K mg base x C k n ks gV (fun vs H Q _ => sp vs H Q E0) := by
  obtain ⟨f, fd, ps, g, M, F, hm, hb⟩ := D.ex
  exact ⟨f, fd, ps, g, M, F.calm, hm, hb⟩
section
variable {X : Cx} {k : Nat} {ks : List Str} {gV : List V → List V → List V} {sp : Sp} {x : Str} {C : Addr} {p pos : Pos} {kws : List Keyword} {tk : TA} {W : WX}
def tMakeKwX (C : Addr) (l : Nat) (sp : Sp) (gV : List V → List V → List V) (W : WX) (tk : TA) : TE := fun σ H Q => tk σ H fun zs H2 => zs.length = l ∧ ∀ x dx, H2 x = none → H2 dx = none → dx ≠ x → sp (gV [.ref x] zs) (upd (upd H2 dx (.own x)) x (.ins C dx [])) (fun v H3 => v = .non ∧ Q (.ref x) H3) (WE W σ)
theorem s_makeKwX {σ : L2.St} {H : Hp} {Q : VK} {l : Nat} (h : tk σ H fun zs H2 => zs.length = l ∧ ∀ x dx, H2 x = none → H2 dx = none → dx ≠ x → sp (gV [.ref x] zs) (upd (upd H2 dx (.own x)) x (.ins C dx [])) (fun v H3 => v = .non ∧ Q (.ref x) H3) (WE W σ)) : tMakeKwX C l sp gV W tk σ H Q := h
theorem s_makeKw {σ : L2.St} {H : Hp} {Q : VK} {l : Nat} (h : tk σ H fun zs H2 => zs.length = l ∧ ∀ x dx, H2 x = none → H2 dx = none → dx ≠ x → sp (gV [.ref x] zs) (upd (upd H2 dx (.own x)) x (.ins C dx [])) (fun v H3 => v = .non ∧ Q (.ref x) H3) E0) : tMakeKw C l sp gV tk σ H Q := h
theorem pe_makeKwX (D : MkkX X.prog X.w X.K X.mg X.base x C k 1 ks gV sp) (tks : Takes X W) (hr : RoomG (k + 1) X.A) (hg : Gl X x) (hkw : PK X kws tk)
    (h1 : (backToKw pos (keywordEach kws X.env)).all (fun q => q.1.isSome) = true := by rfl)
    (h2 : (backToKw pos (keywordEach kws X.env)).filterMap (fun q => q.1) = ks := by rfl)
    (h3 : ((backTo pos (starEach [] X.env)).any (fun q => q.1) || (backToKw pos (keywordEach kws X.env)).any (fun q => q.1.isNone)) = false := by rfl) (h4 : (x == ("__debug__" : Str)) = false := by decide) :
    PE X (.Call (.Name x p) [] kws pos) (tMakeKwX C ks.length sp gV W tk) := by
  obtain ⟨f, fd, ps, g, M, F, hm, hb⟩ := D.ex
  refine ⟨fun pins s σ H Q I h => ?_⟩
  refine wpAny_Call_Name_kw (ld_glob I hg hm ?_ h4)
  have kin := I.ok.mod.kin
  refine PySem.W.callWith_KW0 (first := []) kin M.kp h1 ?_ h3
  refine thn (hkw.run pos pins s σ H _ I h) fun ws s2 ⟨zs, H2, I2, rz, l2, q2⟩ => ⟨I2.kIn, ?_⟩
  rw [h2]
  have hq := q2 (s2.heap.objs.size + 1) s2.heap.objs.size (I2.hok.fresh (Nat.le_succ _)) (I2.hok.fresh (Nat.le_refl _)) (Nat.ne_of_lt (Nat.lt_succ_self _))
  have I3 := Inv.made (C := C) I2
  have hr2 : RoomG k (X.A.under (.builtin "type.__call__" ⟨.ref C :: [], ks.zip ws⟩)) := ⟨hr.r.make C [] (ks.zip ws), hr.g⟩
  have r1 : Vals [V.ref (s2.heap.objs.size + 1)] [Value.ref (s2.heap.objs.size + 1)] := .cons rfl .nil
  refine wpAny_call (make_map (f := f) I2.kIn M.makes M.init (beq_iff_eq.mp M.fn) (codeAny_mono (F.go _ X.stack _ _ ⟨[Value.ref (s2.heap.objs.size + 1)], ks.zip ws⟩ (g [Value.ref (s2.heap.objs.size + 1)] ws) _ _ _ hr2
    (I3.env0.make C [] (ks.zip ws)) (hb.to _ [Value.ref (s2.heap.objs.size + 1)] ws I3.kIn rfl (rz.length.symm.trans l2)) (hb.rel r1 rz) hq) fun r s' hq' => ?_))
  cases r with
  | error e => exact passAt tks σ pins _ _ e s' I3 hq'
  | ok fl => cases fl with
    | ret u =>
      obtain ⟨v, H', I4, rv, ev, q3⟩ := I3.after hq'
      subst ev
      exact ⟨rv, V.ref (s2.heap.objs.size + 1), H', I4, rfl, q3⟩
    | next => exact (show False from hq').elim
    | brk => exact (show False from hq').elim
    | cont => exact (show False from hq').elim
end
/-! ### constants of a class: an int -/
structure CvI (K : Frag) (C : Addr) (f : Str) (i : Int) : Prop where
  rd : readsIn K C (.type "type") = true
  ga : specialIn K (.ref C) "__getattribute__" = some (some (.builtin "type.__getattribute__"))
  ex : ∃ t, findCls K (.ref C) (.type "type") f = some (.val (.int i t))
  inn : ∃ t, findIn K (.ref C) f = some (some (.int i t)) ∧ specialIn K (.int i t) "__get__" = some none
theorem cvB_ok {K : Frag} {C : Addr} {f : Str} {i : Int} (h : cvB K C f i = true) : CvI K C f i := by
  unfold cvB at h
  rw [Bool.and_eq_true, Bool.and_eq_true, Bool.and_eq_true] at h
  obtain ⟨h1, h2, h3, h4⟩ := h
  refine ⟨h1, of_decide_eq_true h2, ?_, ?_⟩
  · revert h3
    split
    · rename_i j t e
      intro h3
      rw [of_decide_eq_true h3] at e
      exact ⟨t, e⟩
    · intro z
      cases z
  · revert h4
    split
    · rename_i j t e
      intro h4
      rw [Bool.and_eq_true] at h4
      rw [of_decide_eq_true h4.1] at e
      have e2 := of_decide_eq_true h4.2
      rw [of_decide_eq_true h4.1] at e2
      exact ⟨t, e, e2⟩
    · intro z
      cases z
section
variable {X : Cx} {K : Frag} {C : Addr} {f : Str} {i : Int} {y : Str} {p1 pos : Pos} {e : Expr} {ta : TE}
theorem pe_cvI (c : CvI X.K C f i) (he : PE X e (tC (.ref C))) (hb : attributeBase e f X.env (eval e X.env) = eval e X.env := by rfl) : PE X (.Attribute e f pos) (tC (.int i)) := by
  obtain ⟨t, ht⟩ := c.ex
  have z := ClX.pe_cval (X := X) (f := f) (pos := pos) he hb
  constructor
  intro pins s σ H Q I h
  exact z.run pins s σ H Q I (show (fun x H1 => ∃ C mc v u, x = V.ref C ∧ ClX.CRead X.K C mc ∧ ClX.CVal X.K C mc f v u ∧ Q v H1) (.ref C) H from ⟨C, _, .int i, _, rfl, ⟨c.rd, c.ga⟩, ⟨ht, ⟨t, rfl⟩⟩, h⟩)
/-- .. read through an instance -/
def tCvO (C : Addr) (f : Str) (i : Int) (ta : TE) : TE := fun σ H Q => ta σ H fun x H1 => ∃ a dx fs, x = .ref a ∧ H1 a = some (.ins C dx fs) ∧ fs.lookup f = none ∧ Q (.int i) H1
theorem s_cvO {σ : L2.St} {H : Hp} {Q : VK} (h : ta σ H fun x H1 => ∃ a dx fs, x = .ref a ∧ H1 a = some (.ins C dx fs) ∧ fs.lookup f = none ∧ Q (.int i) H1) : tCvO C f i ta σ H Q := h
theorem pe_cvO (c : CvI X.K C f i) (k : Cls X.K C) (hn : copiedNames.contains f = false) (he : PE X e ta) (hab : attributeBase e f X.env (eval e X.env) = eval e X.env := by rfl) : PE X (.Attribute e f pos) (tCvO C f i ta) := by
  obtain ⟨t, h1, h2⟩ := c.inn
  constructor
  intro pins s σ H Q I h
  refine attr_of hab (thn (he.run pins s σ H _ I h) ?_)
  rintro u s1 ⟨x, H1, I1, rx, a, dx, fs, rfl, ea, hl, q⟩
  obtain rfl : u = Value.ref a := rx
  obtain ⟨mA, O, rF, nF, _, _⟩ := ins_get I1.hok ea
  obtain ⟨od, J, look⟩ := O.look
  have hc : (PySem.W.clsIn X.K C).isSome = true := by
    obtain ⟨cd, hc, _⟩ := PySem.W.any_some k.hd
    simp [hc]
  have pg := PySem.W.plainGet_of (k.get f)
  refine PySem.W.get_value I1.kIn J pg.1 (v := .int i t) ?_ rfl ⟨.int i, H1, I1.tok _, ⟨t, rfl⟩, q⟩
  have hm : mA f = none := RelO.none_of (by rw [← hl]; exact rF f)
  obtain ⟨cd, hcd⟩ := Option.isSome_iff_exists.mp hc
  have ho : PySem.W.ownOf cd (some od) f = some none := by
    unfold PySem.W.ownOf
    by_cases hd : cd.hasDict = true
    · rw [if_pos hd]
      show lookIn f od = some none
      rw [look f, hm]
    · rw [if_neg hd]
  unfold PySem.W.findObj
  rw [hcd, Option.bind_some, h1, Option.bind_some]
  simp only [h2, Option.bind_some, ho, hn, Bool.false_and, Bool.false_eq_true, if_false]
  rfl
end
end My

namespace My
open PySem L2 PySem.Spec PyProof.Rows L2H PySem.W
/-! ### lists whose items are data or own objects, and their texts -/
inductive Its (L : OwnL) (H : Hp) : List V → List Str → Prop
  | nil : Its L H [] []
  | dat {v : V} {d : PyData} {vs : List V} {ts : List Str} (z : Dz H v d) (sm : SmD d) (dp : d.depth ≤ 50) (r : Its L H vs ts) : Its L H (v :: vs) (d.shown :: ts)
  | own {p : Addr × Sp} {b dx : Addr} {fs : List (Str × V)} {t : Str} {vs : List V} {ts : List Str} (hp : p ∈ L) (e : H b = some (.ins p.1 dx fs)) (z : ∀ H1, L2.Same H H1 → ∀ Q1 : VK, (∀ H2, L2.Same H1 H2 → Q1 (.str t) H2) → p.2 [.ref b] H1 Q1 E0) (r : Its L H vs ts) : Its L H (.ref b :: vs) (t :: ts)
section
variable {L : OwnL} {H : Hp}
theorem Its.len {vs : List V} {ts : List Str} (h : Its L H vs ts) : ts.length = vs.length := by
  induction h with
  | nil => rfl
  | dat _ _ _ _ ih => rw [List.length_cons, List.length_cons, ih]
  | own _ _ _ _ ih => rw [List.length_cons, List.length_cons, ih]
theorem Its.data {vs : List V} {ts : List Str} (h : Its L H vs ts) : (∃ ds, DzAll H vs ds ∧ PyData.depthAll ds ≤ 50 ∧ PyData.showableAll ds = true ∧ PyData.shownAll ds = ts) ∨ ∃ v ∈ vs, OwnIn H v := by
  induction h with
  | nil => exact .inl ⟨[], .nil, by simp [PyData.depthAll], rfl, rfl⟩
  | dat z sm dp r ih =>
    rcases ih with ⟨ds, h1, h2, h3, h4⟩ | ⟨v, hv, o⟩
    · refine .inl ⟨_ :: ds, .cons z h1, ?_, ?_, ?_⟩
      · simp only [PyData.depthAll]
        omega
      · simp only [PyData.showableAll, sm.sh, h3, Bool.and_self]
      · simp only [PyData.shownAll, h4]
    · exact .inr ⟨v, List.mem_cons_of_mem _ hv, o⟩
  | own hp e z r ih => exact .inr ⟨_, List.mem_cons_self, .ins e⟩
theorem Its.txs {a : Addr} (o : OwnIn H (.ref a)) {j : Nat} {vs : List V} {ts : List Str} (h : Its L H vs ts) : TxLs L H j [a] vs ts := by
  induction h with
  | nil => exact .nil
  | dat z sm dp r ih => exact .cons (.dat z sm fun b hb => by cases List.mem_singleton.mp hb; exact o) ih
  | own hp e z r ih => exact .cons (.own hp e z) ih
theorem Its.same {H' : Hp} (s : L2.Same H H') {vs : List V} {ts : List Str} (h : Its L H vs ts) : Its L H' vs ts := by
  induction h with
  | nil => exact .nil
  | dat z sm dp r ih => exact .dat (z.same s) sm dp ih
  | own hp e z r ih => exact .own hp (s _ _ e) (fun H1 s1 => z H1 (s.trans s1)) ih
/-- the text of such a list -/
theorem Its.repr {a : Addr} {vs : List V} {ts : List Str} {Q : VK} (h : Its L H vs ts) (ea : H a = some (.lst vs)) (ne : vs ≠ []) (na : a ≠ sysModules) (hz : (listText ts).length ≤ sizeLine) (q : ∀ H', L2.Same H H' → Q (.str (listText ts)) H') : rReprZ [.ref a] H Q ∨ rReprT L [.ref a] H Q := by
  rcases h.data with ⟨ds, h1, h2, h3, h4⟩ | ⟨v, hv, o⟩
  · refine .inl ⟨_, .list ds, rfl, .lst ea na h1, ?_, ?_, ?_, ?_⟩
    · simp only [PyData.depth]
      omega
    · simp only [PyData.showable, h3]
    · rw [shown_list, h4]
      exact hz
    · rw [shown_list, h4]
      exact q H (L2.Same.refl H)
  · exact .inr ⟨a, vs, ts, _, rfl, .inl ⟨ea, ne, rfl⟩, h.txs (.lst ea hv o), hz, q⟩
end
theorem tupleText_le (ts : List Str) : (tupleText ts).length ≤ piled ts + 3 := by
  unfold tupleText
  rw [strLen_append, strLen_append]
  have e1 : ((("(" : String) : Str)).length = 1 := rfl
  have e3 : (((if ts.length == 1 then ",)" else ")" : String) : Str)).length ≤ 2 := by split <;> decide
  rw [e1]
  by_cases h : ts = []
  · subst h
    have : (Str.join ", " []).length = 0 := rfl
    rw [piled_nil]
    omega
  · have := join_length_add ts h
    omega
theorem Sz.tuple {k n m : Nat} {ds : List PyData} (h : SzAll k n ds) (hm : ds.length * (n + 2) + 3 ≤ m) : Sz (.tuple ds) (k + 1) m := by
  refine ⟨?_, ?_, ?_⟩
  · have := h.dp
    simp only [PyData.depth]
    omega
  · simp only [PyData.showable, h.sh]
  · rw [show (PyData.tuple ds).shown = tupleText (PyData.shownAll ds) from by simp only [PyData.shown]]
    have h1 := tupleText_le (PyData.shownAll ds)
    have h2 := h.len
    omega
theorem str_ext {x y : Str} (h : x.cps.toList = y.cps.toList) : x = y := by
  obtain ⟨a⟩ := x
  obtain ⟨b⟩ := y
  have h : a.toList = b.toList := h
  rw [Array.toList_inj.mp h]
theorem empty_app (y : Str) : Str.empty ++ y = y := str_ext (by
  show (Str.empty.cps ++ y.cps).toList = y.cps.toList
  rw [Array.toList_append]
  rfl)
theorem listLen {ts : List Str} {n : Nat} (h : piled ts + 2 ≤ n) (hn : n ≤ 1000000 := by decide) : (listText ts).length ≤ sizeLine := by
  have e := listText_le ts
  rw [sizeLine_eq]
  omega
section
variable {P : Program} {w : World} {K : PySem.W.Frag} {mg : Str → Option Value} {base : Heap} {x qual : Str} {params : Arguments} {body : List Stmt} {scope : Scope} {dvs : List V} {C : Addr} {k : Nat} {ps : List Str} {sp : Sp}
theorem mkDX {y : Str} (n j : Nat) (e : ∃ (f : Addr) (fd : FuncData), Mk K C f ∧ FunD K x qual params body scope dvs [] f fd) (m : mg y = some (.ref C)) (ok : ∀ {f : Addr} {fd : FuncData}, FunD K x qual params body scope dvs [] f fd → FnG P w K mg base (L2.CX P w) k f fd ps sp) (hd : dvs ≠ []) (hn : n + (dvs.length - j) = ps.length)
    (h : ∀ (T : Addr) (kV doc pm : Value) (an : Option Addr) (cdv ct : Value) (us its : List Value), us.length = n → its.length = dvs.length →
      ∃ k, bindArgs (PySem.W.fnOf x qual params body scope (.ref T) kV doc pm an cdv ct) ⟨us, []⟩ = seqItems? (.ref T) >>= k ∧ k (some its.toArray) = pure (ps.zip (us ++ its.drop j))) : MkX P w K mg base y C k ps (dvs.drop j) sp := by
  obtain ⟨f, fd, hp, F⟩ := e
  obtain ⟨ds, hv, hb⟩ := F.binds1 n j hd hn h
  exact ⟨f, fd, ds, hp, ok F, m, hb, hv⟩
theorem mkKX {y : Str} (ks : List Str) (g : {α : Type} → List α → List α → List α → List α) (e : ∃ (f : Addr) (fd : FuncData), Mk K C f ∧ FunD K x qual params body scope dvs [] f fd) (m : mg y = some (.ref C)) (ok : ∀ {f : Addr} {fd : FuncData}, FunD K x qual params body scope dvs [] f fd → FnG P w K mg base (L2.CX P w) k f fd ps sp) (hd : dvs ≠ [])
    (hrel : ∀ {vs ds zs : List V} {us its ws : List Value}, L2.Vals vs us → L2.Vals ds its → L2.Vals zs ws → L2.Vals (g vs ds zs) (g us its ws))
    (h : ∀ (T : Addr) (kV doc pm : Value) (an : Option Addr) (cdv ct : Value) (us its ws : List Value), us.length = 1 → its.length = dvs.length → ws.length = ks.length →
      ∃ k, bindArgs (PySem.W.fnOf x qual params body scope (.ref T) kV doc pm an cdv ct) ⟨us, ks.zip ws⟩ = seqItems? (.ref T) >>= k ∧ k (some its.toArray) = pure (ps.zip (g us its ws))) : MkkX P w K mg base y C k 1 ks (fun vs zs => g vs dvs zs) sp := by
  obtain ⟨f, fd, hp, F⟩ := e
  obtain ⟨its, hb⟩ := F.kbindsD 1 ks g hd hrel h
  exact ⟨f, fd, ps, _, hp, ok F, m, hb⟩
end
end My

namespace My
open PySem L2 PySem.Spec PyProof.Rows PySem.W
/-! ### x == own, x of a built-in kind: the left declines, the own __eq__ is asked -/
theorem int_eq_own (i : Int) (k : Tok) (x C dx : Addr) : Meets (Builtin.«int.__eq__» ⟨[.int i k, .ref x], []⟩) (fun _ R s => s.heap.get? x = some (instObj C dx) ∧ R (.ok (.ret Value.notImplemented)) s) :=
  .of_wp fun prog w A R s h => by
    obtain ⟨hp, g, d, tk, os⟩ := s
    obtain ⟨hl, h⟩ := h
    unfold instObj at hl
    wp_walk
    exact ⟨_, rfl, h⟩
theorem bool_eq_own (i : Bool) (x C dx : Addr) : Meets (Builtin.«int.__eq__» ⟨[.bool i, .ref x], []⟩) (fun _ R s => s.heap.get? x = some (instObj C dx) ∧ R (.ok (.ret Value.notImplemented)) s) :=
  .of_wp fun prog w A R s h => by
    obtain ⟨hp, g, d, tk, os⟩ := s
    obtain ⟨hl, h⟩ := h
    unfold instObj at hl
    wp_walk
    exact ⟨_, rfl, h⟩
theorem str_eq_own (i : Str) (k : Tok) (x C dx : Addr) : Meets (Builtin.«str.__eq__» ⟨[.str i k, .ref x], []⟩) (fun _ R s => s.heap.get? x = some (instObj C dx) ∧ R (.ok (.ret Value.notImplemented)) s) :=
  .of_wp fun prog w A R s h => by
    obtain ⟨hp, g, d, tk, os⟩ := s
    obtain ⟨hl, h⟩ := h
    unfold instObj at hl
    wp_walk
    exact ⟨_, rfl, h⟩
section
variable {prog : Program} {w : World} {A : Around} {R : Result → Shared → Prop} {s : Shared} {K : Frag} {l x C dx : Addr} {items : Array Value} {es : Array DictEntry} {n : Nat} {dd : Option Addr} {sl : Array (Option Value)}
theorem list_eq_own (XK : K.In s.heap) (hs : subIn K (.ref C) (.type "list") = some false) (hl : s.heap.get? l = some { cls := .type "list", dict := dd, data := .seq items n, slots := sl }) (hx : s.heap.get? x = some (instObj C dx)) (h : R (.ok (.ret Value.notImplemented)) s) :
    wpAny (model prog w) A (Builtin.«list.__eq__» ⟨[.ref l, .ref x], []⟩) (fun fin s' => ∃ v, fin = .done (.ret v) ∧ R (.ok (.ret v)) s') (fun e s' => R (.error e) s') s := by
  have q : wpAny (model prog w) A (isSubtype (Value.ref C) (.type "list")) (fun b s' => b = false ∧ s' = s) (fun e s' => R (.error e) s') s := (looks_subIn XK hs).here ⟨rfl, rfl⟩
  obtain ⟨hp, g, d, tk, os⟩ := s
  unfold instObj at hx
  wp_walk
  refine wpAny_mono q (fun b s' z => ?_) fun _ _ z => z
  obtain ⟨rfl, rfl⟩ := z
  wp_walk
  exact ⟨_, rfl, h⟩
theorem tuple_eq_own (XK : K.In s.heap) (hs : subIn K (.ref C) (.type "tuple") = some false) (hl : s.heap.get? l = some { cls := .type "tuple", dict := dd, data := .seq items n, slots := sl }) (hx : s.heap.get? x = some (instObj C dx)) (h : R (.ok (.ret Value.notImplemented)) s) :
    wpAny (model prog w) A (Builtin.«tuple.__eq__» ⟨[.ref l, .ref x], []⟩) (fun fin s' => ∃ v, fin = .done (.ret v) ∧ R (.ok (.ret v)) s') (fun e s' => R (.error e) s') s := by
  have q : wpAny (model prog w) A (isSubtype (Value.ref C) (.type "tuple")) (fun b s' => b = false ∧ s' = s) (fun e s' => R (.error e) s') s := (looks_subIn XK hs).here ⟨rfl, rfl⟩
  obtain ⟨hp, g, d, tk, os⟩ := s
  unfold instObj at hx
  wp_walk
  refine wpAny_mono q (fun b s' z => ?_) fun _ _ z => z
  obtain ⟨rfl, rfl⟩ := z
  wp_walk
  exact ⟨_, rfl, h⟩
theorem dict_eq_own (XK : K.In s.heap) (hs : subIn K (.ref C) (.type "dict") = some false) (hl : s.heap.get? l = some { cls := .type "dict", dict := dd, data := .dict es n, slots := sl }) (hx : s.heap.get? x = some (instObj C dx)) (h : R (.ok (.ret Value.notImplemented)) s) :
    wpAny (model prog w) A (Builtin.«dict.__eq__» ⟨[.ref l, .ref x], []⟩) (fun fin s' => ∃ v, fin = .done (.ret v) ∧ R (.ok (.ret v)) s') (fun e s' => R (.error e) s') s := by
  have q : wpAny (model prog w) A (isSubtype (Value.ref C) (.type "dict")) (fun b s' => b = false ∧ s' = s) (fun e s' => R (.error e) s') s := (looks_subIn XK hs).here ⟨rfl, rfl⟩
  obtain ⟨hp, g, d, tk, os⟩ := s
  unfold instObj at hx
  wp_walk
  refine wpAny_mono q (fun b s' z => ?_) fun _ _ z => z
  obtain ⟨rfl, rfl⟩ := z
  wp_walk
  exact ⟨_, rfl, h⟩
end
theorem belowNo_at {K : Frag} {C : Addr} (h : belowNo K C = true) {T : String} (hT : T ∈ ["NoneType", "bool", "int", "str", "tuple", "list", "dict"]) : subIn K (.ref C) (.type T) = some false := beq_iff_eq.mp (List.all_eq_true.mp h T hT)
/-- a value of a built-in kind -/
inductive LeftV (H : Hp) : V → Prop where
  | non : LeftV H .non
  | bl (b : Bool) : LeftV H (.bl b)
  | int (i : Int) : LeftV H (.int i)
  | str (x : Str) : LeftV H (.str x)
  | lst {a : Addr} {xs : List V} (e : H a = some (.lst xs)) : LeftV H (.ref a)
  | tup {a : Addr} {xs : List V} (e : H a = some (.tup xs)) : LeftV H (.ref a)
  | dK {a : Addr} {kvs : List (Key × V)} (e : H a = some (.dK kvs)) : LeftV H (.ref a)
theorem eq_back {prog : Program} {w : World} {A : Around} {E : Value → Shared → Prop} {s : Shared} {K : Frag} {x C f : Addr} {ox : Obj} {od : Option Obj} {a : Value} {T id : String} {Q : Value → Shared → Prop} (hu : A.units < cLine) (XK : K.In s.heap) (I : InstAt s.heap x ox C od)
    (hT : s.TypeIs a T) (slot : Slot T (cmpInfo .Eq).2.1 id) (hsub : subIn K (.ref C) (.type T) = some false) (dec : wpAny (model prog w) A (call (.builtin id) [a, .ref x]) (fun v s' => v = .notImplemented ∧ s' = s) E s)
    (hs : findIn K (.ref C) "__eq__" = some (some (.ref f))) (hf : isFn K (.ref f) = true) (h : wpAny (model prog w) A (call (.ref f) [.ref x, a]) (PySem.W.CmpBack Q) E s) : wpAny (model prog w) A (richCompare .Eq a (.ref x)) Q E s := by
  have two : wpAny (model prog w) A (tryCompare (.ref x) "__eq__" a) (fun r s' => ∃ v, r = some v ∧ Q v s') E s := by
    unfold tryCompare
    refine wpAny_bind (ifBound_K XK I hs hf (wpAny_mono h (fun v s' hv => ?_) fun _ _ e => e))
    cases v <;> first | exact hv.elim | exact wpAny_pure ⟨_, rfl, hv⟩
  have one : wpAny (model prog w) A (tryCompare a "__eq__" (.ref x)) (fun r s' => r = none ∧ s' = s) E s :=
    wpAny_tryCompare_declines hT slot (wpAny_mono dec (fun v s' z => ⟨z.1, rfl, z.2⟩) fun _ _ z => z)
  simp only [richCompare, cmpInfo_Eq, hT.oneThing_none]
  refine wpAny_holding (wpAny_bind (wpAny_cRoomFor hu ?_))
  refine wpAny_bind (wpAny_typeOf hT ?_)
  refine wpAny_bind (I.type.here ?_)
  split
  · refine wpAny_bind ((looks_subIn XK hsub).here ?_)
    simp only [Bool.false_eq_true, if_false, Bool.not_false, if_true]
    refine wpAny_bind (m := tryCompare a _ (.ref x)) (wpAny_mono one (fun r s1 z => ?_) fun _ _ e => e)
    obtain ⟨rfl, rfl⟩ := z
    refine wpAny_bind (m := tryCompare (.ref x) _ a) (wpAny_mono two (fun r s2 z => ?_) fun _ _ e => e)
    obtain ⟨v, rfl, q⟩ := z
    exact wpAny_pure q
  · rename_i q
    exact absurd (show (Value.type T != Value.ref C) = true from bne_iff_ne.mpr (fun z => by cases z)) q
section
variable {X : Cx} {K : Frag} {k : Nat} {C : Addr} {ps : List Str} {sp : Sp} {dvs : List V}
theorem or_eqR (h : X.K = K) (D : Mtn X.prog X.w X.K X.mg X.base C "__eq__" k ps dvs sp) (hb : belowNo K C = true) (hr : RoomG k X.A) : OpR X (compareOp .Eq) (fun x y H Q => ∃ (a dx : Addr) (fs : List (Str × V)), y = .ref a ∧ H a = some (.ins C dx fs) ∧ LeftV H x ∧ sp (.ref a :: x :: dvs) H Q E0) := by
  subst h
  obtain ⟨f, fd, ds, c, hm, FF, hbd, hd⟩ := D.ex
  intro pins s σ H x y v u Q I rx ry h
  obtain ⟨b, dx, fs, rfl, eb, lx, q⟩ := h
  obtain rfl : u = Value.ref b := ry
  obtain ⟨od, J⟩ := insAt' I eb
  have hu : X.A.units < cLine := by
    have := hr.units
    omega
  have two : wpAny (model X.prog X.w) X.A (call (.ref f) [.ref b, v]) (PySem.W.CmpBack (EP X pins σ Q)) X.xe s :=
    wpAny_mono (goIn (us := [.ref b, v]) (vs := [.ref b, x]) FF hr I.env0 hbd hd I (.cons rfl (.cons rx .nil)) q) (fun w s1 hw => back hw) fun _ _ z => z
  have hi : s.heap.get? b = some (instObj C dx) := J.at_
  have go : ∀ {T id : String}, T ∈ ["NoneType", "bool", "int", "str", "tuple", "list", "dict"] → s.TypeIs v T → Slot T (cmpInfo .Eq).2.1 id → wpAny (model X.prog X.w) X.A (call (.builtin id) [v, .ref b]) (fun v s' => v = .notImplemented ∧ s' = s) X.xe s → wpAny (model X.prog X.w) X.A (compareOp .Eq v (.ref b)) (EP X pins σ Q) X.xe s :=
    fun hT ht sl dec => eq_back hu I.kIn J ht sl (belowNo_at hb hT) dec hm.at_ hm.fn two
  cases lx with
  | non =>
    obtain rfl : v = Value.none := rx
    exact go (by decide +kernel) rfl F.slot_NoneType_eq (call_gives F.slot_NoneType_eq rfl F.entry_NoneType_eq (F.args_NoneType_eq_2 _ _) (PySem.SeqAt.NoneType___eq___none_ref_0 b) ⟨rfl, rfl⟩)
  | bl c =>
    obtain rfl : v = Value.bool c := rx
    exact go (by decide +kernel) rfl F.slot_bool_eq (call_meets F.slot_bool_eq rfl F.entry_int_eq (F.args_int_eq_2 _ _) (bool_eq_own c b C dx) ⟨hi, rfl, rfl⟩)
  | int i =>
    obtain ⟨t, rfl⟩ := (show ∃ t, v = Value.int i t from rx)
    exact go (by decide +kernel) (typeIs_int s i t) F.slot_int_eq (call_meets F.slot_int_eq (typeIs_int s i t) F.entry_int_eq (F.args_int_eq_2 _ _) (int_eq_own i t b C dx) ⟨hi, rfl, rfl⟩)
  | str i =>
    obtain ⟨t, rfl⟩ := (show ∃ t, v = Value.str i t from rx)
    exact go (by decide +kernel) (typeIs_str s i t) F.slot_str_eq (call_meets F.slot_str_eq (typeIs_str s i t) F.entry_str_eq (F.args_str_eq_2 _ _) (str_eq_own i t b C dx) ⟨hi, rfl, rfl⟩)
  | @lst a xs ea =>
    obtain rfl : v = Value.ref a := rx
    obtain ⟨_, its, n, _, h1⟩ := (show ObjOk X.prog X.w H s.heap a (.lst xs) from I.hok a _ ea)
    refine go (by decide +kernel) ⟨_, h1, rfl⟩ F.slot_list_eq (wpAny_call (codeAny_call_builtin F.slot_list_eq.plain F.entry_list_eq (F.slot_list_eq.check _ _ _ _ _ _ _ _ ⟨_, h1, rfl⟩ (F.args_list_eq_2 _ _) ?_)))
    refine wpAny_mono (list_eq_own (R := wants (fun v s' => v = .notImplemented ∧ s' = s) X.xe) I.kIn (belowNo_at hb (by decide +kernel)) h1 hi ⟨rfl, rfl⟩) (fun fin s' z => ?_) fun _ _ z => z
    obtain ⟨v, rfl, q⟩ := z
    exact q
  | @tup a xs ea =>
    obtain rfl : v = Value.ref a := rx
    obtain ⟨_, its, _, o, h1, h2, n, h3⟩ := (show ObjOk X.prog X.w H s.heap a (.tup xs) from I.hok a _ ea)
    obtain ⟨cls, dd, data, sl⟩ := o
    simp only at h2 h3
    subst h2 h3
    refine go (by decide +kernel) ⟨_, h1, rfl⟩ F.slot_tuple_eq (wpAny_call (codeAny_call_builtin F.slot_tuple_eq.plain F.entry_tuple_eq (F.slot_tuple_eq.check _ _ _ _ _ _ _ _ ⟨_, h1, rfl⟩ (F.args_tuple_eq_2 _ _) ?_)))
    refine wpAny_mono (tuple_eq_own (R := wants (fun v s' => v = .notImplemented ∧ s' = s) X.xe) I.kIn (belowNo_at hb (by decide +kernel)) h1 hi ⟨rfl, rfl⟩) (fun fin s' z => ?_) fun _ _ z => z
    obtain ⟨v, rfl, q⟩ := z
    exact q
  | @dK a kvs ea =>
    obtain rfl : v = Value.ref a := rx
    obtain ⟨_, _, vs, _, o, es, ep, h1, ⟨h2, _, _⟩, h3, _⟩ := (show ObjOk X.prog X.w H s.heap a (.dK kvs) from I.hok a _ ea)
    obtain ⟨cls, dd, data, sl⟩ := o
    simp only at h2 h3
    subst h2 h3
    refine go (by decide +kernel) ⟨_, h1, rfl⟩ F.slot_dict_eq (wpAny_call (codeAny_call_builtin F.slot_dict_eq.plain F.entry_dict_eq (F.slot_dict_eq.check _ _ _ _ _ _ _ _ ⟨_, h1, rfl⟩ (F.args_dict_eq_2 _ _) ?_)))
    refine wpAny_mono (dict_eq_own (R := wants (fun v s' => v = .notImplemented ∧ s' = s) X.xe) I.kIn (belowNo_at hb (by decide +kernel)) h1 hi ⟨rfl, rfl⟩) (fun fin s' z => ?_) fun _ _ z => z
    obtain ⟨v, rfl, q⟩ := z
    exact q
/-- a value on the left of any kind: a built-in one, or an own object with an own __eq__ -/
theorem or_either {op : CmpOp} {R R2 : R2} (h1 : OpR X (compareOp op) R) (h2 : OpR X (compareOp op) R2) : OpR X (compareOp op) (fun x y H Q => R x y H Q ∨ R2 x y H Q) := by
  intro pins s σ H x y v u Q I rx ry h
  rcases h with h | h
  · exact h1 pins s σ H x y v u Q I rx ry h
  · exact h2 pins s σ H x y v u Q I rx ry h
end
end My

namespace My
open PySem PySem.Calls PyProof.Rows Builtin PySem.W
/-! ### {b} of a bool, {x!r} of None or an own object -/
section
variable {prog : Program} {w : World} {A : Around} {E : Value → Shared → Prop} {s : Shared} {K : PySem.W.Frag} {x C L f : Addr} {h₀ : Heap} {m : Str → Option Value} {ox : Obj} {od : Option Obj}
theorem reprObj_K {Q : Value → Shared → Prop} (hu : A.units < cLine) (X : K.In s.heap) (I : InstAt s.heap x ox C od) (hs : findIn K (.ref C) "__repr__" = some (some (.ref f))) (hf : isFn K (.ref f) = true)
    (h : wpAny (model prog w) A (call (.ref f) [.ref x]) (fun v s' => ∃ y u, v = .str y u ∧ Q (.str y u) s') E s) : wpAny (model prog w) A (pyReprObj (.ref x)) Q E s := by
  rw [pyReprObj_eq_pyReprObjBy]
  unfold pyReprObjBy
  refine wpAny_bind (wpAny_cRoomFor hu ?_)
  refine wpAny_bind (wpAny_bind (I.type.here ((looks_findIn X hs).here ?_)))
  show wpAny _ _ (if (some (Value.ref f)).isNone = true then _ else _) _ _ _
  rw [if_neg (by simp)]
  refine wpAny_bind (ifBoundBy_K X I hs hf ?_)
  show wpAny _ _ (call (.ref f) ([.ref x] ++ [])) _ _ _
  refine wpAny_mono h (fun r s' hr => ?_) fun _ _ z => z
  obtain ⟨y, u, rfl, q⟩ := hr
  refine wpAny_bind (wpAny_isInstance (T := "str") (b := true) rfl isSubtype_str_str ?_)
  exact wpAny_pure q
end
section
open L2
variable {X : Cx} {k : Nat} {e : Expr} {te : TE} {pos : Pos} {C : Addr} {ps : List Str} {sp : Sp} {dvs : List V}
/-- {b}, a bool -/
def tFmtB (te : TE) : TE := fun σ H Q => te σ H fun x H1 => ∃ b : Bool, x = .bl b ∧ Q (.str (if b then "True" else "False")) H1
theorem pe_fmtB (he : PE X e te) : PE X (.FormattedValue e (-1) none pos) (tFmtB te) := by
  refine ⟨fun pins s σ H Q I h => ?_⟩
  refine wpAny_FormattedValue_plain (thn (he.run pins s σ H _ I h) fun v s1 hv => ?_)
  obtain ⟨x, H1, I1, r1, b, rfl, q⟩ := hv
  obtain rfl : v = Value.bool b := r1
  exact wpAny_formatField_bool ⟨.str (if b then "True" else "False"), H1, (I1.tok _).tok _, ⟨_, by cases b <;> rfl⟩, q⟩
/-- {x!r}, None or an own object -/
def tFmtRO (C : Addr) (sp : Sp) (dvs : List V) (te : TE) : TE := fun σ H Q => te σ H fun x H1 => (x = .non ∧ Q (.str "None") H1) ∨ ∃ a dx fs, x = .ref a ∧ H1 a = some (.ins C dx fs) ∧ sp (.ref a :: dvs) H1 (fun v H' => ∃ y : Str, v = .str y ∧ y.length ≤ sizeLine ∧ Q (.str y) H') E0
theorem pe_fmtRO (D : Mtn X.prog X.w X.K X.mg X.base C "__repr__" k ps dvs sp) (hr : RoomG (k + 1) X.A) (he : PE X e te) : PE X (.FormattedValue e 114 none pos) (tFmtRO C sp dvs te) := by
  obtain ⟨f, fd, ds, c, hm, F, hb, hd⟩ := D.ex
  refine ⟨fun pins s σ H Q I h => ?_⟩
  refine wpAny_FormattedValue_repr (thn (he.run pins s σ H _ I h) fun v s1 hv => ?_)
  obtain ⟨x, H1, I1, r1, q⟩ := hv
  rcases q with ⟨rfl, q⟩ | ⟨a, dx, fs, rfl, ea, q⟩
  · obtain rfl : v = Value.none := r1
    exact pyReprObj_none (wpAny_formatField_str ⟨.str "None", H1, I1.tok _, ⟨_, rfl⟩, q⟩ ⟨.str "None", H1, (I1.tok _).tok _, ⟨_, rfl⟩, q⟩ (by rw [sizeLine_eq]; decide +kernel))
  · obtain rfl : v = Value.ref a := r1
    obtain ⟨ox, od, J⟩ := insAt I1 ea
    have hu : X.A.units < cLine := by
      have := hr.units
      omega
    refine reprObj_K hu I1.kIn J hm.at_ hm.fn (wpAny_mono (goIn (us := [.ref a]) (vs := [.ref a]) F (hr.mono (by omega)) I1.env0 hb hd I1 (.cons rfl .nil) q) (fun w s2 hw => ?_) fun _ _ z => z)
    obtain ⟨t, H2, I2, rt, y, rfl, hy, q1⟩ := hw
    obtain ⟨tk, rfl⟩ := (show ∃ tk, w = Value.str y tk from rt)
    exact ⟨y, tk, rfl, wpAny_formatField_str ⟨.str y, H2, I2, ⟨_, rfl⟩, q1⟩ ⟨.str y, H2, I2.tok _, ⟨_, rfl⟩, q1⟩ hy⟩
/-- the same where no quiet is asked (in a __repr__ that a list's repr may call) -/
theorem pe_fmtRU (D : MtO X.prog X.w X.K X.mg X.base C "__repr__" k ps dvs sp) (hr : Room k X.A) (he : PE X e te) : PE X (.FormattedValue e 114 none pos) (tFmtRO C sp dvs te) := by
  obtain ⟨f, fd, ds, c, hm, F, hb, hd⟩ := D.ex
  refine ⟨fun pins s σ H Q I h => ?_⟩
  refine wpAny_FormattedValue_repr (thn (he.run pins s σ H _ I h) fun v s1 hv => ?_)
  obtain ⟨x, H1, I1, r1, q⟩ := hv
  rcases q with ⟨rfl, q⟩ | ⟨a, dx, fs, rfl, ea, q⟩
  · obtain rfl : v = Value.none := r1
    exact pyReprObj_none (wpAny_formatField_str ⟨.str "None", H1, I1.tok _, ⟨_, rfl⟩, q⟩ ⟨.str "None", H1, (I1.tok _).tok _, ⟨_, rfl⟩, q⟩ (by rw [sizeLine_eq]; decide +kernel))
  · obtain rfl : v = Value.ref a := r1
    obtain ⟨ox, od, J⟩ := insAt I1 ea
    have hl : ([Value.ref a] ++ ds).length = ps.length := by
      have z := F.len _ _ _ _ q
      have y := hd.length
      simp only [List.length_cons, List.length_append, List.length_nil] at z ⊢
      omega
    refine reprObj_K hr.units0 I1.kIn J hm.at_ hm.fn (wpAny_call (codeAny_mono (F.run X.A X.stack s1 H1 ⟨[.ref a], []⟩ (.ref a :: ds) (.ref a :: dvs) _ E0 hr I1.env0 (hb _ [.ref a] I1.kIn hl) (.cons rfl hd) q) ?_))
    intro r s' hq
    cases r with
    | error er => exact (show False from hq).elim
    | ok fl => cases fl with
      | ret u =>
        obtain ⟨v, H', I3, rv, y, rfl, hy, q1⟩ := I1.after hq
        obtain ⟨tk, rfl⟩ := (show ∃ tk, u = Value.str y tk from rv)
        exact ⟨y, tk, rfl, wpAny_formatField_str ⟨.str y, H', I3, ⟨_, rfl⟩, q1⟩ ⟨.str y, H', I3.tok _, ⟨_, rfl⟩, q1⟩ hy⟩
      | next => exact False.elim hq
      | brk => exact False.elim hq
      | cont => exact False.elim hq
end
end My

namespace My
open PySem L2 PySem.Spec PyProof.Rows PySem.W PySem.SeqAt AutoSeq1 MeetsSeq MeetsSeq2 MeetsSeq3 SeqRoads2
/-! ### x in a tuple, the items' == by promises that keep an invariant -/
theorem tuple_containsP {prog : Program} {w : World} {A : Around} {R : Result → Shared → Prop} {s : Shared} {l : Addr} {items : Array Value} {n : Nat} {dd : Option Addr} {sl : Array (Option Value)} {x : Value} (e : Value → Bool) (J : Shared → Prop)
    (hl : s.heap.get? l = some { cls := .type "tuple", dict := dd, data := .seq items n, slots := sl }) (hJ : J s)
    (he : ∀ y, y ∈ items → ∀ s1, J s1 → ∀ Q : Bool → Shared → Prop, (∀ s2, J s2 → Q (e y) s2) → wpAny (model prog w) A (eqBool y x) Q (fun e s' => R (.error e) s') s1)
    (hR : ∀ s', J s' → R (.ok (.ret (.bool (items.any e)))) s') :
    wpAny (model prog w) A (Builtin.«tuple.__contains__» ⟨[.ref l, x], []⟩) (fun fin s' => ∃ v, fin = .done (.ret v) ∧ R (.ok (.ret v)) s') (fun e s' => R (.error e) s') s := by
  have hmem0 : ∀ y, y ∈ items.toList → y ∈ items := fun y hy => by simpa using hy
  obtain ⟨hp, g, d, tk, os⟩ := s
  wp_walk using wpAny_loadPart' hl, wpAny_forIn_array _ (fun rest b s' => b.1 = none ∧ J s' ∧ (∀ y, y ∈ rest → y ∈ items) ∧ ∀ s2, J s2 → R (.ok (.ret (.bool (rest.any e)))) s2) _
  case turn =>
    rintro y rest b s' ⟨hb, hj, hmem, hR⟩
    refine wpAny_bind (he y (hmem y (List.mem_cons_self ..)) s' hj _ (fun s2 j2 => ?_))
    cases hy : e y with
    | true =>
      have hR := hR s2 j2
      rw [List.any_cons, hy] at hR
      wp_walk
      exact ⟨_, rfl, by simpa using hR⟩
    | false =>
      wp_walk
      exact ⟨rfl, j2, fun z hz => hmem z (List.mem_cons_of_mem _ hz), fun s3 j3 => by
        have := hR s3 j3
        rw [List.any_cons, hy] at this
        simpa using this⟩
  case fin =>
    rintro ⟨b1, b2⟩ s' ⟨hb, hj, -, hR⟩
    simp only at hb
    subst hb
    wp_walk
    exact ⟨_, rfl, by simpa using hR s' hj⟩
  case h =>
    exact ⟨rfl, hJ, hmem0, fun s2 j2 => by simpa using hR s2 j2⟩
theorem str_eq_dict (b : Str) (u : Tok) (l : Addr) (es : Array DictEntry) (n : Nat) (dd : Option Addr) (sl : Array (Option Value)) : Meets (Builtin.«str.__eq__» ⟨[.str b u, .ref l], []⟩) (fun _ R s => s.heap.get? l = some { cls := .type "dict", dict := dd, data := .dict es n, slots := sl } ∧ R (.ok (.ret Value.notImplemented)) s) :=
  .of_wp fun prog w A R s h => by
    obtain ⟨hp, g, d, tk, os⟩ := s
    obtain ⟨hl, h⟩ := h
    wp_walk
    exact ⟨_, rfl, h⟩
theorem dict_eq_str (b : Str) (u : Tok) (l : Addr) (es : Array DictEntry) (n : Nat) (dd : Option Addr) (sl : Array (Option Value)) : Meets (Builtin.«dict.__eq__» ⟨[.ref l, .str b u], []⟩) (fun _ R s => s.heap.get? l = some { cls := .type "dict", dict := dd, data := .dict es n, slots := sl } ∧ R (.ok (.ret Value.notImplemented)) s) :=
  .of_wp fun prog w A R s h => by
    have q : wpAny (model prog w) A.in1 (isSubtype (.type "str") (.type "dict")) (fun b s' => b = false ∧ s' = s) (fun e s' => R (.error e) s') s := wpAny_of_eq F.sub_str_dict ⟨rfl, rfl⟩
    obtain ⟨hp, g, d, tk, os⟩ := s
    obtain ⟨hl, h⟩ := h
    wp_walk
    refine wpAny_mono q (fun b s' z => ?_) fun _ _ z => z
    obtain ⟨rfl, rfl⟩ := z
    wp_walk
    exact ⟨_, rfl, h⟩
theorem eqAt_str_dict {A : Around} {s : Shared} {l : Addr} {es : Array DictEntry} {n : Nat} {dd : Option Addr} {sl : Array (Option Value)} (b : Str) (u : Tok) (ho : s.heap.get? l = some { cls := .type "dict", dict := dd, data := .dict es n, slots := sl }) (hu : A.units < cLine) : EqAt A s (.str b u) (.ref l) false := fun prog w E Q h => by
  unfold eqBool
  refine wpAny_holding ?_
  refine wpAny_ite_split (fun hab => absurd (eq_of_beq hab) nofun) (fun _ => ?_)
  refine wpAny_bind ?_
  exact rc_eq_decline_or (k := false) (typeIs_str s b u) ⟨_, ho, rfl⟩ (by decide) F.sub_dict_str F.slot_str_eq F.slot_dict_eq_refl
    (fun _ hq => call_meets F.slot_str_eq (typeIs_str s b u) F.entry_str_eq (F.args_str_eq_2 _ _) (str_eq_dict b u l es n dd sl) ⟨ho, hq⟩)
    (fun _ hq => call_meets F.slot_dict_eq_refl ⟨_, ho, rfl⟩ F.entry_dict_eq (F.args_dict_eq_2 _ _) (dict_eq_str b u l es n dd sl) ⟨ho, hq⟩)
    (fun _ hq => wpAny_of_eq (rfl : isSame (.str b u) (.ref l) = pure false) hq) (.inr hu) (wpAny_truthy_bool h)
/-- x in a tuple of texts, x data or an own object that is no text -/
def rInT (K : Frag) (L : OwnL) : R2 := fun x y H Q => ∃ (t : Addr) (zs : List Str), y = .ref t ∧ SqT K H t (zs.map V.str) ∧
  ((flatV x = true ∧ Q (.bl (inV x (zs.map V.str))) H) ∨
   ((∃ a : Addr, x = .ref a ∧ ((∃ xs, H a = some (.lst xs)) ∨ (∃ xs, H a = some (.tup xs)) ∨ ∃ kvs, H a = some (.dK kvs))) ∧ Q (.bl false) H) ∨
   (∃ (p : Addr × Sp) (b dx : Addr) (fs : List (Str × V)), p ∈ L ∧ x = .ref b ∧ H b = some (.ins p.1 dx fs) ∧ (∀ z ∈ zs, ∀ H1, L2.Same H H1 → ∀ Q1 : VK, (∀ H2, L2.Same H1 H2 → Q1 (.bl false) H2) → p.2 [.ref b, .str z] H1 Q1 E0) ∧ ∀ H', L2.Same H H' → Q (.bl false) H'))
theorem vals_str {zs : List Str} {us : List Value} (r : Vals (zs.map V.str) us) : ∀ u ∈ us, ∃ z ∈ zs, ∃ k, u = .str z k := by
  induction zs generalizing us with
  | nil => cases r; exact fun u hu => by cases hu
  | cons z zs ih =>
    cases r with
    | cons r1 r2 =>
      intro u hu
      rcases List.mem_cons.mp hu with rfl | hu
      · obtain ⟨k, e⟩ := (show ∃ k, _ = Value.str z k from r1)
        exact ⟨z, List.mem_cons_self, k, e⟩
      · obtain ⟨z', hz, k, e⟩ := ih r2 u hu
        exact ⟨z', List.mem_cons_of_mem _ hz, k, e⟩
section
variable {X : Cx} {K : Frag} {k : Nat} {L : OwnL}
theorem or_inT (h : X.K = K) (D : ∀ p ∈ L, Mtn X.prog X.w X.K X.mg X.base p.1 "__eq__" k ["self", "other"] [] p.2) (hb : ∀ p ∈ L, belowNo K p.1 = true) (hr : RoomG (k + 2) X.A) : OpR X (compareOp .In) (rInT K L) := by
  subst h
  intro pins s σ H x y v u Q I rx ry h
  obtain ⟨t, zs, rfl, hq, h⟩ := h
  obtain rfl : u = Value.ref t := ry
  have hu : X.A.units < cLine := by
    have := hr.units
    omega
  have hu1 : X.A.in1.units < cLine := by
    have := (hr.mono (show k + 1 ≤ k + 2 by omega)).in1.units
    omega
  have flat : (zs.map V.str).all flatV = true := by
    rw [List.all_map, List.all_eq_true]
    exact fun _ _ => rfl
  obtain ⟨its, r, pl, hz⟩ := I.tuple hq
  have none_any : its.toArray.any (fun _ => false) = false := by simp
  rcases h with ⟨fx, q⟩ | ⟨⟨a, rfl, ha⟩, q⟩ | ⟨p, b, dx, fs, hp, rfl, eb, z, q⟩
  · exact op_in_seq pins s σ H x (.ref t) v (.ref t) Q I rx rfl ⟨t, _, rfl, .inr hq, fx, flat, q⟩
  · obtain rfl : v = Value.ref a := rx
    refine SeqAt.in_tupleAt (fun _ => false) pl (fun w hw => ?_) ⟨.bl false, H, I, by rw [none_any]; rfl, q⟩
    obtain ⟨z, _, k, rfl⟩ := vals_str r w (by simpa using hw)
    rcases ha with ⟨xs, ea⟩ | ⟨xs, ea⟩ | ⟨kvs, ea⟩
    · obtain ⟨_, its2, n, _, h1⟩ := (show ObjOk X.prog X.w H s.heap a (.lst xs) from I.hok a _ ea)
      exact EqAt.str_list z k ⟨_, h1, rfl, n, rfl⟩ hu1
    · obtain ⟨_, its2, _, h1⟩ := (show ObjOk X.prog X.w H s.heap a (.tup xs) from I.hok a _ ea)
      exact EqAt.str_tuple z k h1 hu1
    · obtain ⟨_, _, vs, _, o, es, ep, h1, ⟨h2, _, _⟩, h3, _⟩ := (show ObjOk X.prog X.w H s.heap a (.dK kvs) from I.hok a _ ea)
      obtain ⟨cls, dd, data, sl⟩ := o
      simp only at h2 h3
      subst h2 h3
      exact eqAt_str_dict z k h1 hu1
  · obtain rfl : v = Value.ref b := rx
    obtain ⟨f, fd, ds, c, hm, FF, hbd, hd⟩ := (D p hp).ex
    cases hd
    obtain ⟨o, h1, h2, n, h3⟩ := pl
    obtain ⟨cls, dd, data, sl⟩ := o
    simp only at h2 h3
    subst h2 h3
    show wpAny (model X.prog X.w) X.A (do return Value.bool (← contains (.ref t) (.ref b)) : Sem Value) (EP X pins σ Q) X.xe s
    refine wpAny_bind (wpAny_contains_slot ⟨_, h1, rfl⟩ F.slot_tuple_contains (wpAny_call (codeAny_call_builtin F.slot_tuple_contains.plain F.entry_tuple_contains (F.slot_tuple_contains.check _ _ _ _ _ _ _ _ ⟨_, h1, rfl⟩ (F.args_tuple_contains_2 _ _) ?_))))
    refine wpAny_mono (tuple_containsP (fun _ => false) (fun s' => ∃ H', Inv X pins σ H' s' ∧ L2.Same H H') (R := wants (fun v s' => wpAny (model X.prog X.w) X.A (truthy v) (fun b s'' => wpAny (model X.prog X.w) X.A (pure (Value.bool b)) (EP X pins σ Q) X.xe s'') X.xe s') X.xe) h1 ⟨H, I, L2.Same.refl H⟩ (fun w hw s1 ⟨H1, I1, S1⟩ QQ hQ => ?_) (fun s' ⟨H', I', S'⟩ => ?_)) (fun fin s' z => ?_) fun _ _ z => z
    · obtain ⟨z0, hz0, k0, rfl⟩ := vals_str r w (by simpa using hw)
      have eb1 := S1 _ _ eb
      obtain ⟨od, J⟩ := insAt' I1 eb1
      unfold eqBool
      refine wpAny_holding ?_
      refine wpAny_ite_split (fun hab => absurd (eq_of_beq hab) nofun) (fun _ => ?_)
      refine wpAny_bind ?_
      refine eq_back hu1 I1.kIn J (typeIs_str s1 z0 k0) F.slot_str_eq (belowNo_at (hb p hp) (by decide +kernel)) (call_meets F.slot_str_eq (typeIs_str s1 z0 k0) F.entry_str_eq (F.args_str_eq_2 _ _) (str_eq_own z0 k0 b p.1 dx) ⟨J.at_, rfl, rfl⟩) hm.at_ hm.fn ?_
      refine wpAny_mono (goIn (us := [.ref b, .str z0 k0]) (vs := [.ref b, .str z0]) FF ((hr.mono (show k + 1 ≤ k + 2 by omega)).in1) I1.env0.in1 hbd .nil I1 (.cons rfl (.cons ⟨_, rfl⟩ .nil)) (z z0 hz0 H1 S1 (fun v H' => v = .bl false ∧ L2.Same H1 H') fun H2 s2 => ⟨rfl, s2⟩)) (fun w s2 hw => ?_) fun _ _ z => z
      obtain ⟨t2, H2, I2, rt, rfl, S2⟩ := hw
      obtain rfl : w = Value.bool false := rt
      exact wpAny_truthy_bool (hQ s2 ⟨H2, I2, S1.trans S2⟩)
    · show wpAny _ _ _ _ _ _
      rw [none_any]
      exact wpAny_truthy_bool (wpAny_pure ⟨.bl false, H', I', rfl, q H' S'⟩)
    · obtain ⟨v, rfl, z⟩ := z
      exact z
end
end My

namespace My
open PySem L2 PySem.Spec PyProof.Rows PySem.W
/-! ### f(k = x): a def of the program called by keywords alone -/
structure DnXk (P : Program) (w : World) (K : PySem.W.Frag) (mg : Str → Option Value) (base : Heap) (x : Str) (k : Nat) (ks : List Str) (gV : List V → List V → List V) (sp : Sp) : Prop where
  ex : ∃ (f : Addr) (fd : FuncData) (ps : List Str) (g : List Value → List Value → List Value), mg x = some (.ref f) ∧ PySem.W.keepIn K (.ref f) = true ∧ FnG P w K mg base (L2.CX P w) k f fd ps sp ∧ KBn K fd ps 0 ks g gV
section
variable {X : Cx} {k : Nat} {sp : Sp} {W : WX} {pos p : Pos}
theorem pe_callXk {x : Str} {ks : List Str} {gV : List V → List V → List V} {tq : TA} {kws : List Keyword} (D : DnXk X.prog X.w X.K X.mg X.base x k ks gV sp) (tk : Takes X W) (hr : RoomG k X.A) (hg : Gl X x) (hkw : PK X kws tq)
    (hall : (backToKw pos (keywordEach kws X.env)).all (·.1.isSome) = true := by rfl) (hks : (backToKw pos (keywordEach kws X.env)).filterMap (·.1) = ks := by rfl)
    (hpl : ((backTo pos (starEach [] X.env)).any (fun q => q.1) || (backToKw pos (keywordEach kws X.env)).any (fun q => q.1.isNone)) = false := by rfl) (hdb : (x == ("__debug__" : Str)) = false := by decide) :
    PE X (.Call (.Name x p) [] kws pos) (tStaXk ks.length sp gV W tq) := by
  obtain ⟨f, fd, ps, g, hm, hk, F, hb⟩ := D.ex
  constructor
  intro pins s σ H Q I h
  refine wpAny_Call_Name_kw (ld_glob I hg hm ?_ hdb)
  refine PySem.W.callWith_KW0 (first := []) (h₀ := X.base) I.ok.mod.kin hk hall ?_ hpl
  refine thn (hkw.run pos pins s σ H _ I h) fun ws s2 ⟨zs, H2, I2, rz, l2, q2⟩ => ⟨I2.kIn, ?_⟩
  rw [hks]
  refine wpAny_call (codeAny_mono (F.go X.A X.stack s2 H2 ⟨[], ks.zip ws⟩ (g [] ws) (gV [] zs) Q (WE W σ) hr I2.env0 (hb.to s2 [] ws I2.kIn rfl (rz.length.symm.trans l2)) (hb.rel .nil rz) q2) fun r s' hq => ?_)
  cases r with
  | error er => exact passAt tk σ pins H2 s2 er s' I2 hq
  | ok fl => cases fl with
    | ret u => exact I2.after hq
    | next => exact (show False from hq).elim
    | brk => exact (show False from hq).elim
    | cont => exact (show False from hq).elim
end
/-- .. one that raises nothing -/
structure DnK (P : Program) (w : World) (K : PySem.W.Frag) (mg : Str → Option Value) (base : Heap) (x : Str) (k : Nat) (ks : List Str) (gV : List V → List V → List V) (sp : Sp) : Prop where
  ex : ∃ (f : Addr) (fd : FuncData) (ps : List Str) (g : List Value → List Value → List Value), mg x = some (.ref f) ∧ PySem.W.keepIn K (.ref f) = true ∧ FnG P w K mg base CX0 k f fd ps sp ∧ KBn K fd ps 0 ks g gV
def tKw (l : Nat) (sp : Sp) (gV : List V → List V → List V) (tq : TA) : TE := fun σ H Q => tq σ H fun zs H1 => zs.length = l ∧ sp (gV [] zs) H1 Q E0
theorem s_kw {l : Nat} {sp : Sp} {gV : List V → List V → List V} {tk : TA} {σ : L2.St} {H : Hp} {Q : VK} (h : tk σ H fun zs H1 => zs.length = l ∧ sp (gV [] zs) H1 Q E0) : tKw l sp gV tk σ H Q := h
section
variable {X : Cx} {k : Nat} {sp : Sp} {pos p : Pos}
theorem pe_callK0 {x : Str} {ks : List Str} {gV : List V → List V → List V} {tq : TA} {kws : List Keyword} (D : DnK X.prog X.w X.K X.mg X.base x k ks gV sp) (hr : RoomG k X.A) (hg : Gl X x) (hkw : PK X kws tq)
    (hall : (backToKw pos (keywordEach kws X.env)).all (·.1.isSome) = true := by rfl) (hks : (backToKw pos (keywordEach kws X.env)).filterMap (·.1) = ks := by rfl)
    (hpl : ((backTo pos (starEach [] X.env)).any (fun q => q.1) || (backToKw pos (keywordEach kws X.env)).any (fun q => q.1.isNone)) = false := by rfl) (hdb : (x == ("__debug__" : Str)) = false := by decide) :
    PE X (.Call (.Name x p) [] kws pos) (tKw ks.length sp gV tq) := by
  obtain ⟨f, fd, ps, g, hm, hk, F, hb⟩ := D.ex
  constructor
  intro pins s σ H Q I h
  refine wpAny_Call_Name_kw (ld_glob I hg hm ?_ hdb)
  refine PySem.W.callWith_KW0 (first := []) (h₀ := X.base) I.ok.mod.kin hk hall ?_ hpl
  refine thn (hkw.run pos pins s σ H _ I h) fun ws s2 ⟨zs, H2, I2, rz, l2, q2⟩ => ⟨I2.kIn, ?_⟩
  rw [hks]
  exact goKw (us := []) (vs := []) F hr hb I2 .nil rz rfl l2 q2
end
section
variable {P : Program} {w : World} {K : PySem.W.Frag} {mg : Str → Option Value} {base : Heap} {x qual : Str} {params : Arguments} {body : List Stmt} {scope : Scope} {k : Nat} {ps : List Str} {sp : Sp}
/-- f(k = x) of one parameter -/
theorem dnK1 {y a : Str} (e : ∃ (f : Addr) (fd : FuncData), FunD K x qual params body scope [] [] f fd ∧ mg y = some (.ref f)) (ok : ∀ {f : Addr} {fd : FuncData}, FunD K x qual params body scope [] [] f fd → FnG P w K mg base CX0 k f fd [a] sp)
    (h : ∀ (kV doc pm : Value) (an : Option Addr) (cdv ct : Value) (us ws : List Value), us.length = 0 → ws.length = 1 → bindArgs (PySem.W.fnOf x qual params body scope .none kV doc pm an cdv ct) ⟨us, [a].zip ws⟩ = Pure.pure ([a].zip (us ++ ws))) : DnK P w K mg base y k [a] (fun vs zs => vs ++ zs) sp := by
  obtain ⟨f, fd, F, hm⟩ := e
  exact ⟨f, fd, _, _, hm, F.kp, ok F, kbn0 F 0 [a] (fun vs zs => vs ++ zs) (fun r1 r2 => r1.append r2) h⟩
theorem dnXk1 {y a : Str} (e : ∃ (f : Addr) (fd : FuncData), FunD K x qual params body scope [] [] f fd ∧ mg y = some (.ref f)) (ok : ∀ {f : Addr} {fd : FuncData}, FunD K x qual params body scope [] [] f fd → FnG P w K mg base (L2.CX P w) k f fd [a] sp)
    (h : ∀ (kV doc pm : Value) (an : Option Addr) (cdv ct : Value) (us ws : List Value), us.length = 0 → ws.length = 1 → bindArgs (PySem.W.fnOf x qual params body scope .none kV doc pm an cdv ct) ⟨us, [a].zip ws⟩ = Pure.pure ([a].zip (us ++ ws))) : DnXk P w K mg base y k [a] (fun vs zs => vs ++ zs) sp := by
  obtain ⟨f, fd, F, hm⟩ := e
  exact ⟨f, fd, _, _, hm, F.kp, ok F, kbn0 F 0 [a] (fun vs zs => vs ++ zs) (fun r1 r2 => r1.append r2) h⟩
end
/-! ### repr of an own object of some class -/
def rReprOA (L : OwnL) : List V → Hp → VK → Prop := fun xs H Q => ∃ (p : Addr × Sp) (b dx : Addr) (fs : List (Str × V)), p ∈ L ∧ xs = [.ref b] ∧ H b = some (.ins p.1 dx fs) ∧ p.2 [.ref b] H (fun v H' => ∃ y : Str, v = .str y ∧ Q (.str y) H') E0
theorem call_reprOA {X : Cx} {L : OwnL} {k : Nat} (D : ∀ p ∈ L, MtO X.prog X.w X.K X.mg X.base p.1 "__repr__" k ["self"] [] p.2) (hr : RoomG (k + 1) X.A) : CallR X (.builtin "repr") (rReprOA L) := by
  intro pins s σ H xs us Q I r h
  obtain ⟨p, b, dx, fs, hp, rfl, eb, q⟩ := h
  obtain ⟨f, fd, ds, c, hm, F, hb, hd⟩ := (D p hp).ex
  exact call_reprO (X := X) (dvs := []) ⟨f, fd, ds, c, hm, FnG.of F, hb, hd⟩ hr pins s σ H _ us Q I r ⟨b, dx, fs, rfl, eb, q⟩
theorem MtO.up {P : Program} {w : World} {K : PySem.W.Frag} {mg : Str → Option Value} {base : Heap} {C : Addr} {m : Str} {k k' : Nat} {ps : List Str} {dvs : List V} {sp : Sp} (D : MtO P w K mg base C m k ps dvs sp) (h : k ≤ k') : MtO P w K mg base C m k' ps dvs sp := by
  obtain ⟨f, fd, ds, c, hm, F, hb, hd⟩ := D.ex
  exact ⟨f, fd, ds, c, hm, ⟨F.len, fun A outer s H args us vs Q E hr => F.run A outer s H args us vs Q E (hr.mono h)⟩, hb, hd⟩
section
open PySem.Calls Builtin L2H
variable {X : Cx} {k : Nat} {e : Expr} {te : TE} {pos : Pos} {C : Addr} {sp : Sp}
/-- {x!r} where an exception is handled -/
theorem pe_fmtRN (D : MtH X.prog X.w X.K X.mg X.base C "__repr__" k ["self"] sp) (hr : RoomH k X.A) (hc : ∃ p, p ∈ X.pn) (he : PE X e te) : PE X (.FormattedValue e 114 none pos) (tFmtRO C sp [] te) := by
  obtain ⟨f, fd, c, hm, F, hb⟩ := D.ex
  refine ⟨fun pins s σ H Q I h => ?_⟩
  refine wpAny_FormattedValue_repr (thn (he.run pins s σ H _ I h) fun v s1 hv => ?_)
  obtain ⟨x, H1, I1, r1, q⟩ := hv
  rcases q with ⟨rfl, q⟩ | ⟨a, dx, fs, rfl, ea, q⟩
  · obtain rfl : v = Value.none := r1
    exact pyReprObj_none (wpAny_formatField_str ⟨.str "None", H1, I1.tok _, ⟨_, rfl⟩, q⟩ ⟨.str "None", H1, (I1.tok _).tok _, ⟨_, rfl⟩, q⟩ (by rw [sizeLine_eq]; decide +kernel))
  · obtain rfl : v = Value.ref a := r1
    obtain ⟨ox, od, J⟩ := insAt I1 ea
    have hu : X.A.units < cLine := by
      have := hr.un
      omega
    refine reprObj_K hu I1.kIn J hm.at_ hm.fn (wpAny_mono (goN (us := [.ref a]) (vs := [.ref a]) F hr hc hb I1 (.cons rfl .nil) q) (fun w s2 hw => ?_) fun _ _ z => z)
    obtain ⟨t, H2, I2, rt, y, rfl, hy, q1⟩ := hw
    obtain ⟨tk, rfl⟩ := (show ∃ tk, w = Value.str y tk from rt)
    exact ⟨y, tk, rfl, wpAny_formatField_str ⟨.str y, H2, I2, ⟨_, rfl⟩, q1⟩ ⟨.str y, H2, I2.tok _, ⟨_, rfl⟩, q1⟩ hy⟩
theorem MtH.up {P : Program} {w : World} {K : PySem.W.Frag} {mg : Str → Option Value} {base : Heap} {C : Addr} {m : Str} {k k' : Nat} {ps : List Str} {sp : Sp} (D : MtH P w K mg base C m k ps sp) (h : k ≤ k') : MtH P w K mg base C m k' ps sp := by
  obtain ⟨f, fd, c, hm, F, hb⟩ := D.ex
  exact ⟨f, fd, c, hm, ⟨F.len, fun A outer s H args us vs Q E p hr => F.run A outer s H args us vs Q E p (hr.mono h)⟩, hb⟩
end
end My

namespace My
open PySem L2 PySem.Spec PySem.Calls PyProof.Rows PySem.W Builtin
/-! ### {x} of an own object by its __str__ -/
def tFmtO (C : Addr) (sp : Sp) (dvs : List V) (te : TE) : TE := fun σ H Q => te σ H fun x H1 => ∃ a dx fs, x = .ref a ∧ H1 a = some (.ins C dx fs) ∧ sp (.ref a :: dvs) H1 (fun v H' => ∃ y : Str, v = .str y ∧ Q (.str y) H') E0
theorem pe_fmtO {X : Cx} {k : Nat} {e : Expr} {te : TE} {pos : Pos} {C : Addr} {ps : List Str} {sp : Sp} {dvs : List V} (D : Mtn X.prog X.w X.K X.mg X.base C "__str__" k ps dvs sp) (hfm : findIn X.K (.ref C) "__format__" = some (some (.builtin "object.__format__"))) (hmo : mroIn X.K C (.type "object") = some true) (hr : RoomG (k + 1) X.A) (he : PE X e te) : PE X (.FormattedValue e (-1) none pos) (tFmtO C sp dvs te) := by
  obtain ⟨f, fd, ds, c, hm, F, hb, hd⟩ := D.ex
  refine ⟨fun pins s σ H Q I h => ?_⟩
  refine wpAny_FormattedValue_plain (thn (he.run pins s σ H _ I h) fun v s1 hv => ?_)
  obtain ⟨x, H1, I1, r1, a, dx, fs, rfl, ea, q⟩ := hv
  obtain rfl : v = Value.ref a := r1
  have I2 : Inv X pins σ H1 { s1 with toks := s1.toks + 1 } := I1.tok _
  obtain ⟨ox, od, J⟩ := insAt I1 ea
  have hu : X.A.in1.units < cLine := by
    have := hr.in1.units
    omega
  refine kfo_fieldS hu I1.kIn J hfm hmo hm.at_ hm.fn (wpAny_mono (goIn (us := [.ref a]) (vs := [.ref a]) F hr.in1 I2.env0.in1 hb hd I2 (.cons rfl .nil) q) (fun w s2 hw => ?_) fun _ _ z => z)
  obtain ⟨t, H2, I3, rt, y, rfl, q1⟩ := hw
  obtain ⟨tk, rfl⟩ := (show ∃ tk, w = Value.str y tk from rt)
  exact ⟨.str y, H2, I3, ⟨_, rfl⟩, q1⟩
end My

namespace My
open PySem L2 PySem.Spec PyProof.Rows PySem.W
/-! ### an expression by either of two readings; a raising method by keywords -/
theorem pe_either {X : Cx} {e : Expr} {ta tb : TE} (ha : PE X e ta) (hb : PE X e tb) : PE X e (fun σ H Q => ta σ H Q ∨ tb σ H Q) := by
  refine ⟨fun pins s σ H Q I h => ?_⟩
  rcases h with h | h
  · exact ha.run pins s σ H Q I h
  · exact hb.run pins s σ H Q I h
structure MtkX (P : Program) (w : World) (K : PySem.W.Frag) (mg : Str → Option Value) (base : Heap) (C : Addr) (m : Str) (k : Nat) (n : Nat) (ks : List Str) (gV : List V → List V → List V) (sp : Sp) : Prop where
  ex : ∃ (f : Addr) (fd : FuncData) (ps : List Str) (g : List Value → List Value → List Value), Cls K C ∧ Meth K C m f ∧ FnG P w K mg base (L2.CX P w) k f fd ps sp ∧ KBn K fd ps n ks g gV
theorem MtkX.calm {P : Program} {w : World} {K : PySem.W.Frag} {mg : Str → Option Value} {base : Heap} {C : Addr} {m : Str} {k n : Nat} {ks : List Str} {gV : List V → List V → List V} {sp : Sp} (D : MtkX P w K mg base C m k n ks gV sp) : Mtk P w K mg base C m k n ks gV (fun vs H Q _ => sp vs H Q E0) := by
  obtain ⟨f, fd, ps, g, c, hm, F, hb⟩ := D.ex
  exact ⟨f, fd, ps, g, c, hm, F.calm, hb⟩
section
variable {X : Cx} {k : Nat} {C : Addr} {sp : Sp} {m : Str} {ks : List Str} {gV : List V → List V → List V} {pos apos : Pos} {o : Expr} {kws : List Keyword} {ta : TE} {tk : TA} {W : WX}
def tMethKX (C : Addr) (m : Str) (l : Nat) (sp : Sp) (gV : List V → List V → List V) (W : WX) (ta : TE) (tk : TA) : TE := fun σ H Q => ta σ H fun y H1 => ∃ a dx fs, y = .ref a ∧ H1 a = some (.ins C dx fs) ∧ fs.lookup m = none ∧ tk σ H1 fun zs H2 => zs.length = l ∧ sp (gV [.ref a] zs) H2 Q (WE W σ)
theorem pe_methKX {pl : Sem Bool} (D : MtkX X.prog X.w X.K X.mg X.base C m k 1 ks gV sp) (tk' : Takes X W) (he : PE X o ta) (hr : RoomG k X.A) (hkw : PK X kws tk) (hall : (backToKw pos (keywordEach kws X.env)).all (·.1.isSome) = true := by rfl) (hks : (backToKw pos (keywordEach kws X.env)).filterMap (·.1) = ks := by rfl)
    (hpl : ((backTo pos (starEach [] X.env)).any (fun q => q.1) || (backToKw pos (keywordEach kws X.env)).any (fun q => q.1.isNone)) = false := by rfl)
    (h3 : eval (.Call (.Attribute o m apos) [] kws pos) X.env = (do
      let v ← eval o X.env
      standAt apos.atName
      let (g, fst) ← holding [v] (getMethod v m pl)
      callWith pos g fst (backTo pos (starEach [] X.env)) (backToKw pos (keywordEach kws X.env))) := by rfl) : PE X (.Call (.Attribute o m apos) [] kws pos) (tMethKX C m ks.length sp gV W ta tk) := by
  obtain ⟨f, fd, ps, g, c, hm, F, hb⟩ := D.ex
  constructor
  intro pins s σ H Q I h
  refine PySem.W.methodCall_KW (pl := pl) (thn (he.run pins s σ H _ I h) ?_) h3
  rintro u s1 ⟨y, H1, I1, ry, a, dx, fs, rfl, ea, l, q⟩
  obtain rfl : u = Value.ref a := ry
  refine getmeth_ok I1 ea c hm l ?_
  refine PySem.W.callWith_KW0 (first := [.ref a]) (h₀ := X.base) I1.ok.mod.kin hm.kp hall ?_ hpl
  refine thn (hkw.run pos pins s1 σ H1 _ I1 q) fun ws s2 ⟨zs, H2, I2, rz, l2, q2⟩ => ⟨I2.kIn, ?_⟩
  rw [hks]
  have r1 : Vals [V.ref a] [Value.ref a] := .cons rfl .nil
  refine wpAny_call (codeAny_mono (F.go X.A X.stack s2 H2 ⟨[.ref a], ks.zip ws⟩ (g [.ref a] ws) (gV [.ref a] zs) Q (WE W σ) hr I2.env0 (hb.to s2 [.ref a] ws I2.kIn rfl (rz.length.symm.trans l2)) (hb.rel r1 rz) q2) fun r s' hq => ?_)
  cases r with
  | error er => exact passAt tk' σ pins H2 s2 er s' I2 hq
  | ok fl => cases fl with
    | ret u => exact I2.after hq
    | next => exact (show False from hq).elim
    | brk => exact (show False from hq).elim
    | cont => exact (show False from hq).elim
theorem s_methKX {σ : L2.St} {H : Hp} {Q : VK} {l : Nat} (h : ta σ H fun y H1 => ∃ a dx fs, y = .ref a ∧ H1 a = some (.ins C dx fs) ∧ fs.lookup m = none ∧ tk σ H1 fun zs H2 => zs.length = l ∧ sp (gV [.ref a] zs) H2 Q (WE W σ)) : tMethKX C m l sp gV W ta tk σ H Q := h
end
end My

namespace My
open PySem L2 PySem.Spec PySem.Calls PyProof.Rows PySem.W Builtin
/-! ### sum of a list of ints and own objects -/
theorem goInE {X : Cx} {pins : List (Addr × Obj)} {σ : L2.St} {H : Hp} {s : Shared} {k : Nat} {f : Addr} {fd : FuncData} {ps : List Str} {sp : Sp} {dvs : List V} {ds : List Value} {A : Around} {Q : VK} {E : Value → Shared → Prop} {us : List Value} {vs : List V} (F : FnG X.prog X.w X.K X.mg X.base CX0 k f fd ps sp) (hr : RoomG k A) (e0 : Env0 X.prog X.w X.K X.mg X.base A X.stack s H) (hb : Binds X.K fd ps ds) (hd : Vals dvs ds)
    (I : Inv X pins σ H s) (r : Vals vs us) (h : sp (vs ++ dvs) H Q E0) : wpAny (model X.prog X.w) A (call (.ref f) us) (EP X pins σ Q) E s := by
  have r2 := r.append hd
  have hl : (us ++ ds).length = ps.length := r2.length.symm.trans (F.len _ _ _ _ h)
  refine wpAny_call (codeAny_mono (F.go A X.stack s H ⟨us, []⟩ (us ++ ds) _ Q E0 hr e0 (hb s us I.kIn hl) r2 h) ?_)
  intro r s' hq
  cases r with
  | error e => exact (show False from hq).elim
  | ok fl => cases fl with
    | ret u => exact I.after hq
    | next => exact (show False from hq).elim
    | brk => exact (show False from hq).elim
    | cont => exact (show False from hq).elim
/-- what sum does from a total on: ints, and own objects by __add__, __radd__ -/
def SumP (K : Frag) (L : List Addr) (C : Addr) (spA spR : Sp) : List V → V → Hp → VK → Prop
  | [], t, H, Q => Q t H
  | y :: r, t, H, Q =>
    (∃ a b : Int, t = .int a ∧ y = .int b ∧ SumP K L C spA spR r (.int (a + b)) H Q) ∨
    (∃ (x dx : Addr) (fs : List (Str × V)) (ty : Value), t = .ref x ∧ H x = some (.ins C dx fs) ∧ AnyV K L H y ty ∧ spA [.ref x, y] H (fun v H' => (∃ z, v = .ref z) ∧ L2.Same H H' ∧ SumP K L C spA spR r v H' Q) E0) ∨
    (∃ (a : Int) (b dx : Addr) (fs : List (Str × V)), t = .int a ∧ y = .ref b ∧ H b = some (.ins C dx fs) ∧ spR [.ref b, .int a] H (fun v H' => (∃ z, v = .ref z) ∧ L2.Same H H' ∧ SumP K L C spA spR r v H' Q) E0)
def rSumP (K : Frag) (L : List Addr) (C : Addr) (spA spR : Sp) : List V → Hp → VK → Prop := fun xs H Q => ∃ (l : Addr) (ys : List V), xs = [.ref l] ∧ H l = some (.lst ys) ∧ SumP K L C spA spR ys (.int 0) H Q
/-- a record of ours, not tracked -/
structure Rec (X : Cx) (pins : List (Addr × Obj)) (H : Hp) (a : Addr) : Prop where
  non : H a = none
  loc : a ≠ X.env.locals
  new : a ∈ X.ex ∨ X.s_0.heap.objs.size ≤ a
  cel : ∀ x c, X.env.cells.lookup x = some c → c ≠ a
  pin : ∀ p ∈ X.pn ++ pins, p.1 ≠ a
  fs : a ∉ X.fs
section
variable {X : Cx} {pins : List (Addr × Obj)} {σ : L2.St} {K : Frag} {L : List Addr} {C : Addr} {k k' : Nat} {spA spR : Sp} {psA psR : List Str}
theorem Inv.turnBut {H : Hp} {s : Shared} {h' : Heap} {a : Addr} {t' : Nat} (I : Inv X pins σ H s) (r : Rec X pins H a) (k : ∀ b o, b ≠ a → s.heap.get? b = some o → h'.get? b = some o) : Inv X pins σ H { s with heap := h', toks := t' } :=
  I.turned k r.non r.loc r.new r.cel r.pin
/-- a call of an own operator, two records pinned -/
theorem Inv.held {H : Hp} {s : Shared} {a b : Addr} {oa ob : Obj} (I : Inv X pins σ H s) (ra : Rec X pins H a) (rb : Rec X pins H b) (ea : s.heap.get? a = some oa) (eb : s.heap.get? b = some ob) (na : ∀ v, oa.data ≠ .cell v) (nb : ∀ v, ob.data ≠ .cell v) : Inv X ((a, oa) :: (b, ob) :: pins) σ H s :=
  I.pins_of fun p hp => by
    rcases List.mem_cons.mp hp with rfl | hp
    · exact ⟨ea, ra.non, ra.loc, ra.fs, na⟩
    · rcases List.mem_cons.mp hp with rfl | hp
      · exact ⟨eb, rb.non, rb.loc, rb.fs, nb⟩
      · exact I.pin p (List.mem_append_right _ hp)
theorem Inv.free2 {H : Hp} {s : Shared} {a b : Addr} {oa ob : Obj} (I : Inv X ((a, oa) :: (b, ob) :: pins) σ H s) : Inv X pins σ H s ∧ s.heap.get? a = some oa ∧ s.heap.get? b = some ob ∧ H a = none ∧ H b = none := by
  refine ⟨I.pins_of fun p hp => I.pin p (List.mem_append_right _ (List.mem_cons_of_mem _ (List.mem_cons_of_mem _ hp))), ?_, ?_, ?_, ?_⟩
  · exact (I.pin (a, oa) (by simp)).1
  · exact (I.pin (b, ob) (by simp)).1
  · exact (I.pin (a, oa) (by simp)).2.1
  · exact (I.pin (b, ob) (by simp)).2.1
def SumR (X : Cx) (pins : List (Addr × Obj)) (σ : L2.St) (Q : VK) : Result → Shared → Prop := fun r s' => match r with
  | .ok (.ret v) => EP X pins σ Q v s'
  | .ok _ => False
  | .error e => X.xe e s'
abbrev sumCode (I S : Addr) (st : Int) : Code := .builtin "sum.loop" ⟨[.ref I, .ref S, rawInt st, rawInt 0], []⟩
theorem sum_loopP (hK : X.K = K) (DA : Mtn X.prog X.w X.K X.mg X.base C "__add__" k psA [] spA) (DR : Mtn X.prog X.w X.K X.mg X.base C "__radd__" k' psR [] spR) (hoA : opsB K C "add" L = true) (hoR : reflOk K C "add" = true) (hr : RoomG (k + 1) X.A) (hr' : RoomG (k' + 1) X.A) (hc : X.calm = true) {l it S : Addr} {ys : List V} {Q : VK} (nIS : it ≠ S) :
    ∀ (r : List V) (i : Nat) (H : Hp) (s : Shared) (t : V) (u : Value) (c : Nat) (st : Int), (st = 2 ∨ (st = 0 ∧ ∃ a, t = .int a)) → ((∃ a, t = .int a) ∨ ∃ z, t = .ref z) → ys.drop i = r → Inv X pins σ H s → H l = some (.lst ys) → RelV t u → s.heap.IsListIter it l i → Rec X pins H it → s.heap.get? S = some { cls := .type "list", dict := none, data := .seq #[u] c, slots := #[] } → Rec X pins H S → SumP K L C spA spR r t H Q →
    codeAny (model X.prog X.w) X.A (sumCode it S st) (SumR X pins σ Q) s := by
  subst hK
  obtain ⟨fA, fdA, dsA, cA, hmA, FA, hbA, hdA⟩ := DA.ex
  obtain ⟨fR, fdR, dsR, cR, hmR, FR, hbR, hdR⟩ := DR.ex
  intro r
  induction r with
  | nil =>
    intro i H s t u c st hst ht hd I el ru hit rI hS rS q
    have hno : ys[i]? = none := by
      have := List.drop_eq_nil_iff.mp hd
      simpa using this
    obtain ⟨its, n, rv, hg, _⟩ := I.lst el
    refine codeAny_builtin F.entry_sum_loop ?_
    rw [Around.under_plainId F.plain_sum_loop _]
    show wpAny _ X.A.in1 (seqItems? (.ref S) >>= _) _ _ s
    refine wpAny_bind (wpAny_seqItems hS rfl ?_)
    show wpAny _ X.A.in1 (tryCatch (pyNext (.ref it)) _ >>= _) _ _ s
    refine wpAny_bind (wpAny_tryCatch (wpAny_pyNext_list_end (I.ok.hd hc) hit ⟨_, hg, rfl, n, rfl⟩ (by have := rv.length; simp; simp at hno; omega) fun h' he => ?_))
    have I1 : Inv X pins σ H { s with heap := h' } := Inv.turnBut (t' := s.toks) I rI fun b o hb e => he b o hb e
    rcases ht with ⟨a, rfl⟩ | ⟨z, rfl⟩
    · obtain ⟨k, rfl⟩ := (show ∃ k, u = Value.int a k from ru)
      exact wpAny_pure ⟨.int a, H, I1, ⟨_, rfl⟩, q⟩
    · obtain rfl : u = Value.ref z := ru
      exact wpAny_pure ⟨.ref z, H, I1, rfl, q⟩
  | cons y r ih =>
    intro i H s t u c st hst ht hd I el ru hit rI hS rS q
    have hlt : i < ys.length := by
      rcases Nat.lt_or_ge i ys.length with z | z
      · exact z
      · rw [List.drop_eq_nil_of_le z] at hd
        cases hd
    have hy : ys[i]? = some y := by
      have := List.getElem?_drop (xs := ys) (i := i) (j := 0)
      rw [hd] at this
      simpa using this.symm
    have hd' : ys.drop (i + 1) = r := by
      rw [← List.tail_drop, hd]
      rfl
    obtain ⟨its, n, rv, hg, _⟩ := I.lst el
    obtain ⟨v, hv, rY⟩ := rv.get hy
    refine codeAny_builtin F.entry_sum_loop ?_
    rw [Around.under_plainId F.plain_sum_loop _]
    show wpAny _ X.A.in1 (seqItems? (.ref S) >>= _) _ _ s
    refine wpAny_bind (wpAny_seqItems hS rfl ?_)
    show wpAny _ X.A.in1 (tryCatch (pyNext (.ref it)) _ >>= _) _ _ s
    refine wpAny_bind (wpAny_tryCatch (wpAny_pyNext_list_item hit ⟨_, hg, rfl, n, rfl⟩ (by simpa using hv) fun h' hit' hsb => ?_))
    have hS' : h'.get? S = some { cls := .type "list", dict := none, data := .seq #[u] c, slots := #[] } := (hsb.2 S (Ne.symm nIS)).trans hS
    have I1 : Inv X pins σ H { s with heap := h' } := Inv.turnBut (t' := s.toks) I rI fun b o hb e => (hsb.2 b hb).trans e
    clear hit hS hsb hg I rv hv
    -- how it goes on with a total w at stage 2
    have goOn : ∀ (H2 : Hp) (s2 : Shared) (t2 : V) (w : Value) (st2 : Int) (ke : List Value), (st2 = 2 ∨ (st2 = 0 ∧ ∃ a, t2 = .int a)) → ((∃ a, t2 = .int a) ∨ ∃ z, t2 = .ref z) → Inv X pins σ H2 s2 → H2 l = some (.lst ys) → RelV t2 w → s2.heap.IsListIter it l (i + 1) → Rec X pins H2 it → s2.heap.get? S = some { cls := .type "list", dict := none, data := .seq #[u] c, slots := #[] } → Rec X pins H2 S → SumP X.K L C spA spR r t2 H2 Q →
        wpAny (model X.prog X.w) X.A.in1 (do updateSeq S fun _ => #[w]; letGo ke; updateSeq S fun _ => #[w]; again (sumCode it S st2)) (fun fin s' => match fin with
          | .done f => SumR X pins σ Q (Except.ok f) s'
          | .again c' => c'.quiet = true ∧ codeAny (model X.prog X.w) X.A c' (SumR X pins σ Q) s') X.xe s2 := by
      intro H2 s2 t2 w st2 ke h1 h2 I2 el2 rw2 hit2 rI2 hS2 rS2 q2
      refine wpAny_bind (wpAny_updateSeq hS2 rfl ?_)
      have hS3 := Heap.get?_update_self (Obj.mapSeq fun _ => #[w]) hS2 rfl
      refine wpAny_bind (wpAny_letGo ?_)
      refine wpAny_bind (wpAny_updateSeq hS3 rfl (wpAny_pure ⟨plainId_quiet F.plain_sum_loop _, ?_⟩))
      have kk : ∀ b o, b ≠ S → s2.heap.get? b = some o → ((s2.heap.update S (Obj.mapSeq fun _ => #[w])).update S (Obj.mapSeq fun _ => #[w])).get? b = some o := fun b o hb e => (Heap.get?_update_other _ _ (Ne.symm hb)).trans ((Heap.get?_update_other _ _ (Ne.symm hb)).trans e)
      refine ih (i + 1) H2 _ t2 w _ st2 h1 h2 hd' (Inv.turnBut (s := s2) (t' := s2.toks) I2 rS2 kk) el2 rw2 ?_ rI2 (Heap.get?_update_self (Obj.mapSeq fun _ => #[w]) hS3 rfl) rS2 q2
      obtain ⟨o, ho, r⟩ := hit2
      exact ⟨o, kk _ _ nIS ho, r⟩
    have goOn0 : ∀ (H2 : Hp) (s2 : Shared) (t2 : V) (w : Value), (∃ a, t2 = .int a) → Inv X pins σ H2 s2 → H2 l = some (.lst ys) → RelV t2 w → s2.heap.IsListIter it l (i + 1) → Rec X pins H2 it → s2.heap.get? S = some { cls := .type "list", dict := none, data := .seq #[u] c, slots := #[] } → Rec X pins H2 S → SumP X.K L C spA spR r t2 H2 Q →
        wpAny (model X.prog X.w) X.A.in1 (do updateSeq S fun _ => #[w]; again (sumCode it S 0)) (fun fin s' => match fin with
          | .done f => SumR X pins σ Q (Except.ok f) s'
          | .again c' => c'.quiet = true ∧ codeAny (model X.prog X.w) X.A c' (SumR X pins σ Q) s') X.xe s2 := by
      intro H2 s2 t2 w h2 I2 el2 rw2 hit2 rI2 hS2 rS2 q2
      refine wpAny_bind (wpAny_updateSeq hS2 rfl (wpAny_pure ⟨plainId_quiet F.plain_sum_loop _, ?_⟩))
      have kk : ∀ b o, b ≠ S → s2.heap.get? b = some o → (s2.heap.update S (Obj.mapSeq fun _ => #[w])).get? b = some o := fun b o hb e => (Heap.get?_update_other _ _ (Ne.symm hb)).trans e
      refine ih (i + 1) H2 _ t2 w _ 0 (.inr ⟨rfl, h2⟩) (.inl h2) hd' (Inv.turnBut (s := s2) (t' := s2.toks) I2 rS2 kk) el2 rw2 ?_ rI2 (Heap.get?_update_self (Obj.mapSeq fun _ => #[w]) hS2 rfl) rS2 q2
      obtain ⟨o, ho, r⟩ := hit2
      exact ⟨o, kk _ _ nIS ho, r⟩
    obtain ⟨oi, hoi, hoc, hod⟩ := id hit'
    have J1 := Inv.held (oa := oi) (ob := { cls := .type "list", dict := none, data := .seq #[u] c, slots := #[] }) I1 rI rS hoi hS' (fun v z => by rw [hod] at z; cases z) (fun v z => by cases z)
    have after : ∀ {w : Value} {s2 : Shared}, EP X ((it, oi) :: (S, { cls := .type "list", dict := none, data := .seq #[u] c, slots := #[] }) :: pins) σ (fun v H' => (∃ z, v = .ref z) ∧ L2.Same H H' ∧ SumP X.K L C spA spR r v H' Q) w s2 →
        wpAny (model X.prog X.w) X.A.in1 (do updateSeq S fun _ => #[w]; letGo [u, v]; updateSeq S fun _ => #[w]; again (sumCode it S 2)) (fun fin s' => match fin with
          | .done f => SumR X pins σ Q (Except.ok f) s'
          | .again c' => c'.quiet = true ∧ codeAny (model X.prog X.w) X.A c' (SumR X pins σ Q) s') X.xe s2 ∧ ∃ z, w = .ref z := by
      rintro w s2 ⟨t2, H2, J2, rt, ⟨z, rfl⟩, sm, q2⟩
      obtain ⟨I2, e1, e2, n1, n2⟩ := Inv.free2 J2
      exact ⟨goOn H2 s2 (.ref z) w 2 [u, v] (.inl rfl) (.inr ⟨z, rfl⟩) I2 (sm _ _ el) rt ⟨oi, e1, hoc, hod⟩ ⟨n1, rI.loc, rI.new, rI.cel, rI.pin, rI.fs⟩ e2 ⟨n2, rS.loc, rS.new, rS.cel, rS.pin, rS.fs⟩ q2, z, rt⟩
    rcases q with ⟨a, b, rfl, rfl, q⟩ | ⟨x, dx, fs, ty, rfl, ex, ay, q⟩ | ⟨a, b, dx, fs, rfl, rfl, eb, q⟩
    · obtain ⟨tA, rfl⟩ := (show ∃ k, u = Value.int a k from ru)
      obtain ⟨tB, rfl⟩ := (show ∃ k, v = Value.int b k from rY)
      rcases hst with rfl | ⟨rfl, _⟩
      · show wpAny _ X.A.in1 ((holding [Value.int b tB] (binaryOp .Add (.int a tA) (.int b tB))).attempt >>= _) _ _ _
        refine wpAny_bind (wpAny_attempt (wpAny_holding (wpAny_add_int ?_)))
        exact goOn H _ (.int (a + b)) (.int (a + b) s.toks) 2 _ (.inl rfl) (.inl ⟨_, rfl⟩) (I1.tok _) el ⟨_, rfl⟩ hit' rI hS' rS q
      · show wpAny _ X.A.in1 (if (_ : Bool) = true then (mkInt (a + b) >>= _) else _) _ _ _
        split
        · refine wpAny_bind (wpAny_mkInt ?_)
          exact goOn0 H _ (.int (a + b)) (.int (a + b) s.toks) ⟨_, rfl⟩ (I1.tok _) el ⟨_, rfl⟩ hit' rI hS' rS q
        · refine wpAny_bind (wpAny_rule ?_)
          refine wpAny_bind (wpAny_attempt (wpAny_holding (wpAny_add_int ?_)))
          exact goOn H _ (.int (a + b)) (.int (a + b) s.toks) 2 _ (.inl rfl) (.inl ⟨_, rfl⟩) (I1.tok _) el ⟨_, rfl⟩ hit' rI hS' rS q
    · obtain rfl : u = Value.ref x := ru
      obtain ⟨ox, od, J⟩ := insAt J1 ex
      obtain ⟨mf, fr⟩ := J1.fr
      obtain ⟨PH, Z, pH, _⟩ := kit_of J1 rY ay.ty
      show wpAny _ X.A.in1 ((holding [v] (binaryOp .Add (.ref x) v)).attempt >>= _) _ _ _
      refine wpAny_bind (wpAny_attempt (wpAny_holding ?_))
      refine op_anyK fr J1.mod.kin J rfl hoA ay.mem (Z.ty _ _ J1.kIn pH) hmA.at_ hmA.fn (wpAny_mono (goInE (us := [.ref x, v]) (vs := [.ref x, y]) FA hr.in1 J1.env0.in1 hbA hdA J1 (.cons rfl (.cons rY .nil)) q) (fun w s2 hw => ?_) fun _ _ z => z)
      obtain ⟨h3, z, rfl⟩ := after hw
      exact h3
    · obtain ⟨tA, rfl⟩ := (show ∃ k, u = Value.int a k from ru)
      obtain rfl : v = Value.ref b := rY
      obtain ⟨od, J⟩ := insAt' J1 eb
      obtain ⟨PH, Z, pH, _⟩ := kit_of J1 (show RelV (V.int a) (Value.int a tA) from ⟨_, rfl⟩) (AnyV.int (K := X.K) (L := L) a).ty
      have add : ∀ {Q2 : Value → Shared → Prop} {E : Value → Shared → Prop}, (∀ w s2, EP X ((it, oi) :: (S, { cls := .type "list", dict := none, data := .seq #[Value.int a tA] c, slots := #[] }) :: pins) σ (fun v H' => (∃ z, v = .ref z) ∧ L2.Same H H' ∧ SumP X.K L C spA spR r v H' Q) w s2 → PySem.W.CmpBack Q2 w s2) → wpAny (model X.prog X.w) X.A.in1 (binaryOp .Add (.int a tA) (.ref b)) Q2 E { s with heap := h' } := fun h3 =>
        refl_add (L := L) J1.kIn J hoR Z pH (by decide +kernel) hmR.at_ hmR.fn (fun _ => ⟨a, tA, rfl⟩) (fun z => nomatch z) (wpAny_mono (goInE (us := [.ref b, .int a tA]) (vs := [.ref b, .int a]) FR hr'.in1 J1.env0.in1 hbR hdR J1 (.cons rfl (.cons ⟨_, rfl⟩ .nil)) q) h3 fun _ _ z => z)
      rcases hst with rfl | ⟨rfl, _⟩
      · show wpAny _ X.A.in1 ((holding [Value.ref b] (binaryOp .Add (.int a tA) (.ref b))).attempt >>= _) _ _ _
        refine wpAny_bind (wpAny_attempt (wpAny_holding (add fun w s2 hw => ?_)))
        obtain ⟨h3, z, rfl⟩ := after hw
        exact h3
      · show wpAny _ X.A.in1 (rule "sum.leaves-ints" >>= _) _ _ _
        refine wpAny_bind (wpAny_rule ?_)
        refine wpAny_bind (wpAny_attempt (wpAny_holding (add fun w s2 hw => ?_)))
        obtain ⟨h3, z, rfl⟩ := after hw
        exact h3
theorem call_sumP (hK : X.K = K) (DA : Mtn X.prog X.w X.K X.mg X.base C "__add__" k psA [] spA) (DR : Mtn X.prog X.w X.K X.mg X.base C "__radd__" k' psR [] spR) (hoA : opsB K C "add" L = true) (hoR : reflOk K C "add" = true) (hr : RoomG (k + 1) X.A) (hr' : RoomG (k' + 1) X.A) (hc : X.calm = true) : CallR X (.builtin "sum") (rSumP K L C spA spR) := by
  intro pins s σ H xs us Q I r h
  obtain ⟨l, ys, rfl, el, q⟩ := h
  rw [Vals.ref1 r]
  obtain ⟨its, n, rv, hg, _⟩ := I.lst el
  refine call_function_tree F.kind_sum F.plain_sum F.entry_sum (F.args_sum1 _) ?_
  unfold Builtin.«sum»
  simp only [List.length_cons, List.length_nil]
  rw [if_neg (by decide)]
  refine wpAny_bind (wpAny_of_eq (show Builtin.Builtins.bindParams "sum" ["start"] 0 { } = pure [none] from rfl) ?_)
  refine wpAny_bind (wpAny_pyIter_list ⟨_, hg, rfl, n, rfl⟩ ?_)
  refine wpAny_bind (wpAny_mkInt ?_)
  refine wpAny_bind (wpAny_pure ?_)
  simp only [List.forIn_cons, List.forIn_nil]
  refine wpAny_bind (wpAny_bind (wpAny_bind (wpAny_isInstance (T := "int") (b := false) (typeIs_int _ _ _) PySem.sub_int_str ?_)))
  simp only [Bool.false_eq_true, if_false]
  refine wpAny_pure (wpAny_bind (wpAny_bind (wpAny_isInstance (T := "int") (b := false) (typeIs_int _ _ _) sub_int_bytes ?_)))
  simp only [Bool.false_eq_true, if_false]
  refine wpAny_pure (wpAny_bind (wpAny_bind (wpAny_isInstance (T := "int") (b := false) (typeIs_int _ _ _) sub_int_bytearray ?_)))
  simp only [Bool.false_eq_true, if_false]
  refine wpAny_pure (wpAny_pure ?_)
  refine wpAny_bind (wpAny_newObj_type ?_)
  have mkRec : ∀ a, s.heap.objs.size ≤ a → Rec X pins H a := fun a ha => by
    refine ⟨I.hok.fresh ha, fun z => ?_, .inr (Nat.le_trans I.sz ha), fun x c e z => ?_, fun p hp z => ?_, I.nofs ha⟩
    · exact Nat.lt_irrefl a (Nat.lt_of_lt_of_le (by rw [z]; exact I.lt) ha)
    · obtain ⟨v, o, ho, _⟩ := I.cell x c e
      exact Nat.lt_irrefl a (Nat.lt_of_lt_of_le (by rw [← z]; exact Heap.lt_size ho) ha)
    · exact Nat.lt_irrefl a (Nat.lt_of_lt_of_le (by rw [← z]; exact Heap.lt_size (I.pin p hp).1) ha)
  refine wpAny_pure ⟨plainId_quiet F.plain_sum_loop _, ?_⟩
  have sz : (s.heap.push { cls := .type "list_iterator", data := .fields #[.ref l, .int 0 0] }).objs.size = s.heap.objs.size + 1 := by simp [Heap.push]
  refine sum_loopP (pins := pins) (σ := σ) hK DA DR hoA hoR hr hr' hc (l := l) (it := s.heap.objs.size) (S := (s.heap.push { cls := .type "list_iterator", data := .fields #[.ref l, .int 0 0] }).objs.size) (ys := ys) (Q := Q) (Nat.ne_of_lt (by rw [sz]; exact Nat.lt_succ_self _)) ys 0 H _ (.int 0) (.int 0 s.toks) _ 0 (.inr ⟨rfl, _, rfl⟩) (.inl ⟨_, rfl⟩) rfl ?_ el ⟨_, rfl⟩ ⟨_, Heap.get?_push_of_some _ (Heap.get?_push_size _ rfl), rfl, rfl⟩ (mkRec _ (Nat.le_refl _)) (Heap.get?_push_size _ rfl) (mkRec _ (by rw [sz]; exact Nat.le_succ _)) q
  exact I.kept (t' := s.toks + 1) fun b o e => Heap.get?_push_of_some _ (Heap.get?_push_of_some _ e)
end
end My

namespace My
open PySem L2 PySem.Spec PySem.Calls PyProof.Rows PySem.W Builtin
/-! ### min and max of a list of own objects, by their own comparison -/
/-- what goes on from a best one on -/
def BestP (C : Addr) (sp : Sp) : List V → V → Hp → VK → Prop
  | [], t, H, Q => Q t H
  | y :: r, t, H, Q => ∃ (x dx b db : Addr) (fs fb : List (Str × V)), y = .ref x ∧ t = .ref b ∧ H x = some (.ins C dx fs) ∧ H b = some (.ins C db fb) ∧ sp [.ref x, .ref b] H (fun v H' => L2.Same H H' ∧ ∃ k : Bool, v = .bl k ∧ BestP C sp r (if k = true then y else t) H' Q) E0
def rBestP (C : Addr) (sp : Sp) : List V → Hp → VK → Prop := fun xs H Q => ∃ (l y : Addr) (r : List V), xs = [.ref l] ∧ H l = some (.lst (.ref y :: r)) ∧ BestP C sp r (.ref y) H Q
section
variable {X : Cx} {pins : List (Addr × Obj)} {σ : L2.St} {K : Frag} {C : Addr} {k : Nat} {sp : Sp} {ps : List Str}
theorem Inv.mkRec {H : Hp} {s : Shared} (I : Inv X pins σ H s) : ∀ a, s.heap.objs.size ≤ a → Rec X pins H a := fun a ha => by
  refine ⟨I.hok.fresh ha, fun z => ?_, .inr (Nat.le_trans I.sz ha), fun x c e z => ?_, fun p hp z => ?_, I.nofs ha⟩
  · exact Nat.lt_irrefl a (Nat.lt_of_lt_of_le (by rw [z]; exact I.lt) ha)
  · obtain ⟨v, o, ho, _⟩ := I.cell x c e
    exact Nat.lt_irrefl a (Nat.lt_of_lt_of_le (by rw [← z]; exact Heap.lt_size ho) ha)
  · exact Nat.lt_irrefl a (Nat.lt_of_lt_of_le (by rw [← z]; exact Heap.lt_size (I.pin p hp).1) ha)
abbrev maxCode (I S : Addr) : Code := .builtin "max.loop" ⟨[.ref I, .none, .ref S], []⟩
theorem max_loopP (hK : X.K = K) (D : Mtn X.prog X.w X.K X.mg X.base C "__gt__" k ps [] sp) (zC : ∀ {H : Hp} {a dx : Addr} {fs : List (Str × V)}, H a = some (.ins C dx fs) → TyOf K H (.ref a) (.ref C)) (nf : notFirst K C (.ref C) = true) (hr : RoomG (k + 1) X.A) (hc : X.calm = true) {l it S : Addr} {ys : List V} {Q : VK} (nIS : it ≠ S) :
    ∀ (r : List V) (i : Nat) (H : Hp) (s : Shared) (z : Addr) (c : Nat), ys.drop i = r → Inv X pins σ H s → H l = some (.lst ys) → s.heap.IsListIter it l i → Rec X pins H it → s.heap.get? S = some { cls := .type "list", dict := none, data := .seq #[.ref z, .ref z] c, slots := #[] } → Rec X pins H S → BestP C sp r (.ref z) H Q →
    codeAny (model X.prog X.w) X.A (maxCode it S) (SumR X pins σ Q) s := by
  subst hK
  have hname : (toString "max" ++ toString ".loop" : String) = "max.loop" := by decide
  obtain ⟨f, fd, ds, cC, hm, FF, hb, hd⟩ := D.ex
  have hu : X.A.in1.units < cLine := by
    have := hr.in1.units
    omega
  intro r
  induction r with
  | nil =>
    intro i H s t c hdr I el hit rI hS rS q
    have hno : ys[i]? = none := by
      have := List.drop_eq_nil_iff.mp hdr
      simpa using this
    obtain ⟨its, n, rv, hg, _⟩ := I.lst el
    refine codeAny_builtin F.entry_max_loop ?_
    rw [Around.under_plainId F.plain_max_loop _]
    show wpAny _ X.A.in1 (seqItems? (.ref S) >>= _) _ _ s
    refine wpAny_bind (wpAny_seqItems hS rfl ?_)
    show wpAny _ X.A.in1 (tryCatch (pyNext (.ref it)) _ >>= _) _ _ s
    refine wpAny_bind (wpAny_tryCatch (wpAny_pyNext_list_end (I.ok.hd hc) hit ⟨_, hg, rfl, n, rfl⟩ (by have := rv.length; simp; simp at hno; omega) fun h' he => ?_))
    have I1 : Inv X pins σ H { s with heap := h' } := Inv.turnBut (t' := s.toks) I rI fun b o hb e => he b o hb e
    have hS' := he S _ (Ne.symm nIS) hS
    show wpAny _ X.A.in1 (updateSeq S (fun _ => #[]) >>= _) _ _ _
    refine wpAny_bind (wpAny_updateSeq hS' rfl (wpAny_bind (wpAny_letGo (wpAny_pure ?_))))
    exact ⟨.ref t, H, Inv.turnBut (s := { s with heap := h' }) (t' := s.toks) I1 rS fun b o hb e => (Heap.get?_update_other _ _ (Ne.symm hb)).trans e, rfl, q⟩
  | cons y r ih =>
    intro i H s t c hdr I el hit rI hS rS q
    have hy : ys[i]? = some y := by
      have := List.getElem?_drop (xs := ys) (i := i) (j := 0)
      rw [hdr] at this
      simpa using this.symm
    have hd' : ys.drop (i + 1) = r := by
      rw [← List.tail_drop, hdr]
      rfl
    obtain ⟨its, n, rv, hg, _⟩ := I.lst el
    obtain ⟨v, hv, rY⟩ := rv.get hy
    obtain ⟨x, dx, b, db, fs, fb, rfl, eb, ex, ebb, q⟩ := q
    cases eb
    obtain rfl : v = Value.ref x := rY
    refine codeAny_builtin F.entry_max_loop ?_
    rw [Around.under_plainId F.plain_max_loop _]
    show wpAny _ X.A.in1 (seqItems? (.ref S) >>= _) _ _ s
    refine wpAny_bind (wpAny_seqItems hS rfl ?_)
    show wpAny _ X.A.in1 (tryCatch (pyNext (.ref it)) _ >>= _) _ _ s
    refine wpAny_bind (wpAny_tryCatch (wpAny_pyNext_list_item hit ⟨_, hg, rfl, n, rfl⟩ (by simpa using hv) fun h' hit' hsb => ?_))
    have hS' : h'.get? S = some { cls := .type "list", dict := none, data := .seq #[.ref t, .ref t] c, slots := #[] } := (hsb.2 S (Ne.symm nIS)).trans hS
    have I1 : Inv X pins σ H { s with heap := h' } := Inv.turnBut (t' := s.toks) I rI fun b o hb e => (hsb.2 b hb).trans e
    clear hit hS hsb hg I rv hv
    obtain ⟨oi, hoi, hoc, hod⟩ := id hit'
    have J1 := Inv.held (oa := oi) (ob := { cls := .type "list", dict := none, data := .seq #[.ref t, .ref t] c, slots := #[] }) I1 rI rS hoi hS' (fun v z => by rw [hod] at z; cases z) (fun v z => by cases z)
    show wpAny _ X.A.in1 (tryCatch (holding [Value.ref x, Value.ref x] (richCompare .Gt (.ref x) (.ref t) >>= _)) _ >>= _) _ _ _
    obtain ⟨ox, od, J⟩ := insAt J1 ex
    obtain ⟨mf, fr⟩ := J1.fr
    obtain ⟨PH, Z, pH, _⟩ := kit_of J1 (show RelV (V.ref t) (Value.ref t) from rfl) (TyX.base (zC ebb))
    refine wpAny_bind (wpAny_tryCatch (wpAny_holding (wpAny_bind ?_)))
    refine cmp_K (op := .Gt) hu fr J1.mod.kin J (Z.ty _ _ J1.kIn pH) nf hm.at_ hm.fn (wpAny_mono (goInE (us := [.ref x, .ref t]) (vs := [.ref x, .ref t]) FF hr.in1 J1.env0.in1 hb hd J1 (.cons rfl (.cons rfl .nil)) q) (fun w s2 hw => ?_) fun _ _ z => z)
    obtain ⟨t2, H2, J2, rt, sm, kk, rfl, q2⟩ := hw
    obtain rfl : w = Value.bool kk := rt
    obtain ⟨I2, e1, e2, n1, n2⟩ := Inv.free2 J2
    show wpAny _ X.A.in1 (holding [Value.bool kk] (truthy (.bool kk)) >>= _) _ _ _
    refine wpAny_bind (wpAny_holding (wpAny_truthy_bool ?_))
    refine wpAny_bind (wpAny_letGo (wpAny_pure ?_))
    cases kk with
    | true =>
      simp only [if_true]
      refine wpAny_bind (wpAny_updateSeq e2 rfl (wpAny_bind (wpAny_letGo ?_)))
      rw [hname]
      have ks : ∀ b o, b ≠ S → s2.heap.get? b = some o → (s2.heap.update S (Obj.mapSeq fun _ => #[Value.ref x, Value.ref x])).get? b = some o := fun b o hb e => (Heap.get?_update_other _ _ (Ne.symm hb)).trans e
      refine wpAny_pure ⟨plainId_quiet F.plain_max_loop _, ih (i + 1) H2 _ x _ hd' (Inv.turnBut (s := s2) (t' := s2.toks) I2 ⟨n2, rS.loc, rS.new, rS.cel, rS.pin, rS.fs⟩ ks) (sm _ _ el) ⟨oi, ks _ _ nIS e1, hoc, hod⟩ ⟨n1, rI.loc, rI.new, rI.cel, rI.pin, rI.fs⟩ (Heap.get?_update_self _ e2 rfl) ⟨n2, rS.loc, rS.new, rS.cel, rS.pin, rS.fs⟩ q2⟩
    | false =>
      simp only [Bool.false_eq_true, if_false]
      refine wpAny_bind (wpAny_letGo ?_)
      rw [hname]
      exact wpAny_pure ⟨plainId_quiet F.plain_max_loop _, ih (i + 1) H2 _ t c hd' I2 (sm _ _ el) ⟨oi, e1, hoc, hod⟩ ⟨n1, rI.loc, rI.new, rI.cel, rI.pin, rI.fs⟩ e2 ⟨n2, rS.loc, rS.new, rS.cel, rS.pin, rS.fs⟩ q2⟩
theorem call_maxP (hK : X.K = K) (D : Mtn X.prog X.w X.K X.mg X.base C "__gt__" k ps [] sp) (zC : ∀ {H : Hp} {a dx : Addr} {fs : List (Str × V)}, H a = some (.ins C dx fs) → TyOf K H (.ref a) (.ref C)) (nf : notFirst K C (.ref C) = true) (hr : RoomG (k + 1) X.A) (hc : X.calm = true) : CallR X (.builtin "max") (rBestP C sp) := by
  intro pins s σ H xs us Q I r h
  obtain ⟨l, y, ys, rfl, el, q⟩ := h
  rw [Vals.ref1 r]
  have hname : (toString "max" ++ toString ".loop" : String) = "max.loop" := by decide
  obtain ⟨its, n, rv, hg, _⟩ := I.lst el
  obtain ⟨v, hv, rY⟩ := rv.get (i := 0) rfl
  obtain rfl : v = Value.ref y := rY
  refine call_function_tree F.kind_max F.plain_max F.entry_max (F.args_max1 _) ?_
  show wpAny _ X.A.in1 (Builtin.Builtins.bindParams "max" ["key", "default"] 0 ⟨[], []⟩ >>= _) _ _ s
  refine wpAny_bind (wpAny_of_eq (show Builtin.Builtins.bindParams "max" ["key", "default"] 0 ⟨[], []⟩ = pure [none, none] from rfl) ?_)
  refine wpAny_bind (wpAny_pure ?_)
  refine wpAny_bind (wpAny_pyIter_list ⟨_, hg, rfl, n, rfl⟩ ?_)
  refine wpAny_bind (wpAny_newObj_type ?_)
  rw [hname]
  refine wpAny_pure ⟨plainId_quiet F.plain_max_loop _, ?_⟩
  have sz : (s.heap.push { cls := .type "list_iterator", data := .fields #[.ref l, .int 0 0] }).objs.size = s.heap.objs.size + 1 := by simp [Heap.push]
  have rI := Inv.mkRec I _ (Nat.le_refl s.heap.objs.size)
  have rS := Inv.mkRec I (s.heap.push { cls := .type "list_iterator", data := .fields #[.ref l, .int 0 0] }).objs.size (by rw [sz]; exact Nat.le_succ _)
  have nIS : s.heap.objs.size ≠ (s.heap.push { cls := .type "list_iterator", data := .fields #[.ref l, .int 0 0] }).objs.size := Nat.ne_of_lt (by rw [sz]; exact Nat.lt_succ_self _)
  have I0 : Inv X pins σ H { s with heap := (s.heap.push { cls := .type "list_iterator", data := .fields #[.ref l, .int 0 0] }).push { cls := .type "list", data := .seq #[] } } := I.kept (t' := s.toks) fun b o e => Heap.get?_push_of_some _ (Heap.get?_push_of_some _ e)
  have e0 : ((s.heap.push { cls := .type "list_iterator", data := .fields #[.ref l, .int 0 0] }).push { cls := .type "list", data := .seq #[] }).get? s.heap.objs.size = some { cls := .type "list_iterator", data := .fields #[.ref l, .int 0 0] } := Heap.get?_push_of_some _ (Heap.get?_push_size _ rfl)
  have eS : ((s.heap.push { cls := .type "list_iterator", data := .fields #[.ref l, .int 0 0] }).push { cls := .type "list", data := .seq #[] }).get? (s.heap.push { cls := .type "list_iterator", data := .fields #[.ref l, .int 0 0] }).objs.size = some { cls := .type "list", dict := none, data := .seq #[], slots := #[] } := Heap.get?_push_size _ rfl
  generalize (s.heap.push { cls := .type "list_iterator", data := .fields #[.ref l, .int 0 0] }).objs.size = S at *
  obtain ⟨its2, n2, rv2, hg2, _⟩ := I0.lst el
  obtain ⟨v2, hv2, rY2⟩ := rv2.get (i := 0) rfl
  obtain rfl : v2 = Value.ref y := rY2
  refine codeAny_builtin F.entry_max_loop ?_
  rw [Around.under_plainId F.plain_max_loop _]
  show wpAny _ X.A.in1 (seqItems? (.ref S) >>= _) _ _ _
  refine wpAny_bind (wpAny_seqItems eS rfl ?_)
  show wpAny _ X.A.in1 (tryCatch (pyNext (.ref s.heap.objs.size)) _ >>= _) _ _ _
  refine wpAny_bind (wpAny_tryCatch (wpAny_pyNext_list_item (i := 0) ⟨_, e0, rfl, rfl⟩ ⟨_, hg2, rfl, n2, rfl⟩ (by simpa using hv2) fun h' hit' hsb => ?_))
  have hS' := (hsb.2 S (Ne.symm nIS)).trans eS
  have I1 := Inv.turnBut (t' := s.toks) I0 rI fun b o hb e => (hsb.2 b hb).trans e
  show wpAny _ X.A.in1 (updateSeq S (fun _ => #[Value.ref y, Value.ref y]) >>= _) _ _ _
  refine wpAny_bind (wpAny_updateSeq hS' rfl ?_)
  rw [hname]
  have ks : ∀ b o, b ≠ S → h'.get? b = some o → (h'.update S (Obj.mapSeq fun _ => #[Value.ref y, Value.ref y])).get? b = some o := fun b o hb e => (Heap.get?_update_other _ _ (Ne.symm hb)).trans e
  obtain ⟨oi, hoi, hoc, hod⟩ := hit'
  refine wpAny_pure ⟨plainId_quiet F.plain_max_loop _, max_loopP (pins := pins) (σ := σ) hK D zC nf hr hc nIS ys 1 H _ y _ rfl ?_ el ⟨oi, ks _ _ nIS hoi, hoc, hod⟩ rI (Heap.get?_update_self _ hS' rfl) rS q⟩
  exact Inv.turnBut (s := { s with heap := h' }) (t' := s.toks) I1 rS ks
abbrev minCode (I S : Addr) : Code := .builtin "min.loop" ⟨[.ref I, .none, .ref S], []⟩
theorem min_loopP (hK : X.K = K) (D : Mtn X.prog X.w X.K X.mg X.base C "__lt__" k ps [] sp) (zC : ∀ {H : Hp} {a dx : Addr} {fs : List (Str × V)}, H a = some (.ins C dx fs) → TyOf K H (.ref a) (.ref C)) (nf : notFirst K C (.ref C) = true) (hr : RoomG (k + 1) X.A) (hc : X.calm = true) {l it S : Addr} {ys : List V} {Q : VK} (nIS : it ≠ S) :
    ∀ (r : List V) (i : Nat) (H : Hp) (s : Shared) (z : Addr) (c : Nat), ys.drop i = r → Inv X pins σ H s → H l = some (.lst ys) → s.heap.IsListIter it l i → Rec X pins H it → s.heap.get? S = some { cls := .type "list", dict := none, data := .seq #[.ref z, .ref z] c, slots := #[] } → Rec X pins H S → BestP C sp r (.ref z) H Q →
    codeAny (model X.prog X.w) X.A (minCode it S) (SumR X pins σ Q) s := by
  subst hK
  have hname : (toString "min" ++ toString ".loop" : String) = "min.loop" := by decide
  obtain ⟨f, fd, ds, cC, hm, FF, hb, hd⟩ := D.ex
  have hu : X.A.in1.units < cLine := by
    have := hr.in1.units
    omega
  intro r
  induction r with
  | nil =>
    intro i H s t c hdr I el hit rI hS rS q
    have hno : ys[i]? = none := by
      have := List.drop_eq_nil_iff.mp hdr
      simpa using this
    obtain ⟨its, n, rv, hg, _⟩ := I.lst el
    refine codeAny_builtin F.entry_min_loop ?_
    rw [Around.under_plainId F.plain_min_loop _]
    show wpAny _ X.A.in1 (seqItems? (.ref S) >>= _) _ _ s
    refine wpAny_bind (wpAny_seqItems hS rfl ?_)
    show wpAny _ X.A.in1 (tryCatch (pyNext (.ref it)) _ >>= _) _ _ s
    refine wpAny_bind (wpAny_tryCatch (wpAny_pyNext_list_end (I.ok.hd hc) hit ⟨_, hg, rfl, n, rfl⟩ (by have := rv.length; simp; simp at hno; omega) fun h' he => ?_))
    have I1 : Inv X pins σ H { s with heap := h' } := Inv.turnBut (t' := s.toks) I rI fun b o hb e => he b o hb e
    have hS' := he S _ (Ne.symm nIS) hS
    show wpAny _ X.A.in1 (updateSeq S (fun _ => #[]) >>= _) _ _ _
    refine wpAny_bind (wpAny_updateSeq hS' rfl (wpAny_bind (wpAny_letGo (wpAny_pure ?_))))
    exact ⟨.ref t, H, Inv.turnBut (s := { s with heap := h' }) (t' := s.toks) I1 rS fun b o hb e => (Heap.get?_update_other _ _ (Ne.symm hb)).trans e, rfl, q⟩
  | cons y r ih =>
    intro i H s t c hdr I el hit rI hS rS q
    have hy : ys[i]? = some y := by
      have := List.getElem?_drop (xs := ys) (i := i) (j := 0)
      rw [hdr] at this
      simpa using this.symm
    have hd' : ys.drop (i + 1) = r := by
      rw [← List.tail_drop, hdr]
      rfl
    obtain ⟨its, n, rv, hg, _⟩ := I.lst el
    obtain ⟨v, hv, rY⟩ := rv.get hy
    obtain ⟨x, dx, b, db, fs, fb, rfl, eb, ex, ebb, q⟩ := q
    cases eb
    obtain rfl : v = Value.ref x := rY
    refine codeAny_builtin F.entry_min_loop ?_
    rw [Around.under_plainId F.plain_min_loop _]
    show wpAny _ X.A.in1 (seqItems? (.ref S) >>= _) _ _ s
    refine wpAny_bind (wpAny_seqItems hS rfl ?_)
    show wpAny _ X.A.in1 (tryCatch (pyNext (.ref it)) _ >>= _) _ _ s
    refine wpAny_bind (wpAny_tryCatch (wpAny_pyNext_list_item hit ⟨_, hg, rfl, n, rfl⟩ (by simpa using hv) fun h' hit' hsb => ?_))
    have hS' : h'.get? S = some { cls := .type "list", dict := none, data := .seq #[.ref t, .ref t] c, slots := #[] } := (hsb.2 S (Ne.symm nIS)).trans hS
    have I1 : Inv X pins σ H { s with heap := h' } := Inv.turnBut (t' := s.toks) I rI fun b o hb e => (hsb.2 b hb).trans e
    clear hit hS hsb hg I rv hv
    obtain ⟨oi, hoi, hoc, hod⟩ := id hit'
    have J1 := Inv.held (oa := oi) (ob := { cls := .type "list", dict := none, data := .seq #[.ref t, .ref t] c, slots := #[] }) I1 rI rS hoi hS' (fun v z => by rw [hod] at z; cases z) (fun v z => by cases z)
    show wpAny _ X.A.in1 (tryCatch (holding [Value.ref x, Value.ref x] (richCompare .Lt (.ref x) (.ref t) >>= _)) _ >>= _) _ _ _
    obtain ⟨ox, od, J⟩ := insAt J1 ex
    obtain ⟨mf, fr⟩ := J1.fr
    obtain ⟨PH, Z, pH, _⟩ := kit_of J1 (show RelV (V.ref t) (Value.ref t) from rfl) (TyX.base (zC ebb))
    refine wpAny_bind (wpAny_tryCatch (wpAny_holding (wpAny_bind ?_)))
    refine cmp_K (op := .Lt) hu fr J1.mod.kin J (Z.ty _ _ J1.kIn pH) nf hm.at_ hm.fn (wpAny_mono (goInE (us := [.ref x, .ref t]) (vs := [.ref x, .ref t]) FF hr.in1 J1.env0.in1 hb hd J1 (.cons rfl (.cons rfl .nil)) q) (fun w s2 hw => ?_) fun _ _ z => z)
    obtain ⟨t2, H2, J2, rt, sm, kk, rfl, q2⟩ := hw
    obtain rfl : w = Value.bool kk := rt
    obtain ⟨I2, e1, e2, n1, n2⟩ := Inv.free2 J2
    show wpAny _ X.A.in1 (holding [Value.bool kk] (truthy (.bool kk)) >>= _) _ _ _
    refine wpAny_bind (wpAny_holding (wpAny_truthy_bool ?_))
    refine wpAny_bind (wpAny_letGo (wpAny_pure ?_))
    cases kk with
    | true =>
      simp only [if_true]
      refine wpAny_bind (wpAny_updateSeq e2 rfl (wpAny_bind (wpAny_letGo ?_)))
      rw [hname]
      have ks : ∀ b o, b ≠ S → s2.heap.get? b = some o → (s2.heap.update S (Obj.mapSeq fun _ => #[Value.ref x, Value.ref x])).get? b = some o := fun b o hb e => (Heap.get?_update_other _ _ (Ne.symm hb)).trans e
      refine wpAny_pure ⟨plainId_quiet F.plain_min_loop _, ih (i + 1) H2 _ x _ hd' (Inv.turnBut (s := s2) (t' := s2.toks) I2 ⟨n2, rS.loc, rS.new, rS.cel, rS.pin, rS.fs⟩ ks) (sm _ _ el) ⟨oi, ks _ _ nIS e1, hoc, hod⟩ ⟨n1, rI.loc, rI.new, rI.cel, rI.pin, rI.fs⟩ (Heap.get?_update_self _ e2 rfl) ⟨n2, rS.loc, rS.new, rS.cel, rS.pin, rS.fs⟩ q2⟩
    | false =>
      simp only [Bool.false_eq_true, if_false]
      refine wpAny_bind (wpAny_letGo ?_)
      rw [hname]
      exact wpAny_pure ⟨plainId_quiet F.plain_min_loop _, ih (i + 1) H2 _ t c hd' I2 (sm _ _ el) ⟨oi, e1, hoc, hod⟩ ⟨n1, rI.loc, rI.new, rI.cel, rI.pin, rI.fs⟩ e2 ⟨n2, rS.loc, rS.new, rS.cel, rS.pin, rS.fs⟩ q2⟩
theorem call_minP (hK : X.K = K) (D : Mtn X.prog X.w X.K X.mg X.base C "__lt__" k ps [] sp) (zC : ∀ {H : Hp} {a dx : Addr} {fs : List (Str × V)}, H a = some (.ins C dx fs) → TyOf K H (.ref a) (.ref C)) (nf : notFirst K C (.ref C) = true) (hr : RoomG (k + 1) X.A) (hc : X.calm = true) : CallR X (.builtin "min") (rBestP C sp) := by
  intro pins s σ H xs us Q I r h
  obtain ⟨l, y, ys, rfl, el, q⟩ := h
  rw [Vals.ref1 r]
  have hname : (toString "min" ++ toString ".loop" : String) = "min.loop" := by decide
  obtain ⟨its, n, rv, hg, _⟩ := I.lst el
  obtain ⟨v, hv, rY⟩ := rv.get (i := 0) rfl
  obtain rfl : v = Value.ref y := rY
  refine call_function_tree F.kind_min F.plain_min F.entry_min (F.args_min1 _) ?_
  show wpAny _ X.A.in1 (Builtin.Builtins.bindParams "min" ["key", "default"] 0 ⟨[], []⟩ >>= _) _ _ s
  refine wpAny_bind (wpAny_of_eq (show Builtin.Builtins.bindParams "min" ["key", "default"] 0 ⟨[], []⟩ = pure [none, none] from rfl) ?_)
  refine wpAny_bind (wpAny_pure ?_)
  refine wpAny_bind (wpAny_pyIter_list ⟨_, hg, rfl, n, rfl⟩ ?_)
  refine wpAny_bind (wpAny_newObj_type ?_)
  rw [hname]
  refine wpAny_pure ⟨plainId_quiet F.plain_min_loop _, ?_⟩
  have sz : (s.heap.push { cls := .type "list_iterator", data := .fields #[.ref l, .int 0 0] }).objs.size = s.heap.objs.size + 1 := by simp [Heap.push]
  have rI := Inv.mkRec I _ (Nat.le_refl s.heap.objs.size)
  have rS := Inv.mkRec I (s.heap.push { cls := .type "list_iterator", data := .fields #[.ref l, .int 0 0] }).objs.size (by rw [sz]; exact Nat.le_succ _)
  have nIS : s.heap.objs.size ≠ (s.heap.push { cls := .type "list_iterator", data := .fields #[.ref l, .int 0 0] }).objs.size := Nat.ne_of_lt (by rw [sz]; exact Nat.lt_succ_self _)
  have I0 : Inv X pins σ H { s with heap := (s.heap.push { cls := .type "list_iterator", data := .fields #[.ref l, .int 0 0] }).push { cls := .type "list", data := .seq #[] } } := I.kept (t' := s.toks) fun b o e => Heap.get?_push_of_some _ (Heap.get?_push_of_some _ e)
  have e0 : ((s.heap.push { cls := .type "list_iterator", data := .fields #[.ref l, .int 0 0] }).push { cls := .type "list", data := .seq #[] }).get? s.heap.objs.size = some { cls := .type "list_iterator", data := .fields #[.ref l, .int 0 0] } := Heap.get?_push_of_some _ (Heap.get?_push_size _ rfl)
  have eS : ((s.heap.push { cls := .type "list_iterator", data := .fields #[.ref l, .int 0 0] }).push { cls := .type "list", data := .seq #[] }).get? (s.heap.push { cls := .type "list_iterator", data := .fields #[.ref l, .int 0 0] }).objs.size = some { cls := .type "list", dict := none, data := .seq #[], slots := #[] } := Heap.get?_push_size _ rfl
  generalize (s.heap.push { cls := .type "list_iterator", data := .fields #[.ref l, .int 0 0] }).objs.size = S at *
  obtain ⟨its2, n2, rv2, hg2, _⟩ := I0.lst el
  obtain ⟨v2, hv2, rY2⟩ := rv2.get (i := 0) rfl
  obtain rfl : v2 = Value.ref y := rY2
  refine codeAny_builtin F.entry_min_loop ?_
  rw [Around.under_plainId F.plain_min_loop _]
  show wpAny _ X.A.in1 (seqItems? (.ref S) >>= _) _ _ _
  refine wpAny_bind (wpAny_seqItems eS rfl ?_)
  show wpAny _ X.A.in1 (tryCatch (pyNext (.ref s.heap.objs.size)) _ >>= _) _ _ _
  refine wpAny_bind (wpAny_tryCatch (wpAny_pyNext_list_item (i := 0) ⟨_, e0, rfl, rfl⟩ ⟨_, hg2, rfl, n2, rfl⟩ (by simpa using hv2) fun h' hit' hsb => ?_))
  have hS' := (hsb.2 S (Ne.symm nIS)).trans eS
  have I1 := Inv.turnBut (t' := s.toks) I0 rI fun b o hb e => (hsb.2 b hb).trans e
  show wpAny _ X.A.in1 (updateSeq S (fun _ => #[Value.ref y, Value.ref y]) >>= _) _ _ _
  refine wpAny_bind (wpAny_updateSeq hS' rfl ?_)
  rw [hname]
  have ks : ∀ b o, b ≠ S → h'.get? b = some o → (h'.update S (Obj.mapSeq fun _ => #[Value.ref y, Value.ref y])).get? b = some o := fun b o hb e => (Heap.get?_update_other _ _ (Ne.symm hb)).trans e
  obtain ⟨oi, hoi, hoc, hod⟩ := hit'
  refine wpAny_pure ⟨plainId_quiet F.plain_min_loop _, min_loopP (pins := pins) (σ := σ) hK D zC nf hr hc nIS ys 1 H _ y _ rfl ?_ el ⟨oi, ks _ _ nIS hoi, hoc, hod⟩ rI (Heap.get?_update_self _ hS' rfl) rS q⟩
  exact Inv.turnBut (s := { s with heap := h' }) (t' := s.toks) I1 rS ks
end
end My

namespace My
open PySem PyProof.Rows Srt SrtO
/-! ### sorting by comparisons that move the state within an invariant -/
section
variable {M : Model} {A : Around} {E : Value → Shared → Prop} {J : Shared → Prop} {σ α β : Type}
def wpJ (M : Model) (A : Around) (E : Value → Shared → Prop) (J : Shared → Prop) (m : StateT σ Sem α) (Q : α → σ → Prop) (st : σ) : Prop :=
  ∀ s, J s → wpAny M A (m.run st) (fun r s' => J s' ∧ Q r.1 r.2) E s
theorem j_pure {a : α} {Q : α → σ → Prop} {st : σ} (h : Q a st) : wpJ M A E J (pure a : StateT σ Sem α) Q st := fun s hs => by
  rw [StateT.run_pure]
  exact wpAny_pure ⟨hs, h⟩
theorem j_bind {m : StateT σ Sem α} {f : α → StateT σ Sem β} {Q : β → σ → Prop} {st : σ} (h : wpJ M A E J m (fun a t => wpJ M A E J (f a) Q t) st) : wpJ M A E J (m >>= f) Q st := fun s hs => by
  rw [StateT.run_bind]
  exact wpAny_bind (wpAny_mono (h s hs) (fun r s' z => z.2 s' z.1) fun _ _ e => e)
theorem j_mono {m : StateT σ Sem α} {Q R : α → σ → Prop} {st : σ} (h : wpJ M A E J m Q st) (k : ∀ a t, Q a t → R a t) : wpJ M A E J m R st := fun s hs => wpAny_mono (h s hs) (fun r _ z => ⟨z.1, k _ _ z.2⟩) fun _ _ e => e
theorem j_get {Q : σ → σ → Prop} {st : σ} (h : Q st st) : wpJ M A E J (get : StateT σ Sem σ) Q st := fun s hs => by
  rw [StateT.run_get]
  exact wpAny_pure ⟨hs, h⟩
theorem j_mod {f : σ → σ} {Q : PUnit → σ → Prop} {st : σ} (h : Q ⟨⟩ (f st)) : wpJ M A E J (modify f : StateT σ Sem PUnit) Q st := fun s hs => by
  rw [StateT.run_modify]
  exact wpAny_pure ⟨hs, h⟩
theorem j_lift {m : Sem α} {Q : α → σ → Prop} {st : σ} (h : ∀ s, J s → wpAny M A m (fun a s' => J s' ∧ Q a st) E s) : wpJ M A E J (liftM m : StateT σ Sem α) Q st := fun s hs => by
  show wpAny M A ((StateT.lift m : StateT σ Sem α).run st) _ E s
  rw [StateT.run_lift]
  exact wpAny_bind (wpAny_mono (h s hs) (fun a s' z => wpAny_pure z) fun _ _ e => e)
theorem j_rule {t : String} {Q : Unit → σ → Prop} {st : σ} (h : Q () st) : wpJ M A E J (liftM (rule t) : StateT σ Sem Unit) Q st := j_lift fun s hs => wpAny_rule ⟨hs, h⟩
theorem j_if {c : Prop} [Decidable c] {t e : StateT σ Sem α} {Q : α → σ → Prop} {st : σ} (h1 : c → wpJ M A E J t Q st) (h2 : ¬ c → wpJ M A E J e Q st) : wpJ M A E J (if c then t else e) Q st := by
  split
  · exact h1 (by assumption)
  · exact h2 (by assumption)
/-- a loop over a..b: I at each turn, D where it is left early -/
theorem j_list {f : Nat → β → StateT σ Sem (ForInStep β)} {Q : β → σ → Prop} (I : Nat → β → σ → Prop) (hi : Nat)
    (step : ∀ i c t, i < hi → I i c t → wpJ M A E J (f i c) (fun r t' => match r with | .done c' => Q c' t' | .yield c' => I (i + 1) c' t') t) (fin : ∀ c t, I hi c t → Q c t) :
    ∀ (n i : Nat) (c : β) (t : σ), i + n = hi → I i c t → wpJ M A E J (forIn (List.range' i n 1) c f) Q t := by
  intro n
  induction n with
  | zero =>
    intro i c t e h
    obtain rfl : i = hi := by omega
    exact j_pure (fin _ _ h)
  | succ n ih =>
    intro i c t e h
    show wpJ M A E J (forIn (i :: List.range' (i + 1) n 1) c f) Q t
    rw [List.forIn_cons]
    refine j_bind (j_mono (step i c t (by omega) h) fun r t' z => ?_)
    cases r with
    | done c' => exact j_pure z
    | yield c' => exact ih (i + 1) c' t' (by omega) z
theorem j_for {a b : Nat} {f : Nat → β → StateT σ Sem (ForInStep β)} {Q : β → σ → Prop} (I : Nat → β → σ → Prop) (ab : a ≤ b)
    (step : ∀ i c t, a ≤ i → i < b → I i c t → wpJ M A E J (f i c) (fun r t' => match r with | .done c' => Q c' t' | .yield c' => I (i + 1) c' t') t)
    (fin : ∀ c t, I b c t → Q c t) {c : β} {t : σ} (h : I a c t) : wpJ M A E J (forIn [a:b] c f) Q t := by
  rw [Std.Legacy.Range.forIn_eq_forIn_range']
  have sz : ([a:b] : Std.Legacy.Range).size = b - a := by simp [Std.Legacy.Range.size]
  show wpJ M A E J (forIn (List.range' a ([a:b] : Std.Legacy.Range).size 1) c f) Q t
  rw [sz]
  refine j_list (fun i c t => a ≤ i ∧ I i c t) b (fun i c t hi ⟨ha, z⟩ => ?_) (fun c t z => fin c t z.2) (b - a) a c t (by omega) ⟨Nat.le_refl _, h⟩
  refine j_mono (step i c t ha hi z) fun r t' y => ?_
  cases r with
  | done c' => exact y
  | yield c' => exact ⟨by omega, y⟩
end
section
variable {prog : Program} {w : World} {A : Around} {E : Value → Shared → Prop} {J : Shared → Prop} {κ : SortKind} {P : Keyed → Prop} {lt : Keyed → Keyed → Bool}
/-- any two items that are P compare as lt says, and J stays -/
def CmpJ (prog : Program) (w : World) (A : Around) (J : Shared → Prop) (κ : SortKind) (P : Keyed → Prop) (lt : Keyed → Keyed → Bool) : Prop :=
  ∀ p q, P p → P q → ∀ s, J s → wpAny (model prog w) A (keyLt' κ p.1 q.1) (fun r s' => J s' ∧ r = lt p q) (fun _ _ => False) s
theorem j_lt {st : SortSt} {p q : Keyed} {Q : Option Bool → SortSt → Prop} (T : CmpJ prog w A J κ P lt) (hk : kindOf st = κ) (hp : P p) (hq : P q) (h : Q (some (lt p q)) st) : wpJ (model prog w) A E J (lt' p q) Q st := by
  rw [lt'_eq]
  refine j_bind (j_get ?_)
  rw [hk]
  refine j_bind (j_lift fun s hs => wpAny_attempt (wpAny_mono (T p q hp hq s hs) (fun r s' e => ?_) fun _ _ x => x.elim))
  obtain ⟨e1, rfl⟩ := e
  exact ⟨e1, j_pure h⟩
theorem j_at {st : SortSt} {i j : Nat} {p q : Keyed} {Q : Option Bool → SortSt → Prop} (T : CmpJ prog w A J κ P lt) (hk : kindOf st = κ) (hi : (arrOf st).toList[i]? = some p) (hj : (arrOf st).toList[j]? = some q) (hp : P p) (hq : P q) (h : Q (some (lt p q)) st) : wpJ (model prog w) A E J (ltAt' i j) Q st := by
  rw [Array.getElem?_toList] at hi hj
  rw [ltAt'_eq]
  refine j_bind (j_get ?_)
  show wpJ _ _ _ _ (do let x ← elem' (arrOf st) i; let y ← elem' (arrOf st) j; lt' x y) Q st
  rw [elem'_eq, elem'_eq, hi, hj]
  exact j_bind (j_pure (j_bind (j_pure (j_lt T hk hp hq h))))
theorem j_rev {st : SortSt} {i j : Nat} {Q : Unit → SortSt → Prop} (h : Q () (setArr st (mirror (arrOf st) i j ((j - i) / 2)))) : wpJ (model prog w) A E J (reverseSlice' i j) Q st := by
  rw [reverseSlice'_eq]
  exact j_mod h
/-- upwards: while the next one is not smaller -/
theorem j_tail {st₀ st : SortSt} {A0 R W : List Keyed} {lo n₀ nrem : Nat} {Q : Option Nat → SortSt → Prop} (O : Swo lt) (T : CmpJ prog w A J κ P lt) (hk : kindOf st₀ = κ) (kp : Kp st₀ st) (hlo : A0.length = lo) (hR : nrem ≤ R.length) (hP : AllL P (A0 ++ R)) (h1 : 1 ≤ n₀) (hn : n₀ ≤ nrem)
    (ha : (arrOf st).toList = A0 ++ (W ++ R.drop n₀)) (hl : W.length = n₀) (hs : Srtd lt W.reverse) (hb : Stb lt W.reverse (R.take n₀)) (h : ∀ m st', Run lt A0 R m st₀ st' → 1 ≤ m → m ≤ nrem → Q (some m) st') : wpJ (model prog w) A E J (tail3' lo n₀ nrem) Q st := by
  unfold tail3'
  refine j_bind (j_rev ?_)
  refine j_bind (j_mono (j_for (fun x c t => c = (none, x) ∧ Run lt A0 R x st₀ t) hn (Q := fun c t => ∃ m, c = (none, m) ∧ 1 ≤ m ∧ m ≤ nrem ∧ Run lt A0 R m st₀ t) (fun x c t a1 a2 hI => ?_) (fun c t hI => ⟨nrem, hI.1, by omega, Nat.le_refl _, hI.2⟩) ⟨rfl, ⟨W.reverse, mirror_list ha hlo.symm (by rw [hlo, hl]), by rw [List.length_reverse]; exact hl, hs, hb⟩, kp.arr⟩) fun c t z => ?_)
  · obtain ⟨rfl, ⟨X, u⟩, k2⟩ := hI
    dsimp only
    obtain ⟨y, hy, ht⟩ := drop_cons (R := R) (n := x) (by omega)
    obtain ⟨X0, z, hX⟩ := snoc_of (l := X) (by rw [u.len]; omega)
    obtain ⟨g1, g2⟩ := u.get hlo hX hy
    refine j_bind (j_at T (k2.kind.trans hk) g1 g2 (u.all hP _ (List.mem_of_getElem? g1)) (u.all hP _ (List.mem_of_getElem? g2)) ?_)
    dsimp only
    refine j_if (fun c => j_pure ⟨x, rfl, by omega, by omega, ⟨X, u⟩, k2⟩) (fun c => j_pure ⟨rfl, ⟨_, u.next O hX hy ht (Bool.eq_false_iff.mpr c)⟩, k2⟩)
  · obtain ⟨m, rfl, m1, m2, r⟩ := z
    exact j_pure (h m t r m1 m2)
/-- downwards, equal ones kept in their order -/
theorem j_desc {st₀ st : SortSt} {A0 R U : List Keyed} {lo n₀ nrem : Nat} {Q : Option Nat → SortSt → Prop} (O : Swo lt) (T : CmpJ prog w A J κ P lt) (hk : kindOf st₀ = κ) (kp : Kp st₀ st) (hlo : A0.length = lo) (hR : nrem ≤ R.length) (hP : AllL P (A0 ++ R)) (h1 : 1 ≤ n₀) (hn : n₀ + 1 ≤ nrem)
    (ha : (arrOf st).toList = A0 ++ (U ++ R.drop n₀)) (hl : U.length = n₀) (hu : Srtd lt U.reverse) (hb : Stb lt U.reverse (R.take n₀)) (hy0 : ∀ y, R.drop n₀ = y :: R.drop (n₀ + 1) → ∀ u ∈ U, lt y u = true)
    (h : ∀ m st', Run lt A0 R m st₀ st' → 1 ≤ m → m ≤ nrem → Q (some m) st') : wpJ (model prog w) A E J (desc' lo n₀ nrem) Q st := by
  unfold desc'
  refine j_bind (j_rule ?_)
  dsimp only
  obtain ⟨y0, hd0, ht0⟩ := drop_cons (R := R) (n := n₀) (by omega)
  have d0 : SrtO.Dn lt A0 R (n₀ + 1) U [] y0 st := ⟨by rw [ha, hd0]; rfl, by rw [hl]; rfl, by rw [ht0]; exact Hd.start O hu (hy0 y0 hd0) hb⟩
  refine j_bind (j_mono (j_for (fun x c t => ∃ (U V : List Keyed) (v : Keyed), c = (none, x, V.length) ∧ SrtO.Dn lt A0 R x U V v t ∧ Kp st₀ t) hn (Q := fun c t => ∃ (m : Nat) (U V : List Keyed) (v : Keyed), c = (none, m, V.length) ∧ n₀ + 1 ≤ m ∧ m ≤ nrem ∧ SrtO.Dn lt A0 R m U V v t ∧ Kp st₀ t) (fun x c t a1 a2 hI => ?_) (fun c t ⟨U, V, v, e, d, k⟩ => ⟨nrem, U, V, v, e, hn, Nat.le_refl _, d, k⟩) ⟨U, [], y0, rfl, d0, kp⟩) fun c t z => ?_)
  · obtain ⟨U1, V, v, rfl, d, k2⟩ := hI
    dsimp only
    obtain ⟨y, hy, ht⟩ := drop_cons (R := R) (n := x) (by omega)
    obtain ⟨g1, g2⟩ := d.get hlo hy
    have py := d.all hP _ (List.mem_of_getElem? g1)
    have pv := d.all hP _ (List.mem_of_getElem? g2)
    have hk2 := k2.kind.trans hk
    refine j_bind (j_at T hk2 g1 g2 py pv ?_)
    dsimp only
    refine j_if (fun c1 => j_if (fun c2 => j_bind (j_rev (j_pure ⟨_, [], y, rfl, d.down O hy ht c1 (d.turned hlo), k2.arr⟩))) (fun c2 => j_pure ⟨_, [], y, rfl, d.down O hy ht c1 (d.flat c2), k2⟩)) (fun c1 => ?_)
    refine j_bind (j_at T hk2 g2 g1 pv py ?_)
    dsimp only
    exact j_if (fun c2 => j_pure ⟨x, U1, V, v, rfl, by omega, by omega, d, k2⟩) (fun c2 => j_pure ⟨U1, V ++ [v], y, by rw [List.length_append]; rfl, d.same O hy ht (Bool.eq_false_iff.mpr c1) (Bool.eq_false_iff.mpr c2), k2⟩)
  · obtain ⟨m, U1, V, v, rfl, m1, m2, d, k2⟩ := z
    dsimp only
    have dl := d.len
    have el : (U1 ++ (V ++ [v]).reverse).length = m := by
      simp only [List.length_append, List.length_reverse, List.length_singleton]
      omega
    have er : (U1 ++ (V ++ [v]).reverse).reverse = V ++ [v] ++ U1.reverse := by rw [List.reverse_append, List.reverse_reverse]
    have so : Srtd lt (U1 ++ (V ++ [v]).reverse).reverse := by rw [er]; exact d.hd.sorted O
    have sb : Stb lt (U1 ++ (V ++ [v]).reverse).reverse (R.take m) := by rw [er]; exact d.hd.stb
    refine j_if (fun c => j_bind (j_rev ?_)) (fun c => ?_)
    · show wpJ _ _ _ _ (tail3' lo m nrem) Q _
      exact j_tail O T hk k2.arr hlo hR hP (by omega) m2 (d.turned hlo) el so sb h
    · show wpJ _ _ _ _ (tail3' lo m nrem) Q _
      exact j_tail O T hk k2 hlo hR hP (by omega) m2 (d.flat c) el so sb h
/-- a run found -/
theorem j_count {st : SortSt} {A0 R : List Keyed} {lo nrem : Nat} {Q : Option Nat → SortSt → Prop} (O : Swo lt) (T : CmpJ prog w A J κ P lt) (hk : kindOf st = κ) (ha : (arrOf st).toList = A0 ++ R) (hlo : A0.length = lo) (hR : nrem ≤ R.length) (hP : AllL P (A0 ++ R)) (h1 : 1 ≤ nrem)
    (h : ∀ m st', Run lt A0 R m st st' → 1 ≤ m → m ≤ nrem → Q (some m) st') : wpJ (model prog w) A E J (countRun' lo nrem) Q st := by
  rw [countRun'_eq]
  dsimp only
  have upx : ∀ n, n ≤ R.length → Srtd lt (R.take n) → Up lt A0 R n (R.take n) st := fun n hn hs => ⟨by rw [List.take_append_drop]; exact ha, by rw [List.length_take]; omega, hs, Stb.refl _⟩
  obtain ⟨f0, hf0, ht0⟩ := drop_cons (R := R) (n := 0) (by omega)
  have one : R.take 1 = [f0] := ht0
  refine j_bind (j_mono (j_for (fun x c t => c = (none, x) ∧ t = st ∧ Srtd lt (R.take x)) h1
    (Q := fun c t => ∃ m, c = (none, m) ∧ 1 ≤ m ∧ m ≤ nrem ∧ t = st ∧ Srtd lt (R.take m) ∧ (m < nrem → ∃ (y z : Keyed) (X : List Keyed), R.take m = X ++ [z] ∧ R.drop m = y :: R.drop (m + 1) ∧ lt y z = true))
    (fun x c t a1 a2 hI => ?_) (fun c t hI => ⟨nrem, hI.1, h1, Nat.le_refl _, hI.2.1, hI.2.2, fun z => absurd z (Nat.lt_irrefl _)⟩) ⟨rfl, rfl, by rw [one]; exact srtd_one f0⟩) fun c t z => ?_)
  · obtain ⟨rfl, rfl, hs⟩ := hI
    dsimp only
    have u := upx x (by omega) hs
    obtain ⟨y, hy, ht⟩ := drop_cons (R := R) (n := x) (by omega)
    obtain ⟨X, z, hX⟩ := snoc_of (l := R.take x) (by rw [u.len]; omega)
    obtain ⟨g1, g2⟩ := u.get hlo hX hy
    refine j_bind (j_at T hk g1 g2 (u.all hP _ (List.mem_of_getElem? g1)) (u.all hP _ (List.mem_of_getElem? g2)) ?_)
    dsimp only
    refine j_if (fun c => j_pure ⟨x, rfl, by omega, by omega, rfl, hs, fun _ => ⟨y, z, X, hX, hy, c⟩⟩) (fun c => j_pure ⟨rfl, rfl, ?_⟩)
    rw [ht]
    exact (u.next O hX hy ht (Bool.eq_false_iff.mpr c)).srt
  · obtain ⟨m, rfl, m1, m2, rfl, hs, more⟩ := z
    dsimp only
    have u := upx m (by omega) hs
    have r0 : Run lt A0 R m t t := ⟨⟨_, u⟩, Kp.refl⟩
    refine j_if (fun _ => j_pure (h m t r0 m1 m2)) (fun hne => ?_)
    have hlt : m < nrem := by
      have := mt beq_iff_eq.mpr hne
      omega
    obtain ⟨y, z, X, hX, hy, hb⟩ := more hlt
    have same : ∀ y', R.drop m = y' :: R.drop (m + 1) → y' = y := fun y' e => by
      rw [hy] at e
      exact (List.cons.inj e).1.symm
    have rr : (R.take m).reverse.reverse = R.take m := List.reverse_reverse _
    refine j_if (fun hm => ?_) (fun hm => ?_)
    · obtain ⟨_, g2⟩ := u.get hlo hX hy
      have ef : R.take m = f0 :: (R.take m).tail := by
        rw [show R = f0 :: R.drop 1 from hf0]
        cases m with
        | zero => omega
        | succ m => rfl
      have g0 : (arrOf t).toList[lo]? = some f0 := by
        rw [u.arr, ef]
        exact get_at hlo
      refine j_bind (j_at T hk g0 g2 (u.all hP _ (List.mem_of_getElem? g0)) (u.all hP _ (List.mem_of_getElem? g2)) ?_)
      dsimp only
      refine j_if (fun _ => j_pure (h m t r0 m1 m2)) (fun hr => j_bind (j_rev ?_))
      show wpJ _ _ _ _ (desc' lo m nrem) Q _
      have zl : ∀ x ∈ R.take m, lt x z = false := fun x hx => by
        have hs1 := hs
        rw [ef] at hs1 hx
        exact O.le_all hs1 (Bool.eq_false_iff.mpr hr) x hx
      refine j_desc (U := (R.take m).reverse) O T hk Kp.refl.arr hlo hR hP m1 hlt (mirror_list u.arr hlo.symm (by rw [hlo, u.len])) (by rw [List.length_reverse]; exact u.len) (by rw [rr]; exact hs) (by rw [rr]; exact Stb.refl _) (fun y' e v hv => ?_) h
      rw [same y' e]
      exact O.ltle hb (zl v (List.mem_reverse.mp hv))
    · show wpJ _ _ _ _ (desc' lo m nrem) Q _
      obtain rfl : m = 1 := by omega
      have e1 : R.take 1 = [z] := by
        rw [one] at hX ⊢
        cases X with
        | nil => exact hX
        | cons a X => exact absurd (congrArg List.length hX) (by simp)
      refine j_desc (U := [z]) O T hk Kp.refl hlo hR hP m1 hlt (by rw [← e1]; exact u.arr) rfl (srtd_one z) (by rw [e1]; exact Stb.refl _) (fun y' e v hv => ?_) h
      rw [same y' e, List.mem_singleton.mp hv]
      exact hb
/-- the rest put in one by one -/
theorem j_insert {st₀ st : SortSt} {A0 R : List Keyed} {lo n ok : Nat} {Q : Bool → SortSt → Prop} (O : Swo lt) (T : CmpJ prog w A J κ P lt) (hk : kindOf st₀ = κ) (hlo : A0.length = lo) (hR : n ≤ R.length) (hP : AllL P (A0 ++ R)) (hok : 1 ≤ ok) (hn : ok ≤ n) (r : Run lt A0 R ok st₀ st)
    (h : ∀ st', Run lt A0 R n st₀ st' → Q true st') : wpJ (model prog w) A E J (binarySort' lo n ok) Q st := by
  rw [binarySort'_eq]
  have em : max ok 1 = ok := by omega
  rw [em]
  refine j_bind (j_mono (j_for (fun k c t => c = (none, ()) ∧ Run lt A0 R k st₀ t) hn (Q := fun c t => c = (none, ()) ∧ Run lt A0 R n st₀ t) (fun k c t a1 a2 hI => ?_) (fun c t z => z) ⟨rfl, r⟩) fun c t z => ?_)
  · obtain ⟨rfl, ⟨X, u⟩, k2⟩ := hI
    dsimp only
    obtain ⟨y, hy, ht⟩ := drop_cons (R := R) (n := k) (by omega)
    have hl := u.len
    have cut : ∀ m, m ≤ k → (arrOf t).toList = (A0 ++ X.take m) ++ (X.drop m ++ y :: R.drop (k + 1)) ∧ (A0 ++ X.take m).length = lo + m := fun m hm => by
      constructor
      · rw [u.arr, hy, List.append_assoc, ← List.append_assoc (X.take m), List.take_append_drop]
      · rw [List.length_append, List.length_take, hlo]
        omega
    have gy : (arrOf t).toList[lo + k]? = some y := by
      rw [u.arr, hy, ← List.append_assoc]
      exact get_at (by rw [List.length_append, hlo, hl])
    have py := u.all hP _ (List.mem_of_getElem? gy)
    refine j_bind (j_mono (j_for (fun x c t2 => t2 = t ∧ ∃ l r0, c = (none, l, r0) ∧ l ≤ r0 ∧ r0 ≤ k ∧ r0 - l ≤ k - x ∧ (∀ z ∈ X.take l, lt y z = false) ∧ (∀ z ∈ X.drop r0, lt y z = true)) (Nat.zero_le k)
      (Q := fun c t2 => t2 = t ∧ ∃ l r0, c = (none, l, r0) ∧ l ≤ k ∧ (∀ z ∈ X.take l, lt y z = false) ∧ (∀ z ∈ X.drop l, lt y z = true)) (fun x c t2 b1 b2 hI => ?_) (fun c t2 z => ?_)
      ⟨rfl, 0, k, rfl, Nat.zero_le _, Nat.le_refl _, Nat.le_refl _, fun z hz => absurd hz (by simp), fun z hz => absurd hz (by rw [List.drop_eq_nil_of_le (by omega)]; simp)⟩) fun c t2 z => ?_)
    · obtain ⟨rfl, l, r0, rfl, q1, q2, q3, q4, q5⟩ := hI
      dsimp only
      refine j_if (fun ge => ?_) (fun ge => ?_)
      · obtain rfl : l = r0 := by omega
        exact j_pure ⟨rfl, l, l, rfl, q2, q4, q5⟩
      · obtain ⟨z, hz, hzt⟩ := drop_cons (R := X) (n := (l + r0) / 2) (by omega)
        have gz : (arrOf t2).toList[lo + (l + r0) / 2]? = some z := by
          rw [(cut ((l + r0) / 2) (by omega)).1, hz]
          exact get_at (cut ((l + r0) / 2) (by omega)).2
        refine j_bind (j_at T (k2.kind.trans hk) gy gz py (u.all hP _ (List.mem_of_getElem? gz)) ?_)
        dsimp only
        refine j_if (fun hb => j_pure ⟨rfl, l, (l + r0) / 2, rfl, by omega, by omega, by omega, q4, ?_⟩) (fun hb => j_pure ⟨rfl, (l + r0) / 2 + 1, r0, rfl, by omega, q2, by omega, ?_, q5⟩)
        · have s2 := u.srt
          rw [← List.take_append_drop ((l + r0) / 2) X] at s2
          have s3 := (srtd_app.mp s2).2.1
          rw [hz] at s3 ⊢
          exact O.lt_all s3 hb
        · have s2 := u.srt
          rw [← List.take_append_drop ((l + r0) / 2 + 1) X] at s2
          have s3 := (srtd_app.mp s2).1
          rw [hzt] at s3 ⊢
          exact fun a ha => O.tr a z y (O.le_last s3 a ha) (Bool.eq_false_iff.mpr hb)
    · obtain ⟨e, l, r0, e2, q1, q2, q3, q4, q5⟩ := z
      obtain rfl : l = r0 := by omega
      exact ⟨e, l, l, e2, q2, q4, q5⟩
    · obtain ⟨rfl, l, r0, rfl, hlk, q4, q5⟩ := z
      show wpJ _ _ _ _ (do moveDown' (lo + k) (lo + l); pure (ForInStep.yield (none, ()))) _ _
      rw [moveDown'_eq]
      have ci := cut l hlk
      refine j_bind (j_mod (j_pure ⟨rfl, ⟨X.take l ++ y :: X.drop l, ?_, ?_, ?_, ?_⟩, k2.arr⟩))
      · show (bubble (arrOf t2) (lo + k) (lo + k - (lo + l))).toList = _
        rw [bubble_list ci.1 ci.2.symm (by rw [ci.2, List.length_drop, hl]; omega)]
        simp only [List.append_assoc, List.cons_append]
      · simp only [List.length_append, List.length_cons, List.length_take, List.length_drop, hl]
        omega
      · refine ins_srtd O ?_ q4 q5
        rw [List.take_append_drop]
        exact u.srt
      · rw [ht]
        refine ins_stb O q5 ?_
        rw [List.take_append_drop]
        exact u.stb
  · obtain ⟨rfl, r2⟩ := z
    exact j_pure (h t r2)
/-- the whole, of less than 64 items: sorted and stable -/
theorem j_runs {st0 : SortSt} {Q : Unit → SortSt → Prop} (O : Swo lt) (T : CmpJ prog w A J κ P lt) (hk : kindOf st0 = κ) (hP : AllL P (arrOf st0).toList) (hf : failedOf st0 = none) (hp : pendingOf st0 = #[]) (h2 : 2 ≤ (arrOf st0).size) (h64 : (arrOf st0).size < 64)
    (h : ∀ t, Srtd lt (arrOf t).toList → Stb lt (arrOf t).toList (arrOf st0).toList → failedOf t = none → Q () t) : wpJ (model prog w) A E J sortRuns' Q st0 := by
  have lz : (arrOf st0).toList.length = (arrOf st0).size := Array.length_toList
  rw [sortRuns'_eq]
  refine j_bind (j_get ?_)
  dsimp only
  have hmr : minRun' (arrOf st0).size (arrOf st0).size 0 = (arrOf st0).size := by
    obtain ⟨f, e⟩ : ∃ f, (arrOf st0).size = f + 1 := ⟨(arrOf st0).size - 1, by omega⟩
    have : minRun' (f + 1) (arrOf st0).size 0 = (arrOf st0).size := by rw [minRun'_succ, if_pos h64]; rfl
    rwa [← e] at this
  simp only [hmr]
  -- what a whole run gives
  have whole : ∀ t, Run lt [] (arrOf st0).toList (arrOf st0).size st0 t → Srtd lt (arrOf t).toList ∧ Stb lt (arrOf t).toList (arrOf st0).toList ∧ failedOf t = none ∧ pendingOf t = #[] := by
    rintro t ⟨⟨X, u⟩, k⟩
    have e : (arrOf t).toList = X := by rw [u.arr, List.drop_eq_nil_of_le (by omega), List.append_nil]; rfl
    rw [e]
    have sb := u.stb
    rw [List.take_of_length_le (by omega)] at sb
    exact ⟨u.srt, sb, k.failed.trans hf, k.pend.trans hp⟩
  refine j_bind (j_mono (j_for (fun x c t => (x = 0 ∧ c = (none, 0) ∧ t = st0) ∨ (1 ≤ x ∧ c = (none, (arrOf st0).size) ∧ Srtd lt (arrOf t).toList ∧ Stb lt (arrOf t).toList (arrOf st0).toList ∧ failedOf t = none ∧ (pendingOf t).size ≤ 1)) (Nat.zero_le _)
    (Q := fun c t => c = (none, (arrOf st0).size) ∧ Srtd lt (arrOf t).toList ∧ Stb lt (arrOf t).toList (arrOf st0).toList ∧ failedOf t = none ∧ (pendingOf t).size ≤ 1) (fun x c t a1 a2 hI => ?_) (fun c t z => ?_) (.inl ⟨rfl, rfl, rfl⟩)) fun c t z => ?_)
  · rcases hI with ⟨rfl, rfl, rfl⟩ | ⟨hx, rfl, d⟩
    · dsimp only
      rw [if_neg (by omega)]
      simp only [Nat.sub_zero, Nat.min_self, Nat.zero_add]
      refine j_bind (j_count (A0 := []) O T hk (show (arrOf t).toList = [] ++ (arrOf t).toList from rfl) rfl (by omega) hP (by omega) fun m t2 r2 m1 m2 => ?_)
      dsimp only
      have put : ∀ t3, Run lt [] (arrOf t).toList (arrOf t).size t t3 → (pendingOf t3).back? = none ∧ ((arrOf (setPending t3 ((pendingOf t3).push (0, (arrOf t).size, 0)))) = arrOf t3 ∧ failedOf (setPending t3 ((pendingOf t3).push (0, (arrOf t).size, 0))) = failedOf t3 ∧ (pendingOf (setPending t3 ((pendingOf t3).push (0, (arrOf t).size, 0)))).size ≤ 1) := by
        intro t3 r3
        obtain ⟨_, _, _, w4⟩ := whole t3 r3
        refine ⟨by rw [w4]; rfl, rfl, rfl, ?_⟩
        show ((pendingOf t3).push (0, (arrOf t).size, 0)).size ≤ 1
        rw [w4]
        exact Nat.le_refl _
      by_cases hlt : m < (arrOf t).size
      · rw [if_pos hlt]
        refine j_bind (j_rule ?_)
        refine j_bind (j_insert (A0 := []) (n := (arrOf t).size) O T hk rfl (Nat.le_of_eq lz.symm) hP m1 (Nat.le_of_lt hlt) r2 fun t3 r3 => ?_)
        simp only [Bool.not_true, Bool.false_eq_true, if_false]
        refine j_bind (j_get ?_)
        obtain ⟨p1, p2, p3, p4⟩ := put t3 r3
        obtain ⟨w1, w2, w3, _⟩ := whole t3 r3
        rw [p1]
        dsimp only
        refine j_bind (j_mod (j_pure (.inr ⟨by omega, rfl, ?_, ?_, ?_, p4⟩)))
        · rw [p2]; exact w1
        · rw [p2]; exact w2
        · rw [p3]; exact w3
      · rw [if_neg hlt]
        obtain rfl : m = (arrOf t).size := by omega
        refine j_bind (j_get ?_)
        obtain ⟨p1, p2, p3, p4⟩ := put t2 r2
        obtain ⟨w1, w2, w3, _⟩ := whole t2 r2
        rw [p1]
        dsimp only
        refine j_bind (j_mod (j_pure (.inr ⟨by omega, rfl, ?_, ?_, ?_, p4⟩)))
        · rw [p2]; exact w1
        · rw [p2]; exact w2
        · rw [p3]; exact w3
    · dsimp only
      rw [if_pos (Nat.le_refl _)]
      exact j_pure ⟨rfl, d⟩
  · rcases z with ⟨e, _, _⟩ | ⟨_, e, d⟩
    · omega
    · exact ⟨e, d⟩
  · obtain ⟨rfl, d1, d2, d3, d4⟩ := z
    dsimp only
    refine j_bind (j_mono (j_for (fun _ c t2 => t2 = t ∧ c = (none, ())) (Nat.zero_le _) (Q := fun c t2 => t2 = t ∧ c = (none, ())) (fun x c t2 _ _ hI => ?_) (fun c t2 z => z) ⟨rfl, rfl⟩) fun c t2 z => ?_)
    · obtain ⟨rfl, rfl⟩ := hI
      refine j_bind (j_get ?_)
      rw [if_pos d4]
      exact j_pure ⟨rfl, rfl⟩
    · obtain ⟨rfl, rfl⟩ := z
      exact j_pure (h _ d1 d2 d3)
end
section
variable {prog : Program} {w : World} {A : Around} {E : Value → Shared → Prop} {s : Shared}
/-- list.sort of less than 64 items: what is asked at the emptied list -/
theorem list_sortJ {a : Addr} {vs : List Value} {n : Nat} {ltv : Value → Value → Bool} {R : PySem.Fin → Shared → Prop} (O : Swo ltv) (ho : s.heap.get? a = some (seqObj "list" vs.toArray n)) (hz : vs.length < 64)
    (hS : ∀ (h' : Heap) (e1 : Nat), (∀ b o, b ≠ a → s.heap.get? b = some o → h'.get? b = some o) → h'.get? a = some (seqObj "list" #[] e1) → ∃ J : Shared → Prop, J { s with heap := h' } ∧ (∀ s', J s' → s'.heap.get? a = some (seqObj "list" #[] e1)) ∧
      (2 ≤ vs.length → ∃ κ, (∀ (Q : SortKind → Shared → Prop) (E : Value → Shared → Prop), Q κ { s with heap := h' } → wpAny (model prog w) A (keyKind' vs.toArray) Q E { s with heap := h' }) ∧ CmpJ prog w A J κ (fun p => p.1 ∈ vs) (lt2 ltv)) ∧
      ∀ s' (out : List Value), J s' → Srtd ltv out → Stb ltv out vs → R (.done (.ret .none)) { s' with heap := s'.heap.update a (Obj.mapSeq fun _ => out.toArray) }) :
    wpAny (model prog w) A (Builtin.«list.sort» ⟨[.ref a], []⟩) R E s := by
  have small : vs.length ≤ sizeLine := by rw [sizeLine_eq]; omega
  rw [list_sort_plain]
  refine wpAny_bind (listItems_at ho rfl ?_)
  refine wpAny_bind (listUpdate_at ho rfl ?_ (by rw [List.size_toArray]; exact small) (Nat.zero_le _))
  obtain ⟨e1, ho1⟩ : ∃ e1, (s.heap.update a (Obj.mapSeq fun _ => #[])).get? a = some (seqObj "list" #[] e1) := ⟨_, get?_update_seq ho (fun _ => #[])⟩
  refine wpAny_bind (seqEpoch_at ho1 rfl ?_)
  refine wpAny_bind (wpAny_newTuple ?_ (by show vs.length ≤ _; exact small))
  refine wpAny_bind (wpAny_newList ?_ (Nat.zero_le _))
  refine wpAny_holding ?_
  have ho6 : (((s.heap.update a (Obj.mapSeq fun _ => #[])).push (seqObj "tuple" vs.toArray 0)).push (seqObj "list" #[] 0)).get? a = some (seqObj "list" #[] e1) :=
    Heap.get?_push_of_some _ (Heap.get?_push_of_some _ ho1)
  have keep : ∀ b o, b ≠ a → s.heap.get? b = some o → (((s.heap.update a (Obj.mapSeq fun _ => #[])).push (seqObj "tuple" vs.toArray 0)).push (seqObj "list" #[] 0)).get? b = some o := fun b o hb e =>
    Heap.get?_push_of_some _ (Heap.get?_push_of_some _ ((Heap.get?_update_ne _ _ _ _ hb).trans e))
  show wpAny (model prog w) A _ R E { s with heap := ((s.heap.update a (Obj.mapSeq fun _ => #[])).push (seqObj "tuple" vs.toArray 0)).push (seqObj "list" #[] 0) }
  dsimp only
  obtain ⟨J, j0, jat, jc, jend⟩ := hS _ e1 keep ho6
  have hsz : vs.toArray.size = vs.length := by simp
  have zz : (arrOf (SortSt.mk' general' (vs.toArray.zip vs.toArray) #[] 7 none)).size = vs.length := by
    show (vs.toArray.zip vs.toArray).size = _
    simp
  have fin : ∀ (s' : Shared) (t : SortSt), J s' → Srtd (lt2 ltv) (arrOf t).toList → Stb (lt2 ltv) (arrOf t).toList (pairsOf vs).toList → failedOf t = none →
      wpAny (model prog w) A (do
        let touched := (← seqEpoch a) != e1
        Builtin.List.listUpdate (.ref a) fun _ => (arrOf t).map (·.2)
        if let some e := failedOf t then rule "list.sort.comparison-raised"; throw e
        if touched then rule "list.sort.modified"; raiseError "ValueError" "list modified during sort"
        ret .none) R E s' := by
    intro s' t hj h1 h2 hf
    obtain ⟨k1, k2⟩ := out_ord h1 h2
    have hout : ((arrOf t).map (·.2)).size ≤ sizeLine + 1 := by
      have hl := h2.len
      rw [Array.length_toList, Array.length_toList, pairsOf_size] at hl
      rw [Array.size_map, hl]
      omega
    refine wpAny_bind (seqEpoch_at (jat s' hj) rfl ?_)
    refine wpAny_bind (listUpdate_at (jat s' hj) rfl ?_ (Nat.zero_le _) hout)
    rw [hf]
    simp only [bne_self_eq_false, Bool.false_eq_true, if_false]
    have q := jend s' _ hj k1 k2
    rw [Array.toArray_toList] at q
    exact wpAny_pure q
  by_cases h2 : vs.toArray.size < 2
  · rw [if_pos h2, if_pos h2]
    refine wpAny_bind (wpAny_pure ?_)
    rw [StateT.run_pure]
    refine wpAny_bind (wpAny_pure ?_)
    exact fin _ (SortSt.mk' general' (vs.toArray.zip vs.toArray) #[] 7 none) j0 (srtd_short (by omega)) (Stb.refl _) rfl
  · rw [if_neg h2, if_neg h2]
    obtain ⟨κ, hkind, hT⟩ := jc (by omega)
    refine wpAny_bind (hkind _ _ ?_)
    have hall : AllL (fun p : Keyed => p.1 ∈ vs) (pairsOf vs).toList := fun p hm => by
      rw [pairsOf_toList] at hm
      exact (mem_zip_self hm).2
    refine wpAny_bind (wpAny_mono (j_runs (st0 := SortSt.mk' κ (vs.toArray.zip vs.toArray) #[] 7 none) (Q := fun _ t => Srtd (lt2 ltv) (arrOf t).toList ∧ Stb (lt2 ltv) (arrOf t).toList (pairsOf vs).toList ∧ failedOf t = none) (swo2 O) hT rfl hall rfl rfl (by show 2 ≤ (vs.toArray.zip vs.toArray).size; rw [show (vs.toArray.zip vs.toArray).size = vs.length from zz]; omega) (by show (vs.toArray.zip vs.toArray).size < 64; rw [show (vs.toArray.zip vs.toArray).size = vs.length from zz]; omega) (fun t a1 a2 a3 => ⟨a1, a2, a3⟩) _ j0) ?_ fun _ _ e => e)
    rintro ⟨⟨⟩, t⟩ s' ⟨hj, b1, b2, b3⟩
    exact fin s' t hj b1 b2 b3
end
end My

namespace My
open PySem L2 PySem.Spec PySem.Calls PyProof.Rows PySem.W
/-! ### sorted(a list of own objects), by their own __lt__ -/
section
variable {X : Cx} {pins : List (Addr × Obj)} {σ : L2.St} {K : Frag} {C : Addr} {k : Nat} {sp : Sp} {ps : List Str}
/-- a record of ours comes to be tracked -/
theorem Inv.adopt {H : Hp} {s : Shared} {a : Addr} {o : HO} {h' : Heap} {t' : Nat} (I : Inv X pins σ H s) (r : Rec X pins H a) (kp : ∀ b u, b ≠ a → s.heap.get? b = some u → h'.get? b = some u) (there : ∃ u, h'.get? a = some u) (new : ObjOk X.prog X.w (upd H a o) h' a o) : Inv X pins σ (upd H a o) { s with heap := h', toks := t' } := by
  have ne : ∀ b u, H b = some u → b ≠ a := fun b u e z => by rw [z, r.non] at e; cases e
  refine I.step (g' := s.gens) (d' := s.drawn) (ch := [a]) (fun b hb => ?_) (fun b u _ _ hc e _ => kp b u (fun z => hc (by simp [z])) e) (fun b u _ _ hc e _ => ⟨u.slots, kp b u (fun z => hc (by simp [z])) e⟩) (fun b u hc _ n => ?_)
    (fun b u hc e => ⟨u, kp b u (fun z => hc (by simp [z])) e⟩) (fun b xs e => ?_) (fun b u x e => ?_) (fun b q e => ⟨#[], ?_⟩) (fun m hm => ?_) (fun b u e => ?_) I.bare
  · obtain rfl : b = a := by simpa using hb
    exact ⟨r.new, r.loc, r.cel, r.pin⟩
  · rw [upd_ne (fun z => hc (by simp [z]))]
    exact n
  · rw [upd_ne (ne _ _ e)]
    exact e
  · rw [upd_ne (ne _ _ e)]
    exact e
  · rw [upd_ne (ne _ _ e), e]
    simp
  · obtain ⟨o, es, ep, ho, q⟩ := hm
    exact ⟨o, es, ep, kp _ o (Ne.symm r.loc) ho, q⟩
  · by_cases hb : b = a
    · subst hb
      rw [upd_same] at e
      cases e
      exact new
    · rw [upd_ne hb] at e
      refine (I.hok b u e).stay (fun c v hc q => kp c v ?_ q) (fun c q => by rw [upd_ne (ne _ _ q)]; exact q) fun c xs q => by rw [upd_ne (ne _ _ q)]; exact q
      rcases hc with z | z
      · rw [z]; exact hb
      · exact ne _ _ z
def rSortedO (C : Addr) (sp : Sp) : List V → Hp → VK → Prop := fun xs H Q => ∃ (l : Addr) (as : List Addr) (ltA : Addr → Addr → Bool), xs = [.ref l] ∧ H l = some (.lst (as.map V.ref)) ∧ as.length < 64 ∧ SrtO.Swo ltA ∧ (∀ a ∈ as, ∃ dx fs, H a = some (.ins C dx fs)) ∧
  (∀ a ∈ as, ∀ b ∈ as, ∀ H', L2.Same H H' → ∀ Q' : VK, (∀ H2, L2.Same H' H2 → Q' (.bl (ltA a b)) H2) → sp [.ref a, .ref b] H' Q' E0) ∧
  ∀ (out : List Addr) (p : Addr) (H' : Hp), L2.Same H H' → H' p = none → out.Perm as → SrtO.Srtd ltA out → Q (.ref p) (upd H' p (.lst (out.map V.ref)))
def unRef : Value → Addr
  | .ref a => a
  | _ => 0
theorem vals_refs : ∀ {as : List Addr} {its : List Value}, Vals (as.map V.ref) its → its = as.map Value.ref
  | [], _, .nil => rfl
  | a :: as, _, .cons r v => by rw [vals_refs v, show _ = Value.ref a from r]; rfl
theorem refs_vals : ∀ as : List Addr, Vals (as.map V.ref) (as.map Value.ref)
  | [] => .nil
  | a :: as => .cons rfl (refs_vals as)
theorem call_sortedO (hK : X.K = K) (D : Mtn X.prog X.w X.K X.mg X.base C "__lt__" k ps [] sp) (hr : RoomG (k + 2) X.A) : CallR X (.builtin "sorted") (rSortedO C sp) := by
  subst hK
  obtain ⟨f, fd, ds, cC, hm, FF, hb, hd⟩ := D.ex
  have hr1 : RoomG (k + 1) X.A.in1 := hr.in1
  have hr2 : RoomG k X.A.in1.in1 := hr1.in1
  have hu : X.A.in1.in1.units < cLine := by
    have := hr2.units
    omega
  intro pins s σ H xs us Q I r h
  obtain ⟨l, as, ltA, rfl, el, h64, O, ins, cmp, q⟩ := h
  rw [Vals.ref1 r]
  obtain ⟨its, n, rv, hg, hz⟩ := I.lst el
  obtain rfl := vals_refs rv
  have hl : s.heap.IsList l (as.map Value.ref).toArray := ⟨_, hg, rfl, n, rfl⟩
  have lz : (as.map Value.ref).length < 64 := by rw [List.length_map]; exact h64
  have small : (as.map Value.ref).length ≤ sizeLine := by rw [sizeLine_eq]; omega
  refine Calls.call_function_entry kind_sorted plain_sorted entry_sorted (args_sorted1 _) ?_
  unfold Builtin.«sorted»
  refine wpAny_bind (m := checkCount "sorted" 1 1 _) (wpAny_pure ?_)
  refine wpAny_bind (collect_list hl ?_ small)
  refine wpAny_bind (wpAny_newList ?_ small)
  have hsz : ((s.heap.push (seqObj "list" #[] 0)).update s.heap.objs.size (Obj.mapSeq (· ++ (as.map Value.ref).toArray))).objs.size = s.heap.objs.size + 1 := by
    rw [Heap.size_update, size_push']
  have hoL : (((s.heap.push (seqObj "list" #[] 0)).update s.heap.objs.size (Obj.mapSeq (· ++ (as.map Value.ref).toArray))).push (seqObj "list" (as.map Value.ref).toArray 0)).get? (s.heap.objs.size + 1) = some (seqObj "list" (as.map Value.ref).toArray 0) := by
    rw [← hsz]; exact Heap.get?_push_size _ rfl
  have keep0 : ∀ b o, s.heap.get? b = some o → b ≠ s.heap.objs.size + 1 ∧ (((s.heap.push (seqObj "list" #[] 0)).update s.heap.objs.size (Obj.mapSeq (· ++ (as.map Value.ref).toArray))).push (seqObj "list" (as.map Value.ref).toArray 0)).get? b = some o := fun b o q => by
    have hlt : b < s.heap.objs.size := Heap.lt_size q
    refine ⟨Nat.ne_of_lt (Nat.lt_succ_of_lt hlt), Heap.get?_push_of_some _ ?_⟩
    rw [Heap.get?_update_ne _ _ _ _ (Nat.ne_of_lt hlt)]
    exact Heap.get?_push_of_some _ q
  show wpAny _ _ _ _ _ { s with heap := ((s.heap.push (seqObj "list" #[] 0)).update s.heap.objs.size (Obj.mapSeq (· ++ (as.map Value.ref).toArray))).push (seqObj "list" (as.map Value.ref).toArray 0) }
  rw [hsz]
  have O2 : SrtO.Swo (fun v u : Value => ltA (unRef v) (unRef u)) := ⟨fun x y => O.asym _ _, fun x y z => O.tr _ _ _⟩
  refine wpAny_bind (wpAny_holding (wpAny_call_entry slot_list_sort ⟨_, hoL, rfl⟩ entry_list_sort (list_sortJ O2 hoL lz fun h' e1 keep at1 => ?_) (args_list_sort _)))
  have rA := Inv.mkRec I (s.heap.objs.size + 1) (Nat.le_succ _)
  have I1 : Inv X ((s.heap.objs.size + 1, seqObj "list" #[] e1) :: pins) σ H { s with heap := h' } := by
    refine Inv.pins_of (pins := pins) (I.kept (t' := s.toks) fun b o e => keep b o (keep0 b o e).1 (keep0 b o e).2) fun p hp => ?_
    rcases List.mem_cons.mp hp with rfl | hp
    · exact ⟨at1, rA.non, rA.loc, rA.fs, fun v z => by cases z⟩
    · obtain ⟨z1, z2⟩ := I.pin p (List.mem_append_right _ hp)
      exact ⟨keep _ _ (keep0 _ _ z1).1 (keep0 _ _ z1).2, z2⟩
  refine ⟨fun s' => ∃ H', Inv X ((s.heap.objs.size + 1, seqObj "list" #[] e1) :: pins) σ H' s' ∧ L2.Same H H', ⟨H, I1, L2.Same.refl _⟩, fun s' ⟨H', I', _⟩ => (I'.pin _ (List.mem_append_right _ List.mem_cons_self)).1, fun h2 => ⟨oneType', fun Q E hQ => ?_, fun p q hp hq s' ⟨H', I', S'⟩ => ?_⟩, fun s' out ⟨H', I', S'⟩ so sb => ?_⟩
  · refine kas_kind (T := .ref C) h2 (fun v hv => ?_) rfl (beq_self_eq_true _) hQ
    obtain ⟨a, ha, rfl⟩ := List.mem_map.mp hv
    obtain ⟨dx, fs, ea⟩ := ins a ha
    obtain ⟨ox, od, J⟩ := insAt I1 ea
    exact J.type
  · obtain ⟨a, ha, e1⟩ := List.mem_map.mp hp
    obtain ⟨b, hb', e2⟩ := List.mem_map.mp hq
    rw [← e1, ← e2]
    obtain ⟨dx, fs, ea⟩ := ins a ha
    obtain ⟨ox, od, J⟩ := insAt I' (S' _ _ ea)
    obtain ⟨mf, fr⟩ := I'.fr
    refine kas_lt_inst hu fr I'.mod.kin J hm.at_ hm.fn (wpAny_mono (goInE (us := [.ref a, .ref b]) (vs := [.ref a, .ref b]) FF hr2 I'.env0.in1.in1 hb hd I' (.cons rfl (.cons rfl .nil)) (cmp a ha b hb' H' S' (fun v H2 => v = .bl (ltA a b) ∧ L2.Same H' H2) fun H2 s2 => ⟨rfl, s2⟩)) (fun w s2 hw => ?_) fun _ _ z => z)
    obtain ⟨t2, H2, J2, rt, rfl, sm⟩ := hw
    obtain rfl : w = Value.bool (ltA a b) := rt
    refine ⟨⟨H2, J2, S'.trans sm⟩, ?_⟩
    show ltA a b = ltA (unRef p.1) (unRef q.1)
    rw [← e1, ← e2]
    rfl
  · have pm := sb.perm
    obtain ⟨as', rfl⟩ : ∃ as' : List Addr, out = as'.map Value.ref := ⟨out.map unRef, by
      rw [List.map_map]
      have e : out.map (Value.ref ∘ unRef) = out.map id := List.map_congr_left fun v hv => by
        obtain ⟨a, _, rfl⟩ := List.mem_map.mp (pm.mem_iff.mp hv)
        rfl
      rw [e, List.map_id]⟩
    have pm2 : as'.Perm as := by
      have z := pm.map unRef
      rw [List.map_map, List.map_map] at z
      have e : ∀ l : List Addr, l.map (unRef ∘ Value.ref) = l := fun l => by
        show l.map (fun a => a) = l
        exact List.map_id' l
      rw [e, e] at z
      exact z
    have so2 : SrtO.Srtd ltA as' := List.pairwise_map.mp so
    have ato := (I'.pin _ (List.mem_append_right _ List.mem_cons_self)).1
    have I2 : Inv X pins σ H' s' := Inv.pins_of I' fun p hp => I'.pin p (List.mem_append_right _ (List.mem_cons_of_mem _ hp))
    have rA' : Rec X pins H' (s.heap.objs.size + 1) := ⟨(I'.pin _ (List.mem_append_right _ List.mem_cons_self)).2.1, rA.loc, rA.new, rA.cel, rA.pin, rA.fs⟩
    have hn := get?_update_seq ato (fun _ => (as'.map Value.ref).toArray)
    refine ⟨_, rfl, ?_⟩
    exact wpAny_pure ⟨_, rfl, .ref (s.heap.objs.size + 1), upd H' (s.heap.objs.size + 1) (.lst (as'.map V.ref)), Inv.adopt (t' := s'.toks) I2 rA' (fun b u nb e => (Heap.get?_update_ne _ _ _ _ nb).trans e) ⟨_, hn⟩ ⟨by rw [List.length_map, pm2.length_eq]; rw [List.length_map] at small; exact small, _, _, refs_vals as', hn⟩, rfl, q as' _ H' S' rA'.non pm2 so2⟩
end
end My

namespace My
open PySem L2 PySem.Spec PySem.Calls PyProof.Rows PySem.W
/-! ### own < own and the like; an own object as a test -/
section
variable {X : Cx} {k : Nat} {K : Frag} {C : Addr} {sp : Sp} {ps : List Str} {m : Str} {pins : List (Addr × Obj)} {σ : L2.St}
def rCmpO (C : Addr) (sp : Sp) : R2 := fun x y H Q => ∃ (a dx b db : Addr) (fs fb : List (Str × V)), x = .ref a ∧ y = .ref b ∧ H a = some (.ins C dx fs) ∧ H b = some (.ins C db fb) ∧ sp [.ref a, .ref b] H Q E0
theorem op_cmpO {op : CmpOp} (hK : X.K = K) (D : Mtn X.prog X.w X.K X.mg X.base C m k ps [] sp) (zC : ∀ {H : Hp} {a dx : Addr} {fs : List (Str × V)}, H a = some (.ins C dx fs) → TyOf K H (.ref a) (.ref C)) (nf : notFirst K C (.ref C) = true) (hr : RoomG k X.A) (hm' : (cmpInfo op).2.1 = m := by rfl) (hc : compareOp op = richCompare op := by rfl) : OpR X (compareOp op) (rCmpO C sp) := by
  subst hK
  subst hm'
  rw [hc]
  obtain ⟨f, fd, ds, c, hm, F, hb, hd⟩ := D.ex
  intro pins s σ H x y v u Q I rx ry h
  obtain ⟨a, dx, b, db, fs, fb, rfl, rfl, ea, eb, q⟩ := h
  obtain rfl : v = Value.ref a := rx
  obtain rfl : u = Value.ref b := ry
  obtain ⟨ox, od, J⟩ := insAt I ea
  obtain ⟨mf, fr⟩ := I.fr
  obtain ⟨PH, Z, pH, _⟩ := kit_of I (show RelV (V.ref b) (Value.ref b) from rfl) (TyX.base (zC eb))
  have hu : X.A.units < cLine := by
    have := hr.units
    omega
  exact PySem.W.cmp_K (op := op) hu fr I.mod.kin J (Z.ty _ _ I.kIn pH) nf hm.at_ hm.fn (wpAny_mono (goIn (us := [.ref a, .ref b]) (vs := [.ref a, .ref b]) F hr I.env0 hb hd I (.cons rfl (.cons rfl .nil)) q) (fun w s1 hw => back hw) fun _ _ z => z)
theorem s_cmpO {H : Hp} {Q : VK} {a dx b db : Addr} {fs fb : List (Str × V)} (ea : H a = some (.ins C dx fs)) (eb : H b = some (.ins C db fb)) (q : sp [.ref a, .ref b] H Q E0) : rCmpO C sp (.ref a) (.ref b) H Q := ⟨a, dx, b, db, fs, fb, rfl, rfl, ea, eb, q⟩
def tTruthO (C : Addr) (sp : Sp) (t : TE) : TT := fun σ H Q => t σ H fun x H1 => ∃ a dx fs, x = .ref a ∧ H1 a = some (.ins C dx fs) ∧ sp [.ref a] H1 (fun v H' => ∃ b, v = .bl b ∧ Q b H') E0
theorem pt_truthO {e : Expr} {t : TE} (D : Mtn X.prog X.w X.K X.mg X.base C "__bool__" k ps [] sp) (hr : RoomG k X.A) (h : PE X e t) (he : ∀ whole, isTrue e X.env whole = (do let v ← whole; standAt e.pos; holding [v] (truthy v)) := by intro _; rfl) : PT X e (tTruthO C sp t) := by
  obtain ⟨f, fd, ds, c, hm, F, hb, hd⟩ := D.ex
  refine ⟨fun pins s σ H Q I hw => ?_⟩
  refine isTrue_plain (thn (h.run pins s σ H _ I hw) fun v s1 ⟨x, H1, I1, r1, a, dx, fs, e1, ea, q⟩ => ?_) (he _)
  subst e1
  obtain rfl : v = Value.ref a := r1
  obtain ⟨ox, od, J⟩ := insAt I1 ea
  obtain ⟨mf, fr⟩ := I1.fr
  refine PySem.W.truthy_K fr I1.mod.kin J hm.at_ hm.fn (wpAny_mono (goIn (us := [.ref a]) (vs := [.ref a]) F hr I1.env0 hb hd I1 (.cons rfl .nil) q) (fun w s2 hw => ?_) fun _ _ z => z)
  obtain ⟨t, H2, I2, rt, b, rfl, q1⟩ := hw
  obtain rfl : w = Value.bool b := rt
  exact ⟨H2, I2, q1⟩
end
end My

namespace My
open PySem L2 PySem.Spec PySem.Calls PyProof.Rows PySem.W
/-! ### tuples (int, bool, int) compared -/
def b01 (b : Bool) : Int := if b = true then 1 else 0
/-- item by item: eq on, the first unequal one by c, z where all are equal -/
def lex3 (c : Int → Int → Bool) (z : Bool) (p q : Int × Bool × Int) : Bool :=
  if p.1 = q.1 then (if p.2.1 = q.2.1 then (if p.2.2 = q.2.2 then z else c p.2.2 q.2.2) else c (b01 p.2.1) (b01 q.2.1)) else c p.1 q.1
def tup3 (p : Int × Bool × Int) : List V := [.int p.1, .bl p.2.1, .int p.2.2]
def rLex3 (c : Int → Int → Bool) (z : Bool) : R2 := fun x y H Q => ∃ (a b : Addr) (p q : Int × Bool × Int), x = .ref a ∧ y = .ref b ∧ H a = some (.tup (tup3 p)) ∧ H b = some (.tup (tup3 q)) ∧ Q (.bl (lex3 c z p q)) H
theorem vals3 {p : Int × Bool × Int} {its : List Value} (r : Vals (tup3 p) its) : ∃ t u : Tok, its = [.int p.1 t, .bool p.2.1, .int p.2.2 u] := by
  cases r with
  | cons r1 r =>
    cases r with
    | cons r2 r =>
      cases r with
      | cons r3 r =>
        cases r
        obtain ⟨t, rfl⟩ := (show ∃ t, _ = Value.int p.1 t from r1)
        obtain ⟨u, rfl⟩ := (show ∃ u, _ = Value.int p.2.2 u from r3)
        obtain rfl := (show _ = Value.bool p.2.1 from r2)
        exact ⟨t, u, rfl⟩
theorem op_ltt3 {X : Cx} (hu : X.A.units + 64 < cLine) : OpR X (compareOp .Lt) (rLex3 (fun i j => decide (i < j)) false) := by
  intro pins s σ H x y v u Q I rx ry h
  obtain ⟨a, b, p, q, rfl, rfl, ha, hb, k⟩ := h
  obtain rfl : v = Value.ref a := rx
  obtain rfl : u = Value.ref b := ry
  obtain ⟨its, r1, p1, _⟩ := I.tuple (SqT.of (K := X.K) ha)
  obtain ⟨its2, r2, p2, _⟩ := I.tuple (SqT.of (K := X.K) hb)
  obtain ⟨t1, t2, rfl⟩ := vals3 r1
  obtain ⟨u1, u2, rfl⟩ := vals3 r2
  have R := Ob.RcOp.tuples_lt (A := X.A) (s := s) (e := fun j => match j with | 0 => p.1 == q.1 | 1 => p.2.1 == q.2.1 | _ => p.2.2 == q.2.2) (r := fun j => match j with | 0 => (fun i j => decide (i < j)) p.1 q.1 | 1 => (fun i j => decide (i < j)) (b01 p.2.1) (b01 q.2.1) | _ => (fun i j => decide (i < j)) p.2.2 q.2.2) p1 p2 (Nat.lt_of_le_of_lt (Nat.le_add_right _ _) hu) (fun j h1 h2 => by
    match j, h1, h2 with
    | 0, _, _ => exact SeqAt.EqAt.int_int _ _ _ _
    | 1, _, _ => exact SeqAt.EqAt.bool_bool _ _
    | 2, _, _ => exact SeqAt.EqAt.int_int _ _ _ _
    | j + 3, h1, _ => exact absurd h1 (by simp)) (fun j h1 h2 _ => by
    match j, h1, h2 with
    | 0, _, _ => exact Ob.RcOp.lt_int _ _ _ _
    | 1, _, _ => exact fun prog w E Q h => lt_bool h
    | 2, _, _ => exact Ob.RcOp.lt_int _ _ _ _
    | j + 3, h1, _ => exact absurd h1 (by simp))
  have z : wpAny (model X.prog X.w) X.A (compareOp .Lt (.ref a) (.ref b)) (EP X pins σ Q) X.xe s := R X.prog X.w X.xe (EP X pins σ Q) ⟨.bl (lex3 (fun i j => decide (i < j)) false p q), H, I, ?_, k⟩
  · exact z
  · show Value.bool _ = Value.bool _
    congr 1
    unfold lex3
    simp only [Ob.lexAt, List.size_toArray, List.length_cons, List.length_nil, beq_iff_eq, Nat.min_self, Nat.zero_add]
    by_cases e1 : p.1 = q.1 <;> by_cases e2 : p.2.1 = q.2.1 <;> by_cases e3 : p.2.2 = q.2.2 <;> simp [e1, e2, e3, Ob.lexAt]
theorem op_let3 {X : Cx} (hu : X.A.units + 64 < cLine) : OpR X (compareOp .LtE) (rLex3 (fun i j => decide (i ≤ j)) true) := by
  intro pins s σ H x y v u Q I rx ry h
  obtain ⟨a, b, p, q, rfl, rfl, ha, hb, k⟩ := h
  obtain rfl : v = Value.ref a := rx
  obtain rfl : u = Value.ref b := ry
  obtain ⟨its, r1, p1, _⟩ := I.tuple (SqT.of (K := X.K) ha)
  obtain ⟨its2, r2, p2, _⟩ := I.tuple (SqT.of (K := X.K) hb)
  obtain ⟨t1, t2, rfl⟩ := vals3 r1
  obtain ⟨u1, u2, rfl⟩ := vals3 r2
  have R := Ob.RcOp.tuples_le (A := X.A) (s := s) (e := fun j => match j with | 0 => p.1 == q.1 | 1 => p.2.1 == q.2.1 | _ => p.2.2 == q.2.2) (r := fun j => match j with | 0 => (fun i j => decide (i ≤ j)) p.1 q.1 | 1 => (fun i j => decide (i ≤ j)) (b01 p.2.1) (b01 q.2.1) | _ => (fun i j => decide (i ≤ j)) p.2.2 q.2.2) p1 p2 (Nat.lt_of_le_of_lt (Nat.le_add_right _ _) hu) (fun j h1 h2 => by
    match j, h1, h2 with
    | 0, _, _ => exact SeqAt.EqAt.int_int _ _ _ _
    | 1, _, _ => exact SeqAt.EqAt.bool_bool _ _
    | 2, _, _ => exact SeqAt.EqAt.int_int _ _ _ _
    | j + 3, h1, _ => exact absurd h1 (by simp)) (fun j h1 h2 _ => by
    match j, h1, h2 with
    | 0, _, _ => exact Ob.RcOp.le_int _ _ _ _
    | 1, _, _ => exact fun prog w E Q h => le_bool h
    | 2, _, _ => exact Ob.RcOp.le_int _ _ _ _
    | j + 3, h1, _ => exact absurd h1 (by simp))
  have z : wpAny (model X.prog X.w) X.A (compareOp .LtE (.ref a) (.ref b)) (EP X pins σ Q) X.xe s := R X.prog X.w X.xe (EP X pins σ Q) ⟨.bl (lex3 (fun i j => decide (i ≤ j)) true p q), H, I, ?_, k⟩
  · exact z
  · show Value.bool _ = Value.bool _
    congr 1
    unfold lex3
    simp only [Ob.lexAt, List.size_toArray, List.length_cons, List.length_nil, beq_iff_eq, Nat.min_self, Nat.zero_add]
    by_cases e1 : p.1 = q.1 <;> by_cases e2 : p.2.1 = q.2.1 <;> by_cases e3 : p.2.2 = q.2.2 <;> simp [e1, e2, e3, Ob.lexAt]
theorem op_gtt3 {X : Cx} (hu : X.A.units + 64 < cLine) : OpR X (compareOp .Gt) (rLex3 (fun i j => decide (j < i)) false) := by
  intro pins s σ H x y v u Q I rx ry h
  obtain ⟨a, b, p, q, rfl, rfl, ha, hb, k⟩ := h
  obtain rfl : v = Value.ref a := rx
  obtain rfl : u = Value.ref b := ry
  obtain ⟨its, r1, p1, _⟩ := I.tuple (SqT.of (K := X.K) ha)
  obtain ⟨its2, r2, p2, _⟩ := I.tuple (SqT.of (K := X.K) hb)
  obtain ⟨t1, t2, rfl⟩ := vals3 r1
  obtain ⟨u1, u2, rfl⟩ := vals3 r2
  have R := Ob.RcOp.tuples_gt (A := X.A) (s := s) (e := fun j => match j with | 0 => p.1 == q.1 | 1 => p.2.1 == q.2.1 | _ => p.2.2 == q.2.2) (r := fun j => match j with | 0 => (fun i j => decide (j < i)) p.1 q.1 | 1 => (fun i j => decide (j < i)) (b01 p.2.1) (b01 q.2.1) | _ => (fun i j => decide (j < i)) p.2.2 q.2.2) p1 p2 (Nat.lt_of_le_of_lt (Nat.le_add_right _ _) hu) (fun j h1 h2 => by
    match j, h1, h2 with
    | 0, _, _ => exact SeqAt.EqAt.int_int _ _ _ _
    | 1, _, _ => exact SeqAt.EqAt.bool_bool _ _
    | 2, _, _ => exact SeqAt.EqAt.int_int _ _ _ _
    | j + 3, h1, _ => exact absurd h1 (by simp)) (fun j h1 h2 _ => by
    match j, h1, h2 with
    | 0, _, _ => exact Ob.RcOp.gt_int _ _ _ _
    | 1, _, _ => exact fun prog w E Q h => gt_bool h
    | 2, _, _ => exact Ob.RcOp.gt_int _ _ _ _
    | j + 3, h1, _ => exact absurd h1 (by simp))
  have z : wpAny (model X.prog X.w) X.A (compareOp .Gt (.ref a) (.ref b)) (EP X pins σ Q) X.xe s := R X.prog X.w X.xe (EP X pins σ Q) ⟨.bl (lex3 (fun i j => decide (j < i)) false p q), H, I, ?_, k⟩
  · exact z
  · show Value.bool _ = Value.bool _
    congr 1
    unfold lex3
    simp only [Ob.lexAt, List.size_toArray, List.length_cons, List.length_nil, beq_iff_eq, Nat.min_self, Nat.zero_add]
    by_cases e1 : p.1 = q.1 <;> by_cases e2 : p.2.1 = q.2.1 <;> by_cases e3 : p.2.2 = q.2.2 <;> simp [e1, e2, e3, Ob.lexAt]
theorem op_get3 {X : Cx} (hu : X.A.units + 64 < cLine) : OpR X (compareOp .GtE) (rLex3 (fun i j => decide (j ≤ i)) true) := by
  intro pins s σ H x y v u Q I rx ry h
  obtain ⟨a, b, p, q, rfl, rfl, ha, hb, k⟩ := h
  obtain rfl : v = Value.ref a := rx
  obtain rfl : u = Value.ref b := ry
  obtain ⟨its, r1, p1, _⟩ := I.tuple (SqT.of (K := X.K) ha)
  obtain ⟨its2, r2, p2, _⟩ := I.tuple (SqT.of (K := X.K) hb)
  obtain ⟨t1, t2, rfl⟩ := vals3 r1
  obtain ⟨u1, u2, rfl⟩ := vals3 r2
  have R := Ob.RcOp.tuples_ge (A := X.A) (s := s) (e := fun j => match j with | 0 => p.1 == q.1 | 1 => p.2.1 == q.2.1 | _ => p.2.2 == q.2.2) (r := fun j => match j with | 0 => (fun i j => decide (j ≤ i)) p.1 q.1 | 1 => (fun i j => decide (j ≤ i)) (b01 p.2.1) (b01 q.2.1) | _ => (fun i j => decide (j ≤ i)) p.2.2 q.2.2) p1 p2 (Nat.lt_of_le_of_lt (Nat.le_add_right _ _) hu) (fun j h1 h2 => by
    match j, h1, h2 with
    | 0, _, _ => exact SeqAt.EqAt.int_int _ _ _ _
    | 1, _, _ => exact SeqAt.EqAt.bool_bool _ _
    | 2, _, _ => exact SeqAt.EqAt.int_int _ _ _ _
    | j + 3, h1, _ => exact absurd h1 (by simp)) (fun j h1 h2 _ => by
    match j, h1, h2 with
    | 0, _, _ => exact Ob.RcOp.ge_int _ _ _ _
    | 1, _, _ => exact fun prog w E Q h => ge_bool h
    | 2, _, _ => exact Ob.RcOp.ge_int _ _ _ _
    | j + 3, h1, _ => exact absurd h1 (by simp))
  have z : wpAny (model X.prog X.w) X.A (compareOp .GtE (.ref a) (.ref b)) (EP X pins σ Q) X.xe s := R X.prog X.w X.xe (EP X pins σ Q) ⟨.bl (lex3 (fun i j => decide (j ≤ i)) true p q), H, I, ?_, k⟩
  · exact z
  · show Value.bool _ = Value.bool _
    congr 1
    unfold lex3
    simp only [Ob.lexAt, List.size_toArray, List.length_cons, List.length_nil, beq_iff_eq, Nat.min_self, Nat.zero_add]
    by_cases e1 : p.1 = q.1 <;> by_cases e2 : p.2.1 = q.2.1 <;> by_cases e3 : p.2.2 = q.2.2 <;> simp [e1, e2, e3, Ob.lexAt]
/-- a statement that is never reached -/
theorem ps_never {X : Cx} {st : Stmt} : PS X st (fun _ _ _ => False) := ⟨fun _ _ _ _ _ _ h => h.elim⟩
end My

namespace My
open PySem L2 PySem.Spec PySem.Calls PyProof.Rows PySem.W Srt SrtO
/-! ### sorted of less than 64 items by comparisons that move the state, forwards or reversed -/
section
variable {prog : Program} {w : World} {A : Around} {E : Value → Shared → Prop} {s : Shared}
theorem list_sortJR {a : Addr} {vs : List Value} {n : Nat} {ltv : Value → Value → Bool} {R : PySem.Fin → Shared → Prop} (O : Swo ltv) (ho : s.heap.get? a = some (seqObj "list" vs.toArray n)) (hz : vs.length < 64)
    (hS : ∀ (h' : Heap) (e1 : Nat), (∀ b o, b ≠ a → s.heap.get? b = some o → h'.get? b = some o) → h'.get? a = some (seqObj "list" #[] e1) → ∃ J : Shared → Prop, J { s with heap := h' } ∧ (∀ s', J s' → s'.heap.get? a = some (seqObj "list" #[] e1)) ∧
      (2 ≤ vs.length → ∃ κ, (∀ (Q : SortKind → Shared → Prop) (E : Value → Shared → Prop), Q κ { s with heap := h' } → wpAny (model prog w) A (keyKind' vs.toArray) Q E { s with heap := h' }) ∧ CmpJ prog w A J κ (fun p => p.1 ∈ vs) (lt2 ltv)) ∧
      ∀ s' (out : List Value), J s' → Srtd ltv out → Stb ltv out vs.reverse → R (.done (.ret .none)) { s' with heap := s'.heap.update a (Obj.mapSeq fun _ => out.reverse.toArray) }) :
    wpAny (model prog w) A (Builtin.«list.sort» ⟨[.ref a], [(Str.ofString "reverse", .bool true)]⟩) R E s := by
  have small : vs.length ≤ sizeLine := by rw [sizeLine_eq]; omega
  rw [list_sort_rev]
  refine wpAny_bind (listItems_at ho rfl ?_)
  refine wpAny_bind (listUpdate_at ho rfl ?_ (by rw [List.size_toArray]; exact small) (Nat.zero_le _))
  obtain ⟨e1, ho1⟩ : ∃ e1, (s.heap.update a (Obj.mapSeq fun _ => #[])).get? a = some (seqObj "list" #[] e1) := ⟨_, get?_update_seq ho (fun _ => #[])⟩
  refine wpAny_bind (seqEpoch_at ho1 rfl ?_)
  refine wpAny_bind (wpAny_newTuple ?_ (by show vs.length ≤ _; exact small))
  refine wpAny_bind (wpAny_newList ?_ (Nat.zero_le _))
  refine wpAny_holding ?_
  have ho6 : (((s.heap.update a (Obj.mapSeq fun _ => #[])).push (seqObj "tuple" vs.toArray 0)).push (seqObj "list" #[] 0)).get? a = some (seqObj "list" #[] e1) :=
    Heap.get?_push_of_some _ (Heap.get?_push_of_some _ ho1)
  have keep : ∀ b o, b ≠ a → s.heap.get? b = some o → (((s.heap.update a (Obj.mapSeq fun _ => #[])).push (seqObj "tuple" vs.toArray 0)).push (seqObj "list" #[] 0)).get? b = some o := fun b o hb e =>
    Heap.get?_push_of_some _ (Heap.get?_push_of_some _ ((Heap.get?_update_ne _ _ _ _ hb).trans e))
  show wpAny (model prog w) A _ R E { s with heap := ((s.heap.update a (Obj.mapSeq fun _ => #[])).push (seqObj "tuple" vs.toArray 0)).push (seqObj "list" #[] 0) }
  have est : ((vs.toArray.zip vs.toArray).reverse).toList = (pairsOf vs.reverse).toList := SrtR.rev_pairs vs
  dsimp only
  rw [if_pos rfl]
  refine wpAny_bind (wpAny_rule ?_)
  obtain ⟨J, j0, jat, jc, jend⟩ := hS _ e1 keep ho6
  have hsz : vs.toArray.size = vs.length := by simp
  have zz : (arrOf (SortSt.mk' general' (vs.toArray.zip vs.toArray).reverse #[] 7 none)).size = vs.length := by
    show ((vs.toArray.zip vs.toArray).reverse).size = _
    simp
  have fin : ∀ (s' : Shared) (t : SortSt), J s' → Srtd (lt2 ltv) (arrOf t).toList → Stb (lt2 ltv) (arrOf t).toList (pairsOf vs.reverse).toList → failedOf t = none →
      wpAny (model prog w) A (do
        let touched := (← seqEpoch a) != e1
        Builtin.List.listUpdate (.ref a) fun _ => if true then ((arrOf t).map (·.2)).reverse else (arrOf t).map (·.2)
        if let some e := failedOf t then rule "list.sort.comparison-raised"; throw e
        if touched then rule "list.sort.modified"; raiseError "ValueError" "list modified during sort"
        ret .none) R E s' := by
    intro s' t hj h1 h2 hf
    obtain ⟨k1, k2⟩ := out_ord h1 h2
    have hout : (if true then ((arrOf t).map (·.2)).reverse else (arrOf t).map (·.2)).size ≤ sizeLine + 1 := by
      have hl := h2.len
      rw [Array.length_toList, Array.length_toList, pairsOf_size, List.length_reverse] at hl
      simp only [if_true]
      rw [Array.size_reverse, Array.size_map, hl]
      omega
    refine wpAny_bind (seqEpoch_at (jat s' hj) rfl ?_)
    refine wpAny_bind (listUpdate_at (jat s' hj) rfl ?_ (Nat.zero_le _) hout)
    rw [hf]
    simp only [bne_self_eq_false, Bool.false_eq_true, if_false, if_true]
    have q := jend s' _ hj k1 k2
    have er : ((arrOf t).map (·.2)).toList.reverse.toArray = ((arrOf t).map (·.2)).reverse := by
      apply Array.ext'
      rw [Array.toList_reverse]
    rw [er] at q
    exact wpAny_pure q
  by_cases h2 : vs.toArray.size < 2
  · rw [if_pos h2, if_pos h2]
    refine wpAny_bind (wpAny_pure ?_)
    rw [StateT.run_pure]
    refine wpAny_bind (wpAny_pure ?_)
    refine fin _ (SortSt.mk' general' (vs.toArray.zip vs.toArray).reverse #[] 7 none) j0 ?_ ?_ rfl
    · show Srtd (lt2 ltv) ((vs.toArray.zip vs.toArray).reverse).toList
      rw [est]
      exact srtd_short (by rw [List.length_reverse]; omega)
    · show Stb (lt2 ltv) ((vs.toArray.zip vs.toArray).reverse).toList _
      rw [est]
      exact Stb.refl _
  · rw [if_neg h2, if_neg h2]
    obtain ⟨κ, hkind, hT⟩ := jc (by omega)
    refine wpAny_bind (hkind _ _ ?_)
    have hall : AllL (fun p : Keyed => p.1 ∈ vs) (arrOf (SortSt.mk' κ (vs.toArray.zip vs.toArray).reverse #[] 7 none)).toList := fun p hm => by
      have hm : p ∈ ((vs.toArray.zip vs.toArray).reverse).toList := hm
      rw [est, pairsOf_toList] at hm
      exact List.mem_reverse.mp (mem_zip_self hm).2
    refine wpAny_bind (wpAny_mono (j_runs (st0 := SortSt.mk' κ (vs.toArray.zip vs.toArray).reverse #[] 7 none) (Q := fun _ t => Srtd (lt2 ltv) (arrOf t).toList ∧ Stb (lt2 ltv) (arrOf t).toList (pairsOf vs.reverse).toList ∧ failedOf t = none) (swo2 O) hT rfl hall rfl rfl (by show 2 ≤ ((vs.toArray.zip vs.toArray).reverse).size; rw [show ((vs.toArray.zip vs.toArray).reverse).size = vs.length from zz]; omega) (by show ((vs.toArray.zip vs.toArray).reverse).size < 64; rw [show ((vs.toArray.zip vs.toArray).reverse).size = vs.length from zz]; omega) (fun t a1 a2 a3 => ⟨a1, by
      have a2 : Stb (lt2 ltv) (arrOf t).toList ((vs.toArray.zip vs.toArray).reverse).toList := a2
      rw [est] at a2
      exact a2, a3⟩) _ j0) ?_ fun _ _ e => e)
    rintro ⟨⟨⟩, t⟩ s' ⟨hj, b1, b2, b3⟩
    exact fin s' t hj b1 b2 b3
end
def revKw (b : Bool) : List (Str × Value) := if b = true then [(Str.ofString "reverse", .bool true)] else []
section
variable {prog : Program} {w : World} {A : Around} {E : Value → Shared → Prop} {s : Shared}
theorem list_sortJB (b : Bool) {a : Addr} {vs : List Value} {n : Nat} {ltv : Value → Value → Bool} {R : PySem.Fin → Shared → Prop} (O : Swo ltv) (ho : s.heap.get? a = some (seqObj "list" vs.toArray n)) (hz : vs.length < 64)
    (hS : ∀ (h' : Heap) (e1 : Nat), (∀ b o, b ≠ a → s.heap.get? b = some o → h'.get? b = some o) → h'.get? a = some (seqObj "list" #[] e1) → ∃ J : Shared → Prop, J { s with heap := h' } ∧ (∀ s', J s' → s'.heap.get? a = some (seqObj "list" #[] e1)) ∧
      (2 ≤ vs.length → ∃ κ, (∀ (Q : SortKind → Shared → Prop) (E : Value → Shared → Prop), Q κ { s with heap := h' } → wpAny (model prog w) A (keyKind' vs.toArray) Q E { s with heap := h' }) ∧ CmpJ prog w A J κ (fun p => p.1 ∈ vs) (lt2 ltv)) ∧
      ∀ s' (out : List Value), J s' → Srtd ltv (if b = true then out.reverse else out) → out.Perm vs → R (.done (.ret .none)) { s' with heap := s'.heap.update a (Obj.mapSeq fun _ => out.toArray) }) :
    wpAny (model prog w) A (Builtin.«list.sort» ⟨[.ref a], revKw b⟩) R E s := by
  cases b with
  | false =>
    refine list_sortJ O ho hz fun h' e1 k1 k2 => ?_
    obtain ⟨J, a1, a2, a3, a4⟩ := hS h' e1 k1 k2
    exact ⟨J, a1, a2, a3, fun s' out j so sb => a4 s' out j so sb.perm⟩
  | true =>
    refine list_sortJR O ho hz fun h' e1 k1 k2 => ?_
    obtain ⟨J, a1, a2, a3, a4⟩ := hS h' e1 k1 k2
    exact ⟨J, a1, a2, a3, fun s' out j so sb => a4 s' out.reverse j (by rw [if_pos rfl, List.reverse_reverse]; exact so) ((List.reverse_perm out).trans (sb.perm.trans (List.reverse_perm vs)))⟩
end
section
variable {X : Cx} {pins : List (Addr × Obj)} {σ : L2.St} {K : Frag} {C : Addr} {k : Nat} {sp : Sp} {ps : List Str}
/-- sorted(a list of references), what the items' kind and comparisons are given -/
theorem sortedJ (b : Bool) {H : Hp} {s : Shared} {l : Addr} {as : List Addr} {ltA : Addr → Addr → Bool} {Q : VK} {κ : SortKind} (I : Inv X pins σ H s) (el : H l = some (.lst (as.map V.ref))) (h64 : as.length < 64) (O : SrtO.Swo ltA)
    (hk : 2 ≤ as.length → ∀ pins' H' s', Inv X pins' σ H' s' → L2.Same H H' → ∀ (Q : SortKind → Shared → Prop) (E : Value → Shared → Prop), Q κ s' → wpAny (model X.prog X.w) X.A.in1.in1 (keyKind' (as.map Value.ref).toArray) Q E s')
    (hc : ∀ a ∈ as, ∀ b ∈ as, ∀ pins' H' s', Inv X pins' σ H' s' → L2.Same H H' → wpAny (model X.prog X.w) X.A.in1.in1 (keyLt' κ (.ref a) (.ref b)) (fun r s2 => r = ltA a b ∧ ∃ H2, Inv X pins' σ H2 s2 ∧ L2.Same H' H2) (fun _ _ => False) s')
    (q : ∀ (out : List Addr) (p : Addr) (H' : Hp), L2.Same H H' → H' p = none → out.Perm as → SrtO.Srtd ltA (if b = true then out.reverse else out) → Q (.ref p) (upd H' p (.lst (out.map V.ref)))) :
    wpAny (model X.prog X.w) X.A (call (.builtin "sorted") [.ref l] (revKw b)) (EP X pins σ Q) X.xe s := by
  obtain ⟨its, n, rv, hg, hz⟩ := I.lst el
  obtain rfl := vals_refs rv
  have hl : s.heap.IsList l (as.map Value.ref).toArray := ⟨_, hg, rfl, n, rfl⟩
  have lz : (as.map Value.ref).length < 64 := by rw [List.length_map]; exact h64
  have small : (as.map Value.ref).length ≤ sizeLine := by rw [sizeLine_eq]; omega
  have ha1 : argsOk "sorted" ⟨[.ref l], revKw b⟩ := by
    cases b
    · exact args_sorted1 _
    · exact args_sorted_rev _ _
  have ha2 : ∀ a, argsOk "list.sort" ⟨[a], revKw b⟩ := fun a => by
    cases b
    · exact args_list_sort _
    · exact args_list_sort_rev _ _
  refine call_function_entry_kw kind_sorted plain_sorted entry_sorted ha1 ?_
  unfold Builtin.«sorted»
  refine wpAny_bind (m := checkCount "sorted" 1 1 _) (wpAny_pure ?_)
  refine wpAny_bind (collect_list hl ?_ small)
  refine wpAny_bind (wpAny_newList ?_ small)
  have hsz : ((s.heap.push (seqObj "list" #[] 0)).update s.heap.objs.size (Obj.mapSeq (· ++ (as.map Value.ref).toArray))).objs.size = s.heap.objs.size + 1 := by
    rw [Heap.size_update, size_push']
  have hoL : (((s.heap.push (seqObj "list" #[] 0)).update s.heap.objs.size (Obj.mapSeq (· ++ (as.map Value.ref).toArray))).push (seqObj "list" (as.map Value.ref).toArray 0)).get? (s.heap.objs.size + 1) = some (seqObj "list" (as.map Value.ref).toArray 0) := by
    rw [← hsz]; exact Heap.get?_push_size _ rfl
  have keep0 : ∀ b o, s.heap.get? b = some o → b ≠ s.heap.objs.size + 1 ∧ (((s.heap.push (seqObj "list" #[] 0)).update s.heap.objs.size (Obj.mapSeq (· ++ (as.map Value.ref).toArray))).push (seqObj "list" (as.map Value.ref).toArray 0)).get? b = some o := fun b o q => by
    have hlt : b < s.heap.objs.size := Heap.lt_size q
    refine ⟨Nat.ne_of_lt (Nat.lt_succ_of_lt hlt), Heap.get?_push_of_some _ ?_⟩
    rw [Heap.get?_update_ne _ _ _ _ (Nat.ne_of_lt hlt)]
    exact Heap.get?_push_of_some _ q
  show wpAny _ _ _ _ _ { s with heap := ((s.heap.push (seqObj "list" #[] 0)).update s.heap.objs.size (Obj.mapSeq (· ++ (as.map Value.ref).toArray))).push (seqObj "list" (as.map Value.ref).toArray 0) }
  rw [hsz]
  have O2 : SrtO.Swo (fun v u : Value => ltA (unRef v) (unRef u)) := ⟨fun x y => O.asym _ _, fun x y z => O.tr _ _ _⟩
  refine wpAny_bind (wpAny_holding (wpAny_call_entry_kw slot_list_sort ⟨_, hoL, rfl⟩ entry_list_sort (list_sortJB b O2 hoL lz fun h' e1 keep at1 => ?_) (ha2 _)))
  have rA := Inv.mkRec I (s.heap.objs.size + 1) (Nat.le_succ _)
  have I1 : Inv X ((s.heap.objs.size + 1, seqObj "list" #[] e1) :: pins) σ H { s with heap := h' } := by
    refine Inv.pins_of (pins := pins) (I.kept (t' := s.toks) fun b o e => keep b o (keep0 b o e).1 (keep0 b o e).2) fun p hp => ?_
    rcases List.mem_cons.mp hp with rfl | hp
    · exact ⟨at1, rA.non, rA.loc, rA.fs, fun v z => by cases z⟩
    · obtain ⟨z1, z2⟩ := I.pin p (List.mem_append_right _ hp)
      exact ⟨keep _ _ (keep0 _ _ z1).1 (keep0 _ _ z1).2, z2⟩
  refine ⟨fun s' => ∃ H', Inv X ((s.heap.objs.size + 1, seqObj "list" #[] e1) :: pins) σ H' s' ∧ L2.Same H H', ⟨H, I1, L2.Same.refl _⟩, fun s' ⟨H', I', _⟩ => (I'.pin _ (List.mem_append_right _ List.mem_cons_self)).1, fun h2 => ⟨κ, fun Q E hQ => ?_, fun p q hp hq s' ⟨H', I', S'⟩ => ?_⟩, fun s' out ⟨H', I', S'⟩ so pm => ?_⟩
  · exact hk (by rw [List.length_map] at h2; exact h2) _ _ _ I1 (L2.Same.refl _) Q E hQ
  · obtain ⟨a, ha, e1⟩ := List.mem_map.mp hp
    obtain ⟨b, hb', e2⟩ := List.mem_map.mp hq
    rw [← e1, ← e2]
    refine wpAny_mono (hc a ha b hb' _ H' s' I' S') (fun r s2 hw => ?_) fun _ _ z => z
    obtain ⟨rfl, H2, J2, sm⟩ := hw
    refine ⟨⟨H2, J2, S'.trans sm⟩, ?_⟩
    show ltA a b = ltA (unRef p.1) (unRef q.1)
    rw [← e1, ← e2]
    rfl
  · obtain ⟨as', rfl⟩ : ∃ as' : List Addr, out = as'.map Value.ref := ⟨out.map unRef, by
      rw [List.map_map]
      have e : out.map (Value.ref ∘ unRef) = out.map id := List.map_congr_left fun v hv => by
        obtain ⟨a, _, rfl⟩ := List.mem_map.mp (pm.mem_iff.mp hv)
        rfl
      rw [e, List.map_id]⟩
    have pm2 : as'.Perm as := by
      have z := pm.map unRef
      rw [List.map_map, List.map_map] at z
      have e : ∀ l : List Addr, l.map (unRef ∘ Value.ref) = l := fun l => by
        show l.map (fun a => a) = l
        exact List.map_id' l
      rw [e, e] at z
      exact z
    have so2 : SrtO.Srtd ltA (if b = true then as'.reverse else as') := by
      cases b with
      | false => exact List.pairwise_map.mp so
      | true =>
        rw [if_pos rfl] at so ⊢
        rw [← List.map_reverse] at so
        exact List.pairwise_map.mp so
    have ato := (I'.pin _ (List.mem_append_right _ List.mem_cons_self)).1
    have I2 : Inv X pins σ H' s' := Inv.pins_of I' fun p hp => I'.pin p (List.mem_append_right _ (List.mem_cons_of_mem _ hp))
    have rA' : Rec X pins H' (s.heap.objs.size + 1) := ⟨(I'.pin _ (List.mem_append_right _ List.mem_cons_self)).2.1, rA.loc, rA.new, rA.cel, rA.pin, rA.fs⟩
    have hn := get?_update_seq ato (fun _ => (as'.map Value.ref).toArray)
    refine ⟨_, rfl, ?_⟩
    exact wpAny_pure ⟨_, rfl, .ref (s.heap.objs.size + 1), upd H' (s.heap.objs.size + 1) (.lst (as'.map V.ref)), Inv.adopt (t' := s'.toks) I2 rA' (fun b u nb e => (Heap.get?_update_ne _ _ _ _ nb).trans e) ⟨_, hn⟩ ⟨by rw [List.length_map, pm2.length_eq]; rw [List.length_map] at small; exact small, _, _, refs_vals as', hn⟩, rfl, q as' _ H' S' rA'.non pm2 so2⟩
/-- sorted(xs, reverse=True) of own objects -/
def rSortedOR (C : Addr) (sp : Sp) : List V → List V → Hp → VK → Prop := fun xs zs H Q => ∃ (l : Addr) (as : List Addr) (ltA : Addr → Addr → Bool), xs = [.ref l] ∧ zs = [.bl true] ∧ H l = some (.lst (as.map V.ref)) ∧ as.length < 64 ∧ SrtO.Swo ltA ∧ (∀ a ∈ as, ∃ dx fs, H a = some (.ins C dx fs)) ∧
  (∀ a ∈ as, ∀ b ∈ as, ∀ H', L2.Same H H' → ∀ Q' : VK, (∀ H2, L2.Same H' H2 → Q' (.bl (ltA a b)) H2) → sp [.ref a, .ref b] H' Q' E0) ∧
  ∀ (out : List Addr) (p : Addr) (H' : Hp), L2.Same H H' → H' p = none → out.Perm as → SrtO.Srtd ltA out.reverse → Q (.ref p) (upd H' p (.lst (out.map V.ref)))
theorem own_lt (hK : X.K = K) (D : Mtn X.prog X.w X.K X.mg X.base C "__lt__" k ps [] sp) (hr : RoomG k X.A.in1.in1) {pins' : List (Addr × Obj)} {H' : Hp} {s' : Shared} {a b dx : Addr} {r : Bool} {fs : List (Str × V)} (I' : Inv X pins' σ H' s') (ea : H' a = some (.ins C dx fs)) (h : sp [.ref a, .ref b] H' (fun v H2 => v = .bl r ∧ L2.Same H' H2) E0) :
    wpAny (model X.prog X.w) X.A.in1.in1 (keyLt' oneType' (.ref a) (.ref b)) (fun z s2 => z = r ∧ ∃ H2, Inv X pins' σ H2 s2 ∧ L2.Same H' H2) (fun _ _ => False) s' := by
  subst hK
  obtain ⟨f, fd, ds, cC, hm, FF, hb, hd⟩ := D.ex
  have hu : X.A.in1.in1.units < cLine := by
    have := hr.units
    omega
  obtain ⟨ox, od, J⟩ := insAt I' ea
  obtain ⟨mf, fr⟩ := I'.fr
  refine kas_lt_inst hu fr I'.mod.kin J hm.at_ hm.fn (wpAny_mono (goInE (us := [.ref a, .ref b]) (vs := [.ref a, .ref b]) FF hr I'.env0.in1.in1 hb hd I' (.cons rfl (.cons rfl .nil)) h) (fun w s2 hw => ?_) fun _ _ z => z)
  obtain ⟨t2, H2, J2, rt, rfl, sm⟩ := hw
  obtain rfl : w = Value.bool r := rt
  exact ⟨rfl, H2, J2, sm⟩
theorem call_sortedOR (hK : X.K = K) (D : Mtn X.prog X.w X.K X.mg X.base C "__lt__" k ps [] sp) (hr : RoomG (k + 2) X.A) : CallRK X (.builtin "sorted") [Str.ofString "reverse"] (rSortedOR C sp) := by
  have hr1 : RoomG (k + 1) X.A.in1 := hr.in1
  have hr2 : RoomG k X.A.in1.in1 := hr1.in1
  intro pins s σ H xs zs us ws Q I r rz h
  obtain ⟨l, as, ltA, rfl, rfl, el, h64, O, ins, cmp, q⟩ := h
  rw [Vals.ref1 r]
  obtain ⟨w1, rfl, e1⟩ := vals1 rz
  obtain rfl : w1 = Value.bool true := e1
  refine sortedJ (κ := oneType') true I el h64 O (fun h2 pins' H' s' I' S' Q E hQ => ?_) (fun a ha b hb pins' H' s' I' S' => ?_) (fun out p H' S' hp pm so => q out p H' S' hp pm (by rw [if_pos rfl] at so; exact so))
  · refine kas_kind (T := .ref C) (by rw [List.length_map]; exact h2) (fun v hv => ?_) rfl (beq_self_eq_true _) hQ
    obtain ⟨a, ha, rfl⟩ := List.mem_map.mp hv
    obtain ⟨dx, fs, ea⟩ := ins a ha
    obtain ⟨ox, od, J⟩ := insAt I' (S' _ _ ea)
    exact J.type
  · obtain ⟨dx, fs, ea⟩ := ins a ha
    exact own_lt hK D hr2 I' (S' _ _ ea) (cmp a ha b hb H' S' _ fun H2 s2 => ⟨rfl, s2⟩)
/-- == of two own objects within a builtin -/
theorem own_eqB (hK : X.K = K) (D : Mtn X.prog X.w X.K X.mg X.base C "__eq__" k ps [] sp) (hr : RoomG k X.A.in1.in1) {pins' : List (Addr × Obj)} {H' : Hp} {s' : Shared} {a b dx dy : Addr} {r : Bool} {fs gs : List (Str × V)} (I' : Inv X pins' σ H' s') (ea : H' a = some (.ins C dx fs)) (eb : H' b = some (.ins C dy gs)) (hs : a = b → r = true) (h : a ≠ b → sp [.ref a, .ref b] H' (fun v H2 => v = .bl r ∧ L2.Same H' H2) E0) {E : Value → Shared → Prop} :
    wpAny (model X.prog X.w) X.A.in1.in1 (eqBool (.ref a) (.ref b)) (fun z s2 => z = r ∧ ∃ H2, Inv X pins' σ H2 s2 ∧ L2.Same H' H2) E s' := by
  subst hK
  by_cases hab : a = b
  · obtain rfl := hs hab
    subst hab
    exact SeqAt.EqAt.same (A := X.A.in1.in1) (s := s') (.ref a) X.prog X.w _ _ ⟨rfl, H', I', L2.Same.refl _⟩
  · obtain ⟨f, fd, ds, cC, hm, FF, hb, hd⟩ := D.ex
    have hu : X.A.in1.in1.units < cLine := by
      have := hr.units
      omega
    obtain ⟨ox, od, J⟩ := insAt I' ea
    obtain ⟨oy, od', J'⟩ := insAt I' eb
    obtain ⟨mf, fr⟩ := I'.fr
    refine GQ.eqBool_refG hab (PySem.W.cmp_K (op := .Eq) (tb := .ref C) hu fr I'.mod.kin J J'.type (by simp [PySem.W.notFirst]) hm.at_ hm.fn (wpAny_mono (goInE (us := [.ref a, .ref b]) (vs := [.ref a, .ref b]) FF hr I'.env0.in1.in1 hb hd I' (.cons rfl (.cons rfl .nil)) (h hab)) (fun w s2 hw => ?_) fun _ _ z => z))
    obtain ⟨t2, H2, J2, rt, rfl, sm⟩ := hw
    obtain rfl : w = Value.bool r := rt
    exact ⟨r, rfl, rfl, H2, J2, sm⟩
/-- sorted of tuples (own, number) with the same number -/
def rSortedOT (C : Addr) (spE spL : Sp) : List V → Hp → VK → Prop := fun xs H Q => ∃ (l : Addr) (ts : List Addr) (own : Addr → Addr) (i : Int) (eqA ltA : Addr → Addr → Bool), xs = [.ref l] ∧ H l = some (.lst (ts.map V.ref)) ∧ ts.length < 64 ∧ SrtO.Swo ltA ∧
  (∀ t ∈ ts, H t = some (.tup [.ref (own t), .int i]) ∧ ∃ dx fs, H (own t) = some (.ins C dx fs)) ∧
  (∀ t ∈ ts, ∀ u ∈ ts, own t = own u → eqA t u = true) ∧ (∀ t ∈ ts, ∀ u ∈ ts, eqA t u = true → ltA t u = false) ∧
  (∀ t ∈ ts, ∀ u ∈ ts, ∀ H', L2.Same H H' → ∀ Q' : VK, (∀ H2, L2.Same H' H2 → Q' (.bl (eqA t u)) H2) → spE [.ref (own t), .ref (own u)] H' Q' E0) ∧
  (∀ t ∈ ts, ∀ u ∈ ts, ∀ H', L2.Same H H' → ∀ Q' : VK, (∀ H2, L2.Same H' H2 → Q' (.bl (ltA t u)) H2) → spL [.ref (own t), .ref (own u)] H' Q' E0) ∧
  ∀ (out : List Addr) (p : Addr) (H' : Hp), L2.Same H H' → H' p = none → out.Perm ts → SrtO.Srtd ltA out → Q (.ref p) (upd H' p (.lst (out.map V.ref)))
theorem call_sortedOT {k2 : Nat} {ps2 : List Str} {sp2 : Sp} (hK : X.K = K) (D : Mtn X.prog X.w X.K X.mg X.base C "__lt__" k ps [] sp) (D2 : Mtn X.prog X.w X.K X.mg X.base C "__eq__" k2 ps2 [] sp2) (hr : RoomG (k + 2) X.A) (hr' : RoomG (k2 + 2) X.A) : CallR X (.builtin "sorted") (rSortedOT C sp2 sp) := by
  have hr1 : RoomG (k + 1) X.A.in1 := hr.in1
  have hr2 : RoomG k X.A.in1.in1 := hr1.in1
  have hr1' : RoomG (k2 + 1) X.A.in1 := hr'.in1
  have hr2' : RoomG k2 X.A.in1.in1 := hr1'.in1
  intro pins s σ H xs us Q I r h
  obtain ⟨l, ts, own, i, eqA, ltA, rfl, el, h64, O, ins, same, irr, eqs, cmp, q⟩ := h
  rw [Vals.ref1 r]
  have look : ∀ {pins' : List (Addr × Obj)} {H' : Hp} {s' : Shared} {t : Addr}, Inv X pins' σ H' s' → H' t = some (.tup [.ref (own t), .int i]) → ∃ (o : Obj) (k : Tok) (n : Nat), s'.heap.get? t = some o ∧ o.cls = .type "tuple" ∧ o.data = .seq [Value.ref (own t), Value.int i k].toArray n := fun I' e => by
    obtain ⟨_, its2, r2, o, ho, hc, n, hd⟩ := I'.hok _ _ e
    obtain ⟨u1, u2, rfl, ri, rj⟩ := vals2 r2
    obtain rfl : u1 = Value.ref _ := ri
    obtain ⟨t2, rfl⟩ := rj
    exact ⟨o, t2, n, ho, hc, hd⟩
  refine sortedJ (κ := tuples' true) false I el h64 O (fun h2 pins' H' s' I' S' Q E hQ => ?_) (fun t ht u hu pins' H' s' I' S' => ?_) (fun out p H' S' hp pm so => q out p H' S' hp pm (by rw [if_neg (by simp)] at so; exact so))
  · refine kat_kind (fs := ts.map fun t => Value.ref (own t)) (T := .ref C) ?_ (by rw [List.length_map]; omega) (fun v hv => ?_) (beq_self_eq_true _) hQ
    · have z : ∀ t ∈ ts, H' t = some (.tup [.ref (own t), .int i]) := fun t ht => S' _ _ (ins t ht).1
      clear ins same irr eqs cmp q el h64 h2
      induction ts with
      | nil => exact KatTups.nil
      | cons t ts ih =>
        obtain ⟨o, k, n, ho, hc, hd⟩ := look I' (z t List.mem_cons_self)
        exact KatTups.cons ho hc hd rfl (ih fun u hu => z u (List.mem_cons_of_mem _ hu))
    · obtain ⟨t, ht, rfl⟩ := List.mem_map.mp hv
      obtain ⟨_, dx, fs, ea⟩ := ins t ht
      obtain ⟨ox, od, J⟩ := insAt I' (S' _ _ ea)
      exact J.type
  · obtain ⟨e1, dx, fs, ea⟩ := ins t ht
    obtain ⟨e2, dy, gs, eb⟩ := ins u hu
    obtain ⟨o, k, n, ho, hc, hd⟩ := look I' (S' _ _ e1)
    obtain ⟨o', k', n', ho', hc', hd'⟩ := look I' (S' _ _ e2)
    refine kat_lt ho hd ho' hd' ?_
    refine kat_cons (wpAny_mono (own_eqB (r := eqA t u) hK D2 hr2' I' (S' _ _ ea) (S' _ _ eb) (same t ht u hu) (fun _ => eqs t ht u hu H' S' _ fun H2 s2 => ⟨rfl, s2⟩)) (fun e s2 he => ?_) fun _ _ z => z)
    obtain ⟨rfl, H2, I2, sm⟩ := he
    refine kat_go (fun e => ?_) (fun e => ?_)
    · refine kat_yes (kat_cons (SeqAt.EqAt.int_int (A := X.A.in1.in1) (s := s2) i k i k' _ _ _ _ ?_))
      rw [beq_self_eq_true]
      refine kat_yes (kat_nil ⟨?_, H2, I2, sm⟩)
      rw [irr t ht u hu e]
      rfl
    · refine kat_no ?_
      have z := own_lt (r := ltA t u) hK D hr2 I2 (sm _ _ (S' _ _ ea)) (cmp t ht u hu H2 (S'.trans sm) _ fun H3 s3 => ⟨rfl, s3⟩)
      rw [keyLt'_oneType] at z
      exact wpAny_mono z (fun r s3 h => let ⟨e, H3, I3, s⟩ := h; ⟨e, H3, I3, sm.trans s⟩) fun _ _ z => z
/-- not x, x an own object with its own __bool__ -/
def tNotVO (C : Addr) (sp : Sp) (t : TE) : TE := fun σ H Q => t σ H fun x H1 => ∃ a dx fs, x = .ref a ∧ H1 a = some (.ins C dx fs) ∧ sp [.ref a] H1 (fun v H' => ∃ b : Bool, v = .bl b ∧ Q (.bl (!b)) H') E0
theorem pe_notO {e : Expr} {t : TE} {pos : Pos} (D : Mtn X.prog X.w X.K X.mg X.base C "__bool__" k ps [] sp) (hr : RoomG k X.A) (h : PE X e t) : PE X (.UnaryOp .Not e pos) (tNotVO C sp t) := by
  obtain ⟨f, fd, ds, c, hm, F, hb, hd⟩ := D.ex
  refine ⟨fun pins s σ H Q I hw => ?_⟩
  refine UnaryOp_ (thn (h.run pins s σ H _ I hw) fun v s1 ⟨x, H1, I1, r1, a, dx, fs, e1, ea, q⟩ => ?_)
  subst e1
  obtain rfl : v = Value.ref a := r1
  obtain ⟨ox, od, J⟩ := insAt I1 ea
  obtain ⟨mf, fr⟩ := I1.fr
  refine not_of (PySem.W.truthy_K fr I1.mod.kin J hm.at_ hm.fn (wpAny_mono (goIn (us := [.ref a]) (vs := [.ref a]) F hr I1.env0 hb hd I1 (.cons rfl .nil) q) (fun w s2 hw => ?_) fun _ _ z => z))
  obtain ⟨t2, H2, I2, rt, b, rfl, q1⟩ := hw
  obtain rfl : w = Value.bool b := rt
  exact ⟨.bl (!b), H2, I2, rfl, q1⟩
theorem s_notVO {t : TE} {H : Hp} {Q : VK} (h : t σ H fun x H1 => ∃ a dx fs, x = .ref a ∧ H1 a = some (.ins C dx fs) ∧ sp [.ref a] H1 (fun v H' => ∃ b : Bool, v = .bl b ∧ Q (.bl (!b)) H') E0) : tNotVO C sp t σ H Q := h
end
end My

section
namespace My
open PySem L2
structure Md (K : PySem.W.Frag) (mg : Str → Option Value) (C_Many C_Ratio C_EachError C_InvalidCount C_InvalidNumber C_InvalidMany : Addr) : Prop where
  b_isinstance : mg "isinstance" = none
  b_int : mg "int" = none
  b_bool : mg "bool" = none
  b_max : mg "max" = none
  b_min : mg "min" = none
  b_abs : mg "abs" = none
  b_divmod : mg "divmod" = none
  b_len : mg "len" = none
  b_range : mg "range" = none
  b_all : mg "all" = none
  b_repr : mg "repr" = none
  b_sorted : mg "sorted" = none
  b_str : mg "str" = none
  b_list : mg "list" = none
  h_gcd : mg "gcd" = some (.builtin "math.gcd")
  f_is_integer : ∃ (f : Addr) (fd : FuncData), FunD K "is_integer" "is_integer" (defArgs st_is_integer) (defBody st_is_integer) (defScope st_is_integer) [] [] f fd ∧ mg "is_integer" = some (.ref f)
  f_is_count : ∃ (f : Addr) (fd : FuncData), FunD K "is_count" "is_count" (defArgs st_is_count) (defBody st_is_count) (defScope st_is_count) [] [] f fd ∧ mg "is_count" = some (.ref f)
  f__is_up_to : ∃ (f : Addr) (fd : FuncData), FunD K "_is_up_to" "_is_up_to" (defArgs st__is_up_to) (defBody st__is_up_to) (defScope st__is_up_to) [] [] f fd ∧ mg "_is_up_to" = some (.ref f)
  f__law_rng : ∃ (f : Addr) (fd : FuncData), FunD K "_law_rng" "_law_rng" (defArgs st__law_rng) (defBody st__law_rng) (defScope st__law_rng) [] [] f fd ∧ mg "_law_rng" = some (.ref f)
  f__law_draw : ∃ (f : Addr) (fd : FuncData), FunD K "_law_draw" "_law_draw" (defArgs st__law_draw) (defBody st__law_draw) (defScope st__law_draw) [] [] f fd ∧ mg "_law_draw" = some (.ref f)
  f__law_choice : ∃ (f : Addr) (fd : FuncData), FunD K "_law_choice" "_law_choice" (defArgs st__law_choice) (defBody st__law_choice) (defScope st__law_choice) [] [] f fd ∧ mg "_law_choice" = some (.ref f)
  f__law_pairs : ∃ (f : Addr) (fd : FuncData), FunD K "_law_pairs" "_law_pairs" (defArgs st__law_pairs) (defBody st__law_pairs) (defScope st__law_pairs) [] [] f fd ∧ mg "_law_pairs" = some (.ref f)
  f__law_ahead : ∃ (f : Addr) (fd : FuncData), FunD K "_law_ahead" "_law_ahead" (defArgs st__law_ahead) (defBody st__law_ahead) (defScope st__law_ahead) [] [] f fd ∧ mg "_law_ahead" = some (.ref f)
  f__law_ordered : ∃ (f : Addr) (fd : FuncData), FunD K "_law_ordered" "_law_ordered" (defArgs st__law_ordered) (defBody st__law_ordered) (defScope st__law_ordered) [] [] f fd ∧ mg "_law_ordered" = some (.ref f)
  f__law_row : ∃ (f : Addr) (fd : FuncData), FunD K "_law_row" "_law_row" (defArgs st__law_row) (defBody st__law_row) (defScope st__law_row) [] [] f fd ∧ mg "_law_row" = some (.ref f)
  f__law_two_right : ∃ (f : Addr) (fd : FuncData), FunD K "_law_two_right" "_law_two_right" (defArgs st__law_two_right) (defBody st__law_two_right) (defScope st__law_two_right) [] [] f fd ∧ mg "_law_two_right" = some (.ref f)
  f__law_alone_right : ∃ (f : Addr) (fd : FuncData), FunD K "_law_alone_right" "_law_alone_right" (defArgs st__law_alone_right) (defBody st__law_alone_right) (defScope st__law_alone_right) [] [] f fd ∧ mg "_law_alone_right" = some (.ref f)
  f__law_right : ∃ (f : Addr) (fd : FuncData), FunD K "_law_right" "_law_right" (defArgs st__law_right) (defBody st__law_right) (defScope st__law_right) [] [] f fd ∧ mg "_law_right" = some (.ref f)
  m_Many : mg "Many" = some (.ref C_Many)
  k_Many : Cls K C_Many
  i_Many : ∃ (f : Addr) (fd : FuncData), Mk K C_Many f ∧ FunD K "__init__" "Many.__init__" (defArgs st_Many___init__) (defBody st_Many___init__) (defScope st_Many___init__) [.non] [] f fd
  z_Many : ∀ {H : Hp} {a dx : Addr} {fs : List (Str × V)}, H a = some (.ins C_Many dx fs) → TyOf K H (.ref a) (.ref C_Many)
  n_Many__least : NoAttr K C_Many "_least"
  n_Many__most : NoAttr K C_Many "_most"
  n_Many__key : NoAttr K C_Many "_key"
  e_Many___bool__ : ∃ (f : Addr) (fd : FuncData), Meth K C_Many "__bool__" f ∧ FunD K "__bool__" "Many.__bool__" (defArgs st_Many___bool__) (defBody st_Many___bool__) (defScope st_Many___bool__) [] [] f fd
  e_Many___eq__ : ∃ (f : Addr) (fd : FuncData), Meth K C_Many "__eq__" f ∧ FunD K "__eq__" "Many.__eq__" (defArgs st_Many___eq__) (defBody st_Many___eq__) (defScope st_Many___eq__) [] [] f fd
  e_Many___lt__ : ∃ (f : Addr) (fd : FuncData), Meth K C_Many "__lt__" f ∧ FunD K "__lt__" "Many.__lt__" (defArgs st_Many___lt__) (defBody st_Many___lt__) (defScope st_Many___lt__) [] [] f fd
  e_Many___le__ : ∃ (f : Addr) (fd : FuncData), Meth K C_Many "__le__" f ∧ FunD K "__le__" "Many.__le__" (defArgs st_Many___le__) (defBody st_Many___le__) (defScope st_Many___le__) [] [] f fd
  e_Many___gt__ : ∃ (f : Addr) (fd : FuncData), Meth K C_Many "__gt__" f ∧ FunD K "__gt__" "Many.__gt__" (defArgs st_Many___gt__) (defBody st_Many___gt__) (defScope st_Many___gt__) [] [] f fd
  e_Many___ge__ : ∃ (f : Addr) (fd : FuncData), Meth K C_Many "__ge__" f ∧ FunD K "__ge__" "Many.__ge__" (defArgs st_Many___ge__) (defBody st_Many___ge__) (defScope st_Many___ge__) [] [] f fd
  e_Many___str__ : ∃ (f : Addr) (fd : FuncData), Meth K C_Many "__str__" f ∧ FunD K "__str__" "Many.__str__" (defArgs st_Many___str__) (defBody st_Many___str__) (defScope st_Many___str__) [] [] f fd
  e_Many___repr__ : ∃ (f : Addr) (fd : FuncData), Meth K C_Many "__repr__" f ∧ FunD K "__repr__" "Many.__repr__" (defArgs st_Many___repr__) (defBody st_Many___repr__) (defScope st_Many___repr__) [] [] f fd
  p_Many_least : ∃ (p f : Addr) (fd : FuncData), PropOf K C_Many "least" p f ∧ FunD K "least" "Many.least" (defArgs st_Many_least) (defBody st_Many_least) (defScope st_Many_least) [] [] f fd
  p_Many_most : ∃ (p f : Addr) (fd : FuncData), PropOf K C_Many "most" p f ∧ FunD K "most" "Many.most" (defArgs st_Many_most) (defBody st_Many_most) (defScope st_Many_most) [] [] f fd
  m_Ratio : mg "Ratio" = some (.ref C_Ratio)
  k_Ratio : Cls K C_Ratio
  i_Ratio : ∃ (f : Addr) (fd : FuncData), Mk K C_Ratio f ∧ FunD K "__init__" "Ratio.__init__" (defArgs st_Ratio___init__) (defBody st_Ratio___init__) (defScope st_Ratio___init__) [.int 1] [] f fd
  z_Ratio : ∀ {H : Hp} {a dx : Addr} {fs : List (Str × V)}, H a = some (.ins C_Ratio dx fs) → TyOf K H (.ref a) (.ref C_Ratio)
  n_Ratio__top : NoAttr K C_Ratio "_top"
  n_Ratio__bottom : NoAttr K C_Ratio "_bottom"
  e_Ratio___eq__ : ∃ (f : Addr) (fd : FuncData), Meth K C_Ratio "__eq__" f ∧ FunD K "__eq__" "Ratio.__eq__" (defArgs st_Ratio___eq__) (defBody st_Ratio___eq__) (defScope st_Ratio___eq__) [] [] f fd
  ne_Many : PySem.W.findIn K (.ref C_Many) "__ne__" = some (some (.builtin "object.__ne__"))
  mo_Many : PySem.W.mroIn K C_Many (.type "object") = some true
  kk : kitsB K [C_Many, C_Ratio] = true
  nfs_Many : ((aTys [C_Many, C_Ratio]).all (PySem.W.notFirst K C_Many)) = true
  nfs_Ratio : ((aTys [C_Many, C_Ratio]).all (PySem.W.notFirst K C_Ratio)) = true
  nf_Many : PySem.W.notFirst K C_Many (.ref C_Many) = true
  bn_Many : belowNo K C_Many = true
  cne : ¬ (C_Many = C_Ratio)
  nd_exc : [C_EachError, C_InvalidCount, C_InvalidNumber, C_InvalidMany].Nodup
  hn_exc : PySem.W.specialIn K (.builtin "object.__class__") "__get__" = some (some (.builtin "getset_descriptor.__get__"))
  ht_exc : PySem.W.takesIn K (.builtin "object.__class__") = some true
  m_EachError : mg "EachError" = some (.ref C_EachError)
  x_EachError : ExF K C_EachError [.ref C_EachError, .type "ValueError", .type "Exception", .type "BaseException", .type "object"] "ValueError.__new__"
  q_EachError : PySem.W.excIn K C_EachError [.type "ValueError", .type "Exception", .type "BaseException", .type "object"] "ValueError.__new__" = true
  m_InvalidCount : mg "InvalidCount" = some (.ref C_InvalidCount)
  x_InvalidCount : ExF K C_InvalidCount [.ref C_InvalidCount, .ref C_EachError, .type "ValueError", .type "Exception", .type "BaseException", .type "object"] "ValueError.__new__"
  i_InvalidCount : ∃ (f : Addr) (fd : FuncData), PySem.W.findIn K (.ref C_InvalidCount) "__init__" = some (some (.ref f)) ∧ PySem.W.isFn K (.ref f) = true ∧ FunD K "__init__" "InvalidCount.__init__" (defArgs st_InvalidCount___init__) (defBody st_InvalidCount___init__) (defScope st_InvalidCount___init__) [] [] f fd
  n_InvalidCount_value : NoAttr K C_InvalidCount "value"
  m_InvalidNumber : mg "InvalidNumber" = some (.ref C_InvalidNumber)
  x_InvalidNumber : ExF K C_InvalidNumber [.ref C_InvalidNumber, .ref C_EachError, .type "ValueError", .type "Exception", .type "BaseException", .type "object"] "ValueError.__new__"
  i_InvalidNumber : ∃ (f : Addr) (fd : FuncData), PySem.W.findIn K (.ref C_InvalidNumber) "__init__" = some (some (.ref f)) ∧ PySem.W.isFn K (.ref f) = true ∧ FunD K "__init__" "InvalidNumber.__init__" (defArgs st_InvalidNumber___init__) (defBody st_InvalidNumber___init__) (defScope st_InvalidNumber___init__) [] [] f fd
  n_InvalidNumber_value : NoAttr K C_InvalidNumber "value"
  m_InvalidMany : mg "InvalidMany" = some (.ref C_InvalidMany)
  x_InvalidMany : ExF K C_InvalidMany [.ref C_InvalidMany, .ref C_EachError, .type "ValueError", .type "Exception", .type "BaseException", .type "object"] "ValueError.__new__"
  i_InvalidMany : ∃ (f : Addr) (fd : FuncData), PySem.W.findIn K (.ref C_InvalidMany) "__init__" = some (some (.ref f)) ∧ PySem.W.isFn K (.ref f) = true ∧ FunD K "__init__" "InvalidMany.__init__" (defArgs st_InvalidMany___init__) (defBody st_InvalidMany___init__) (defScope st_InvalidMany___init__) [] [] f fd
  n_InvalidMany_value : NoAttr K C_InvalidMany "value"
end My
open My L2 PySem
open My L2 PySem
local macro_rules | `(tactic| walk_at "as") => `(tactic| with_reducible assumption)
local macro_rules | `(tactic| walk_at "hp") => `(tactic| first
  | walk_at "as" | exact upd_same
  | (rw [upd_ne (by walk_at "ne")]; walk_at "hp")
  | (refine But.get (by walk_at "as") ?hp1 ?hp2; (case hp1 => walk_at "hp"); (case hp2 => walk_at "ne"))
  | (refine My.Same.get (by walk_at "as") ?hp1; (case hp1 => walk_at "hp")))
local macro_rules | `(tactic| walk_at "ne") => `(tactic| first
  | walk_at "as" | exact Ne.symm (by walk_at "as")
  | (refine' ne_of_none ?ne1 ?ne2; (case ne2 => walk_at "as"); (case ne1 => walk_at "hp"))
  | (refine' Ne.symm (ne_of_none ?ne1 ?ne2); (case ne2 => walk_at "as"); (case ne1 => walk_at "hp"))
  | exact ne_of (by walk_at "hp") (by walk_at "hp") (by intro z; cases z))
local macro_rules | `(tactic| walk_at "sd") => `(tactic| first
  | walk_at "as" | omega | decide | exact ⟨by omega, by omega⟩ | exact .inl ⟨by omega, by omega⟩ | exact .inr ⟨by omega, by omega⟩ | exact divp_wide (by walk_at "as") (by walk_at "as") | exact Sm.cmul (by walk_at "as") (by walk_at "as") | exact cmul_small (by omega) (by omega) (by omega) (by omega) | exact ⟨by omega, by decide⟩)
local macro_rules | `(tactic| walk_at "bt") => `(tactic| first
  | walk_at "as" | exact But.refl _ _ | exact Same.but (by walk_at "as")
  | (refine But.trans ?bt1 But.at; (case bt1 => walk_at "bt"))
  | (refine But.trans ?bt1 (But.new (by first | walk_at "as" | walk_at "hp")); (case bt1 => walk_at "bt"))
  | (refine But.trans ?bt1 (by walk_at "as"); (case bt1 => walk_at "bt"))
  | (refine But.trans ?bt1 (Same.but (by walk_at "as")); (case bt1 => walk_at "bt")))
local macro_rules | `(tactic| walk_at "sm") => `(tactic| first
  | walk_at "as" | exact My.Same.rfl' _
  | (refine' My.Same.at_ ?sm1 ?sm2; (case sm1 => walk_at "as"); (case sm2 => walk_at "sm"))
  | (refine' My.Same.tr ?sm1 (My.Same.new ?sm2); (case sm2 => walk_at "as"); (case sm1 => walk_at "sm"))
  | (refine' My.Same.tr ?sm1 ?sm2; (case sm2 => walk_at "as"); (case sm1 => walk_at "sm")))
local macro_rules | `(tactic| walk_at "sz") => `(tactic| first
  | assumption | exact lt_size (by rfl) | exact le_size (by rfl) | (rw [sizeLine_eq]; omega)
  | (rw [sizeLine_eq]; simp only [List.length_append, List.length_map, List.length_cons, List.length_nil]; omega))
local macro_rules | `(tactic| walk_at "few") => `(tactic| (repeat refine few_put ?_); exact few0)
local macro_rules | `(tactic| walk_at "rd1") => `(tactic| first
  | (with_reducible show tVar _ _ _ _); refine s_var rfl ?_
  | with_reducible refine s_c ?_ | with_reducible refine s_op ?_ | with_reducible refine s_un ?_
  | with_reducible refine s_cons ?_ | with_reducible refine s_nil ?_ | with_reducible refine s_cb ?_
  | with_reducible refine s_test ?_ | with_reducible refine s_B ?_ | with_reducible refine s_not ?_ | with_reducible refine s_and ?_ | with_reducible refine s_or ?_
  | with_reducible refine s_if ?_ | with_reducible refine s_notV ?_ | with_reducible refine s_andV ?_ | with_reducible refine s_orV ?_
  | with_reducible refine s_orT ?_ | with_reducible refine s_andT ?_ | with_reducible refine s_chain ?_
  | with_reducible refine s_isi_int ?_ | with_reducible refine s_isi_int_bool ?_ | with_reducible refine s_isi_str ?_
  | with_reducible refine iteT ?_ | with_reducible refine iteF ?_ | with_reducible refine iteNT ?_ | with_reducible refine iteNF ?_
  | with_reducible refine s_isN ?_ | with_reducible refine s_notN ?_
  | ((with_reducible refine' s_2setE ?g1 ?_); (case g1 => first | (dsimp only [List.set, L2.wipe, List.map, List.foldl]; done) | (dsimp only [List.set, L2.wipe, List.map, List.foldl]; rfl)))
  | with_reducible refine s_seq ?_ | with_reducible refine s_ifS ?_ | with_reducible refine s_asg ?_ | with_reducible refine s_ret ?_ | with_reducible refine s_drop ?_ | with_reducible refine s_next ?_
  | ((with_reducible refine' s_gnameE ?g1 ?_); (case g1 => first | (dsimp only [List.set, L2.wipe, List.map, List.foldl]; done) | (dsimp only [List.set, L2.wipe, List.map, List.foldl]; rfl)))
  | with_reducible refine s_gsub ?_ | with_reducible refine s_gcons ?_ | with_reducible refine s_gnil ?_
  | (with_reducible show gTup _ _ _ _ _ _ _); refine s_gtup (by walk_at "hp") rfl ?_
  | with_reducible refine s_eqI ?_ | with_reducible refine s_neI ?_ | with_reducible refine s_eqS ?_ | with_reducible refine s_neB ?_ | with_reducible refine s_eqB ?_ | with_reducible refine s_neSr ?_ | with_reducible refine s_neS ?_
  | with_reducible refine s_I0 ?_
  | (with_reducible show rI _ _ _ _ _ _); refine s_I (by walk_at "sd") ?_
  | (with_reducible show rIxL _ _ _ _ _); refine s_ixL (by walk_at "hp") rfl ?_
  | (with_reducible show rIxT _ _ _ _ _); refine s_ixT (by walk_at "hp") rfl ?_
  | (with_reducible show rSetL _ _ _ _ _); refine s_setL (by walk_at "hp") rfl ?_
  | with_reducible refine s_prop ?_
  | (with_reducible show _ ≤ sizeLine ∧ _); refine ⟨le_size (by rfl), ?_⟩
  | with_reducible refine ite_NN ?_ | with_reducible refine ite_IN ?_ | with_reducible refine ite_nNN ?_ | with_reducible refine ite_nIN ?_ | with_reducible refine ite_RN ?_ | with_reducible refine ite_nRN ?_
  | with_reducible refine s_sfld ?_
  | ((with_reducible refine' ⟨_, _, _, _, rfl, ?fp1, ?fp2, ?fp3, ?fp4, ?_⟩); (case fp1 => walk_at "hp"); (case fp2 => assumption); (case fp3 => assumption); (case fp4 => walk_at "few"))
  | with_reducible refine s_fldE ?_
  | ((with_reducible refine' ⟨_, _, _, _, _, rfl, ?fp1, ?fp2, ?fp3, ?fp4, ?_⟩); (case fp1 => walk_at "hp"); (case fp2 => assumption); (case fp3 => assumption); (case fp4 => rfl))
  | with_reducible refine s_bm ?_ | with_reducible refine s_bm0 ?_
  | ((with_reducible refine' s_tyL ?ty1 ?_); (case ty1 => walk_at "hp"))
  | ((with_reducible refine' s_append ?ap1 ?ap2 ?_); (case ap1 => walk_at "hp"); (case ap2 => walk_at "sz"))
  | ((with_reducible refine' s_extend ?ap1 ?ap2 ?ap3 ?_); (case ap1 => walk_at "hp"); (case ap2 => walk_at "hp"); (case ap3 => walk_at "sz"))
  | with_reducible refine s_for (fun _ _ => ?_) | with_reducible refine s_lc ?_ | with_reducible refine s_iList ?_ | with_reducible refine s_iTup ?_ | with_reducible refine s_iRng1 ?_ | with_reducible refine s_iRng2 ?_
  | with_reducible refine s_yes ?_ | with_reducible refine s_par ?_
  | with_reducible refine s_make ?_ | with_reducible refine s_meth ?_
  | with_reducible refine s_tup ?_ | with_reducible refine s_lst ?_ | with_reducible refine s_call ?_
  | with_reducible refine ⟨rfl, ?_⟩
  | with_reducible refine ⟨_, rfl, ?_⟩
  | ((with_reducible refine' ⟨_, _, rfl, ?sd1, ?_⟩); (case sd1 => walk_at "sd"))
  | with_reducible refine ⟨_, _, rfl, ?_⟩
  | with_reducible refine .inl ⟨_, rfl, ?_⟩
  | dsimp only [List.set]
  | walk_at "rdx"
  | (refine fun _ _ => ?_))
local macro_rules | `(tactic| walk_at "rd") => `(tactic| repeat (first
  | (with_reducible show tVar _ _ _ _); refine s_var rfl ?_
  | with_reducible refine s_c ?_ | with_reducible refine s_op ?_ | with_reducible refine s_un ?_
  | with_reducible refine s_cons ?_ | with_reducible refine s_nil ?_ | with_reducible refine s_cb ?_
  | with_reducible refine s_test ?_ | with_reducible refine s_B ?_ | with_reducible refine s_not ?_ | with_reducible refine s_and ?_ | with_reducible refine s_or ?_
  | with_reducible refine s_if ?_ | with_reducible refine s_notV ?_ | with_reducible refine s_andV ?_ | with_reducible refine s_orV ?_
  | with_reducible refine s_orT ?_ | with_reducible refine s_andT ?_ | with_reducible refine s_chain ?_
  | with_reducible refine s_isi_int ?_ | with_reducible refine s_isi_int_bool ?_ | with_reducible refine s_isi_str ?_
  | with_reducible refine iteT ?_ | with_reducible refine iteF ?_ | with_reducible refine iteNT ?_ | with_reducible refine iteNF ?_
  | with_reducible refine s_isN ?_ | with_reducible refine s_notN ?_
  | ((with_reducible refine' s_2setE ?g1 ?_); (case g1 => first | (dsimp only [List.set, L2.wipe, List.map, List.foldl]; done) | (dsimp only [List.set, L2.wipe, List.map, List.foldl]; rfl)))
  | with_reducible refine s_seq ?_ | with_reducible refine s_ifS ?_ | with_reducible refine s_asg ?_ | with_reducible refine s_ret ?_ | with_reducible refine s_drop ?_ | with_reducible refine s_next ?_
  | ((with_reducible refine' s_gnameE ?g1 ?_); (case g1 => first | (dsimp only [List.set, L2.wipe, List.map, List.foldl]; done) | (dsimp only [List.set, L2.wipe, List.map, List.foldl]; rfl)))
  | with_reducible refine s_gsub ?_ | with_reducible refine s_gcons ?_ | with_reducible refine s_gnil ?_
  | (with_reducible show gTup _ _ _ _ _ _ _); refine s_gtup (by walk_at "hp") rfl ?_
  | with_reducible refine s_eqI ?_ | with_reducible refine s_neI ?_ | with_reducible refine s_eqS ?_ | with_reducible refine s_neB ?_ | with_reducible refine s_eqB ?_ | with_reducible refine s_neSr ?_ | with_reducible refine s_neS ?_
  | with_reducible refine s_I0 ?_
  | (with_reducible show rI _ _ _ _ _ _); refine s_I (by walk_at "sd") ?_
  | (with_reducible show rIxL _ _ _ _ _); refine s_ixL (by walk_at "hp") rfl ?_
  | (with_reducible show rIxT _ _ _ _ _); refine s_ixT (by walk_at "hp") rfl ?_
  | (with_reducible show rSetL _ _ _ _ _); refine s_setL (by walk_at "hp") rfl ?_
  | with_reducible refine s_prop ?_
  | (with_reducible show _ ≤ sizeLine ∧ _); refine ⟨le_size (by rfl), ?_⟩
  | with_reducible refine ite_NN ?_ | with_reducible refine ite_IN ?_ | with_reducible refine ite_nNN ?_ | with_reducible refine ite_nIN ?_ | with_reducible refine ite_RN ?_ | with_reducible refine ite_nRN ?_
  | with_reducible refine s_sfld ?_
  | ((with_reducible refine' ⟨_, _, _, _, rfl, ?fp1, ?fp2, ?fp3, ?fp4, ?_⟩); (case fp1 => walk_at "hp"); (case fp2 => assumption); (case fp3 => assumption); (case fp4 => walk_at "few"))
  | with_reducible refine s_fldE ?_
  | ((with_reducible refine' ⟨_, _, _, _, _, rfl, ?fp1, ?fp2, ?fp3, ?fp4, ?_⟩); (case fp1 => walk_at "hp"); (case fp2 => assumption); (case fp3 => assumption); (case fp4 => rfl))
  | with_reducible refine s_bm ?_ | with_reducible refine s_bm0 ?_
  | ((with_reducible refine' s_tyL ?ty1 ?_); (case ty1 => walk_at "hp"))
  | ((with_reducible refine' s_append ?ap1 ?ap2 ?_); (case ap1 => walk_at "hp"); (case ap2 => walk_at "sz"))
  | ((with_reducible refine' s_extend ?ap1 ?ap2 ?ap3 ?_); (case ap1 => walk_at "hp"); (case ap2 => walk_at "hp"); (case ap3 => walk_at "sz"))
  | with_reducible refine s_for (fun _ _ => ?_) | with_reducible refine s_lc ?_ | with_reducible refine s_iList ?_ | with_reducible refine s_iTup ?_ | with_reducible refine s_iRng1 ?_ | with_reducible refine s_iRng2 ?_
  | with_reducible refine s_yes ?_ | with_reducible refine s_par ?_
  | with_reducible refine s_make ?_ | with_reducible refine s_meth ?_
  | with_reducible refine s_tup ?_ | with_reducible refine s_lst ?_ | with_reducible refine s_call ?_
  | with_reducible refine ⟨rfl, ?_⟩
  | with_reducible refine ⟨_, rfl, ?_⟩
  | ((with_reducible refine' ⟨_, _, rfl, ?sd1, ?_⟩); (case sd1 => walk_at "sd"))
  | with_reducible refine ⟨_, _, rfl, ?_⟩
  | with_reducible refine .inl ⟨_, rfl, ?_⟩
  | dsimp only [List.set]
  | walk_at "rdx"
  | (refine fun _ _ => ?_)))
end
section
open My L2 PySem
open My L2 PySem
local macro_rules | `(tactic| walk_at "as") => `(tactic| with_reducible assumption)
local macro_rules | `(tactic| walk_at "hp") => `(tactic| first
  | walk_at "as" | exact upd_same
  | (rw [upd_ne (by walk_at "ne")]; walk_at "hp")
  | (refine But.get (by walk_at "as") ?hp1 ?hp2; (case hp1 => walk_at "hp"); (case hp2 => walk_at "ne"))
  | (refine My.Same.get (by walk_at "as") ?hp1; (case hp1 => walk_at "hp")))
local macro_rules | `(tactic| walk_at "ne") => `(tactic| first
  | walk_at "as" | exact Ne.symm (by walk_at "as")
  | (refine' ne_of_none ?ne1 ?ne2; (case ne2 => walk_at "as"); (case ne1 => walk_at "hp"))
  | (refine' Ne.symm (ne_of_none ?ne1 ?ne2); (case ne2 => walk_at "as"); (case ne1 => walk_at "hp"))
  | exact ne_of (by walk_at "hp") (by walk_at "hp") (by intro z; cases z))
local macro_rules | `(tactic| walk_at "sd") => `(tactic| first
  | walk_at "as" | omega | decide | exact ⟨by omega, by omega⟩ | exact .inl ⟨by omega, by omega⟩ | exact .inr ⟨by omega, by omega⟩ | exact divp_wide (by walk_at "as") (by walk_at "as") | exact Sm.cmul (by walk_at "as") (by walk_at "as") | exact cmul_small (by omega) (by omega) (by omega) (by omega) | exact ⟨by omega, by decide⟩)
local macro_rules | `(tactic| walk_at "bt") => `(tactic| first
  | walk_at "as" | exact But.refl _ _ | exact Same.but (by walk_at "as")
  | (refine But.trans ?bt1 But.at; (case bt1 => walk_at "bt"))
  | (refine But.trans ?bt1 (But.new (by first | walk_at "as" | walk_at "hp")); (case bt1 => walk_at "bt"))
  | (refine But.trans ?bt1 (by walk_at "as"); (case bt1 => walk_at "bt"))
  | (refine But.trans ?bt1 (Same.but (by walk_at "as")); (case bt1 => walk_at "bt")))
local macro_rules | `(tactic| walk_at "sm") => `(tactic| first
  | walk_at "as" | exact My.Same.rfl' _
  | (refine' My.Same.at_ ?sm1 ?sm2; (case sm1 => walk_at "as"); (case sm2 => walk_at "sm"))
  | (refine' My.Same.tr ?sm1 (My.Same.new ?sm2); (case sm2 => walk_at "as"); (case sm1 => walk_at "sm"))
  | (refine' My.Same.tr ?sm1 ?sm2; (case sm2 => walk_at "as"); (case sm1 => walk_at "sm")))
local macro_rules | `(tactic| walk_at "sz") => `(tactic| first
  | assumption | exact lt_size (by rfl) | exact le_size (by rfl) | (rw [sizeLine_eq]; omega)
  | (rw [sizeLine_eq]; simp only [List.length_append, List.length_map, List.length_cons, List.length_nil]; omega))
local macro_rules | `(tactic| walk_at "few") => `(tactic| (repeat refine few_put ?_); exact few0)
local macro_rules | `(tactic| walk_at "rd1") => `(tactic| first
  | (with_reducible show tVar _ _ _ _); refine s_var rfl ?_
  | with_reducible refine s_c ?_ | with_reducible refine s_op ?_ | with_reducible refine s_un ?_
  | with_reducible refine s_cons ?_ | with_reducible refine s_nil ?_ | with_reducible refine s_cb ?_
  | with_reducible refine s_test ?_ | with_reducible refine s_B ?_ | with_reducible refine s_not ?_ | with_reducible refine s_and ?_ | with_reducible refine s_or ?_
  | with_reducible refine s_if ?_ | with_reducible refine s_notV ?_ | with_reducible refine s_andV ?_ | with_reducible refine s_orV ?_
  | with_reducible refine s_orT ?_ | with_reducible refine s_andT ?_ | with_reducible refine s_chain ?_
  | with_reducible refine s_isi_int ?_ | with_reducible refine s_isi_int_bool ?_ | with_reducible refine s_isi_str ?_
  | with_reducible refine iteT ?_ | with_reducible refine iteF ?_ | with_reducible refine iteNT ?_ | with_reducible refine iteNF ?_
  | with_reducible refine s_isN ?_ | with_reducible refine s_notN ?_
  | ((with_reducible refine' s_2setE ?g1 ?_); (case g1 => first | (dsimp only [List.set, L2.wipe, List.map, List.foldl]; done) | (dsimp only [List.set, L2.wipe, List.map, List.foldl]; rfl)))
  | with_reducible refine s_seq ?_ | with_reducible refine s_ifS ?_ | with_reducible refine s_asg ?_ | with_reducible refine s_ret ?_ | with_reducible refine s_drop ?_ | with_reducible refine s_next ?_
  | ((with_reducible refine' s_gnameE ?g1 ?_); (case g1 => first | (dsimp only [List.set, L2.wipe, List.map, List.foldl]; done) | (dsimp only [List.set, L2.wipe, List.map, List.foldl]; rfl)))
  | with_reducible refine s_gsub ?_ | with_reducible refine s_gcons ?_ | with_reducible refine s_gnil ?_
  | (with_reducible show gTup _ _ _ _ _ _ _); refine s_gtup (by walk_at "hp") rfl ?_
  | with_reducible refine s_eqI ?_ | with_reducible refine s_neI ?_ | with_reducible refine s_eqS ?_ | with_reducible refine s_neB ?_ | with_reducible refine s_eqB ?_ | with_reducible refine s_neSr ?_ | with_reducible refine s_neS ?_
  | with_reducible refine s_I0 ?_
  | (with_reducible show rI _ _ _ _ _ _); refine s_I (by walk_at "sd") ?_
  | (with_reducible show rIxL _ _ _ _ _); refine s_ixL (by walk_at "hp") rfl ?_
  | (with_reducible show rIxT _ _ _ _ _); refine s_ixT (by walk_at "hp") rfl ?_
  | (with_reducible show rSetL _ _ _ _ _); refine s_setL (by walk_at "hp") rfl ?_
  | with_reducible refine s_prop ?_
  | (with_reducible show _ ≤ sizeLine ∧ _); refine ⟨le_size (by rfl), ?_⟩
  | with_reducible refine ite_NN ?_ | with_reducible refine ite_IN ?_ | with_reducible refine ite_nNN ?_ | with_reducible refine ite_nIN ?_ | with_reducible refine ite_RN ?_ | with_reducible refine ite_nRN ?_
  | with_reducible refine s_sfld ?_
  | ((with_reducible refine' ⟨_, _, _, _, rfl, ?fp1, ?fp2, ?fp3, ?fp4, ?_⟩); (case fp1 => walk_at "hp"); (case fp2 => assumption); (case fp3 => assumption); (case fp4 => walk_at "few"))
  | with_reducible refine s_fldE ?_
  | ((with_reducible refine' ⟨_, _, _, _, _, rfl, ?fp1, ?fp2, ?fp3, ?fp4, ?_⟩); (case fp1 => walk_at "hp"); (case fp2 => assumption); (case fp3 => assumption); (case fp4 => rfl))
  | with_reducible refine s_bm ?_ | with_reducible refine s_bm0 ?_
  | ((with_reducible refine' s_tyL ?ty1 ?_); (case ty1 => walk_at "hp"))
  | ((with_reducible refine' s_append ?ap1 ?ap2 ?_); (case ap1 => walk_at "hp"); (case ap2 => walk_at "sz"))
  | ((with_reducible refine' s_extend ?ap1 ?ap2 ?ap3 ?_); (case ap1 => walk_at "hp"); (case ap2 => walk_at "hp"); (case ap3 => walk_at "sz"))
  | with_reducible refine s_for (fun _ _ => ?_) | with_reducible refine s_lc ?_ | with_reducible refine s_iList ?_ | with_reducible refine s_iTup ?_ | with_reducible refine s_iRng1 ?_ | with_reducible refine s_iRng2 ?_
  | with_reducible refine s_yes ?_ | with_reducible refine s_par ?_
  | with_reducible refine s_make ?_ | with_reducible refine s_meth ?_
  | with_reducible refine s_tup ?_ | with_reducible refine s_lst ?_ | with_reducible refine s_call ?_
  | with_reducible refine ⟨rfl, ?_⟩
  | with_reducible refine ⟨_, rfl, ?_⟩
  | ((with_reducible refine' ⟨_, _, rfl, ?sd1, ?_⟩); (case sd1 => walk_at "sd"))
  | with_reducible refine ⟨_, _, rfl, ?_⟩
  | with_reducible refine .inl ⟨_, rfl, ?_⟩
  | dsimp only [List.set]
  | walk_at "rdx"
  | (refine fun _ _ => ?_))
local macro_rules | `(tactic| walk_at "rd") => `(tactic| repeat (first
  | (with_reducible show tVar _ _ _ _); refine s_var rfl ?_
  | with_reducible refine s_c ?_ | with_reducible refine s_op ?_ | with_reducible refine s_un ?_
  | with_reducible refine s_cons ?_ | with_reducible refine s_nil ?_ | with_reducible refine s_cb ?_
  | with_reducible refine s_test ?_ | with_reducible refine s_B ?_ | with_reducible refine s_not ?_ | with_reducible refine s_and ?_ | with_reducible refine s_or ?_
  | with_reducible refine s_if ?_ | with_reducible refine s_notV ?_ | with_reducible refine s_andV ?_ | with_reducible refine s_orV ?_
  | with_reducible refine s_orT ?_ | with_reducible refine s_andT ?_ | with_reducible refine s_chain ?_
  | with_reducible refine s_isi_int ?_ | with_reducible refine s_isi_int_bool ?_ | with_reducible refine s_isi_str ?_
  | with_reducible refine iteT ?_ | with_reducible refine iteF ?_ | with_reducible refine iteNT ?_ | with_reducible refine iteNF ?_
  | with_reducible refine s_isN ?_ | with_reducible refine s_notN ?_
  | ((with_reducible refine' s_2setE ?g1 ?_); (case g1 => first | (dsimp only [List.set, L2.wipe, List.map, List.foldl]; done) | (dsimp only [List.set, L2.wipe, List.map, List.foldl]; rfl)))
  | with_reducible refine s_seq ?_ | with_reducible refine s_ifS ?_ | with_reducible refine s_asg ?_ | with_reducible refine s_ret ?_ | with_reducible refine s_drop ?_ | with_reducible refine s_next ?_
  | ((with_reducible refine' s_gnameE ?g1 ?_); (case g1 => first | (dsimp only [List.set, L2.wipe, List.map, List.foldl]; done) | (dsimp only [List.set, L2.wipe, List.map, List.foldl]; rfl)))
  | with_reducible refine s_gsub ?_ | with_reducible refine s_gcons ?_ | with_reducible refine s_gnil ?_
  | (with_reducible show gTup _ _ _ _ _ _ _); refine s_gtup (by walk_at "hp") rfl ?_
  | with_reducible refine s_eqI ?_ | with_reducible refine s_neI ?_ | with_reducible refine s_eqS ?_ | with_reducible refine s_neB ?_ | with_reducible refine s_eqB ?_ | with_reducible refine s_neSr ?_ | with_reducible refine s_neS ?_
  | with_reducible refine s_I0 ?_
  | (with_reducible show rI _ _ _ _ _ _); refine s_I (by walk_at "sd") ?_
  | (with_reducible show rIxL _ _ _ _ _); refine s_ixL (by walk_at "hp") rfl ?_
  | (with_reducible show rIxT _ _ _ _ _); refine s_ixT (by walk_at "hp") rfl ?_
  | (with_reducible show rSetL _ _ _ _ _); refine s_setL (by walk_at "hp") rfl ?_
  | with_reducible refine s_prop ?_
  | (with_reducible show _ ≤ sizeLine ∧ _); refine ⟨le_size (by rfl), ?_⟩
  | with_reducible refine ite_NN ?_ | with_reducible refine ite_IN ?_ | with_reducible refine ite_nNN ?_ | with_reducible refine ite_nIN ?_ | with_reducible refine ite_RN ?_ | with_reducible refine ite_nRN ?_
  | with_reducible refine s_sfld ?_
  | ((with_reducible refine' ⟨_, _, _, _, rfl, ?fp1, ?fp2, ?fp3, ?fp4, ?_⟩); (case fp1 => walk_at "hp"); (case fp2 => assumption); (case fp3 => assumption); (case fp4 => walk_at "few"))
  | with_reducible refine s_fldE ?_
  | ((with_reducible refine' ⟨_, _, _, _, _, rfl, ?fp1, ?fp2, ?fp3, ?fp4, ?_⟩); (case fp1 => walk_at "hp"); (case fp2 => assumption); (case fp3 => assumption); (case fp4 => rfl))
  | with_reducible refine s_bm ?_ | with_reducible refine s_bm0 ?_
  | ((with_reducible refine' s_tyL ?ty1 ?_); (case ty1 => walk_at "hp"))
  | ((with_reducible refine' s_append ?ap1 ?ap2 ?_); (case ap1 => walk_at "hp"); (case ap2 => walk_at "sz"))
  | ((with_reducible refine' s_extend ?ap1 ?ap2 ?ap3 ?_); (case ap1 => walk_at "hp"); (case ap2 => walk_at "hp"); (case ap3 => walk_at "sz"))
  | with_reducible refine s_for (fun _ _ => ?_) | with_reducible refine s_lc ?_ | with_reducible refine s_iList ?_ | with_reducible refine s_iTup ?_ | with_reducible refine s_iRng1 ?_ | with_reducible refine s_iRng2 ?_
  | with_reducible refine s_yes ?_ | with_reducible refine s_par ?_
  | with_reducible refine s_make ?_ | with_reducible refine s_meth ?_
  | with_reducible refine s_tup ?_ | with_reducible refine s_lst ?_ | with_reducible refine s_call ?_
  | with_reducible refine ⟨rfl, ?_⟩
  | with_reducible refine ⟨_, rfl, ?_⟩
  | ((with_reducible refine' ⟨_, _, rfl, ?sd1, ?_⟩); (case sd1 => walk_at "sd"))
  | with_reducible refine ⟨_, _, rfl, ?_⟩
  | with_reducible refine .inl ⟨_, rfl, ?_⟩
  | dsimp only [List.set]
  | walk_at "rdx"
  | (refine fun _ _ => ?_)))

namespace My
open PySem L2
section
variable {P : Program} {w : World} {K : PySem.W.Frag} {mg : Str → Option Value} {base : Heap} {C_Many C_Ratio C_EachError C_InvalidCount C_InvalidNumber C_InvalidMany : Addr} (M : Md K mg C_Many C_Ratio C_EachError C_InvalidCount C_InvalidNumber C_InvalidMany)
include M
local macro_rules | `(tactic| walk_at "rdx") => `(tactic| first | with_reducible refine s_ostG ?_ | with_reducible refine s_raE ?_ | with_reducible refine s_callX ?_)
omit M
abbrev OL (C_Many C_Ratio : Addr) : List Addr := [C_Many, C_Ratio]
def ManyAt (C : Addr) (H : Hp) (x : Addr) (lo : Int) (hi : Option Int) : Prop := ∃ dx k : Addr, H x = some (.ins C dx [("_least", .int lo), ("_most", optV hi), ("_key", .ref k)]) ∧ H k = some (.tup [.int lo, .bl (decide (hi = none)), .int (hi.getD 0)])
theorem ManyAt.same {C x : Addr} {H H' : Hp} {lo : Int} {hi : Option Int} (h : ManyAt C H x lo hi) (s : L2.Same H H') : ManyAt C H' x lo hi := by
  obtain ⟨dx, k, e, e2⟩ := h
  exact ⟨dx, k, s _ _ e, s _ _ e2⟩
theorem ManyAt.ex {C x : Addr} {H H' : Hp} {lo : Int} {hi : Option Int} (h : ManyAt C H x lo hi) (s : LamX.ExtN H H') : ManyAt C H' x lo hi := by
  obtain ⟨dx, k, e, e2⟩ := h
  exact ⟨dx, k, s _ _ e (fun _ z => nomatch z), s _ _ e2 (fun _ z => nomatch z)⟩
theorem many_fields (C dx : Addr) (a b c : V) : some (HO.ins C dx (putF "_key" c (putF "_most" b (putF "_least" a [])))) = some (HO.ins C dx [("_least", a), ("_most", b), ("_key", c)]) := by
  rw [putF_nil, putF_ne (by decide +kernel), putF_nil, putF_ne (by decide +kernel), putF_ne (by decide +kernel), putF_nil]
def spIsI (K : PySem.W.Frag) (L : List Addr) : Sp := fun vs H Q _ => ∃ (v : V) (t : Value), vs = [v] ∧ AnyV K L H v t ∧ Q (.bl (isI v)) H
def spIsC (K : PySem.W.Frag) (L : List Addr) : Sp := fun vs H Q _ => ∃ (v : V) (t : Value), vs = [v] ∧ AnyV K L H v t ∧ Q (.bl (isCnt v)) H
def upTo (n m : Option Int) : Bool := match m with
  | none => true
  | some h => match n with
    | none => false
    | some i => decide (i ≤ h)
theorem upTo_i {i : Int} {m : Option Int} (h : ∀ g, m = some g → i ≤ g) : upTo (some i) m = true := by
  cases m with
  | none => rfl
  | some g => exact decide_eq_true (h g rfl)
def spUpTo : Sp := fun vs H Q _ => ∃ n m : Option Int, vs = [optV n, optV m] ∧ Q (.bl (upTo n m)) H
def spInit (C : Addr) : Sp := fun vs H Q _ => ∃ (x dx : Addr) (lo : Int) (hi : Option Int), vs = [.ref x, .int lo, optV hi] ∧ H x = some (.ins C dx []) ∧ 0 ≤ lo ∧ (∀ h, hi = some h → lo ≤ h) ∧ ∀ H', But x H H' → ManyAt C H' x lo hi → Q .non H'
def spLeast (C : Addr) : Sp := fun vs H Q _ => ∃ (x : Addr) (lo : Int) (hi : Option Int), vs = [.ref x] ∧ ManyAt C H x lo hi ∧ Q (.int lo) H
def spMost (C : Addr) : Sp := fun vs H Q _ => ∃ (x : Addr) (lo : Int) (hi : Option Int), vs = [.ref x] ∧ ManyAt C H x lo hi ∧ Q (optV hi) H
include M
theorem c_is_integer : Dn P w K mg base "is_integer" 1 ["value"] [] (spIsI K [C_Many, C_Ratio]) := by
  refine dnN M.f_is_integer (fun F => ?_) (fun _ _ _ _ _ _ us hl => match us, hl with | [_], _ => rfl)
  refine fnG_body F sc_is_integer (fun vs H Q E h => ?_) (fun cdv A outer s H vs Q E hr h => ?_)
  · obtain ⟨v, t, rfl, _⟩ := h
    rfl
  · obtain ⟨v, t, rfl, a, q⟩ := h
    have e := a.isI
    refine ⟨_, (pss_one (ps_ret (pe_and (pe_callB call_isi (by rfl) M.b_isinstance (by decide +kernel) (pa_cons (pv 0) (pa_cons (pe_bltn (v := .ty "int") (u := .type "int") (by rfl) M.b_int (by decide +kernel) rfl) pa_nil))) (pe_one (pe_not (pe_callB call_isi (by rfl) M.b_isinstance (by decide +kernel) (pa_cons (pv 0) (pa_cons (pe_bltn (v := .ty "bool") (u := .type "bool") (by rfl) M.b_bool (by decide +kernel) rfl) pa_nil)))))))), ?_⟩
    refine st_eq (σ := [some _]) rfl ?_
    walk_at "rd"
    refine s_isiA M.kk a (.ty "int") (b_mem (by decide +kernel)) ?_
    refine ⟨_, rfl, ?_⟩
    cases h1 : subT t (.type "int") with
    | false =>
      rw [h1] at e
      rw [if_neg Bool.false_ne_true]
      rw [← e] at q
      exact q
    | true =>
      rw [h1] at e
      rw [if_pos rfl]
      walk_at "rd"
      refine s_isiA M.kk a (.ty "bool") (b_mem (by decide +kernel)) ?_
      walk_at "rd"
      rw [Bool.true_and] at e
      rw [e]
      exact q
theorem c_is_count : Dn P w K mg base "is_count" 2 ["value"] [] (spIsC K [C_Many, C_Ratio]) := by
  refine dnN M.f_is_count (fun F => ?_) (fun _ _ _ _ _ _ us hl => match us, hl with | [_], _ => rfl)
  have c_is_integer := c_is_integer (P := P) (w := w) (base := base) M
  refine fnG_body F sc_is_count (fun vs H Q E h => ?_) (fun cdv A outer s H vs Q E hr h => ?_)
  · obtain ⟨v, t, rfl, _⟩ := h
    rfl
  · obtain ⟨v, t, rfl, a, q⟩ := h
    refine ⟨_, (pss_one (ps_ret (pe_and (pe_callD c_is_integer (hr.mono (by decide)) rfl (pa_cons (pv 0) pa_nil)) (pe_one (pe_cmpR op_ge (pv 0) pe_int (nomark _)))))), ?_⟩
    refine st_eq (σ := [some _]) rfl ?_
    walk_at "rd"
    refine ⟨v, t, rfl, a, ?_⟩
    refine ⟨_, rfl, ?_⟩
    cases v with
    | int i =>
      rw [show isI (V.int i) = true from rfl]
      refine iteT ?_
      walk_at "rd"
      exact q
    | _ => exact q
theorem c__is_up_to : Dn P w K mg base "_is_up_to" 1 ["number", "most"] [] spUpTo := by
  refine dnN M.f__is_up_to (fun F => ?_) (fun _ _ _ _ _ _ us hl => match us, hl with | [_, _], _ => rfl)
  refine fnG_body F sc__is_up_to (fun vs H Q E h => ?_) (fun cdv A outer s H vs Q E hr h => ?_)
  · obtain ⟨i, m, rfl, _⟩ := h
    rfl
  · obtain ⟨n, m, rfl, q⟩ := h
    refine ⟨_, (pss_one (ps_ret (pe_or (pe_cmpR op_isN (pv 1) pe_non (nomark _)) (pe_one (pe_and (pe_cmpR op_notN (pv 0) pe_non (nomark _)) (pe_one (pe_cmpR op_le (pv 0) (pv 1) (nomark _)))))))), ?_⟩
    refine st_eq (σ := [some _, some _]) rfl ?_
    cases m with
    | none =>
      walk_at "rd"
      exact q
    | some m =>
      cases n with
      | none =>
        walk_at "rd"
        exact q
      | some i =>
        walk_at "rd"
        exact q
end
end My
end
section
open My L2 PySem
open My L2 PySem
local macro_rules | `(tactic| walk_at "as") => `(tactic| with_reducible assumption)
local macro_rules | `(tactic| walk_at "hp") => `(tactic| first
  | walk_at "as" | exact upd_same
  | (rw [upd_ne (by walk_at "ne")]; walk_at "hp")
  | (refine But.get (by walk_at "as") ?hp1 ?hp2; (case hp1 => walk_at "hp"); (case hp2 => walk_at "ne"))
  | (refine My.Same.get (by walk_at "as") ?hp1; (case hp1 => walk_at "hp")))
local macro_rules | `(tactic| walk_at "ne") => `(tactic| first
  | walk_at "as" | exact Ne.symm (by walk_at "as")
  | (refine' ne_of_none ?ne1 ?ne2; (case ne2 => walk_at "as"); (case ne1 => walk_at "hp"))
  | (refine' Ne.symm (ne_of_none ?ne1 ?ne2); (case ne2 => walk_at "as"); (case ne1 => walk_at "hp"))
  | exact ne_of (by walk_at "hp") (by walk_at "hp") (by intro z; cases z))
local macro_rules | `(tactic| walk_at "sd") => `(tactic| first
  | walk_at "as" | omega | decide | exact ⟨by omega, by omega⟩ | exact .inl ⟨by omega, by omega⟩ | exact .inr ⟨by omega, by omega⟩ | exact divp_wide (by walk_at "as") (by walk_at "as") | exact Sm.cmul (by walk_at "as") (by walk_at "as") | exact cmul_small (by omega) (by omega) (by omega) (by omega) | exact ⟨by omega, by decide⟩)
local macro_rules | `(tactic| walk_at "bt") => `(tactic| first
  | walk_at "as" | exact But.refl _ _ | exact Same.but (by walk_at "as")
  | (refine But.trans ?bt1 But.at; (case bt1 => walk_at "bt"))
  | (refine But.trans ?bt1 (But.new (by first | walk_at "as" | walk_at "hp")); (case bt1 => walk_at "bt"))
  | (refine But.trans ?bt1 (by walk_at "as"); (case bt1 => walk_at "bt"))
  | (refine But.trans ?bt1 (Same.but (by walk_at "as")); (case bt1 => walk_at "bt")))
local macro_rules | `(tactic| walk_at "sm") => `(tactic| first
  | walk_at "as" | exact My.Same.rfl' _
  | (refine' My.Same.at_ ?sm1 ?sm2; (case sm1 => walk_at "as"); (case sm2 => walk_at "sm"))
  | (refine' My.Same.tr ?sm1 (My.Same.new ?sm2); (case sm2 => walk_at "as"); (case sm1 => walk_at "sm"))
  | (refine' My.Same.tr ?sm1 ?sm2; (case sm2 => walk_at "as"); (case sm1 => walk_at "sm")))
local macro_rules | `(tactic| walk_at "sz") => `(tactic| first
  | assumption | exact lt_size (by rfl) | exact le_size (by rfl) | (rw [sizeLine_eq]; omega)
  | (rw [sizeLine_eq]; simp only [List.length_append, List.length_map, List.length_cons, List.length_nil]; omega))
local macro_rules | `(tactic| walk_at "few") => `(tactic| (repeat refine few_put ?_); exact few0)
local macro_rules | `(tactic| walk_at "rd1") => `(tactic| first
  | (with_reducible show tVar _ _ _ _); refine s_var rfl ?_
  | with_reducible refine s_c ?_ | with_reducible refine s_op ?_ | with_reducible refine s_un ?_
  | with_reducible refine s_cons ?_ | with_reducible refine s_nil ?_ | with_reducible refine s_cb ?_
  | with_reducible refine s_test ?_ | with_reducible refine s_B ?_ | with_reducible refine s_not ?_ | with_reducible refine s_and ?_ | with_reducible refine s_or ?_
  | with_reducible refine s_if ?_ | with_reducible refine s_notV ?_ | with_reducible refine s_andV ?_ | with_reducible refine s_orV ?_
  | with_reducible refine s_orT ?_ | with_reducible refine s_andT ?_ | with_reducible refine s_chain ?_
  | with_reducible refine s_isi_int ?_ | with_reducible refine s_isi_int_bool ?_ | with_reducible refine s_isi_str ?_
  | with_reducible refine iteT ?_ | with_reducible refine iteF ?_ | with_reducible refine iteNT ?_ | with_reducible refine iteNF ?_
  | with_reducible refine s_isN ?_ | with_reducible refine s_notN ?_
  | ((with_reducible refine' s_2setE ?g1 ?_); (case g1 => first | (dsimp only [List.set, L2.wipe, List.map, List.foldl]; done) | (dsimp only [List.set, L2.wipe, List.map, List.foldl]; rfl)))
  | with_reducible refine s_seq ?_ | with_reducible refine s_ifS ?_ | with_reducible refine s_asg ?_ | with_reducible refine s_ret ?_ | with_reducible refine s_drop ?_ | with_reducible refine s_next ?_
  | ((with_reducible refine' s_gnameE ?g1 ?_); (case g1 => first | (dsimp only [List.set, L2.wipe, List.map, List.foldl]; done) | (dsimp only [List.set, L2.wipe, List.map, List.foldl]; rfl)))
  | with_reducible refine s_gsub ?_ | with_reducible refine s_gcons ?_ | with_reducible refine s_gnil ?_
  | (with_reducible show gTup _ _ _ _ _ _ _); refine s_gtup (by walk_at "hp") rfl ?_
  | with_reducible refine s_eqI ?_ | with_reducible refine s_neI ?_ | with_reducible refine s_eqS ?_ | with_reducible refine s_neB ?_ | with_reducible refine s_eqB ?_ | with_reducible refine s_neSr ?_ | with_reducible refine s_neS ?_
  | with_reducible refine s_I0 ?_
  | (with_reducible show rI _ _ _ _ _ _); refine s_I (by walk_at "sd") ?_
  | (with_reducible show rIxL _ _ _ _ _); refine s_ixL (by walk_at "hp") rfl ?_
  | (with_reducible show rIxT _ _ _ _ _); refine s_ixT (by walk_at "hp") rfl ?_
  | (with_reducible show rSetL _ _ _ _ _); refine s_setL (by walk_at "hp") rfl ?_
  | with_reducible refine s_prop ?_
  | (with_reducible show _ ≤ sizeLine ∧ _); refine ⟨le_size (by rfl), ?_⟩
  | with_reducible refine ite_NN ?_ | with_reducible refine ite_IN ?_ | with_reducible refine ite_nNN ?_ | with_reducible refine ite_nIN ?_ | with_reducible refine ite_RN ?_ | with_reducible refine ite_nRN ?_
  | with_reducible refine s_sfld ?_
  | ((with_reducible refine' ⟨_, _, _, _, rfl, ?fp1, ?fp2, ?fp3, ?fp4, ?_⟩); (case fp1 => walk_at "hp"); (case fp2 => assumption); (case fp3 => assumption); (case fp4 => walk_at "few"))
  | with_reducible refine s_fldE ?_
  | ((with_reducible refine' ⟨_, _, _, _, _, rfl, ?fp1, ?fp2, ?fp3, ?fp4, ?_⟩); (case fp1 => walk_at "hp"); (case fp2 => assumption); (case fp3 => assumption); (case fp4 => rfl))
  | with_reducible refine s_bm ?_ | with_reducible refine s_bm0 ?_
  | ((with_reducible refine' s_tyL ?ty1 ?_); (case ty1 => walk_at "hp"))
  | ((with_reducible refine' s_append ?ap1 ?ap2 ?_); (case ap1 => walk_at "hp"); (case ap2 => walk_at "sz"))
  | ((with_reducible refine' s_extend ?ap1 ?ap2 ?ap3 ?_); (case ap1 => walk_at "hp"); (case ap2 => walk_at "hp"); (case ap3 => walk_at "sz"))
  | with_reducible refine s_for (fun _ _ => ?_) | with_reducible refine s_lc ?_ | with_reducible refine s_iList ?_ | with_reducible refine s_iTup ?_ | with_reducible refine s_iRng1 ?_ | with_reducible refine s_iRng2 ?_
  | with_reducible refine s_yes ?_ | with_reducible refine s_par ?_
  | with_reducible refine s_make ?_ | with_reducible refine s_meth ?_
  | with_reducible refine s_tup ?_ | with_reducible refine s_lst ?_ | with_reducible refine s_call ?_
  | with_reducible refine ⟨rfl, ?_⟩
  | with_reducible refine ⟨_, rfl, ?_⟩
  | ((with_reducible refine' ⟨_, _, rfl, ?sd1, ?_⟩); (case sd1 => walk_at "sd"))
  | with_reducible refine ⟨_, _, rfl, ?_⟩
  | with_reducible refine .inl ⟨_, rfl, ?_⟩
  | dsimp only [List.set]
  | walk_at "rdx"
  | (refine fun _ _ => ?_))
local macro_rules | `(tactic| walk_at "rd") => `(tactic| repeat (first
  | (with_reducible show tVar _ _ _ _); refine s_var rfl ?_
  | with_reducible refine s_c ?_ | with_reducible refine s_op ?_ | with_reducible refine s_un ?_
  | with_reducible refine s_cons ?_ | with_reducible refine s_nil ?_ | with_reducible refine s_cb ?_
  | with_reducible refine s_test ?_ | with_reducible refine s_B ?_ | with_reducible refine s_not ?_ | with_reducible refine s_and ?_ | with_reducible refine s_or ?_
  | with_reducible refine s_if ?_ | with_reducible refine s_notV ?_ | with_reducible refine s_andV ?_ | with_reducible refine s_orV ?_
  | with_reducible refine s_orT ?_ | with_reducible refine s_andT ?_ | with_reducible refine s_chain ?_
  | with_reducible refine s_isi_int ?_ | with_reducible refine s_isi_int_bool ?_ | with_reducible refine s_isi_str ?_
  | with_reducible refine iteT ?_ | with_reducible refine iteF ?_ | with_reducible refine iteNT ?_ | with_reducible refine iteNF ?_
  | with_reducible refine s_isN ?_ | with_reducible refine s_notN ?_
  | ((with_reducible refine' s_2setE ?g1 ?_); (case g1 => first | (dsimp only [List.set, L2.wipe, List.map, List.foldl]; done) | (dsimp only [List.set, L2.wipe, List.map, List.foldl]; rfl)))
  | with_reducible refine s_seq ?_ | with_reducible refine s_ifS ?_ | with_reducible refine s_asg ?_ | with_reducible refine s_ret ?_ | with_reducible refine s_drop ?_ | with_reducible refine s_next ?_
  | ((with_reducible refine' s_gnameE ?g1 ?_); (case g1 => first | (dsimp only [List.set, L2.wipe, List.map, List.foldl]; done) | (dsimp only [List.set, L2.wipe, List.map, List.foldl]; rfl)))
  | with_reducible refine s_gsub ?_ | with_reducible refine s_gcons ?_ | with_reducible refine s_gnil ?_
  | (with_reducible show gTup _ _ _ _ _ _ _); refine s_gtup (by walk_at "hp") rfl ?_
  | with_reducible refine s_eqI ?_ | with_reducible refine s_neI ?_ | with_reducible refine s_eqS ?_ | with_reducible refine s_neB ?_ | with_reducible refine s_eqB ?_ | with_reducible refine s_neSr ?_ | with_reducible refine s_neS ?_
  | with_reducible refine s_I0 ?_
  | (with_reducible show rI _ _ _ _ _ _); refine s_I (by walk_at "sd") ?_
  | (with_reducible show rIxL _ _ _ _ _); refine s_ixL (by walk_at "hp") rfl ?_
  | (with_reducible show rIxT _ _ _ _ _); refine s_ixT (by walk_at "hp") rfl ?_
  | (with_reducible show rSetL _ _ _ _ _); refine s_setL (by walk_at "hp") rfl ?_
  | with_reducible refine s_prop ?_
  | (with_reducible show _ ≤ sizeLine ∧ _); refine ⟨le_size (by rfl), ?_⟩
  | with_reducible refine ite_NN ?_ | with_reducible refine ite_IN ?_ | with_reducible refine ite_nNN ?_ | with_reducible refine ite_nIN ?_ | with_reducible refine ite_RN ?_ | with_reducible refine ite_nRN ?_
  | with_reducible refine s_sfld ?_
  | ((with_reducible refine' ⟨_, _, _, _, rfl, ?fp1, ?fp2, ?fp3, ?fp4, ?_⟩); (case fp1 => walk_at "hp"); (case fp2 => assumption); (case fp3 => assumption); (case fp4 => walk_at "few"))
  | with_reducible refine s_fldE ?_
  | ((with_reducible refine' ⟨_, _, _, _, _, rfl, ?fp1, ?fp2, ?fp3, ?fp4, ?_⟩); (case fp1 => walk_at "hp"); (case fp2 => assumption); (case fp3 => assumption); (case fp4 => rfl))
  | with_reducible refine s_bm ?_ | with_reducible refine s_bm0 ?_
  | ((with_reducible refine' s_tyL ?ty1 ?_); (case ty1 => walk_at "hp"))
  | ((with_reducible refine' s_append ?ap1 ?ap2 ?_); (case ap1 => walk_at "hp"); (case ap2 => walk_at "sz"))
  | ((with_reducible refine' s_extend ?ap1 ?ap2 ?ap3 ?_); (case ap1 => walk_at "hp"); (case ap2 => walk_at "hp"); (case ap3 => walk_at "sz"))
  | with_reducible refine s_for (fun _ _ => ?_) | with_reducible refine s_lc ?_ | with_reducible refine s_iList ?_ | with_reducible refine s_iTup ?_ | with_reducible refine s_iRng1 ?_ | with_reducible refine s_iRng2 ?_
  | with_reducible refine s_yes ?_ | with_reducible refine s_par ?_
  | with_reducible refine s_make ?_ | with_reducible refine s_meth ?_
  | with_reducible refine s_tup ?_ | with_reducible refine s_lst ?_ | with_reducible refine s_call ?_
  | with_reducible refine ⟨rfl, ?_⟩
  | with_reducible refine ⟨_, rfl, ?_⟩
  | ((with_reducible refine' ⟨_, _, rfl, ?sd1, ?_⟩); (case sd1 => walk_at "sd"))
  | with_reducible refine ⟨_, _, rfl, ?_⟩
  | with_reducible refine .inl ⟨_, rfl, ?_⟩
  | dsimp only [List.set]
  | walk_at "rdx"
  | (refine fun _ _ => ?_)))

namespace My
open PySem L2
section
variable {P : Program} {w : World} {K : PySem.W.Frag} {mg : Str → Option Value} {base : Heap} {C_Many C_Ratio C_EachError C_InvalidCount C_InvalidNumber C_InvalidMany : Addr} (M : Md K mg C_Many C_Ratio C_EachError C_InvalidCount C_InvalidNumber C_InvalidMany)
include M
local macro_rules | `(tactic| walk_at "rdx") => `(tactic| first | with_reducible refine s_ostG ?_ | with_reducible refine s_raE ?_ | with_reducible refine s_callX ?_ | with_reducible refine s_opX ?_ | with_reducible refine s_reflX ?_ | with_reducible refine s_lstN ?_)
omit M
/-- what Many.__init__ makes of two values -/
def spInitX (K : PySem.W.Frag) (L : List Addr) (C CC CM : Addr) : Sp := fun vs H Q E => ∃ (x dx : Addr) (a b : V) (ta tb : Value), vs = [.ref x, a, b] ∧ H x = some (.ins C dx []) ∧ AnyV K L H a ta ∧ AnyV K L H b tb ∧
  ((isCnt a = false ∧ ∀ dd H', L2.Same H H' → H' dd = some (.xd [("value", a)]) → E (.ref CC) (some dd) H') ∨
   (isCnt a = true ∧ b ≠ .non ∧ isCnt b = false ∧ ∀ dd H', L2.Same H H' → H' dd = some (.xd [("value", b)]) → E (.ref CC) (some dd) H') ∨
   (∃ (lo : Int) (hi : Option Int), a = .int lo ∧ b = optV hi ∧ 0 ≤ lo ∧ (∀ h, hi = some h → 0 ≤ h) ∧ (upTo (some lo) hi = true → ∀ H', But x H H' → ManyAt C H' x lo hi → Q .non H') ∧
     (upTo (some lo) hi = false → ∀ T dd H', L2.Same H H' → H' T = some (.tup [.int lo, optV hi]) → H' dd = some (.xd [("value", .ref T)]) → E (.ref CM) (some dd) H')))
theorem isCnt_int {v : V} (h : isCnt v = true) : ∃ i : Int, v = .int i ∧ 0 ≤ i := by
  cases v with
  | int i => exact ⟨i, rfl, of_decide_eq_true h⟩
  | _ => cases h
def isPos : V → Bool
  | .int i => decide (1 ≤ i)
  | _ => false
theorem isPos_int {v : V} (h : isPos v = true) : ∃ i : Int, v = .int i ∧ 1 ≤ i := by
  cases v with
  | int i => exact ⟨i, rfl, of_decide_eq_true h⟩
  | _ => cases h
def RatioAt (C : Addr) (H : Hp) (x : Addr) (p q : Int) : Prop := ∃ dx : Addr, H x = some (.ins C dx [("_top", .int p), ("_bottom", .int q)])
abbrev gc (a b : Int) : Int := ((Nat.gcd a.natAbs b.natAbs : Nat) : Int)
theorem gc_pos {a b : Int} (h : 1 ≤ b) : 0 < gc a b := by
  have : 0 < Nat.gcd a.natAbs b.natAbs := Nat.gcd_pos_of_pos_right _ (by omega)
  exact Int.ofNat_lt.mpr this
theorem gc_le {a b : Int} (h : 1 ≤ b) : gc a b ≤ b := by
  have : Nat.gcd a.natAbs b.natAbs ≤ b.natAbs := Nat.gcd_le_right _ (by omega)
  have e : ((b.natAbs : Nat) : Int) = b := Int.natAbs_of_nonneg (by omega)
  have h2 := Int.ofNat_le.mpr this
  show ((Nat.gcd a.natAbs b.natAbs : Nat) : Int) ≤ b
  omega
theorem gc_div {i a b : Int} (h : 1 ≤ b) (s : Sm 900 b) : CDivW i (gc a b) := by
  have h1 := gc_pos (a := a) h
  have h2 := gc_le (a := a) h
  refine wide_div h1 (b := 900) (Nat.lt_of_le_of_lt ?_ s) (by decide) (by decide)
  omega
/-- what Ratio.__init__ makes of two values -/
def spRInitX (K : PySem.W.Frag) (L : List Addr) (C CC CN : Addr) : Sp := fun vs H Q E => ∃ (x dx : Addr) (a b : V) (ta tb : Value), vs = [.ref x, a, b] ∧ H x = some (.ins C dx []) ∧ AnyV K L H a ta ∧ AnyV K L H b tb ∧
  ((isCnt a = false ∧ ∀ dd H', L2.Same H H' → H' dd = some (.xd [("value", a)]) → E (.ref CC) (some dd) H') ∨
   (isCnt a = true ∧ isPos b = false ∧ ∀ dd H', L2.Same H H' → H' dd = some (.xd [("value", b)]) → E (.ref CN) (some dd) H') ∨
   (∃ (p q : Int), a = .int p ∧ b = .int q ∧ 0 ≤ p ∧ 1 ≤ q ∧ Sm 900 q ∧ ∀ H', But x H H' → RatioAt C H' x (p / gc p q) (q / gc p q) → Q .non H'))
include M
theorem ok_InvalidMany {f : Addr} {fd : FuncData} (F : FunD K "__init__" "InvalidMany.__init__" (defArgs st_InvalidMany___init__) (defBody st_InvalidMany___init__) (defScope st_InvalidMany___init__) [] [] f fd) : FnG P w K mg base CX0 1 f fd ["self", "value"] (spE1 C_InvalidMany "value") := by
  refine fnG_body F sc_InvalidMany___init__ (fun vs H Q E h => ?_) (fun cdv A outer s H vs Q E hr h => ?_)
  · obtain ⟨a, y, rfl, _⟩ := h
    rfl
  · obtain ⟨a, y, rfl, ha, q⟩ := h
    have T : OexG K C_InvalidMany := M.x_InvalidMany.oex (ups _ _ "ValueError") PySem.F.excBase_ValueError PySem.F.store_ValueError
    have n0 := M.n_InvalidMany_value
    refine ⟨_, (pss_one (ps_ostG (pv 0) (pv 1) rfl)), ?_⟩
    refine st_eq (σ := [some _, some _]) rfl ?_
    walk_at "rd"
    refine ⟨a, C_InvalidMany, rfl, T, n0, .inl ⟨ha, fun d nd ne => ?_⟩⟩
    exact q d nd ne
theorem c_InvalidMany : Exn P w K mg base "InvalidMany" C_InvalidMany 1 ["self", "value"] (spE1 C_InvalidMany "value") := by
  obtain ⟨f, fd, iC, fC, F⟩ := M.i_InvalidMany
  exact ⟨f, fd, M.x_InvalidMany.oex (ups _ _ "ValueError") PySem.F.excBase_ValueError PySem.F.store_ValueError, iC, fC, ok_InvalidMany M F, M.m_InvalidMany, F.bindsN fun _ _ _ _ _ _ us hl => match us, hl with | [_, _], _ => rfl⟩
theorem ok_InvalidCount {f : Addr} {fd : FuncData} (F : FunD K "__init__" "InvalidCount.__init__" (defArgs st_InvalidCount___init__) (defBody st_InvalidCount___init__) (defScope st_InvalidCount___init__) [] [] f fd) : FnG P w K mg base CX0 1 f fd ["self", "value"] (spE1 C_InvalidCount "value") := by
  refine fnG_body F sc_InvalidCount___init__ (fun vs H Q E h => ?_) (fun cdv A outer s H vs Q E hr h => ?_)
  · obtain ⟨a, y, rfl, _⟩ := h
    rfl
  · obtain ⟨a, y, rfl, ha, q⟩ := h
    have T : OexG K C_InvalidCount := M.x_InvalidCount.oex (ups _ _ "ValueError") PySem.F.excBase_ValueError PySem.F.store_ValueError
    have n0 := M.n_InvalidCount_value
    refine ⟨_, (pss_one (ps_ostG (pv 0) (pv 1) rfl)), ?_⟩
    refine st_eq (σ := [some _, some _]) rfl ?_
    walk_at "rd"
    refine ⟨a, C_InvalidCount, rfl, T, n0, .inl ⟨ha, fun d nd ne => ?_⟩⟩
    exact q d nd ne
theorem c_InvalidCount : Exn P w K mg base "InvalidCount" C_InvalidCount 1 ["self", "value"] (spE1 C_InvalidCount "value") := by
  obtain ⟨f, fd, iC, fC, F⟩ := M.i_InvalidCount
  exact ⟨f, fd, M.x_InvalidCount.oex (ups _ _ "ValueError") PySem.F.excBase_ValueError PySem.F.store_ValueError, iC, fC, ok_InvalidCount M F, M.m_InvalidCount, F.bindsN fun _ _ _ _ _ _ us hl => match us, hl with | [_, _], _ => rfl⟩
theorem ok_InvalidNumber {f : Addr} {fd : FuncData} (F : FunD K "__init__" "InvalidNumber.__init__" (defArgs st_InvalidNumber___init__) (defBody st_InvalidNumber___init__) (defScope st_InvalidNumber___init__) [] [] f fd) : FnG P w K mg base CX0 1 f fd ["self", "value"] (spE1 C_InvalidNumber "value") := by
  refine fnG_body F sc_InvalidNumber___init__ (fun vs H Q E h => ?_) (fun cdv A outer s H vs Q E hr h => ?_)
  · obtain ⟨a, y, rfl, _⟩ := h
    rfl
  · obtain ⟨a, y, rfl, ha, q⟩ := h
    have T : OexG K C_InvalidNumber := M.x_InvalidNumber.oex (ups _ _ "ValueError") PySem.F.excBase_ValueError PySem.F.store_ValueError
    have n0 := M.n_InvalidNumber_value
    refine ⟨_, (pss_one (ps_ostG (pv 0) (pv 1) rfl)), ?_⟩
    refine st_eq (σ := [some _, some _]) rfl ?_
    walk_at "rd"
    refine ⟨a, C_InvalidNumber, rfl, T, n0, .inl ⟨ha, fun d nd ne => ?_⟩⟩
    exact q d nd ne
theorem c_InvalidNumber : Exn P w K mg base "InvalidNumber" C_InvalidNumber 1 ["self", "value"] (spE1 C_InvalidNumber "value") := by
  obtain ⟨f, fd, iC, fC, F⟩ := M.i_InvalidNumber
  exact ⟨f, fd, M.x_InvalidNumber.oex (ups _ _ "ValueError") PySem.F.excBase_ValueError PySem.F.store_ValueError, iC, fC, ok_InvalidNumber M F, M.m_InvalidNumber, F.bindsN fun _ _ _ _ _ _ us hl => match us, hl with | [_, _], _ => rfl⟩
theorem ok_init {f : Addr} {fd : FuncData} (F : FunD K "__init__" "Many.__init__" (defArgs st_Many___init__) (defBody st_Many___init__) (defScope st_Many___init__) [.non] [] f fd) : FnG P w K mg base (L2.CX P w) 6 f fd ["self", "least", "most"] (spInitX K [C_Many, C_Ratio] C_Many C_InvalidCount C_InvalidMany) := by
  have c_is_count := c_is_count (P := P) (w := w) (base := base) M
  have c__is_up_to := c__is_up_to (P := P) (w := w) (base := base) M
  have c_InvalidCount := c_InvalidCount (P := P) (w := w) (base := base) M
  have c_InvalidMany := c_InvalidMany (P := P) (w := w) (base := base) M
  refine fnG_body F sc_Many___init__ (fun vs H Q E h => ?_) (fun cdv A outer s H vs Q E hr h => ?_)
  · obtain ⟨x, dx, a, b, ta, tb, rfl, _⟩ := h
    rfl
  · obtain ⟨x, dx, a, b, ta, tb, rfl, hx, aA, aB, h⟩ := h
    refine ⟨_, (pss_cons (ps_if (pt_not (pt_val (pe_callD c_is_count (hr.mono (by decide)) rfl (pa_cons (pv 1) pa_nil)))) (pss_one (ps_raise rfl (takes_of rfl rfl rfl rfl) (pmk_E (ExF.raises M.x_InvalidCount (ups _ _ "ValueError")) c_InvalidCount (hr.mono (by decide)) rfl (pa_cons (pv 1) pa_nil)))) pss_nil) (pss_cons (ps_if (PW.pt (pw_and (pt_cmpR op_notN (pv 2) pe_non (nomark _)) (pw_and1 (pt_not (pt_val (pe_callD c_is_count (hr.mono (by decide)) rfl (pa_cons (pv 2) pa_nil))))))) (pss_one (ps_raise rfl (takes_of rfl rfl rfl rfl) (pmk_E (ExF.raises M.x_InvalidCount (ups _ _ "ValueError")) c_InvalidCount (hr.mono (by decide)) rfl (pa_cons (pv 2) pa_nil)))) pss_nil) (pss_cons (ps_if (pt_not (pt_val (pe_callD c__is_up_to (hr.mono (by decide)) rfl (pa_cons (pv 1) (pa_cons (pv 2) pa_nil))))) (pss_one (ps_raise rfl (takes_of rfl rfl rfl rfl) (pmk_E (ExF.raises M.x_InvalidMany (ups _ _ "ValueError")) c_InvalidMany (hr.mono (by decide)) rfl (pa_cons (pe_tup (pa_cons (pv 1) (pa_cons (pv 2) pa_nil))) pa_nil)))) pss_nil) (pss_cons (ps_fld (pv 0) (pv 1) rfl) (pss_cons (ps_fld (pv 0) (pv 2) rfl) (pss_one (ps_fld (pv 0) (pe_tup (pa_cons (pv 1) (pa_cons (pe_cmpR op_isN (pv 2) pe_non (nomark _)) (pa_cons (pe_orT (pv 2) (pe_one pe_int)) pa_nil)))) rfl))))))), ?_⟩
    refine st_eq (σ := [some _, some _, some _]) rfl ?_
    walk_at "rd"
    refine ⟨a, ta, rfl, aA, ?_⟩
    have kM := M.k_Many
    have n1 := M.n_Many__least
    have n2 := M.n_Many__most
    have n3 := M.n_Many__key
    rcases h with ⟨ca, q⟩ | ⟨ca, nb, cb, q⟩ | ⟨lo, hi, rfl, rfl, l0, h0, q1, q2⟩
    · rw [ca]
      walk_at "rd"
      exact raise1 fun d H' s1 _ hd => q d H' s1 hd
    · rw [ca]
      walk_at "rd"
      refine ite_n (fun _ => ?_) (fun z => absurd z nb)
      walk_at "rd"
      refine ⟨b, tb, rfl, aB, ?_⟩
      rw [cb]
      walk_at "rd"
      exact raise1 fun d H' s1 _ hd => q d H' s1 hd
    · rw [show isCnt (V.int lo) = true from decide_eq_true l0]
      cases hi with
      | none =>
        walk_at "rd"
        refine ⟨some lo, none, rfl, ?_⟩
        rw [show upTo (some lo) none = true from rfl]
        walk_at "rd"
        refine ⟨false, rfl, ?_⟩
        walk_at "rd"
        exact q1 rfl _ (by walk_at "bt") ⟨dx, _, upd_same.trans (many_fields _ _ _ _ _), by walk_at "hp"⟩
      | some m =>
        have h3 : 0 ≤ m := h0 m rfl
        walk_at "rd"
        refine ⟨_, _, rfl, AnyV.int m, ?_⟩
        rw [show isCnt (V.int m) = true from decide_eq_true h3]
        walk_at "rd"
        refine ⟨some lo, some m, rfl, ?_⟩
        cases hc : upTo (some lo) (some m) with
        | false =>
          walk_at "rd"
          rename_i T nT
          exact raise1 fun d H' s1 _ hd => q2 hc T d H' ((My.Same.new nT).trans s1) (s1 _ _ upd_same) hd
        | true =>
          walk_at "rd"
          refine ⟨_, rfl, ?_⟩
          refine ite_b (fun e => ?_) (fun e => ?_)
          · walk_at "rd"
            exact q1 hc _ (by walk_at "bt") ⟨dx, _, upd_same.trans (many_fields _ _ _ _ _), by walk_at "hp"⟩
          · have : m = 0 := by simpa using e
            subst this
            walk_at "rd"
            exact q1 hc _ (by walk_at "bt") ⟨dx, _, upd_same.trans (many_fields _ _ _ _ _), by walk_at "hp"⟩
theorem x_Many_1 : MkX P w K mg base "Many" C_Many 6 ["self", "least", "most"] [.non] (spInitX K [C_Many, C_Ratio] C_Many C_InvalidCount C_InvalidMany) := by
  refine mkDX (dvs := [.non]) 2 0 M.i_Many M.m_Many (fun F => ok_init M F) (by simp) rfl (fun _ _ _ _ _ _ _ us its h1 h2 => match us, its, h1, h2 with | [_, _], [_], _, _ => ⟨_, rfl, rfl⟩)
theorem ok_rinit {f : Addr} {fd : FuncData} (F : FunD K "__init__" "Ratio.__init__" (defArgs st_Ratio___init__) (defBody st_Ratio___init__) (defScope st_Ratio___init__) [.int 1] [] f fd) : FnG P w K mg base (L2.CX P w) 6 f fd ["self", "top", "bottom"] (spRInitX K [C_Many, C_Ratio] C_Ratio C_InvalidCount C_InvalidNumber) := by
  have c_is_count := c_is_count (P := P) (w := w) (base := base) M
  have c_is_integer := c_is_integer (P := P) (w := w) (base := base) M
  have c_InvalidCount := c_InvalidCount (P := P) (w := w) (base := base) M
  have c_InvalidNumber := c_InvalidNumber (P := P) (w := w) (base := base) M
  refine fnG_body F sc_Ratio___init__ (fun vs H Q E h => ?_) (fun cdv A outer s H vs Q E hr h => ?_)
  · obtain ⟨x, dx, p, q, _, _, rfl, _⟩ := h
    rfl
  · obtain ⟨x, dx, a, b, ta, tb, rfl, hx, aA, aB, h⟩ := h
    refine ⟨_, (pss_cons (ps_if (pt_not (pt_val (pe_callD c_is_count (hr.mono (by decide)) rfl (pa_cons (pv 1) pa_nil)))) (pss_one (ps_raise rfl (takes_of rfl rfl rfl rfl) (pmk_E (ExF.raises M.x_InvalidCount (ups _ _ "ValueError")) c_InvalidCount (hr.mono (by decide)) rfl (pa_cons (pv 1) pa_nil)))) pss_nil) (pss_cons (ps_if (PW.pt (pw_or (pt_not (pt_val (pe_callD c_is_integer (hr.mono (by decide)) rfl (pa_cons (pv 2) pa_nil)))) (pw_or1 (pt_cmpR op_lt (pv 2) pe_int (nomark _))))) (pss_one (ps_raise rfl (takes_of rfl rfl rfl rfl) (pmk_E (ExF.raises M.x_InvalidNumber (ups _ _ "ValueError")) c_InvalidNumber (hr.mono (by decide)) rfl (pa_cons (pv 2) pa_nil)))) pss_nil) (pss_cons (ps_set (i := 3) sc_Ratio___init__.nd rfl (.inl rfl) (pe_callBfun cr_gcd rfl M.h_gcd (pa_cons (pv 1) (pa_cons (pv 2) pa_nil)))) (pss_cons (ps_fld (pv 0) (pe_op op_fdivW (pv 1) (pv 3)) rfl) (pss_one (ps_fld (pv 0) (pe_op op_fdivW (pv 2) (pv 3)) rfl)))))), ?_⟩
    refine st_eq (σ := [some _, some _, some _, none]) rfl ?_
    walk_at "rd"
    refine ⟨a, ta, rfl, aA, ?_⟩
    have kM := M.k_Ratio
    have n1 := M.n_Ratio__top
    have n2 := M.n_Ratio__bottom
    rcases h with ⟨ca, q⟩ | ⟨ca, cb, q⟩ | ⟨p, b, rfl, rfl, h0, h1, s1, q⟩
    · rw [ca]
      walk_at "rd"
      exact raise1 fun d H' s1 _ hd => q d H' s1 hd
    · rw [ca]
      walk_at "rd"
      refine ⟨b, tb, rfl, aB, ?_⟩
      cases hb : isI b with
      | false =>
        walk_at "rd"
        exact raise1 fun d H' s1 _ hd => q d H' s1 hd
      | true =>
        cases b with
        | int b =>
          have hl : b < 1 := by
            have := of_decide_eq_false cb
            omega
          walk_at "rd"
          rw [decide_eq_true hl]
          walk_at "rd"
          exact raise1 fun d H' s1 _ hd => q d H' s1 hd
        | _ => cases hb
    · rw [show isCnt (V.int p) = true from decide_eq_true h0]
      walk_at "rd"
      refine ⟨_, _, rfl, AnyV.int b, ?_⟩
      rw [show isI (V.int b) = true from rfl]
      walk_at "rd"
      rw [decide_eq_false (show ¬ b < 1 by omega)]
      walk_at "rd"
      refine ⟨p, b, rfl, ?_⟩
      walk_at "rd"
      refine ⟨_, _, rfl, rfl, gc_div h1 s1, ?_⟩
      walk_at "rd"
      refine ⟨_, _, rfl, rfl, gc_div h1 s1, ?_⟩
      walk_at "rd"
      refine q _ (by walk_at "bt") ⟨dx, ?_⟩
      rw [upd_same, putF_nil, putF_ne (by decide +kernel), putF_nil]
theorem x_Ratio_2 : MkX P w K mg base "Ratio" C_Ratio 6 ["self", "top", "bottom"] [] (spRInitX K [C_Many, C_Ratio] C_Ratio C_InvalidCount C_InvalidNumber) := by
  refine mkDX (dvs := [.int 1]) 3 1 M.i_Ratio M.m_Ratio (fun F => ok_rinit M F) (by simp) rfl (fun _ _ _ _ _ _ _ us its h1 h2 => match us, its, h1, h2 with | [_, _, _], [_], _, _ => ⟨_, rfl, rfl⟩)
theorem x_Ratio_1 : MkX P w K mg base "Ratio" C_Ratio 6 ["self", "top", "bottom"] [.int 1] (spRInitX K [C_Many, C_Ratio] C_Ratio C_InvalidCount C_InvalidNumber) := by
  refine mkDX (dvs := [.int 1]) 2 0 M.i_Ratio M.m_Ratio (fun F => ok_rinit M F) (by simp) rfl (fun _ _ _ _ _ _ _ us its h1 h2 => match us, its, h1, h2 with | [_, _], [_], _, _ => ⟨_, rfl, rfl⟩)
end
end My
end
section
open My L2 PySem
open My L2 PySem
local macro_rules | `(tactic| walk_at "as") => `(tactic| with_reducible assumption)
local macro_rules | `(tactic| walk_at "hp") => `(tactic| first
  | walk_at "as" | exact upd_same
  | (rw [upd_ne (by walk_at "ne")]; walk_at "hp")
  | (refine But.get (by walk_at "as") ?hp1 ?hp2; (case hp1 => walk_at "hp"); (case hp2 => walk_at "ne"))
  | (refine My.Same.get (by walk_at "as") ?hp1; (case hp1 => walk_at "hp")))
local macro_rules | `(tactic| walk_at "ne") => `(tactic| first
  | walk_at "as" | exact Ne.symm (by walk_at "as")
  | (refine' ne_of_none ?ne1 ?ne2; (case ne2 => walk_at "as"); (case ne1 => walk_at "hp"))
  | (refine' Ne.symm (ne_of_none ?ne1 ?ne2); (case ne2 => walk_at "as"); (case ne1 => walk_at "hp"))
  | exact ne_of (by walk_at "hp") (by walk_at "hp") (by intro z; cases z))
local macro_rules | `(tactic| walk_at "sd") => `(tactic| first
  | walk_at "as" | omega | decide | exact ⟨by omega, by omega⟩ | exact .inl ⟨by omega, by omega⟩ | exact .inr ⟨by omega, by omega⟩ | exact divp_wide (by walk_at "as") (by walk_at "as") | exact Sm.cmul (by walk_at "as") (by walk_at "as") | exact cmul_small (by omega) (by omega) (by omega) (by omega) | exact ⟨by omega, by decide⟩)
local macro_rules | `(tactic| walk_at "bt") => `(tactic| first
  | walk_at "as" | exact But.refl _ _ | exact Same.but (by walk_at "as")
  | (refine But.trans ?bt1 But.at; (case bt1 => walk_at "bt"))
  | (refine But.trans ?bt1 (But.new (by first | walk_at "as" | walk_at "hp")); (case bt1 => walk_at "bt"))
  | (refine But.trans ?bt1 (by walk_at "as"); (case bt1 => walk_at "bt"))
  | (refine But.trans ?bt1 (Same.but (by walk_at "as")); (case bt1 => walk_at "bt")))
local macro_rules | `(tactic| walk_at "sm") => `(tactic| first
  | walk_at "as" | exact My.Same.rfl' _
  | (refine' My.Same.at_ ?sm1 ?sm2; (case sm1 => walk_at "as"); (case sm2 => walk_at "sm"))
  | (refine' My.Same.tr ?sm1 (My.Same.new ?sm2); (case sm2 => walk_at "as"); (case sm1 => walk_at "sm"))
  | (refine' My.Same.tr ?sm1 ?sm2; (case sm2 => walk_at "as"); (case sm1 => walk_at "sm")))
local macro_rules | `(tactic| walk_at "sz") => `(tactic| first
  | assumption | exact lt_size (by rfl) | exact le_size (by rfl) | (rw [sizeLine_eq]; omega)
  | (rw [sizeLine_eq]; simp only [List.length_append, List.length_map, List.length_cons, List.length_nil]; omega))
local macro_rules | `(tactic| walk_at "few") => `(tactic| (repeat refine few_put ?_); exact few0)
local macro_rules | `(tactic| walk_at "rd1") => `(tactic| first
  | (with_reducible show tVar _ _ _ _); refine s_var rfl ?_
  | with_reducible refine s_c ?_ | with_reducible refine s_op ?_ | with_reducible refine s_un ?_
  | with_reducible refine s_cons ?_ | with_reducible refine s_nil ?_ | with_reducible refine s_cb ?_
  | with_reducible refine s_test ?_ | with_reducible refine s_B ?_ | with_reducible refine s_not ?_ | with_reducible refine s_and ?_ | with_reducible refine s_or ?_
  | with_reducible refine s_if ?_ | with_reducible refine s_notV ?_ | with_reducible refine s_andV ?_ | with_reducible refine s_orV ?_
  | with_reducible refine s_orT ?_ | with_reducible refine s_andT ?_ | with_reducible refine s_chain ?_
  | with_reducible refine s_isi_int ?_ | with_reducible refine s_isi_int_bool ?_ | with_reducible refine s_isi_str ?_
  | with_reducible refine iteT ?_ | with_reducible refine iteF ?_ | with_reducible refine iteNT ?_ | with_reducible refine iteNF ?_
  | with_reducible refine s_isN ?_ | with_reducible refine s_notN ?_
  | ((with_reducible refine' s_2setE ?g1 ?_); (case g1 => first | (dsimp only [List.set, L2.wipe, List.map, List.foldl]; done) | (dsimp only [List.set, L2.wipe, List.map, List.foldl]; rfl)))
  | with_reducible refine s_seq ?_ | with_reducible refine s_ifS ?_ | with_reducible refine s_asg ?_ | with_reducible refine s_ret ?_ | with_reducible refine s_drop ?_ | with_reducible refine s_next ?_
  | ((with_reducible refine' s_gnameE ?g1 ?_); (case g1 => first | (dsimp only [List.set, L2.wipe, List.map, List.foldl]; done) | (dsimp only [List.set, L2.wipe, List.map, List.foldl]; rfl)))
  | with_reducible refine s_gsub ?_ | with_reducible refine s_gcons ?_ | with_reducible refine s_gnil ?_
  | (with_reducible show gTup _ _ _ _ _ _ _); refine s_gtup (by walk_at "hp") rfl ?_
  | with_reducible refine s_eqI ?_ | with_reducible refine s_neI ?_ | with_reducible refine s_eqS ?_ | with_reducible refine s_neB ?_ | with_reducible refine s_eqB ?_ | with_reducible refine s_neSr ?_ | with_reducible refine s_neS ?_
  | with_reducible refine s_I0 ?_
  | (with_reducible show rI _ _ _ _ _ _); refine s_I (by walk_at "sd") ?_
  | (with_reducible show rIxL _ _ _ _ _); refine s_ixL (by walk_at "hp") rfl ?_
  | (with_reducible show rIxT _ _ _ _ _); refine s_ixT (by walk_at "hp") rfl ?_
  | (with_reducible show rSetL _ _ _ _ _); refine s_setL (by walk_at "hp") rfl ?_
  | with_reducible refine s_prop ?_
  | (with_reducible show _ ≤ sizeLine ∧ _); refine ⟨le_size (by rfl), ?_⟩
  | with_reducible refine ite_NN ?_ | with_reducible refine ite_IN ?_ | with_reducible refine ite_nNN ?_ | with_reducible refine ite_nIN ?_ | with_reducible refine ite_RN ?_ | with_reducible refine ite_nRN ?_
  | with_reducible refine s_sfld ?_
  | ((with_reducible refine' ⟨_, _, _, _, rfl, ?fp1, ?fp2, ?fp3, ?fp4, ?_⟩); (case fp1 => walk_at "hp"); (case fp2 => assumption); (case fp3 => assumption); (case fp4 => walk_at "few"))
  | with_reducible refine s_fldE ?_
  | ((with_reducible refine' ⟨_, _, _, _, _, rfl, ?fp1, ?fp2, ?fp3, ?fp4, ?_⟩); (case fp1 => walk_at "hp"); (case fp2 => assumption); (case fp3 => assumption); (case fp4 => rfl))
  | with_reducible refine s_bm ?_ | with_reducible refine s_bm0 ?_
  | ((with_reducible refine' s_tyL ?ty1 ?_); (case ty1 => walk_at "hp"))
  | ((with_reducible refine' s_append ?ap1 ?ap2 ?_); (case ap1 => walk_at "hp"); (case ap2 => walk_at "sz"))
  | ((with_reducible refine' s_extend ?ap1 ?ap2 ?ap3 ?_); (case ap1 => walk_at "hp"); (case ap2 => walk_at "hp"); (case ap3 => walk_at "sz"))
  | with_reducible refine s_for (fun _ _ => ?_) | with_reducible refine s_lc ?_ | with_reducible refine s_iList ?_ | with_reducible refine s_iTup ?_ | with_reducible refine s_iRng1 ?_ | with_reducible refine s_iRng2 ?_
  | with_reducible refine s_yes ?_ | with_reducible refine s_par ?_
  | with_reducible refine s_make ?_ | with_reducible refine s_meth ?_
  | with_reducible refine s_tup ?_ | with_reducible refine s_lst ?_ | with_reducible refine s_call ?_
  | with_reducible refine ⟨rfl, ?_⟩
  | with_reducible refine ⟨_, rfl, ?_⟩
  | ((with_reducible refine' ⟨_, _, rfl, ?sd1, ?_⟩); (case sd1 => walk_at "sd"))
  | with_reducible refine ⟨_, _, rfl, ?_⟩
  | with_reducible refine .inl ⟨_, rfl, ?_⟩
  | dsimp only [List.set]
  | walk_at "rdx"
  | (refine fun _ _ => ?_))
local macro_rules | `(tactic| walk_at "rd") => `(tactic| repeat (first
  | (with_reducible show tVar _ _ _ _); refine s_var rfl ?_
  | with_reducible refine s_c ?_ | with_reducible refine s_op ?_ | with_reducible refine s_un ?_
  | with_reducible refine s_cons ?_ | with_reducible refine s_nil ?_ | with_reducible refine s_cb ?_
  | with_reducible refine s_test ?_ | with_reducible refine s_B ?_ | with_reducible refine s_not ?_ | with_reducible refine s_and ?_ | with_reducible refine s_or ?_
  | with_reducible refine s_if ?_ | with_reducible refine s_notV ?_ | with_reducible refine s_andV ?_ | with_reducible refine s_orV ?_
  | with_reducible refine s_orT ?_ | with_reducible refine s_andT ?_ | with_reducible refine s_chain ?_
  | with_reducible refine s_isi_int ?_ | with_reducible refine s_isi_int_bool ?_ | with_reducible refine s_isi_str ?_
  | with_reducible refine iteT ?_ | with_reducible refine iteF ?_ | with_reducible refine iteNT ?_ | with_reducible refine iteNF ?_
  | with_reducible refine s_isN ?_ | with_reducible refine s_notN ?_
  | ((with_reducible refine' s_2setE ?g1 ?_); (case g1 => first | (dsimp only [List.set, L2.wipe, List.map, List.foldl]; done) | (dsimp only [List.set, L2.wipe, List.map, List.foldl]; rfl)))
  | with_reducible refine s_seq ?_ | with_reducible refine s_ifS ?_ | with_reducible refine s_asg ?_ | with_reducible refine s_ret ?_ | with_reducible refine s_drop ?_ | with_reducible refine s_next ?_
  | ((with_reducible refine' s_gnameE ?g1 ?_); (case g1 => first | (dsimp only [List.set, L2.wipe, List.map, List.foldl]; done) | (dsimp only [List.set, L2.wipe, List.map, List.foldl]; rfl)))
  | with_reducible refine s_gsub ?_ | with_reducible refine s_gcons ?_ | with_reducible refine s_gnil ?_
  | (with_reducible show gTup _ _ _ _ _ _ _); refine s_gtup (by walk_at "hp") rfl ?_
  | with_reducible refine s_eqI ?_ | with_reducible refine s_neI ?_ | with_reducible refine s_eqS ?_ | with_reducible refine s_neB ?_ | with_reducible refine s_eqB ?_ | with_reducible refine s_neSr ?_ | with_reducible refine s_neS ?_
  | with_reducible refine s_I0 ?_
  | (with_reducible show rI _ _ _ _ _ _); refine s_I (by walk_at "sd") ?_
  | (with_reducible show rIxL _ _ _ _ _); refine s_ixL (by walk_at "hp") rfl ?_
  | (with_reducible show rIxT _ _ _ _ _); refine s_ixT (by walk_at "hp") rfl ?_
  | (with_reducible show rSetL _ _ _ _ _); refine s_setL (by walk_at "hp") rfl ?_
  | with_reducible refine s_prop ?_
  | (with_reducible show _ ≤ sizeLine ∧ _); refine ⟨le_size (by rfl), ?_⟩
  | with_reducible refine ite_NN ?_ | with_reducible refine ite_IN ?_ | with_reducible refine ite_nNN ?_ | with_reducible refine ite_nIN ?_ | with_reducible refine ite_RN ?_ | with_reducible refine ite_nRN ?_
  | with_reducible refine s_sfld ?_
  | ((with_reducible refine' ⟨_, _, _, _, rfl, ?fp1, ?fp2, ?fp3, ?fp4, ?_⟩); (case fp1 => walk_at "hp"); (case fp2 => assumption); (case fp3 => assumption); (case fp4 => walk_at "few"))
  | with_reducible refine s_fldE ?_
  | ((with_reducible refine' ⟨_, _, _, _, _, rfl, ?fp1, ?fp2, ?fp3, ?fp4, ?_⟩); (case fp1 => walk_at "hp"); (case fp2 => assumption); (case fp3 => assumption); (case fp4 => rfl))
  | with_reducible refine s_bm ?_ | with_reducible refine s_bm0 ?_
  | ((with_reducible refine' s_tyL ?ty1 ?_); (case ty1 => walk_at "hp"))
  | ((with_reducible refine' s_append ?ap1 ?ap2 ?_); (case ap1 => walk_at "hp"); (case ap2 => walk_at "sz"))
  | ((with_reducible refine' s_extend ?ap1 ?ap2 ?ap3 ?_); (case ap1 => walk_at "hp"); (case ap2 => walk_at "hp"); (case ap3 => walk_at "sz"))
  | with_reducible refine s_for (fun _ _ => ?_) | with_reducible refine s_lc ?_ | with_reducible refine s_iList ?_ | with_reducible refine s_iTup ?_ | with_reducible refine s_iRng1 ?_ | with_reducible refine s_iRng2 ?_
  | with_reducible refine s_yes ?_ | with_reducible refine s_par ?_
  | with_reducible refine s_make ?_ | with_reducible refine s_meth ?_
  | with_reducible refine s_tup ?_ | with_reducible refine s_lst ?_ | with_reducible refine s_call ?_
  | with_reducible refine ⟨rfl, ?_⟩
  | with_reducible refine ⟨_, rfl, ?_⟩
  | ((with_reducible refine' ⟨_, _, rfl, ?sd1, ?_⟩); (case sd1 => walk_at "sd"))
  | with_reducible refine ⟨_, _, rfl, ?_⟩
  | with_reducible refine .inl ⟨_, rfl, ?_⟩
  | dsimp only [List.set]
  | walk_at "rdx"
  | (refine fun _ _ => ?_)))

namespace My
open PySem L2
section
variable {P : Program} {w : World} {K : PySem.W.Frag} {mg : Str → Option Value} {base : Heap} {C_Many C_Ratio C_EachError C_InvalidCount C_InvalidNumber C_InvalidMany : Addr} (M : Md K mg C_Many C_Ratio C_EachError C_InvalidCount C_InvalidNumber C_InvalidMany)
include M
omit M
theorem lg1900 {i : Int} (h : Sm 1900 i) : i.natAbs.log2 < 1920 := Nat.lt_of_lt_of_le h.log (by decide)
theorem w_len {x : Str} {n : Nat} (h : x.length = n := by decide +kernel) : x.length = n := h
theorem subT_own {t : Value} {C : Addr} (h : t ≠ .ref C) : subT t (.ref C) = false := by
  unfold subT
  rw [show (t == Value.ref C) = false from Bool.eq_false_iff.mpr fun z => h (beq_iff_eq.mp z)]
  rw [show (Value.ref C == Value.type "int") = false from Bool.eq_false_iff.mpr fun z => by cases beq_iff_eq.mp z]
  rw [Bool.and_false]
  rfl
def spEqG (K : PySem.W.Frag) (L : List Addr) (C : Addr) : Sp := fun vs H Q _ => ∃ (x : Addr) (y : V) (lo : Int) (hi : Option Int), vs = [.ref x, y] ∧ ManyAt C H x lo hi ∧
  ((∃ (b : Addr) (lo2 : Int) (hi2 : Option Int), y = .ref b ∧ ManyAt C H b lo2 hi2 ∧ Q (.bl (decide (lo = lo2 ∧ hi = hi2))) H) ∨ (∃ t, AnyV K L H y t ∧ t ≠ .ref C ∧ Q (.bl false) H))
theorem eqv_key (lo lo2 : Int) (hi hi2 : Option Int) : PyData.eqv (.tuple [.int lo, .bool (decide (hi = none)), .int (hi.getD 0)]) (.tuple [.int lo2, .bool (decide (hi2 = none)), .int (hi2.getD 0)]) = decide (lo = lo2 ∧ hi = hi2) := by
  rw [Bool.eq_iff_iff, decide_eq_true_eq]
  cases hi with
  | none => cases hi2 with
    | none => simp [PyData.eqv, PyData.eqvAll]
    | some b => simp [PyData.eqv, PyData.eqvAll]
  | some a => cases hi2 with
    | none => simp [PyData.eqv, PyData.eqvAll]
    | some b => simp [PyData.eqv, PyData.eqvAll]
def spREq (K : PySem.W.Frag) (L : List Addr) (C : Addr) : Sp := fun vs H Q _ => ∃ (x : Addr) (y : V) (p q : Int), vs = [.ref x, y] ∧ RatioAt C H x p q ∧
  ((∃ (b : Addr) (p2 q2 : Int), y = .ref b ∧ RatioAt C H b p2 q2 ∧ Q (.bl (decide (p = p2 ∧ q = q2))) H) ∨ (∃ t, AnyV K L H y t ∧ t ≠ .ref C ∧ Q (.bl false) H))
def mtx (lo : Int) : Option Int → Str
  | none => Str.empty ++ "Many(" ++ numT lo ++ ")"
  | some h => Str.empty ++ "Many(" ++ numT lo ++ ", " ++ numT h ++ ")"
def spMRep (C : Addr) : Sp := fun vs H Q _ => ∃ (x : Addr) (lo : Int) (hi : Option Int), vs = [.ref x] ∧ ManyAt C H x lo hi ∧ 0 ≤ lo ∧ (∀ h, hi = some h → 0 ≤ h) ∧ Sm 1900 lo ∧ (∀ h, hi = some h → Sm 1900 h) ∧ ∀ H', L2.Same H H' → Q (.str (mtx lo hi)) H'
include M
theorem ok_req {f : Addr} {fd : FuncData} (F : FunD K "__eq__" "Ratio.__eq__" (defArgs st_Ratio___eq__) (defBody st_Ratio___eq__) (defScope st_Ratio___eq__) [] [] f fd) : FnG P w K mg base CX0 1 f fd ["self", "other"] (spREq K [C_Many, C_Ratio] C_Ratio) := by
  refine fnG_body F sc_Ratio___eq__ (fun vs H Q E h => ?_) (fun cdv A outer s H vs Q E hr h => ?_)
  · obtain ⟨x, y, p, q, rfl, _⟩ := h
    rfl
  · obtain ⟨x, y, a, b, rfl, ⟨dx, e⟩, h⟩ := h
    refine ⟨_, (pss_one (ps_ret (pe_and (pe_callB call_isi (by rfl) M.b_isinstance (by decide +kernel) (pa_cons (pv 1) (pa_cons (pe_glob (v := .ref C_Ratio) rfl M.m_Ratio rfl) pa_nil))) (pe_and (pe_cmpR op_eq (pe_fld (pv 0) rfl) (pe_fld (pv 1) rfl) (nomark _)) (pe_one (pe_cmpR op_eq (pe_fld (pv 0) rfl) (pe_fld (pv 1) rfl) (nomark _))))))), ?_⟩
    refine st_eq (σ := [some _, some _]) rfl ?_
    have kM := M.k_Ratio
    have n1 := M.n_Ratio__top
    have n2 := M.n_Ratio__bottom
    walk_at "rd"
    rcases h with ⟨z, p2, q2, rfl, ⟨dy, f⟩, q⟩ | ⟨ty, a, nt, q⟩
    · refine s_isi_own (M.z_Ratio f) ?_
      walk_at "rd"
      refine ite_d (fun h1 => ?_) (fun h1 => ?_)
      · walk_at "rd"
        rw [show decide (b = q2) = decide (a = p2 ∧ b = q2) from by simp [h1]]
        exact q
      · rw [show decide (a = p2 ∧ b = q2) = false from by simp [h1]] at q
        exact q
    · refine s_isiA M.kk a (.own C_Ratio) (o_mem (by simp)) ?_
      rw [subT_own nt]
      walk_at "rd"
      exact q
theorem c_Ratio___eq__ : Mtn P w K mg base C_Ratio "__eq__" 1 ["self", "other"] [] (spREq K [C_Many, C_Ratio] C_Ratio) := mtN M.e_Ratio___eq__ M.k_Ratio (fun F => ok_req M F) (fun _ _ _ _ _ _ us hl => match us, hl with | [_, _], _ => rfl)
theorem ok_eq {f : Addr} {fd : FuncData} (F : FunD K "__eq__" "Many.__eq__" (defArgs st_Many___eq__) (defBody st_Many___eq__) (defScope st_Many___eq__) [] [] f fd) : FnG P w K mg base CX0 1 f fd ["self", "other"] (spEqG K [C_Many, C_Ratio] C_Many) := by
  refine fnG_body F sc_Many___eq__ (fun vs H Q E h => ?_) (fun cdv A outer s H vs Q E hr h => ?_)
  · obtain ⟨x, y, lo, hi, rfl, _⟩ := h
    rfl
  · obtain ⟨x, y, lo, hi, rfl, ⟨dx, t, e, et⟩, h⟩ := h
    refine ⟨_, (pss_one (ps_ret (pe_and (pe_callB call_isi (by rfl) M.b_isinstance (by decide +kernel) (pa_cons (pv 1) (pa_cons (pe_glob (v := .ref C_Many) rfl M.m_Many rfl) pa_nil))) (pe_one (pe_cmpR (op_eqD hr.units) (pe_fld (pv 0) rfl) (pe_fld (pv 1) rfl) (nomark _)))))), ?_⟩
    refine st_eq (σ := [some _, some _]) rfl ?_
    have kM := M.k_Many
    have n3 := M.n_Many__key
    walk_at "rd"
    rcases h with ⟨b, lo2, hi2, rfl, ⟨dy, u, f, fu⟩, q⟩ | ⟨ty, a, nt, q⟩
    · refine s_isi_own (M.z_Many f) ?_
      walk_at "rd"
      refine ⟨.tuple [.int lo, .bool (decide (hi = none)), .int (hi.getD 0)], .tuple [.int lo2, .bool (decide (hi2 = none)), .int (hi2.getD 0)], .tup (SqT.of et) (.cons (.int _) (.cons (.bl _) (.cons (.int _) .nil))), .tup (SqT.of fu) (.cons (.int _) (.cons (.bl _) (.cons (.int _) .nil))), rfl, rfl, ?_⟩
      rw [eqv_key]
      exact q
    · refine s_isiA M.kk a (.own C_Many) (o_mem (by simp)) ?_
      rw [subT_own nt]
      walk_at "rd"
      exact q
theorem c_Many___eq__ : Mtn P w K mg base C_Many "__eq__" 1 ["self", "other"] [] (spEqG K [C_Many, C_Ratio] C_Many) := mtN M.e_Many___eq__ M.k_Many (fun F => ok_eq M F) (fun _ _ _ _ _ _ us hl => match us, hl with | [_, _], _ => rfl)
theorem d_Many___repr__ : MtO P w K mg base C_Many "__repr__" 1 ["self"] [] (spMRep C_Many) := by
  obtain ⟨f, fd, hm, F⟩ := M.e_Many___repr__
  refine ⟨f, fd, [], M.k_Many, hm, ?_, F.bindsN (fun _ _ _ _ _ _ us hl => match us, hl with | [_], _ => rfl), .nil⟩
  refine fnO_body F sc_Many___repr__ (fun vs H Q E h => ?_) (fun cdv A outer s H vs Q E hr h => ?_)
  · obtain ⟨x, lo, hi, rfl, _⟩ := h
    rfl
  · obtain ⟨x, lo, hi, rfl, ⟨dx, t, e, et⟩, z0, z1, s1, s2, q⟩ := h
    have kM := M.k_Many
    have n1 := M.n_Many__least
    have n2 := M.n_Many__most
    have l1 : (Str.ofString (toString lo)).length ≤ 600 := numT_len z0 s1
    have g1 : (Str.ofString "Many(").length = 5 := w_len
    have g2 : (Str.ofString ")").length = 1 := w_len
    have g3 : (Str.ofString ", ").length = 2 := w_len
    have g4 : Str.empty.length = 0 := rfl
    refine ⟨_, (pss_cons (ps_if (pt_cmpR op_isN (pe_fld (pv 0) rfl) pe_non (nomark _)) (pss_one (ps_ret (pe_joined (.cons pe_str (.cons (pe_fmt (pe_fld (pv 0) rfl)) (.cons pe_str .nil)))))) pss_nil) (pss_one (ps_ret (pe_joined (.cons pe_str (.cons (pe_fmt (pe_fld (pv 0) rfl)) (.cons pe_str (.cons (pe_fmt (pe_fld (pv 0) rfl)) (.cons pe_str .nil))))))))), ?_⟩
    refine st_eq (σ := [some _]) rfl ?_
    cases hi with
    | none =>
      have e : H x = some (.ins C_Many dx [("_least", .int lo), ("_most", .non), ("_key", .ref t)]) := e
      walk_at "rd"
      dsimp only [L2.tJs, L2.tFmt]
      with_reducible refine s_c ?_
      refine ⟨_, rfl, fit (by simp only [strLen_append]; omega), ?_⟩
      with_reducible refine s_fldE ?_
      with_reducible refine s_var rfl ?_
      refine ⟨x, C_Many, dx, _, _, rfl, e, kM, n1, rfl, .inr ⟨_, rfl, lg1900 s1, _, rfl, fit (by simp only [strLen_append]; omega), ?_⟩⟩
      with_reducible refine s_c ?_
      refine ⟨_, rfl, fit (by simp only [strLen_append]; omega), ?_⟩
      exact q H (L2.Same.refl H)
    | some m =>
      have e : H x = some (.ins C_Many dx [("_least", .int lo), ("_most", .int m), ("_key", .ref t)]) := e
      have l2 : (Str.ofString (toString m)).length ≤ 600 := numT_len (z1 m rfl) (s2 m rfl)
      walk_at "rd"
      dsimp only [L2.tJs, L2.tFmt]
      with_reducible refine s_c ?_
      refine ⟨_, rfl, fit (by simp only [strLen_append]; omega), ?_⟩
      with_reducible refine s_fldE ?_
      with_reducible refine s_var rfl ?_
      refine ⟨x, C_Many, dx, _, _, rfl, e, kM, n1, rfl, .inr ⟨_, rfl, lg1900 s1, _, rfl, fit (by simp only [strLen_append]; omega), ?_⟩⟩
      with_reducible refine s_c ?_
      refine ⟨_, rfl, fit (by simp only [strLen_append]; omega), ?_⟩
      with_reducible refine s_fldE ?_
      with_reducible refine s_var rfl ?_
      refine ⟨x, C_Many, dx, _, _, rfl, e, kM, n2, rfl, .inr ⟨_, rfl, lg1900 (s2 m rfl), _, rfl, fit (by simp only [strLen_append]; omega), ?_⟩⟩
      with_reducible refine s_c ?_
      refine ⟨_, rfl, fit (by simp only [strLen_append]; omega), ?_⟩
      exact q H (L2.Same.refl H)
theorem c_Many_least : Prn P w K mg base C_Many "least" 1 ["self"] [] (spLeast C_Many) := by
  refine prN M.p_Many_least M.k_Many (fun F => ?_) (fun _ _ _ _ _ _ us hl => match us, hl with | [_], _ => rfl)
  refine fnG_body F sc_Many_least (fun vs H Q E h => ?_) (fun cdv A outer s H vs Q E hr h => ?_)
  · obtain ⟨x, lo, hi, rfl, _⟩ := h
    rfl
  · obtain ⟨x, lo, hi, rfl, ⟨dx, t, e, _⟩, q⟩ := h
    refine ⟨_, (pss_one (ps_ret (pe_fld (pv 0) rfl))), ?_⟩
    refine st_eq (σ := [some _]) rfl ?_
    have kM := M.k_Many
    have n1 := M.n_Many__least
    walk_at "rd"
    exact q
theorem c_Many_most : Prn P w K mg base C_Many "most" 1 ["self"] [] (spMost C_Many) := by
  refine prN M.p_Many_most M.k_Many (fun F => ?_) (fun _ _ _ _ _ _ us hl => match us, hl with | [_], _ => rfl)
  refine fnG_body F sc_Many_most (fun vs H Q E h => ?_) (fun cdv A outer s H vs Q E hr h => ?_)
  · obtain ⟨x, lo, hi, rfl, _⟩ := h
    rfl
  · obtain ⟨x, lo, hi, rfl, ⟨dx, t, e, _⟩, q⟩ := h
    refine ⟨_, (pss_one (ps_ret (pe_fld (pv 0) rfl))), ?_⟩
    refine st_eq (σ := [some _]) rfl ?_
    have kM := M.k_Many
    have n1 := M.n_Many__most
    walk_at "rd"
    exact q
end
end My
end
section
open My L2 PySem
open My L2 PySem
local macro_rules | `(tactic| walk_at "as") => `(tactic| with_reducible assumption)
local macro_rules | `(tactic| walk_at "hp") => `(tactic| first
  | walk_at "as" | exact upd_same
  | (rw [upd_ne (by walk_at "ne")]; walk_at "hp")
  | (refine But.get (by walk_at "as") ?hp1 ?hp2; (case hp1 => walk_at "hp"); (case hp2 => walk_at "ne"))
  | (refine My.Same.get (by walk_at "as") ?hp1; (case hp1 => walk_at "hp")))
local macro_rules | `(tactic| walk_at "ne") => `(tactic| first
  | walk_at "as" | exact Ne.symm (by walk_at "as")
  | (refine' ne_of_none ?ne1 ?ne2; (case ne2 => walk_at "as"); (case ne1 => walk_at "hp"))
  | (refine' Ne.symm (ne_of_none ?ne1 ?ne2); (case ne2 => walk_at "as"); (case ne1 => walk_at "hp"))
  | exact ne_of (by walk_at "hp") (by walk_at "hp") (by intro z; cases z))
local macro_rules | `(tactic| walk_at "sd") => `(tactic| first
  | walk_at "as" | omega | decide | exact ⟨by omega, by omega⟩ | exact .inl ⟨by omega, by omega⟩ | exact .inr ⟨by omega, by omega⟩ | exact divp_wide (by walk_at "as") (by walk_at "as") | exact Sm.cmul (by walk_at "as") (by walk_at "as") | exact cmul_small (by omega) (by omega) (by omega) (by omega) | exact ⟨by omega, by decide⟩)
local macro_rules | `(tactic| walk_at "bt") => `(tactic| first
  | walk_at "as" | exact But.refl _ _ | exact Same.but (by walk_at "as")
  | (refine But.trans ?bt1 But.at; (case bt1 => walk_at "bt"))
  | (refine But.trans ?bt1 (But.new (by first | walk_at "as" | walk_at "hp")); (case bt1 => walk_at "bt"))
  | (refine But.trans ?bt1 (by walk_at "as"); (case bt1 => walk_at "bt"))
  | (refine But.trans ?bt1 (Same.but (by walk_at "as")); (case bt1 => walk_at "bt")))
local macro_rules | `(tactic| walk_at "sm") => `(tactic| first
  | walk_at "as" | exact My.Same.rfl' _
  | (refine' My.Same.at_ ?sm1 ?sm2; (case sm1 => walk_at "as"); (case sm2 => walk_at "sm"))
  | (refine' My.Same.tr ?sm1 (My.Same.new ?sm2); (case sm2 => walk_at "as"); (case sm1 => walk_at "sm"))
  | (refine' My.Same.tr ?sm1 ?sm2; (case sm2 => walk_at "as"); (case sm1 => walk_at "sm")))
local macro_rules | `(tactic| walk_at "sz") => `(tactic| first
  | assumption | exact lt_size (by rfl) | exact le_size (by rfl) | (rw [sizeLine_eq]; omega)
  | (rw [sizeLine_eq]; simp only [List.length_append, List.length_map, List.length_cons, List.length_nil]; omega))
local macro_rules | `(tactic| walk_at "few") => `(tactic| (repeat refine few_put ?_); exact few0)
local macro_rules | `(tactic| walk_at "rd1") => `(tactic| first
  | (with_reducible show tVar _ _ _ _); refine s_var rfl ?_
  | with_reducible refine s_c ?_ | with_reducible refine s_op ?_ | with_reducible refine s_un ?_
  | with_reducible refine s_cons ?_ | with_reducible refine s_nil ?_ | with_reducible refine s_cb ?_
  | with_reducible refine s_test ?_ | with_reducible refine s_B ?_ | with_reducible refine s_not ?_ | with_reducible refine s_and ?_ | with_reducible refine s_or ?_
  | with_reducible refine s_if ?_ | with_reducible refine s_notV ?_ | with_reducible refine s_andV ?_ | with_reducible refine s_orV ?_
  | with_reducible refine s_orT ?_ | with_reducible refine s_andT ?_ | with_reducible refine s_chain ?_
  | with_reducible refine s_isi_int ?_ | with_reducible refine s_isi_int_bool ?_ | with_reducible refine s_isi_str ?_
  | with_reducible refine iteT ?_ | with_reducible refine iteF ?_ | with_reducible refine iteNT ?_ | with_reducible refine iteNF ?_
  | with_reducible refine s_isN ?_ | with_reducible refine s_notN ?_
  | ((with_reducible refine' s_2setE ?g1 ?_); (case g1 => first | (dsimp only [List.set, L2.wipe, List.map, List.foldl]; done) | (dsimp only [List.set, L2.wipe, List.map, List.foldl]; rfl)))
  | with_reducible refine s_seq ?_ | with_reducible refine s_ifS ?_ | with_reducible refine s_asg ?_ | with_reducible refine s_ret ?_ | with_reducible refine s_drop ?_ | with_reducible refine s_next ?_
  | ((with_reducible refine' s_gnameE ?g1 ?_); (case g1 => first | (dsimp only [List.set, L2.wipe, List.map, List.foldl]; done) | (dsimp only [List.set, L2.wipe, List.map, List.foldl]; rfl)))
  | with_reducible refine s_gsub ?_ | with_reducible refine s_gcons ?_ | with_reducible refine s_gnil ?_
  | (with_reducible show gTup _ _ _ _ _ _ _); refine s_gtup (by walk_at "hp") rfl ?_
  | with_reducible refine s_eqI ?_ | with_reducible refine s_neI ?_ | with_reducible refine s_eqS ?_ | with_reducible refine s_neB ?_ | with_reducible refine s_eqB ?_ | with_reducible refine s_neSr ?_ | with_reducible refine s_neS ?_
  | with_reducible refine s_I0 ?_
  | (with_reducible show rI _ _ _ _ _ _); refine s_I (by walk_at "sd") ?_
  | (with_reducible show rIxL _ _ _ _ _); refine s_ixL (by walk_at "hp") rfl ?_
  | (with_reducible show rIxT _ _ _ _ _); refine s_ixT (by walk_at "hp") rfl ?_
  | (with_reducible show rSetL _ _ _ _ _); refine s_setL (by walk_at "hp") rfl ?_
  | with_reducible refine s_prop ?_
  | (with_reducible show _ ≤ sizeLine ∧ _); refine ⟨le_size (by rfl), ?_⟩
  | with_reducible refine ite_NN ?_ | with_reducible refine ite_IN ?_ | with_reducible refine ite_nNN ?_ | with_reducible refine ite_nIN ?_ | with_reducible refine ite_RN ?_ | with_reducible refine ite_nRN ?_
  | with_reducible refine s_sfld ?_
  | ((with_reducible refine' ⟨_, _, _, _, rfl, ?fp1, ?fp2, ?fp3, ?fp4, ?_⟩); (case fp1 => walk_at "hp"); (case fp2 => assumption); (case fp3 => assumption); (case fp4 => walk_at "few"))
  | with_reducible refine s_fldE ?_
  | ((with_reducible refine' ⟨_, _, _, _, _, rfl, ?fp1, ?fp2, ?fp3, ?fp4, ?_⟩); (case fp1 => walk_at "hp"); (case fp2 => assumption); (case fp3 => assumption); (case fp4 => rfl))
  | with_reducible refine s_bm ?_ | with_reducible refine s_bm0 ?_
  | ((with_reducible refine' s_tyL ?ty1 ?_); (case ty1 => walk_at "hp"))
  | ((with_reducible refine' s_append ?ap1 ?ap2 ?_); (case ap1 => walk_at "hp"); (case ap2 => walk_at "sz"))
  | ((with_reducible refine' s_extend ?ap1 ?ap2 ?ap3 ?_); (case ap1 => walk_at "hp"); (case ap2 => walk_at "hp"); (case ap3 => walk_at "sz"))
  | with_reducible refine s_for (fun _ _ => ?_) | with_reducible refine s_lc ?_ | with_reducible refine s_iList ?_ | with_reducible refine s_iTup ?_ | with_reducible refine s_iRng1 ?_ | with_reducible refine s_iRng2 ?_
  | with_reducible refine s_yes ?_ | with_reducible refine s_par ?_
  | with_reducible refine s_make ?_ | with_reducible refine s_meth ?_
  | with_reducible refine s_tup ?_ | with_reducible refine s_lst ?_ | with_reducible refine s_call ?_
  | with_reducible refine ⟨rfl, ?_⟩
  | with_reducible refine ⟨_, rfl, ?_⟩
  | ((with_reducible refine' ⟨_, _, rfl, ?sd1, ?_⟩); (case sd1 => walk_at "sd"))
  | with_reducible refine ⟨_, _, rfl, ?_⟩
  | with_reducible refine .inl ⟨_, rfl, ?_⟩
  | dsimp only [List.set]
  | walk_at "rdx"
  | (refine fun _ _ => ?_))
local macro_rules | `(tactic| walk_at "rd") => `(tactic| repeat (first
  | (with_reducible show tVar _ _ _ _); refine s_var rfl ?_
  | with_reducible refine s_c ?_ | with_reducible refine s_op ?_ | with_reducible refine s_un ?_
  | with_reducible refine s_cons ?_ | with_reducible refine s_nil ?_ | with_reducible refine s_cb ?_
  | with_reducible refine s_test ?_ | with_reducible refine s_B ?_ | with_reducible refine s_not ?_ | with_reducible refine s_and ?_ | with_reducible refine s_or ?_
  | with_reducible refine s_if ?_ | with_reducible refine s_notV ?_ | with_reducible refine s_andV ?_ | with_reducible refine s_orV ?_
  | with_reducible refine s_orT ?_ | with_reducible refine s_andT ?_ | with_reducible refine s_chain ?_
  | with_reducible refine s_isi_int ?_ | with_reducible refine s_isi_int_bool ?_ | with_reducible refine s_isi_str ?_
  | with_reducible refine iteT ?_ | with_reducible refine iteF ?_ | with_reducible refine iteNT ?_ | with_reducible refine iteNF ?_
  | with_reducible refine s_isN ?_ | with_reducible refine s_notN ?_
  | ((with_reducible refine' s_2setE ?g1 ?_); (case g1 => first | (dsimp only [List.set, L2.wipe, List.map, List.foldl]; done) | (dsimp only [List.set, L2.wipe, List.map, List.foldl]; rfl)))
  | with_reducible refine s_seq ?_ | with_reducible refine s_ifS ?_ | with_reducible refine s_asg ?_ | with_reducible refine s_ret ?_ | with_reducible refine s_drop ?_ | with_reducible refine s_next ?_
  | ((with_reducible refine' s_gnameE ?g1 ?_); (case g1 => first | (dsimp only [List.set, L2.wipe, List.map, List.foldl]; done) | (dsimp only [List.set, L2.wipe, List.map, List.foldl]; rfl)))
  | with_reducible refine s_gsub ?_ | with_reducible refine s_gcons ?_ | with_reducible refine s_gnil ?_
  | (with_reducible show gTup _ _ _ _ _ _ _); refine s_gtup (by walk_at "hp") rfl ?_
  | with_reducible refine s_eqI ?_ | with_reducible refine s_neI ?_ | with_reducible refine s_eqS ?_ | with_reducible refine s_neB ?_ | with_reducible refine s_eqB ?_ | with_reducible refine s_neSr ?_ | with_reducible refine s_neS ?_
  | with_reducible refine s_I0 ?_
  | (with_reducible show rI _ _ _ _ _ _); refine s_I (by walk_at "sd") ?_
  | (with_reducible show rIxL _ _ _ _ _); refine s_ixL (by walk_at "hp") rfl ?_
  | (with_reducible show rIxT _ _ _ _ _); refine s_ixT (by walk_at "hp") rfl ?_
  | (with_reducible show rSetL _ _ _ _ _); refine s_setL (by walk_at "hp") rfl ?_
  | with_reducible refine s_prop ?_
  | (with_reducible show _ ≤ sizeLine ∧ _); refine ⟨le_size (by rfl), ?_⟩
  | with_reducible refine ite_NN ?_ | with_reducible refine ite_IN ?_ | with_reducible refine ite_nNN ?_ | with_reducible refine ite_nIN ?_ | with_reducible refine ite_RN ?_ | with_reducible refine ite_nRN ?_
  | with_reducible refine s_sfld ?_
  | ((with_reducible refine' ⟨_, _, _, _, rfl, ?fp1, ?fp2, ?fp3, ?fp4, ?_⟩); (case fp1 => walk_at "hp"); (case fp2 => assumption); (case fp3 => assumption); (case fp4 => walk_at "few"))
  | with_reducible refine s_fldE ?_
  | ((with_reducible refine' ⟨_, _, _, _, _, rfl, ?fp1, ?fp2, ?fp3, ?fp4, ?_⟩); (case fp1 => walk_at "hp"); (case fp2 => assumption); (case fp3 => assumption); (case fp4 => rfl))
  | with_reducible refine s_bm ?_ | with_reducible refine s_bm0 ?_
  | ((with_reducible refine' s_tyL ?ty1 ?_); (case ty1 => walk_at "hp"))
  | ((with_reducible refine' s_append ?ap1 ?ap2 ?_); (case ap1 => walk_at "hp"); (case ap2 => walk_at "sz"))
  | ((with_reducible refine' s_extend ?ap1 ?ap2 ?ap3 ?_); (case ap1 => walk_at "hp"); (case ap2 => walk_at "hp"); (case ap3 => walk_at "sz"))
  | with_reducible refine s_for (fun _ _ => ?_) | with_reducible refine s_lc ?_ | with_reducible refine s_iList ?_ | with_reducible refine s_iTup ?_ | with_reducible refine s_iRng1 ?_ | with_reducible refine s_iRng2 ?_
  | with_reducible refine s_yes ?_ | with_reducible refine s_par ?_
  | with_reducible refine s_make ?_ | with_reducible refine s_meth ?_
  | with_reducible refine s_tup ?_ | with_reducible refine s_lst ?_ | with_reducible refine s_call ?_
  | with_reducible refine ⟨rfl, ?_⟩
  | with_reducible refine ⟨_, rfl, ?_⟩
  | ((with_reducible refine' ⟨_, _, rfl, ?sd1, ?_⟩); (case sd1 => walk_at "sd"))
  | with_reducible refine ⟨_, _, rfl, ?_⟩
  | with_reducible refine .inl ⟨_, rfl, ?_⟩
  | dsimp only [List.set]
  | walk_at "rdx"
  | (refine fun _ _ => ?_)))

namespace My
open PySem L2
section
variable {P : Program} {w : World} {K : PySem.W.Frag} {mg : Str → Option Value} {base : Heap} {C_Many C_Ratio C_EachError C_InvalidCount C_InvalidNumber C_InvalidMany : Addr} (M : Md K mg C_Many C_Ratio C_EachError C_InvalidCount C_InvalidNumber C_InvalidMany)
include M
omit M
/-- a Many's key -/
def key (lo : Int) (hi : Option Int) : Int × Bool × Int := (lo, decide (hi = none), hi.getD 0)
def spCmpM (C : Addr) (c : Int → Int → Bool) (z : Bool) : Sp := fun vs H Q _ => ∃ (x y : Addr) (lo lo2 : Int) (hi hi2 : Option Int), vs = [.ref x, .ref y] ∧ ManyAt C H x lo hi ∧ ManyAt C H y lo2 hi2 ∧ Q (.bl (lex3 c z (key lo hi) (key lo2 hi2))) H
def pos (hi : Option Int) : Bool := match hi with
  | none => true
  | some h => decide (h > 0)
def spBoolM (C : Addr) : Sp := fun vs H Q _ => ∃ (x : Addr) (lo : Int) (hi : Option Int), vs = [.ref x] ∧ ManyAt C H x lo hi ∧ Q (.bl (pos hi)) H
include M
theorem c_Many___lt__ : Mtn P w K mg base C_Many "__lt__" 1 ["self", "other"] [] (spCmpM C_Many (fun i j => decide (i < j)) false) := by
  refine mtN M.e_Many___lt__ M.k_Many (fun F => ?_) (fun _ _ _ _ _ _ us hl => match us, hl with | [_, _], _ => rfl)
  refine fnG_body F sc_Many___lt__ (fun vs H Q E h => ?_) (fun cdv A outer s H vs Q E hr h => ?_)
  · obtain ⟨x, y, lo, lo2, hi, hi2, rfl, _⟩ := h
    rfl
  · obtain ⟨x, y, lo, lo2, hi, hi2, rfl, ⟨dx, k1, ex, ek1⟩, ⟨dy, k2, ey, ek2⟩, q⟩ := h
    have kM := M.k_Many
    have n3 := M.n_Many__key
    refine ⟨_, (pss_cons (ps_if (pt_not (pt_val (pe_callB call_isi (by rfl) M.b_isinstance (by decide +kernel) (pa_cons (pv 1) (pa_cons (pe_glob (v := .ref C_Many) rfl M.m_Many rfl) pa_nil))))) (pss_one ps_never) pss_nil) (pss_one (ps_ret (pe_cmpR (op_ltt3 hr.units) (pe_fld (pv 0) rfl) (pe_fld (pv 1) rfl) (nomark _))))), ?_⟩
    refine st_eq (σ := [some _, some _]) rfl ?_
    walk_at "rd"
    refine s_isi_own (M.z_Many ey) ?_
    walk_at "rd"
    exact ⟨k1, k2, key lo hi, key lo2 hi2, rfl, rfl, ek1, ek2, q⟩
theorem c_Many___le__ : Mtn P w K mg base C_Many "__le__" 1 ["self", "other"] [] (spCmpM C_Many (fun i j => decide (i ≤ j)) true) := by
  refine mtN M.e_Many___le__ M.k_Many (fun F => ?_) (fun _ _ _ _ _ _ us hl => match us, hl with | [_, _], _ => rfl)
  refine fnG_body F sc_Many___le__ (fun vs H Q E h => ?_) (fun cdv A outer s H vs Q E hr h => ?_)
  · obtain ⟨x, y, lo, lo2, hi, hi2, rfl, _⟩ := h
    rfl
  · obtain ⟨x, y, lo, lo2, hi, hi2, rfl, ⟨dx, k1, ex, ek1⟩, ⟨dy, k2, ey, ek2⟩, q⟩ := h
    have kM := M.k_Many
    have n3 := M.n_Many__key
    refine ⟨_, (pss_cons (ps_if (pt_not (pt_val (pe_callB call_isi (by rfl) M.b_isinstance (by decide +kernel) (pa_cons (pv 1) (pa_cons (pe_glob (v := .ref C_Many) rfl M.m_Many rfl) pa_nil))))) (pss_one ps_never) pss_nil) (pss_one (ps_ret (pe_cmpR (op_let3 hr.units) (pe_fld (pv 0) rfl) (pe_fld (pv 1) rfl) (nomark _))))), ?_⟩
    refine st_eq (σ := [some _, some _]) rfl ?_
    walk_at "rd"
    refine s_isi_own (M.z_Many ey) ?_
    walk_at "rd"
    exact ⟨k1, k2, key lo hi, key lo2 hi2, rfl, rfl, ek1, ek2, q⟩
theorem c_Many___gt__ : Mtn P w K mg base C_Many "__gt__" 1 ["self", "other"] [] (spCmpM C_Many (fun i j => decide (j < i)) false) := by
  refine mtN M.e_Many___gt__ M.k_Many (fun F => ?_) (fun _ _ _ _ _ _ us hl => match us, hl with | [_, _], _ => rfl)
  refine fnG_body F sc_Many___gt__ (fun vs H Q E h => ?_) (fun cdv A outer s H vs Q E hr h => ?_)
  · obtain ⟨x, y, lo, lo2, hi, hi2, rfl, _⟩ := h
    rfl
  · obtain ⟨x, y, lo, lo2, hi, hi2, rfl, ⟨dx, k1, ex, ek1⟩, ⟨dy, k2, ey, ek2⟩, q⟩ := h
    have kM := M.k_Many
    have n3 := M.n_Many__key
    refine ⟨_, (pss_cons (ps_if (pt_not (pt_val (pe_callB call_isi (by rfl) M.b_isinstance (by decide +kernel) (pa_cons (pv 1) (pa_cons (pe_glob (v := .ref C_Many) rfl M.m_Many rfl) pa_nil))))) (pss_one ps_never) pss_nil) (pss_one (ps_ret (pe_cmpR (op_gtt3 hr.units) (pe_fld (pv 0) rfl) (pe_fld (pv 1) rfl) (nomark _))))), ?_⟩
    refine st_eq (σ := [some _, some _]) rfl ?_
    walk_at "rd"
    refine s_isi_own (M.z_Many ey) ?_
    walk_at "rd"
    exact ⟨k1, k2, key lo hi, key lo2 hi2, rfl, rfl, ek1, ek2, q⟩
theorem c_Many___ge__ : Mtn P w K mg base C_Many "__ge__" 1 ["self", "other"] [] (spCmpM C_Many (fun i j => decide (j ≤ i)) true) := by
  refine mtN M.e_Many___ge__ M.k_Many (fun F => ?_) (fun _ _ _ _ _ _ us hl => match us, hl with | [_, _], _ => rfl)
  refine fnG_body F sc_Many___ge__ (fun vs H Q E h => ?_) (fun cdv A outer s H vs Q E hr h => ?_)
  · obtain ⟨x, y, lo, lo2, hi, hi2, rfl, _⟩ := h
    rfl
  · obtain ⟨x, y, lo, lo2, hi, hi2, rfl, ⟨dx, k1, ex, ek1⟩, ⟨dy, k2, ey, ek2⟩, q⟩ := h
    have kM := M.k_Many
    have n3 := M.n_Many__key
    refine ⟨_, (pss_cons (ps_if (pt_not (pt_val (pe_callB call_isi (by rfl) M.b_isinstance (by decide +kernel) (pa_cons (pv 1) (pa_cons (pe_glob (v := .ref C_Many) rfl M.m_Many rfl) pa_nil))))) (pss_one ps_never) pss_nil) (pss_one (ps_ret (pe_cmpR (op_get3 hr.units) (pe_fld (pv 0) rfl) (pe_fld (pv 1) rfl) (nomark _))))), ?_⟩
    refine st_eq (σ := [some _, some _]) rfl ?_
    walk_at "rd"
    refine s_isi_own (M.z_Many ey) ?_
    walk_at "rd"
    exact ⟨k1, k2, key lo hi, key lo2 hi2, rfl, rfl, ek1, ek2, q⟩
theorem c_Many___bool__ : Mtn P w K mg base C_Many "__bool__" 3 ["self"] [] (spBoolM C_Many) := by
  refine mtN M.e_Many___bool__ M.k_Many (fun F => ?_) (fun _ _ _ _ _ _ us hl => match us, hl with | [_], _ => rfl)
  refine fnG_body F sc_Many___bool__ (fun vs H Q E h => ?_) (fun cdv A outer s H vs Q E hr h => ?_)
  · obtain ⟨x, lo, hi, rfl, _⟩ := h
    rfl
  · obtain ⟨x, lo, hi, rfl, ⟨dx, k1, ex, ek1⟩, q⟩ := h
    have kM := M.k_Many
    have n2 := M.n_Many__most
    refine ⟨_, (pss_one (ps_ret (pe_or (pe_cmpR op_isN (pe_fld (pv 0) rfl) pe_non (nomark _)) (pe_one (pe_callTy call_bool1 (by rfl) M.b_bool (by decide +kernel) (pa_cons (pe_cmpR op_gt (pe_fld (pv 0) rfl) pe_int (nomark _)) pa_nil)))))), ?_⟩
    refine st_eq (σ := [some _]) rfl ?_
    cases hi with
    | none =>
      have ex : H x = some (.ins C_Many dx [("_least", .int lo), ("_most", .non), ("_key", .ref k1)]) := ex
      walk_at "rd"
      exact q
    | some h =>
      have ex : H x = some (.ins C_Many dx [("_least", .int lo), ("_most", .int h), ("_key", .ref k1)]) := ex
      walk_at "rd"
      exact .inr ⟨_, rfl, q⟩
end
end My
end
section
open My L2 PySem
open My L2 PySem
local macro_rules | `(tactic| walk_at "as") => `(tactic| with_reducible assumption)
local macro_rules | `(tactic| walk_at "hp") => `(tactic| first
  | walk_at "as" | exact upd_same
  | (rw [upd_ne (by walk_at "ne")]; walk_at "hp")
  | (refine But.get (by walk_at "as") ?hp1 ?hp2; (case hp1 => walk_at "hp"); (case hp2 => walk_at "ne"))
  | (refine My.Same.get (by walk_at "as") ?hp1; (case hp1 => walk_at "hp")))
local macro_rules | `(tactic| walk_at "ne") => `(tactic| first
  | walk_at "as" | exact Ne.symm (by walk_at "as")
  | (refine' ne_of_none ?ne1 ?ne2; (case ne2 => walk_at "as"); (case ne1 => walk_at "hp"))
  | (refine' Ne.symm (ne_of_none ?ne1 ?ne2); (case ne2 => walk_at "as"); (case ne1 => walk_at "hp"))
  | exact ne_of (by walk_at "hp") (by walk_at "hp") (by intro z; cases z))
local macro_rules | `(tactic| walk_at "sd") => `(tactic| first
  | walk_at "as" | omega | decide | exact ⟨by omega, by omega⟩ | exact .inl ⟨by omega, by omega⟩ | exact .inr ⟨by omega, by omega⟩ | exact divp_wide (by walk_at "as") (by walk_at "as") | exact Sm.cmul (by walk_at "as") (by walk_at "as") | exact cmul_small (by omega) (by omega) (by omega) (by omega) | exact ⟨by omega, by decide⟩)
local macro_rules | `(tactic| walk_at "bt") => `(tactic| first
  | walk_at "as" | exact But.refl _ _ | exact Same.but (by walk_at "as")
  | (refine But.trans ?bt1 But.at; (case bt1 => walk_at "bt"))
  | (refine But.trans ?bt1 (But.new (by first | walk_at "as" | walk_at "hp")); (case bt1 => walk_at "bt"))
  | (refine But.trans ?bt1 (by walk_at "as"); (case bt1 => walk_at "bt"))
  | (refine But.trans ?bt1 (Same.but (by walk_at "as")); (case bt1 => walk_at "bt")))
local macro_rules | `(tactic| walk_at "sm") => `(tactic| first
  | walk_at "as" | exact My.Same.rfl' _
  | (refine' My.Same.at_ ?sm1 ?sm2; (case sm1 => walk_at "as"); (case sm2 => walk_at "sm"))
  | (refine' My.Same.tr ?sm1 (My.Same.new ?sm2); (case sm2 => walk_at "as"); (case sm1 => walk_at "sm"))
  | (refine' My.Same.tr ?sm1 ?sm2; (case sm2 => walk_at "as"); (case sm1 => walk_at "sm")))
local macro_rules | `(tactic| walk_at "sz") => `(tactic| first
  | assumption | exact lt_size (by rfl) | exact le_size (by rfl) | (rw [sizeLine_eq]; omega)
  | (rw [sizeLine_eq]; simp only [List.length_append, List.length_map, List.length_cons, List.length_nil]; omega))
local macro_rules | `(tactic| walk_at "few") => `(tactic| (repeat refine few_put ?_); exact few0)
local macro_rules | `(tactic| walk_at "rd1") => `(tactic| first
  | (with_reducible show tVar _ _ _ _); refine s_var rfl ?_
  | with_reducible refine s_c ?_ | with_reducible refine s_op ?_ | with_reducible refine s_un ?_
  | with_reducible refine s_cons ?_ | with_reducible refine s_nil ?_ | with_reducible refine s_cb ?_
  | with_reducible refine s_test ?_ | with_reducible refine s_B ?_ | with_reducible refine s_not ?_ | with_reducible refine s_and ?_ | with_reducible refine s_or ?_
  | with_reducible refine s_if ?_ | with_reducible refine s_notV ?_ | with_reducible refine s_andV ?_ | with_reducible refine s_orV ?_
  | with_reducible refine s_orT ?_ | with_reducible refine s_andT ?_ | with_reducible refine s_chain ?_
  | with_reducible refine s_isi_int ?_ | with_reducible refine s_isi_int_bool ?_ | with_reducible refine s_isi_str ?_
  | with_reducible refine iteT ?_ | with_reducible refine iteF ?_ | with_reducible refine iteNT ?_ | with_reducible refine iteNF ?_
  | with_reducible refine s_isN ?_ | with_reducible refine s_notN ?_
  | ((with_reducible refine' s_2setE ?g1 ?_); (case g1 => first | (dsimp only [List.set, L2.wipe, List.map, List.foldl]; done) | (dsimp only [List.set, L2.wipe, List.map, List.foldl]; rfl)))
  | with_reducible refine s_seq ?_ | with_reducible refine s_ifS ?_ | with_reducible refine s_asg ?_ | with_reducible refine s_ret ?_ | with_reducible refine s_drop ?_ | with_reducible refine s_next ?_
  | ((with_reducible refine' s_gnameE ?g1 ?_); (case g1 => first | (dsimp only [List.set, L2.wipe, List.map, List.foldl]; done) | (dsimp only [List.set, L2.wipe, List.map, List.foldl]; rfl)))
  | with_reducible refine s_gsub ?_ | with_reducible refine s_gcons ?_ | with_reducible refine s_gnil ?_
  | (with_reducible show gTup _ _ _ _ _ _ _); refine s_gtup (by walk_at "hp") rfl ?_
  | with_reducible refine s_eqI ?_ | with_reducible refine s_neI ?_ | with_reducible refine s_eqS ?_ | with_reducible refine s_neB ?_ | with_reducible refine s_eqB ?_ | with_reducible refine s_neSr ?_ | with_reducible refine s_neS ?_
  | with_reducible refine s_I0 ?_
  | (with_reducible show rI _ _ _ _ _ _); refine s_I (by walk_at "sd") ?_
  | (with_reducible show rIxL _ _ _ _ _); refine s_ixL (by walk_at "hp") rfl ?_
  | (with_reducible show rIxT _ _ _ _ _); refine s_ixT (by walk_at "hp") rfl ?_
  | (with_reducible show rSetL _ _ _ _ _); refine s_setL (by walk_at "hp") rfl ?_
  | with_reducible refine s_prop ?_
  | (with_reducible show _ ≤ sizeLine ∧ _); refine ⟨le_size (by rfl), ?_⟩
  | with_reducible refine ite_NN ?_ | with_reducible refine ite_IN ?_ | with_reducible refine ite_nNN ?_ | with_reducible refine ite_nIN ?_ | with_reducible refine ite_RN ?_ | with_reducible refine ite_nRN ?_
  | with_reducible refine s_sfld ?_
  | ((with_reducible refine' ⟨_, _, _, _, rfl, ?fp1, ?fp2, ?fp3, ?fp4, ?_⟩); (case fp1 => walk_at "hp"); (case fp2 => assumption); (case fp3 => assumption); (case fp4 => walk_at "few"))
  | with_reducible refine s_fldE ?_
  | ((with_reducible refine' ⟨_, _, _, _, _, rfl, ?fp1, ?fp2, ?fp3, ?fp4, ?_⟩); (case fp1 => walk_at "hp"); (case fp2 => assumption); (case fp3 => assumption); (case fp4 => rfl))
  | with_reducible refine s_bm ?_ | with_reducible refine s_bm0 ?_
  | ((with_reducible refine' s_tyL ?ty1 ?_); (case ty1 => walk_at "hp"))
  | ((with_reducible refine' s_append ?ap1 ?ap2 ?_); (case ap1 => walk_at "hp"); (case ap2 => walk_at "sz"))
  | ((with_reducible refine' s_extend ?ap1 ?ap2 ?ap3 ?_); (case ap1 => walk_at "hp"); (case ap2 => walk_at "hp"); (case ap3 => walk_at "sz"))
  | with_reducible refine s_for (fun _ _ => ?_) | with_reducible refine s_lc ?_ | with_reducible refine s_iList ?_ | with_reducible refine s_iTup ?_ | with_reducible refine s_iRng1 ?_ | with_reducible refine s_iRng2 ?_
  | with_reducible refine s_yes ?_ | with_reducible refine s_par ?_
  | with_reducible refine s_make ?_ | with_reducible refine s_meth ?_
  | with_reducible refine s_tup ?_ | with_reducible refine s_lst ?_ | with_reducible refine s_call ?_
  | with_reducible refine ⟨rfl, ?_⟩
  | with_reducible refine ⟨_, rfl, ?_⟩
  | ((with_reducible refine' ⟨_, _, rfl, ?sd1, ?_⟩); (case sd1 => walk_at "sd"))
  | with_reducible refine ⟨_, _, rfl, ?_⟩
  | with_reducible refine .inl ⟨_, rfl, ?_⟩
  | dsimp only [List.set]
  | walk_at "rdx"
  | (refine fun _ _ => ?_))
local macro_rules | `(tactic| walk_at "rd") => `(tactic| repeat (first
  | (with_reducible show tVar _ _ _ _); refine s_var rfl ?_
  | with_reducible refine s_c ?_ | with_reducible refine s_op ?_ | with_reducible refine s_un ?_
  | with_reducible refine s_cons ?_ | with_reducible refine s_nil ?_ | with_reducible refine s_cb ?_
  | with_reducible refine s_test ?_ | with_reducible refine s_B ?_ | with_reducible refine s_not ?_ | with_reducible refine s_and ?_ | with_reducible refine s_or ?_
  | with_reducible refine s_if ?_ | with_reducible refine s_notV ?_ | with_reducible refine s_andV ?_ | with_reducible refine s_orV ?_
  | with_reducible refine s_orT ?_ | with_reducible refine s_andT ?_ | with_reducible refine s_chain ?_
  | with_reducible refine s_isi_int ?_ | with_reducible refine s_isi_int_bool ?_ | with_reducible refine s_isi_str ?_
  | with_reducible refine iteT ?_ | with_reducible refine iteF ?_ | with_reducible refine iteNT ?_ | with_reducible refine iteNF ?_
  | with_reducible refine s_isN ?_ | with_reducible refine s_notN ?_
  | ((with_reducible refine' s_2setE ?g1 ?_); (case g1 => first | (dsimp only [List.set, L2.wipe, List.map, List.foldl]; done) | (dsimp only [List.set, L2.wipe, List.map, List.foldl]; rfl)))
  | with_reducible refine s_seq ?_ | with_reducible refine s_ifS ?_ | with_reducible refine s_asg ?_ | with_reducible refine s_ret ?_ | with_reducible refine s_drop ?_ | with_reducible refine s_next ?_
  | ((with_reducible refine' s_gnameE ?g1 ?_); (case g1 => first | (dsimp only [List.set, L2.wipe, List.map, List.foldl]; done) | (dsimp only [List.set, L2.wipe, List.map, List.foldl]; rfl)))
  | with_reducible refine s_gsub ?_ | with_reducible refine s_gcons ?_ | with_reducible refine s_gnil ?_
  | (with_reducible show gTup _ _ _ _ _ _ _); refine s_gtup (by walk_at "hp") rfl ?_
  | with_reducible refine s_eqI ?_ | with_reducible refine s_neI ?_ | with_reducible refine s_eqS ?_ | with_reducible refine s_neB ?_ | with_reducible refine s_eqB ?_ | with_reducible refine s_neSr ?_ | with_reducible refine s_neS ?_
  | with_reducible refine s_I0 ?_
  | (with_reducible show rI _ _ _ _ _ _); refine s_I (by walk_at "sd") ?_
  | (with_reducible show rIxL _ _ _ _ _); refine s_ixL (by walk_at "hp") rfl ?_
  | (with_reducible show rIxT _ _ _ _ _); refine s_ixT (by walk_at "hp") rfl ?_
  | (with_reducible show rSetL _ _ _ _ _); refine s_setL (by walk_at "hp") rfl ?_
  | with_reducible refine s_prop ?_
  | (with_reducible show _ ≤ sizeLine ∧ _); refine ⟨le_size (by rfl), ?_⟩
  | with_reducible refine ite_NN ?_ | with_reducible refine ite_IN ?_ | with_reducible refine ite_nNN ?_ | with_reducible refine ite_nIN ?_ | with_reducible refine ite_RN ?_ | with_reducible refine ite_nRN ?_
  | with_reducible refine s_sfld ?_
  | ((with_reducible refine' ⟨_, _, _, _, rfl, ?fp1, ?fp2, ?fp3, ?fp4, ?_⟩); (case fp1 => walk_at "hp"); (case fp2 => assumption); (case fp3 => assumption); (case fp4 => walk_at "few"))
  | with_reducible refine s_fldE ?_
  | ((with_reducible refine' ⟨_, _, _, _, _, rfl, ?fp1, ?fp2, ?fp3, ?fp4, ?_⟩); (case fp1 => walk_at "hp"); (case fp2 => assumption); (case fp3 => assumption); (case fp4 => rfl))
  | with_reducible refine s_bm ?_ | with_reducible refine s_bm0 ?_
  | ((with_reducible refine' s_tyL ?ty1 ?_); (case ty1 => walk_at "hp"))
  | ((with_reducible refine' s_append ?ap1 ?ap2 ?_); (case ap1 => walk_at "hp"); (case ap2 => walk_at "sz"))
  | ((with_reducible refine' s_extend ?ap1 ?ap2 ?ap3 ?_); (case ap1 => walk_at "hp"); (case ap2 => walk_at "hp"); (case ap3 => walk_at "sz"))
  | with_reducible refine s_for (fun _ _ => ?_) | with_reducible refine s_lc ?_ | with_reducible refine s_iList ?_ | with_reducible refine s_iTup ?_ | with_reducible refine s_iRng1 ?_ | with_reducible refine s_iRng2 ?_
  | with_reducible refine s_yes ?_ | with_reducible refine s_par ?_
  | with_reducible refine s_make ?_ | with_reducible refine s_meth ?_
  | with_reducible refine s_tup ?_ | with_reducible refine s_lst ?_ | with_reducible refine s_call ?_
  | with_reducible refine ⟨rfl, ?_⟩
  | with_reducible refine ⟨_, rfl, ?_⟩
  | ((with_reducible refine' ⟨_, _, rfl, ?sd1, ?_⟩); (case sd1 => walk_at "sd"))
  | with_reducible refine ⟨_, _, rfl, ?_⟩
  | with_reducible refine .inl ⟨_, rfl, ?_⟩
  | dsimp only [List.set]
  | walk_at "rdx"
  | (refine fun _ _ => ?_)))

namespace My
open PySem L2
section
variable {P : Program} {w : World} {K : PySem.W.Frag} {mg : Str → Option Value} {base : Heap} {C_Many C_Ratio C_EachError C_InvalidCount C_InvalidNumber C_InvalidMany : Addr} (M : Md K mg C_Many C_Ratio C_EachError C_InvalidCount C_InvalidNumber C_InvalidMany)
include M
local macro_rules | `(tactic| walk_at "rdx") => `(tactic| first | with_reducible refine s_ostG ?_ | with_reducible refine s_raE ?_ | with_reducible refine s_callX ?_ | with_reducible refine s_opX ?_ | with_reducible refine s_reflX ?_ | with_reducible refine s_lstN ?_ | with_reducible refine s_makeX ?_)
omit M
def Pot (H : Hp) (r : Addr) : Prop := ∃ p q : Int, H r = some (.lst [.int p, .int q]) ∧ 0 ≤ p ∧ 0 ≤ q ∧ q < 2147483648
def spPotOf (K : PySem.W.Frag) : Sp := fun vs H Q _ => ∃ (a : Addr) (ns : List Int) (k : Int), vs = [.ref a, .int k] ∧ SqL K H a (ns.map V.int) ∧ 0 ≤ k ∧ k < 1000 ∧ ∀ r H', Same H H' → H r = none → Pot H' r → Q (.ref r) H'
def spDraw : Sp := fun vs H Q _ => ∃ (r : Addr) (n : Int), vs = [.ref r, .int n] ∧ Pot H r ∧ 0 < n ∧ n.natAbs.log2 < 9000 ∧ ∀ d H', But r H H' → Pot H' r → 0 ≤ d → d < n → Q (.int d) H'
include M
theorem c__law_rng : Dn P w K mg base "_law_rng" 1 ["_law_script", "_law_k"] [] (spPotOf K) := by
  refine dnN M.f__law_rng (fun F => ?_) (fun _ _ _ _ _ _ us hl => match us, hl with | [_, _], _ => rfl)
  refine fnG_body F sc__law_rng (fun vs H Q E h => ?_) (fun cdv A outer s H vs Q E hr h => ?_)
  · obtain ⟨a, ns, k, rfl, _⟩ := h
    rfl
  · obtain ⟨a, ns, k, rfl, hS, h0, h1, q⟩ := h
    refine ⟨_, (pss_cons (ps_set (i := 2) sc__law_rng.nd rfl (.inl rfl) (pe_ifExp (pt_cmpR op_lt (pv 1) (pe_callB call_len_seq (by rfl) M.b_len (by decide +kernel) (pa_cons (pv 0) pa_nil)) (nomark _)) (pe_ix ix_list (pv 0) (pv 1) (fun _ _ => rfl)) (pe_op op_add (pe_op op_mulW pe_int (pv 1)) pe_int))) (pss_one (ps_ret (pe_lst (pa_cons (pe_callB (call_max2 rfl) (by rfl) M.b_max (by decide +kernel) (pa_cons pe_int (pa_cons (pe_op op_sub (pe_callB call_abs (by rfl) M.b_abs (by decide +kernel) (pa_cons (pv 2) pa_nil)) (pe_op op_pow pe_int pe_int)) pa_nil))) (pa_cons (pe_op op_add (pe_op op_mod (pe_callTy call_int1 (by rfl) M.b_int (by decide +kernel) (pa_cons (pe_op op_add (pe_op op_add (pe_op op_mulW (pe_op op_mod (pe_callTy call_int1 (by rfl) M.b_int (by decide +kernel) (pa_cons (pe_callB call_abs (by rfl) M.b_abs (by decide +kernel) (pa_cons (pv 2) pa_nil)) pa_nil)) pe_int) pe_int) (pe_op op_mulW pe_int (pv 1))) pe_int) pa_nil)) pe_int) pe_int) pa_nil)))))), ?_⟩
    refine st_eq (σ := [some _, some _, none]) rfl ?_
    walk_at "rd"
    refine ⟨_, _, rfl, .inl hS, ?_⟩
    walk_at "rd"
    refine ite_d (fun hc => ?_) (fun hc => ?_)
    · obtain ⟨c, ec⟩ := atI_ints h0 hc
      walk_at "rd"
      refine ⟨_, _, _, _, rfl, rfl, hS, ec, ?_⟩
      walk_at "rd"
      refine q _ _ (Same.new (by assumption)) (by assumption) ⟨_, _, upd_same, ?_, ?_, ?_⟩
      · split <;> omega
      · omega
      · omega
    · walk_at "rd"
      refine q _ _ (Same.new (by assumption)) (by assumption) ⟨_, _, upd_same, ?_, ?_, ?_⟩
      · split <;> omega
      · omega
      · omega
theorem c__law_draw : Dn P w K mg base "_law_draw" 1 ["_law_rng_here", "_law_sides"] [] spDraw := by
  refine dnN M.f__law_draw (fun F => ?_) (fun _ _ _ _ _ _ us hl => match us, hl with | [_, _], _ => rfl)
  refine fnG_body F sc__law_draw (fun vs H Q E h => ?_) (fun cdv A outer s H vs Q E hr h => ?_)
  · obtain ⟨r, n, rfl, _⟩ := h
    rfl
  · obtain ⟨r, n, rfl, ⟨p, y, e, hp, hy, hz⟩, h0, h1, q⟩ := h
    refine ⟨_, (pss_cons (ps_if (pt_cmpR op_gt (pe_ix ix_list (pv 0) pe_int (fun _ _ => rfl)) pe_int (nomark _)) (pss_cons (ps_asg (pe_callB call_divmodW (by rfl) M.b_divmod (by decide +kernel) (pa_cons (pe_ix ix_list (pv 0) pe_int (fun _ _ => rfl)) (pa_cons (pv 1) pa_nil))) (pg_tup (by rfl) (pgs_cons (pg_sub (pv 0) pe_int set_list) (pgs_cons (pg_name (i := 2) sc__law_draw.nd rfl (.inl rfl)) pgs_nil)))) (pss_one (ps_ret (pv 2)))) pss_nil) (pss_cons (ps_asg (pe_op op_mod (pe_callTy call_int1 (by rfl) M.b_int (by decide +kernel) (pa_cons (pe_op op_add (pe_op op_mulW (pe_ix ix_list (pv 0) pe_int (fun _ _ => rfl)) pe_int) pe_int) pa_nil)) pe_int) (pg_sub (pv 0) pe_int set_list)) (pss_one (ps_ret (pe_op op_mod (pe_callTy call_int1 (by rfl) M.b_int (by decide +kernel) (pa_cons (pe_op op_fdivW (pe_op op_mod (pe_callTy call_int1 (by rfl) M.b_int (by decide +kernel) (pa_cons (pe_op op_mulW (pe_ix ix_list (pv 0) pe_int (fun _ _ => rfl)) (pe_ix ix_list (pv 0) pe_int (fun _ _ => rfl))) pa_nil)) pe_int) pe_int) pa_nil)) (pv 1)))))), ?_⟩
    refine st_eq (σ := [some _, some _, none]) rfl ?_
    walk_at "rd"
    refine ite_d (fun hc => ?_) (fun hc => ?_)
    · walk_at "rd"
      refine q _ _ ((But.new (by assumption)).trans But.at) ⟨_, _, upd_same, ?_, hy, hz⟩ (Int.emod_nonneg _ (by omega)) (Int.emod_lt_of_pos _ h0)
      exact Int.ediv_nonneg hp (by omega)
    · walk_at "rd"
      refine q _ _ But.at ⟨_, _, upd_same, hp, by omega, by omega⟩ (Int.emod_nonneg _ (by omega)) (Int.emod_lt_of_pos _ h0)
omit M
theorem Pot.up {H : Hp} {r p : Addr} {o : HO} (h : Pot H r) (n : H p = none) : Pot (upd H p o) r := by
  obtain ⟨x, y, e, h⟩ := h
  exact ⟨x, y, by rw [upd_ne (ne_of_none e n)]; exact e, h⟩
theorem Pot.ne {H : Hp} {r p : Addr} (h : Pot H r) (n : H p = none) : p ≠ r := by
  obtain ⟨x, y, e, h⟩ := h
  exact (ne_of_none e n).symm
theorem Pot.upn {H : Hp} {r p : Addr} {o : HO} (h : Pot H r) (n : p ≠ r) : Pot (L2.upd H p o) r := by
  obtain ⟨x, y, e, h⟩ := h
  exact ⟨x, y, by rw [upd_ne n.symm]; exact e, h⟩
theorem Pot.same {H H' : Hp} {r : Addr} (h : Pot H r) (s : L2.Same H H') : Pot H' r := by
  obtain ⟨x, y, e, h⟩ := h
  exact ⟨x, y, s _ _ e, h⟩
theorem But.upf {r a : Addr} {o : HO} {H H' : Hp} (b : But r H H') (n : H a = none) : But r H (L2.upd H' a o) := fun c u e n' => by
  rw [upd_ne (ne_of_none e n)]
  exact b c u e n'
theorem But.free {r a : Addr} {H H' : Hp} (b : But r H H') (h : H' a = none) (n : a ≠ r) : H a = none := by
  cases e : H a with
  | none => rfl
  | some o =>
    have := b a o e n
    rw [h] at this
    cases this
def spPick : Sp := fun vs H Q _ => ∃ (r l : Addr) (xs : List V), vs = [.ref r, .ref l] ∧ H l = some (.lst xs) ∧ l ≠ r ∧ 0 < xs.length ∧ xs.length < 100000 ∧ Pot H r ∧ ∀ v H', v ∈ xs → But r H H' → Pot H' r → Q v H'
include M
theorem c__law_choice : Dn P w K mg base "_law_choice" 2 ["_law_rng_here", "_law_some"] [] spPick := by
  have c__law_draw := c__law_draw (P := P) (w := w) (base := base) M
  refine dnN M.f__law_choice (fun F => ?_) (fun _ _ _ _ _ _ us hl => match us, hl with | [_, _], _ => rfl)
  refine fnG_body F sc__law_choice (fun vs H Q E h => ?_) (fun cdv A outer s H vs Q E hr h => ?_)
  · obtain ⟨r, l, xs, rfl, _⟩ := h
    rfl
  · obtain ⟨r, l, xs, rfl, hl, hn, h0, h1, hp, q⟩ := h
    refine ⟨_, (pss_one (ps_ret (pe_ix ix_list (pv 1) (pe_callD c__law_draw (hr.mono (by decide)) rfl (pa_cons (pv 0) (pa_cons (pe_callB call_len_seq (by rfl) M.b_len (by decide +kernel) (pa_cons (pv 1) pa_nil)) pa_nil))) (fun _ _ => rfl)))), ?_⟩
    refine st_eq (σ := [some _, some _]) rfl ?_
    walk_at "rd"
    refine ⟨_, _, rfl, .inl (SqL.of hl), ?_⟩
    walk_at "rd"
    refine ⟨r, _, rfl, hp, by omega, ?_, fun d H' hb hp' d0 d1 => ?_⟩
    · exact lg (sm62 (by omega) (by omega))
    · obtain ⟨j, rfl⟩ : ∃ j : Nat, d = j := ⟨d.toNat, by omega⟩
      have hj : j < xs.length := by omega
      walk_at "rd"
      refine s_ixL (v := xs[j]) (hb.get hl hn) (atI_nat (by simp [hj])) ?_
      exact q _ _ (List.getElem_mem hj) hb hp'
omit M
theorem Pot.ne' {H : Hp} {r a : Addr} {o : HO} (h : Pot H r) (e : H a = some o) (n : ∀ p q : Int, o ≠ .lst [.int p, .int q]) : a ≠ r := by
  rintro rfl
  obtain ⟨p, q, e2, _⟩ := h
  rw [e] at e2
  exact n p q (Option.some.inj e2)
def PairM (H : Hp) (t : Addr) (lo : Int) (hi : Option Int) : Prop := H t = some (.tup [.int lo, optV hi])
/-- whether a pair is ahead of another -/
def ahead (lo : Int) (hi : Option Int) (lo2 : Int) (hi2 : Option Int) : Bool :=
  if lo ≠ lo2 then decide (lo < lo2) else match hi, hi2 with
  | some a, some b => decide (a < b)
  | some _, none => true
  | none, _ => false
def spAhead : Sp := fun vs H Q _ => ∃ (t u : Addr) (lo lo2 : Int) (hi hi2 : Option Int), vs = [.ref t, .ref u] ∧ PairM H t lo hi ∧ PairM H u lo2 hi2 ∧ Q (.bl (ahead lo hi lo2 hi2)) H
def spRow (C : Addr) : Sp := fun vs H Q _ => ∃ (x : Addr) (lo : Int) (hi : Option Int), vs = [.ref x] ∧ ManyAt C H x lo hi ∧ ∀ t H', L2.Same H H' → PairM H' t lo hi → Q (.ref t) H'
include M
theorem c__law_ahead : Dn P w K mg base "_law_ahead" 1 ["_law_one", "_law_two"] [] spAhead := by
  refine dnN M.f__law_ahead (fun F => ?_) (fun _ _ _ _ _ _ us hl => match us, hl with | [_, _], _ => rfl)
  refine fnG_body F sc__law_ahead (fun vs H Q E h => ?_) (fun cdv A outer s H vs Q E hr h => ?_)
  · obtain ⟨t, u, lo, lo2, hi, hi2, rfl, _⟩ := h
    rfl
  · obtain ⟨t, u, lo, lo2, hi, hi2, rfl, et, eu, q⟩ := h
    have et' : H t = some (.tup [.int lo, optV hi]) := et
    have eu' : H u = some (.tup [.int lo2, optV hi2]) := eu
    refine ⟨_, (pss_cons (ps_if (pt_cmpR op_ne (pe_ix ix_tup (pv 0) pe_int (fun _ _ => rfl)) (pe_ix ix_tup (pv 1) pe_int (fun _ _ => rfl)) (nomark _)) (pss_one (ps_ret (pe_cmpR op_lt (pe_ix ix_tup (pv 0) pe_int (fun _ _ => rfl)) (pe_ix ix_tup (pv 1) pe_int (fun _ _ => rfl)) (nomark _)))) pss_nil) (pss_cons (ps_if (PW.pt (pw_or (pt_cmpR op_isN (pe_ix ix_tup (pv 0) pe_int (fun _ _ => rfl)) pe_non (nomark _)) (pw_or1 (pt_cmpR op_isN (pe_ix ix_tup (pv 1) pe_int (fun _ _ => rfl)) pe_non (nomark _))))) (pss_one (ps_ret (pe_and (pe_cmpR op_notN (pe_ix ix_tup (pv 0) pe_int (fun _ _ => rfl)) pe_non (nomark _)) (pe_one (pe_cmpR op_isN (pe_ix ix_tup (pv 1) pe_int (fun _ _ => rfl)) pe_non (nomark _)))))) pss_nil) (pss_one (ps_ret (pe_cmpR op_lt (pe_ix ix_tup (pv 0) pe_int (fun _ _ => rfl)) (pe_ix ix_tup (pv 1) pe_int (fun _ _ => rfl)) (nomark _)))))), ?_⟩
    refine st_eq (σ := [some _, some _]) rfl ?_
    unfold ahead at q
    by_cases e : lo = lo2
    · rw [if_neg (fun z => z e)] at q
      cases hi with
      | none =>
        cases hi2 with
        | none =>
          walk_at "rd"
          rw [if_neg (by simp [e])]
          walk_at "rd"
          exact q
        | some b =>
          walk_at "rd"
          rw [if_neg (by simp [e])]
          walk_at "rd"
          exact q
      | some a =>
        cases hi2 with
        | none =>
          walk_at "rd"
          rw [if_neg (by simp [e])]
          walk_at "rd"
          exact q
        | some b =>
          walk_at "rd"
          rw [if_neg (by simp [e])]
          walk_at "rd"
          exact q
    · rw [if_pos e] at q
      walk_at "rd"
      rw [if_pos (by simp [e])]
      walk_at "rd"
      exact q
theorem c__law_row : Dn P w K mg base "_law_row" 3 ["_law_made"] [] (spRow C_Many) := by
  have c_Many_least := c_Many_least (P := P) (w := w) (base := base) M
  have c_Many_most := c_Many_most (P := P) (w := w) (base := base) M
  refine dnN M.f__law_row (fun F => ?_) (fun _ _ _ _ _ _ us hl => match us, hl with | [_], _ => rfl)
  refine fnG_body F sc__law_row (fun vs H Q E h => ?_) (fun cdv A outer s H vs Q E hr h => ?_)
  · obtain ⟨x, lo, hi, rfl, _⟩ := h
    rfl
  · obtain ⟨x, lo, hi, rfl, mx, q⟩ := h
    refine ⟨_, (pss_one (ps_ret (pe_tup (pa_cons (pe_propD c_Many_least (pv 0) (hr.mono (by decide)) rfl) (pa_cons (pe_propD c_Many_most (pv 0) (hr.mono (by decide)) rfl) pa_nil))))), ?_⟩
    refine st_eq (σ := [some _]) rfl ?_
    obtain ⟨dx, k1, ex, ek⟩ := id mx
    walk_at "rd"
    refine ⟨x, dx, _, rfl, ex, x, lo, hi, rfl, mx, ?_⟩
    walk_at "rd"
    refine ⟨x, dx, _, rfl, ex, x, lo, hi, rfl, mx, ?_⟩
    walk_at "rd"
    rename_i p np
    exact q p _ (My.Same.new np) upd_same
end
end My
end
section
open My L2 PySem
open My L2 PySem
local macro_rules | `(tactic| walk_at "as") => `(tactic| with_reducible assumption)
local macro_rules | `(tactic| walk_at "hp") => `(tactic| first
  | walk_at "as" | exact upd_same
  | (rw [upd_ne (by walk_at "ne")]; walk_at "hp")
  | (refine But.get (by walk_at "as") ?hp1 ?hp2; (case hp1 => walk_at "hp"); (case hp2 => walk_at "ne"))
  | (refine My.Same.get (by walk_at "as") ?hp1; (case hp1 => walk_at "hp")))
local macro_rules | `(tactic| walk_at "ne") => `(tactic| first
  | walk_at "as" | exact Ne.symm (by walk_at "as")
  | (refine' ne_of_none ?ne1 ?ne2; (case ne2 => walk_at "as"); (case ne1 => walk_at "hp"))
  | (refine' Ne.symm (ne_of_none ?ne1 ?ne2); (case ne2 => walk_at "as"); (case ne1 => walk_at "hp"))
  | exact ne_of (by walk_at "hp") (by walk_at "hp") (by intro z; cases z))
local macro_rules | `(tactic| walk_at "sd") => `(tactic| first
  | walk_at "as" | omega | decide | exact ⟨by omega, by omega⟩ | exact .inl ⟨by omega, by omega⟩ | exact .inr ⟨by omega, by omega⟩ | exact divp_wide (by walk_at "as") (by walk_at "as") | exact Sm.cmul (by walk_at "as") (by walk_at "as") | exact cmul_small (by omega) (by omega) (by omega) (by omega) | exact ⟨by omega, by decide⟩)
local macro_rules | `(tactic| walk_at "bt") => `(tactic| first
  | walk_at "as" | exact But.refl _ _ | exact Same.but (by walk_at "as")
  | (refine But.trans ?bt1 But.at; (case bt1 => walk_at "bt"))
  | (refine But.trans ?bt1 (But.new (by first | walk_at "as" | walk_at "hp")); (case bt1 => walk_at "bt"))
  | (refine But.trans ?bt1 (by walk_at "as"); (case bt1 => walk_at "bt"))
  | (refine But.trans ?bt1 (Same.but (by walk_at "as")); (case bt1 => walk_at "bt")))
local macro_rules | `(tactic| walk_at "sm") => `(tactic| first
  | walk_at "as" | exact My.Same.rfl' _
  | (refine' My.Same.at_ ?sm1 ?sm2; (case sm1 => walk_at "as"); (case sm2 => walk_at "sm"))
  | (refine' My.Same.tr ?sm1 (My.Same.new ?sm2); (case sm2 => walk_at "as"); (case sm1 => walk_at "sm"))
  | (refine' My.Same.tr ?sm1 ?sm2; (case sm2 => walk_at "as"); (case sm1 => walk_at "sm")))
local macro_rules | `(tactic| walk_at "sz") => `(tactic| first
  | assumption | exact lt_size (by rfl) | exact le_size (by rfl) | (rw [sizeLine_eq]; omega)
  | (rw [sizeLine_eq]; simp only [List.length_append, List.length_map, List.length_cons, List.length_nil]; omega))
local macro_rules | `(tactic| walk_at "few") => `(tactic| (repeat refine few_put ?_); exact few0)
local macro_rules | `(tactic| walk_at "rd1") => `(tactic| first
  | (with_reducible show tVar _ _ _ _); refine s_var rfl ?_
  | with_reducible refine s_c ?_ | with_reducible refine s_op ?_ | with_reducible refine s_un ?_
  | with_reducible refine s_cons ?_ | with_reducible refine s_nil ?_ | with_reducible refine s_cb ?_
  | with_reducible refine s_test ?_ | with_reducible refine s_B ?_ | with_reducible refine s_not ?_ | with_reducible refine s_and ?_ | with_reducible refine s_or ?_
  | with_reducible refine s_if ?_ | with_reducible refine s_notV ?_ | with_reducible refine s_andV ?_ | with_reducible refine s_orV ?_
  | with_reducible refine s_orT ?_ | with_reducible refine s_andT ?_ | with_reducible refine s_chain ?_
  | with_reducible refine s_isi_int ?_ | with_reducible refine s_isi_int_bool ?_ | with_reducible refine s_isi_str ?_
  | with_reducible refine iteT ?_ | with_reducible refine iteF ?_ | with_reducible refine iteNT ?_ | with_reducible refine iteNF ?_
  | with_reducible refine s_isN ?_ | with_reducible refine s_notN ?_
  | ((with_reducible refine' s_2setE ?g1 ?_); (case g1 => first | (dsimp only [List.set, L2.wipe, List.map, List.foldl]; done) | (dsimp only [List.set, L2.wipe, List.map, List.foldl]; rfl)))
  | with_reducible refine s_seq ?_ | with_reducible refine s_ifS ?_ | with_reducible refine s_asg ?_ | with_reducible refine s_ret ?_ | with_reducible refine s_drop ?_ | with_reducible refine s_next ?_
  | ((with_reducible refine' s_gnameE ?g1 ?_); (case g1 => first | (dsimp only [List.set, L2.wipe, List.map, List.foldl]; done) | (dsimp only [List.set, L2.wipe, List.map, List.foldl]; rfl)))
  | with_reducible refine s_gsub ?_ | with_reducible refine s_gcons ?_ | with_reducible refine s_gnil ?_
  | (with_reducible show gTup _ _ _ _ _ _ _); refine s_gtup (by walk_at "hp") rfl ?_
  | with_reducible refine s_eqI ?_ | with_reducible refine s_neI ?_ | with_reducible refine s_eqS ?_ | with_reducible refine s_neB ?_ | with_reducible refine s_eqB ?_ | with_reducible refine s_neSr ?_ | with_reducible refine s_neS ?_
  | with_reducible refine s_I0 ?_
  | (with_reducible show rI _ _ _ _ _ _); refine s_I (by walk_at "sd") ?_
  | (with_reducible show rIxL _ _ _ _ _); refine s_ixL (by walk_at "hp") rfl ?_
  | (with_reducible show rIxT _ _ _ _ _); refine s_ixT (by walk_at "hp") rfl ?_
  | (with_reducible show rSetL _ _ _ _ _); refine s_setL (by walk_at "hp") rfl ?_
  | with_reducible refine s_prop ?_
  | (with_reducible show _ ≤ sizeLine ∧ _); refine ⟨le_size (by rfl), ?_⟩
  | with_reducible refine ite_NN ?_ | with_reducible refine ite_IN ?_ | with_reducible refine ite_nNN ?_ | with_reducible refine ite_nIN ?_ | with_reducible refine ite_RN ?_ | with_reducible refine ite_nRN ?_
  | with_reducible refine s_sfld ?_
  | ((with_reducible refine' ⟨_, _, _, _, rfl, ?fp1, ?fp2, ?fp3, ?fp4, ?_⟩); (case fp1 => walk_at "hp"); (case fp2 => assumption); (case fp3 => assumption); (case fp4 => walk_at "few"))
  | with_reducible refine s_fldE ?_
  | ((with_reducible refine' ⟨_, _, _, _, _, rfl, ?fp1, ?fp2, ?fp3, ?fp4, ?_⟩); (case fp1 => walk_at "hp"); (case fp2 => assumption); (case fp3 => assumption); (case fp4 => rfl))
  | with_reducible refine s_bm ?_ | with_reducible refine s_bm0 ?_
  | ((with_reducible refine' s_tyL ?ty1 ?_); (case ty1 => walk_at "hp"))
  | ((with_reducible refine' s_append ?ap1 ?ap2 ?_); (case ap1 => walk_at "hp"); (case ap2 => walk_at "sz"))
  | ((with_reducible refine' s_extend ?ap1 ?ap2 ?ap3 ?_); (case ap1 => walk_at "hp"); (case ap2 => walk_at "hp"); (case ap3 => walk_at "sz"))
  | with_reducible refine s_for (fun _ _ => ?_) | with_reducible refine s_lc ?_ | with_reducible refine s_iList ?_ | with_reducible refine s_iTup ?_ | with_reducible refine s_iRng1 ?_ | with_reducible refine s_iRng2 ?_
  | with_reducible refine s_yes ?_ | with_reducible refine s_par ?_
  | with_reducible refine s_make ?_ | with_reducible refine s_meth ?_
  | with_reducible refine s_tup ?_ | with_reducible refine s_lst ?_ | with_reducible refine s_call ?_
  | with_reducible refine ⟨rfl, ?_⟩
  | with_reducible refine ⟨_, rfl, ?_⟩
  | ((with_reducible refine' ⟨_, _, rfl, ?sd1, ?_⟩); (case sd1 => walk_at "sd"))
  | with_reducible refine ⟨_, _, rfl, ?_⟩
  | with_reducible refine .inl ⟨_, rfl, ?_⟩
  | dsimp only [List.set]
  | walk_at "rdx"
  | (refine fun _ _ => ?_))
local macro_rules | `(tactic| walk_at "rd") => `(tactic| repeat (first
  | (with_reducible show tVar _ _ _ _); refine s_var rfl ?_
  | with_reducible refine s_c ?_ | with_reducible refine s_op ?_ | with_reducible refine s_un ?_
  | with_reducible refine s_cons ?_ | with_reducible refine s_nil ?_ | with_reducible refine s_cb ?_
  | with_reducible refine s_test ?_ | with_reducible refine s_B ?_ | with_reducible refine s_not ?_ | with_reducible refine s_and ?_ | with_reducible refine s_or ?_
  | with_reducible refine s_if ?_ | with_reducible refine s_notV ?_ | with_reducible refine s_andV ?_ | with_reducible refine s_orV ?_
  | with_reducible refine s_orT ?_ | with_reducible refine s_andT ?_ | with_reducible refine s_chain ?_
  | with_reducible refine s_isi_int ?_ | with_reducible refine s_isi_int_bool ?_ | with_reducible refine s_isi_str ?_
  | with_reducible refine iteT ?_ | with_reducible refine iteF ?_ | with_reducible refine iteNT ?_ | with_reducible refine iteNF ?_
  | with_reducible refine s_isN ?_ | with_reducible refine s_notN ?_
  | ((with_reducible refine' s_2setE ?g1 ?_); (case g1 => first | (dsimp only [List.set, L2.wipe, List.map, List.foldl]; done) | (dsimp only [List.set, L2.wipe, List.map, List.foldl]; rfl)))
  | with_reducible refine s_seq ?_ | with_reducible refine s_ifS ?_ | with_reducible refine s_asg ?_ | with_reducible refine s_ret ?_ | with_reducible refine s_drop ?_ | with_reducible refine s_next ?_
  | ((with_reducible refine' s_gnameE ?g1 ?_); (case g1 => first | (dsimp only [List.set, L2.wipe, List.map, List.foldl]; done) | (dsimp only [List.set, L2.wipe, List.map, List.foldl]; rfl)))
  | with_reducible refine s_gsub ?_ | with_reducible refine s_gcons ?_ | with_reducible refine s_gnil ?_
  | (with_reducible show gTup _ _ _ _ _ _ _); refine s_gtup (by walk_at "hp") rfl ?_
  | with_reducible refine s_eqI ?_ | with_reducible refine s_neI ?_ | with_reducible refine s_eqS ?_ | with_reducible refine s_neB ?_ | with_reducible refine s_eqB ?_ | with_reducible refine s_neSr ?_ | with_reducible refine s_neS ?_
  | with_reducible refine s_I0 ?_
  | (with_reducible show rI _ _ _ _ _ _); refine s_I (by walk_at "sd") ?_
  | (with_reducible show rIxL _ _ _ _ _); refine s_ixL (by walk_at "hp") rfl ?_
  | (with_reducible show rIxT _ _ _ _ _); refine s_ixT (by walk_at "hp") rfl ?_
  | (with_reducible show rSetL _ _ _ _ _); refine s_setL (by walk_at "hp") rfl ?_
  | with_reducible refine s_prop ?_
  | (with_reducible show _ ≤ sizeLine ∧ _); refine ⟨le_size (by rfl), ?_⟩
  | with_reducible refine ite_NN ?_ | with_reducible refine ite_IN ?_ | with_reducible refine ite_nNN ?_ | with_reducible refine ite_nIN ?_ | with_reducible refine ite_RN ?_ | with_reducible refine ite_nRN ?_
  | with_reducible refine s_sfld ?_
  | ((with_reducible refine' ⟨_, _, _, _, rfl, ?fp1, ?fp2, ?fp3, ?fp4, ?_⟩); (case fp1 => walk_at "hp"); (case fp2 => assumption); (case fp3 => assumption); (case fp4 => walk_at "few"))
  | with_reducible refine s_fldE ?_
  | ((with_reducible refine' ⟨_, _, _, _, _, rfl, ?fp1, ?fp2, ?fp3, ?fp4, ?_⟩); (case fp1 => walk_at "hp"); (case fp2 => assumption); (case fp3 => assumption); (case fp4 => rfl))
  | with_reducible refine s_bm ?_ | with_reducible refine s_bm0 ?_
  | ((with_reducible refine' s_tyL ?ty1 ?_); (case ty1 => walk_at "hp"))
  | ((with_reducible refine' s_append ?ap1 ?ap2 ?_); (case ap1 => walk_at "hp"); (case ap2 => walk_at "sz"))
  | ((with_reducible refine' s_extend ?ap1 ?ap2 ?ap3 ?_); (case ap1 => walk_at "hp"); (case ap2 => walk_at "hp"); (case ap3 => walk_at "sz"))
  | with_reducible refine s_for (fun _ _ => ?_) | with_reducible refine s_lc ?_ | with_reducible refine s_iList ?_ | with_reducible refine s_iTup ?_ | with_reducible refine s_iRng1 ?_ | with_reducible refine s_iRng2 ?_
  | with_reducible refine s_yes ?_ | with_reducible refine s_par ?_
  | with_reducible refine s_make ?_ | with_reducible refine s_meth ?_
  | with_reducible refine s_tup ?_ | with_reducible refine s_lst ?_ | with_reducible refine s_call ?_
  | with_reducible refine ⟨rfl, ?_⟩
  | with_reducible refine ⟨_, rfl, ?_⟩
  | ((with_reducible refine' ⟨_, _, rfl, ?sd1, ?_⟩); (case sd1 => walk_at "sd"))
  | with_reducible refine ⟨_, _, rfl, ?_⟩
  | with_reducible refine .inl ⟨_, rfl, ?_⟩
  | dsimp only [List.set]
  | walk_at "rdx"
  | (refine fun _ _ => ?_)))

namespace My
open PySem L2
section
variable {P : Program} {w : World} {K : PySem.W.Frag} {mg : Str → Option Value} {base : Heap} {C_Many C_Ratio C_EachError C_InvalidCount C_InvalidNumber C_InvalidMany : Addr} (M : Md K mg C_Many C_Ratio C_EachError C_InvalidCount C_InvalidNumber C_InvalidMany)
include M
local macro_rules | `(tactic| walk_at "rdx") => `(tactic| first | with_reducible refine s_ostG ?_ | with_reducible refine s_raE ?_ | with_reducible refine s_callX ?_ | with_reducible refine s_lstN ?_ | with_reducible refine s_makeX ?_)
omit M
theorem make_ok {K : PySem.W.Frag} {L : List Addr} {C CC CM : Addr} {H0 H : Hp} {x dx : Addr} {lo : Int} {hi : Option Int} {Q : VK} {E : XK} (nx : H0 x = none) (s : L2.Same H0 H) (hx : H x = some (.ins C dx [])) (l0 : 0 ≤ lo) (h0 : ∀ h, hi = some h → 0 ≤ h) (hu : upTo (some lo) hi = true) (q : ∀ H', L2.Same H0 H' → ManyAt C H' x lo hi → Q .non H') :
    spInitX K L C CC CM [.ref x, .int lo, optV hi] H Q E := by
  have ab : ∃ t, AnyV K L H (optV hi) t := by
    cases hi with
    | none => exact ⟨_, AnyV.non⟩
    | some h => exact ⟨_, AnyV.int h⟩
  obtain ⟨tb, ab⟩ := ab
  exact ⟨x, dx, .int lo, optV hi, _, tb, rfl, hx, AnyV.int lo, ab, .inr (.inr ⟨lo, hi, rfl, rfl, l0, h0, fun _ H' b m => q H' (b.same s nx) m, fun z => by rw [hu] at z; cases z⟩)⟩
theorem eqv_same {d : PyData} (h : SeqAt.shaped d = true) : PyData.eqv d d = true := SeqAt.eqv_refl d (SeqAt.canLay_of_shaped h)
theorem s_neSame {K : PySem.W.Frag} {H : Hp} {Q : VK} {x y : V} {d : PyData} (hx : Dp K H x d) (hy : Dp K H y d) (h : SeqAt.shaped d = true) (q : Q (.bl false) H) : rNeD K x y H Q := by
  refine ⟨d, d, hx, hy, h, h, ?_⟩
  rw [eqv_same h]
  exact q
theorem s_eqSame {K : PySem.W.Frag} {H : Hp} {Q : VK} {x y : V} {d : PyData} (hx : Dp K H x d) (hy : Dp K H y d) (h : SeqAt.shaped d = true) (q : Q (.bl true) H) : rEqD K x y H Q := by
  refine ⟨d, d, hx, hy, h, h, ?_⟩
  rw [eqv_same h]
  exact q
def OkB (lo : Int) (hi : Option Int) : Prop := 0 ≤ lo ∧ (∀ h, hi = some h → 0 ≤ h) ∧ upTo (some lo) hi = true
theorem lex_lt (lo lo2 : Int) (hi hi2 : Option Int) : lex3 (fun i j => decide (i < j)) false (key lo hi) (key lo2 hi2) = ahead lo hi lo2 hi2 := by
  by_cases e : lo = lo2
  · subst e
    cases hi with
    | none => cases hi2 <;> simp [lex3, key, ahead, b01]
    | some a =>
      cases hi2 with
      | none => simp [lex3, key, ahead, b01]
      | some b =>
        by_cases f : a = b
        · subst f
          simp [lex3, key, ahead]
        · simp [lex3, key, ahead, f]
          try omega
  · have e' : ¬ lo2 = lo := fun z => e z.symm
    simp [lex3, key, ahead, e, e']
    exact decide_eq_decide.mpr Iff.rfl
theorem lex_gt (lo lo2 : Int) (hi hi2 : Option Int) : lex3 (fun i j => decide (j < i)) false (key lo hi) (key lo2 hi2) = ahead lo2 hi2 lo hi := by
  by_cases e : lo = lo2
  · subst e
    cases hi with
    | none => cases hi2 <;> simp [lex3, key, ahead, b01]
    | some a =>
      cases hi2 with
      | none => simp [lex3, key, ahead, b01]
      | some b =>
        by_cases f : a = b
        · subst f
          simp [lex3, key, ahead]
        · simp [lex3, key, ahead, f]
          try omega
  · have e' : ¬ lo2 = lo := fun z => e z.symm
    simp [lex3, key, ahead, e, e']
    exact decide_eq_decide.mpr Iff.rfl
theorem lex_le (lo lo2 : Int) (hi hi2 : Option Int) : lex3 (fun i j => decide (i ≤ j)) true (key lo hi) (key lo2 hi2) = !ahead lo2 hi2 lo hi := by
  by_cases e : lo = lo2
  · subst e
    cases hi with
    | none => cases hi2 <;> simp [lex3, key, ahead, b01]
    | some a =>
      cases hi2 with
      | none => simp [lex3, key, ahead, b01]
      | some b =>
        by_cases f : a = b
        · subst f
          simp [lex3, key, ahead]
        · simp [lex3, key, ahead, f]
          try (by_cases g : b < a <;> simp [g] <;> omega)
  · have e' : ¬ lo2 = lo := fun z => e z.symm
    simp [lex3, key, ahead, e, e']
    rw [← decide_not]
    exact decide_eq_decide.mpr (by omega)
theorem lex_ge (lo lo2 : Int) (hi hi2 : Option Int) : lex3 (fun i j => decide (j ≤ i)) true (key lo hi) (key lo2 hi2) = !ahead lo hi lo2 hi2 := by
  by_cases e : lo = lo2
  · subst e
    cases hi with
    | none => cases hi2 <;> simp [lex3, key, ahead, b01]
    | some a =>
      cases hi2 with
      | none => simp [lex3, key, ahead, b01]
      | some b =>
        by_cases f : a = b
        · subst f
          simp [lex3, key, ahead]
        · simp [lex3, key, ahead, f]
          try (by_cases g : a < b <;> simp [g] <;> omega)
  · have e' : ¬ lo2 = lo := fun z => e z.symm
    simp [lex3, key, ahead, e, e']
    rw [← decide_not]
    exact decide_eq_decide.mpr (by omega)
def optP : Option Int → PyData
  | none => .none
  | some h => .int h
theorem optP_dp {K : PySem.W.Frag} {H : Hp} (hi : Option Int) : Dp K H (optV hi) (optP hi) := by
  cases hi with
  | none => exact .non
  | some h => exact .int h
theorem eqv_pr (lo lo2 : Int) (hi hi2 : Option Int) : PyData.eqv (.tuple [.int lo, optP hi]) (.tuple [.int lo2, optP hi2]) = decide (lo = lo2 ∧ hi = hi2) := by
  rw [Bool.eq_iff_iff, decide_eq_true_eq]
  cases hi <;> cases hi2 <;> simp [PyData.eqv, PyData.eqvAll, optP]
theorem sh_pr (lo : Int) (hi : Option Int) : SeqAt.shaped (.tuple [.int lo, optP hi]) = true := by
  cases hi <;> rfl
theorem two_b (a b : Bool) : (PyData.list [.bool a, .bool b]).shown.length ≤ sizeLine := by
  cases a <;> cases b <;> decide +kernel
def spTwo : Sp := fun vs H Q _ => ∃ (t u : Addr) (lo lo2 : Int) (hi hi2 : Option Int), vs = [.ref t, .ref u] ∧ PairM H t lo hi ∧ PairM H u lo2 hi2 ∧ OkB lo hi ∧ OkB lo2 hi2 ∧ ∀ H', L2.Same H H' → Q (.bl true) H'
include M
theorem x_Many_2 : MkX P w K mg base "Many" C_Many 6 ["self", "least", "most"] [] (spInitX K [C_Many, C_Ratio] C_Many C_InvalidCount C_InvalidMany) := by
  refine mkDX (dvs := [.non]) 3 1 M.i_Many M.m_Many (fun F => ok_init M F) (by simp) rfl (fun _ _ _ _ _ _ _ us its h1 h2 => match us, its, h1, h2 with | [_, _, _], [_], _, _ => ⟨_, rfl, rfl⟩)
theorem c__law_two_right : Dn P w K mg base "_law_two_right" 8 ["_law_first", "_law_second"] [] spTwo := by
  have x_Many_2 := x_Many_2 (P := P) (w := w) (base := base) M
  have c__law_ahead := c__law_ahead (P := P) (w := w) (base := base) M
  have c_Many___eq__ := c_Many___eq__ (P := P) (w := w) (base := base) M
  have c_Many___lt__ := c_Many___lt__ (P := P) (w := w) (base := base) M
  have c_Many___le__ := c_Many___le__ (P := P) (w := w) (base := base) M
  have c_Many___gt__ := c_Many___gt__ (P := P) (w := w) (base := base) M
  have c_Many___ge__ := c_Many___ge__ (P := P) (w := w) (base := base) M
  refine dnN M.f__law_two_right (fun F => ?_) (fun _ _ _ _ _ _ us hl => match us, hl with | [_, _], _ => rfl)
  refine fnG_body F sc__law_two_right (fun vs H Q E h => ?_) (fun cdv A outer s H vs Q E hr h => ?_)
  · obtain ⟨t, u, lo, lo2, hi, hi2, rfl, _⟩ := h
    rfl
  · obtain ⟨t, u, lo, lo2, hi, hi2, rfl, et, eu, ok, ok2, q⟩ := h
    have et' : H t = some (.tup [.int lo, optV hi]) := et
    have eu' : H u = some (.tup [.int lo2, optV hi2]) := eu
    refine ⟨_, (pss_cons (ps_par (i := 2) (j := 3) (by rfl) sc__law_two_right.nd rfl rfl (by decide) rfl rfl (pa_cons (pe_makeD x_Many_2.calm (hr.mono (by decide)) rfl (pa_cons (pe_ix ix_tup (pv 0) pe_int (fun _ _ => rfl)) (pa_cons (pe_ix ix_tup (pv 0) pe_int (fun _ _ => rfl)) pa_nil))) (pa_cons (pe_makeD x_Many_2.calm (hr.mono (by decide)) rfl (pa_cons (pe_ix ix_tup (pv 1) pe_int (fun _ _ => rfl)) (pa_cons (pe_ix ix_tup (pv 1) pe_int (fun _ _ => rfl)) pa_nil))) pa_nil)) (by rfl)) (pss_cons (ps_par (i := 4) (j := 5) (by rfl) sc__law_two_right.nd rfl rfl (by decide) rfl rfl (pa_cons (pe_callD c__law_ahead (hr.mono (by decide)) rfl (pa_cons (pv 0) (pa_cons (pv 1) pa_nil))) (pa_cons (pe_callD c__law_ahead (hr.mono (by decide)) rfl (pa_cons (pv 1) (pa_cons (pv 0) pa_nil))) pa_nil)) (by rfl)) (pss_cons (ps_if (pt_cmpR (op_neD hr.units) (pe_lst (pa_cons (pe_cmpR (op_cmpO (K := K) (op := .Lt) rfl c_Many___lt__ M.z_Many M.nf_Many (hr.mono (by decide))) (pv 2) (pv 3) (nomark _)) (pa_cons (pe_cmpR (op_cmpO (K := K) (op := .LtE) rfl c_Many___le__ M.z_Many M.nf_Many (hr.mono (by decide))) (pv 2) (pv 3) (nomark _)) (pa_cons (pe_cmpR (op_cmpO (K := K) (op := .Gt) rfl c_Many___gt__ M.z_Many M.nf_Many (hr.mono (by decide))) (pv 2) (pv 3) (nomark _)) (pa_cons (pe_cmpR (op_cmpO (K := K) (op := .GtE) rfl c_Many___ge__ M.z_Many M.nf_Many (hr.mono (by decide))) (pv 2) (pv 3) (nomark _)) pa_nil))))) (pe_lst (pa_cons (pv 4) (pa_cons (pe_not (pv 5)) (pa_cons (pv 5) (pa_cons (pe_not (pv 4)) pa_nil))))) (nomark _)) (pss_one (ps_ret pe_bl)) pss_nil) (pss_one (ps_ret (pe_cmpR op_eq (pe_callB (call_reprD hr) (by rfl) M.b_repr (by decide +kernel) (pa_cons (pe_lst (pa_cons (pe_cmpR (or_eqO c_Many___eq__ (hr.mono (by decide))) (pv 2) (pv 3) (nomark _)) (pa_cons (pe_cmpR (or_neO c_Many___eq__ M.ne_Many M.mo_Many (hr.mono (by decide))) (pv 2) (pv 3) (nomark _)) pa_nil))) pa_nil)) (pe_callB (call_reprD hr) (by rfl) M.b_repr (by decide +kernel) (pa_cons (pe_lst (pa_cons (pe_cmpR (op_eqD hr.units) (pv 0) (pv 1) (nomark _)) (pa_cons (pe_cmpR (op_neD hr.units) (pv 0) (pv 1) (nomark _)) pa_nil))) pa_nil)) (nomark _))))))), ?_⟩
    refine st_eq (σ := [some _, some _, none, none, none, none]) rfl ?_
    walk_at "rd"
    rename_i X DX nX nDX
    refine fun neX => make_ok (hi := hi) nX (My.Same.at_ (o := .ins C_Many DX []) nX (My.Same.new (o := .own X) nDX)) upd_same ok.1 ok.2.1 ok.2.2 fun H1 s1 mx => ⟨rfl, ?_⟩
    have eu1 := s1 _ _ eu'
    walk_at "rd"
    rename_i Y DY nY nDY
    refine fun neY => make_ok (hi := hi2) nY (My.Same.at_ (o := .ins C_Many DY []) nY (My.Same.new (o := .own Y) nDY)) upd_same ok2.1 ok2.2.1 ok2.2.2 fun H2 s2 my => ⟨rfl, ?_⟩
    have s02 := s1.trans s2
    have mx2 := mx.same s2
    have et2 : PairM H2 t lo hi := s02 _ _ et
    have eu2 : PairM H2 u lo2 hi2 := s02 _ _ eu
    clear s1 s2 mx eu1 et' eu' neX neY nX nDX nY nDY
    walk_at "rd"
    refine ⟨t, u, lo, lo2, hi, hi2, rfl, et2, eu2, ?_⟩
    walk_at "rd"
    refine ⟨u, t, lo2, lo, hi2, hi, rfl, eu2, et2, ?_⟩
    obtain ⟨dx, kx, ex, ekx⟩ := id mx2
    obtain ⟨dy, ky, ey, eky⟩ := id my
    walk_at "rd"
    refine s_cmpO ex ey ⟨X, Y, lo, lo2, hi, hi2, rfl, mx2, my, ?_⟩
    rw [lex_lt]
    walk_at "rd"
    refine s_cmpO ex ey ⟨X, Y, lo, lo2, hi, hi2, rfl, mx2, my, ?_⟩
    rw [lex_le]
    walk_at "rd"
    refine s_cmpO ex ey ⟨X, Y, lo, lo2, hi, hi2, rfl, mx2, my, ?_⟩
    rw [lex_gt]
    walk_at "rd"
    refine s_cmpO ex ey ⟨X, Y, lo, lo2, hi, hi2, rfl, mx2, my, ?_⟩
    rw [lex_ge]
    walk_at "rd"
    rename_i L1 nL1 L2 nL2
    have u1 := My.Same.new (o := .lst [.bl (ahead lo hi lo2 hi2), .bl (!ahead lo2 hi2 lo hi), .bl (ahead lo2 hi2 lo hi), .bl (!ahead lo hi lo2 hi2)]) nL1
    have u2 := My.Same.new (o := .lst [.bl (ahead lo hi lo2 hi2), .bl (!ahead lo2 hi2 lo hi), .bl (ahead lo2 hi2 lo hi), .bl (!ahead lo hi lo2 hi2)]) nL2
    have e1 := u2 L1 _ upd_same
    have e2 : (upd (upd H2 L1 (.lst [.bl (ahead lo hi lo2 hi2), .bl (!ahead lo2 hi2 lo hi), .bl (ahead lo2 hi2 lo hi), .bl (!ahead lo hi lo2 hi2)])) L2 (.lst [.bl (ahead lo hi lo2 hi2), .bl (!ahead lo2 hi2 lo hi), .bl (ahead lo2 hi2 lo hi), .bl (!ahead lo hi lo2 hi2)])) L2 = some (.lst [.bl (ahead lo hi lo2 hi2), .bl (!ahead lo2 hi2 lo hi), .bl (ahead lo2 hi2 lo hi), .bl (!ahead lo hi lo2 hi2)]) := upd_same
    have s03 := s02.trans (u1.trans u2)
    have mx3 := mx2.same (u1.trans u2)
    have my3 := my.same (u1.trans u2)
    have et3 : PairM _ t lo hi := s03 _ _ et
    have eu3 : PairM _ u lo2 hi2 := s03 _ _ eu
    generalize upd (upd H2 L1 (.lst [.bl (ahead lo hi lo2 hi2), .bl (!ahead lo2 hi2 lo hi), .bl (ahead lo2 hi2 lo hi), .bl (!ahead lo hi lo2 hi2)])) L2 (.lst [.bl (ahead lo hi lo2 hi2), .bl (!ahead lo2 hi2 lo hi), .bl (ahead lo2 hi2 lo hi), .bl (!ahead lo hi lo2 hi2)]) = H3 at *
    clear u1 u2 ex ekx ey eky
    refine s_neSame (.lst (SqL.of e1) (.cons (.bl _) (.cons (.bl _) (.cons (.bl _) (.cons (.bl _) .nil))))) (.lst (SqL.of e2) (.cons (.bl _) (.cons (.bl _) (.cons (.bl _) (.cons (.bl _) .nil))))) rfl ⟨_, rfl, ?_⟩
    obtain ⟨dx, kx, ex, ekx⟩ := id mx3
    obtain ⟨dy, ky, ey, eky⟩ := id my3
    walk_at "rd"
    refine ⟨X, dx, _, .ref C_Many, rfl, ex, TyX.base (M.z_Many ey), M.nf_Many, X, .ref Y, lo, hi, rfl, mx3, .inl ⟨Y, lo2, hi2, rfl, my3, ?_⟩⟩
    walk_at "rd"
    refine ⟨X, dx, _, .ref C_Many, rfl, ex, TyX.base (M.z_Many ey), M.nf_Many, X, .ref Y, lo, hi, rfl, mx3, .inl ⟨Y, lo2, hi2, rfl, my3, _, rfl, ?_⟩⟩
    walk_at "rd"
    rename_i L3 nL3
    refine ⟨.ref L3, .list [.bool (decide (lo = lo2 ∧ hi = hi2)), .bool (!decide (lo = lo2 ∧ hi = hi2))], rfl, .lst (SqL.of upd_same) (.cons (.bl _) (.cons (.bl _) .nil)), rfl, rfl, rfl, two_b _ _, ?_⟩
    have u3 := My.Same.new (o := .lst [.bl (decide (lo = lo2 ∧ hi = hi2)), .bl (!decide (lo = lo2 ∧ hi = hi2))]) nL3
    have s04 := s03.trans u3
    have et4 := u3 _ _ et3
    have eu4 := u3 _ _ eu3
    generalize upd H3 L3 (.lst [.bl (decide (lo = lo2 ∧ hi = hi2)), .bl (!decide (lo = lo2 ∧ hi = hi2))]) = H4 at *
    walk_at "rd"
    refine ⟨_, _, .tup (SqT.of et4) (.cons (.int _) (.cons (optP_dp hi) .nil)), .tup (SqT.of eu4) (.cons (.int _) (.cons (optP_dp hi2) .nil)), sh_pr _ _, sh_pr _ _, ?_⟩
    rw [eqv_pr]
    walk_at "rd"
    refine ⟨_, _, .tup (SqT.of et4) (.cons (.int _) (.cons (optP_dp hi) .nil)), .tup (SqT.of eu4) (.cons (.int _) (.cons (optP_dp hi2) .nil)), sh_pr _ _, sh_pr _ _, ?_⟩
    rw [eqv_pr]
    walk_at "rd"
    rename_i L4 nL4
    refine ⟨.ref L4, .list [.bool (decide (lo = lo2 ∧ hi = hi2)), .bool (!decide (lo = lo2 ∧ hi = hi2))], rfl, .lst (SqL.of upd_same) (.cons (.bl _) (.cons (.bl _) .nil)), rfl, rfl, rfl, two_b _ _, ?_⟩
    walk_at "rd"
    rw [decide_eq_true rfl]
    exact q _ (s04.trans (My.Same.new nL4))
end
end My
end
section
open My L2 PySem
open My L2 PySem
local macro_rules | `(tactic| walk_at "as") => `(tactic| with_reducible assumption)
local macro_rules | `(tactic| walk_at "hp") => `(tactic| first
  | walk_at "as" | exact upd_same
  | (rw [upd_ne (by walk_at "ne")]; walk_at "hp")
  | (refine But.get (by walk_at "as") ?hp1 ?hp2; (case hp1 => walk_at "hp"); (case hp2 => walk_at "ne"))
  | (refine My.Same.get (by walk_at "as") ?hp1; (case hp1 => walk_at "hp")))
local macro_rules | `(tactic| walk_at "ne") => `(tactic| first
  | walk_at "as" | exact Ne.symm (by walk_at "as")
  | (refine' ne_of_none ?ne1 ?ne2; (case ne2 => walk_at "as"); (case ne1 => walk_at "hp"))
  | (refine' Ne.symm (ne_of_none ?ne1 ?ne2); (case ne2 => walk_at "as"); (case ne1 => walk_at "hp"))
  | exact ne_of (by walk_at "hp") (by walk_at "hp") (by intro z; cases z))
local macro_rules | `(tactic| walk_at "sd") => `(tactic| first
  | walk_at "as" | omega | decide | exact ⟨by omega, by omega⟩ | exact .inl ⟨by omega, by omega⟩ | exact .inr ⟨by omega, by omega⟩ | exact divp_wide (by walk_at "as") (by walk_at "as") | exact Sm.cmul (by walk_at "as") (by walk_at "as") | exact cmul_small (by omega) (by omega) (by omega) (by omega) | exact ⟨by omega, by decide⟩)
local macro_rules | `(tactic| walk_at "bt") => `(tactic| first
  | walk_at "as" | exact But.refl _ _ | exact Same.but (by walk_at "as")
  | (refine But.trans ?bt1 But.at; (case bt1 => walk_at "bt"))
  | (refine But.trans ?bt1 (But.new (by first | walk_at "as" | walk_at "hp")); (case bt1 => walk_at "bt"))
  | (refine But.trans ?bt1 (by walk_at "as"); (case bt1 => walk_at "bt"))
  | (refine But.trans ?bt1 (Same.but (by walk_at "as")); (case bt1 => walk_at "bt")))
local macro_rules | `(tactic| walk_at "sm") => `(tactic| first
  | walk_at "as" | exact My.Same.rfl' _
  | (refine' My.Same.at_ ?sm1 ?sm2; (case sm1 => walk_at "as"); (case sm2 => walk_at "sm"))
  | (refine' My.Same.tr ?sm1 (My.Same.new ?sm2); (case sm2 => walk_at "as"); (case sm1 => walk_at "sm"))
  | (refine' My.Same.tr ?sm1 ?sm2; (case sm2 => walk_at "as"); (case sm1 => walk_at "sm")))
local macro_rules | `(tactic| walk_at "sz") => `(tactic| first
  | assumption | exact lt_size (by rfl) | exact le_size (by rfl) | (rw [sizeLine_eq]; omega)
  | (rw [sizeLine_eq]; simp only [List.length_append, List.length_map, List.length_cons, List.length_nil]; omega))
local macro_rules | `(tactic| walk_at "few") => `(tactic| (repeat refine few_put ?_); exact few0)
local macro_rules | `(tactic| walk_at "rd1") => `(tactic| first
  | (with_reducible show tVar _ _ _ _); refine s_var rfl ?_
  | with_reducible refine s_c ?_ | with_reducible refine s_op ?_ | with_reducible refine s_un ?_
  | with_reducible refine s_cons ?_ | with_reducible refine s_nil ?_ | with_reducible refine s_cb ?_
  | with_reducible refine s_test ?_ | with_reducible refine s_B ?_ | with_reducible refine s_not ?_ | with_reducible refine s_and ?_ | with_reducible refine s_or ?_
  | with_reducible refine s_if ?_ | with_reducible refine s_notV ?_ | with_reducible refine s_andV ?_ | with_reducible refine s_orV ?_
  | with_reducible refine s_orT ?_ | with_reducible refine s_andT ?_ | with_reducible refine s_chain ?_
  | with_reducible refine s_isi_int ?_ | with_reducible refine s_isi_int_bool ?_ | with_reducible refine s_isi_str ?_
  | with_reducible refine iteT ?_ | with_reducible refine iteF ?_ | with_reducible refine iteNT ?_ | with_reducible refine iteNF ?_
  | with_reducible refine s_isN ?_ | with_reducible refine s_notN ?_
  | ((with_reducible refine' s_2setE ?g1 ?_); (case g1 => first | (dsimp only [List.set, L2.wipe, List.map, List.foldl]; done) | (dsimp only [List.set, L2.wipe, List.map, List.foldl]; rfl)))
  | with_reducible refine s_seq ?_ | with_reducible refine s_ifS ?_ | with_reducible refine s_asg ?_ | with_reducible refine s_ret ?_ | with_reducible refine s_drop ?_ | with_reducible refine s_next ?_
  | ((with_reducible refine' s_gnameE ?g1 ?_); (case g1 => first | (dsimp only [List.set, L2.wipe, List.map, List.foldl]; done) | (dsimp only [List.set, L2.wipe, List.map, List.foldl]; rfl)))
  | with_reducible refine s_gsub ?_ | with_reducible refine s_gcons ?_ | with_reducible refine s_gnil ?_
  | (with_reducible show gTup _ _ _ _ _ _ _); refine s_gtup (by walk_at "hp") rfl ?_
  | with_reducible refine s_eqI ?_ | with_reducible refine s_neI ?_ | with_reducible refine s_eqS ?_ | with_reducible refine s_neB ?_ | with_reducible refine s_eqB ?_ | with_reducible refine s_neSr ?_ | with_reducible refine s_neS ?_
  | with_reducible refine s_I0 ?_
  | (with_reducible show rI _ _ _ _ _ _); refine s_I (by walk_at "sd") ?_
  | (with_reducible show rIxL _ _ _ _ _); refine s_ixL (by walk_at "hp") rfl ?_
  | (with_reducible show rIxT _ _ _ _ _); refine s_ixT (by walk_at "hp") rfl ?_
  | (with_reducible show rSetL _ _ _ _ _); refine s_setL (by walk_at "hp") rfl ?_
  | with_reducible refine s_prop ?_
  | (with_reducible show _ ≤ sizeLine ∧ _); refine ⟨le_size (by rfl), ?_⟩
  | with_reducible refine ite_NN ?_ | with_reducible refine ite_IN ?_ | with_reducible refine ite_nNN ?_ | with_reducible refine ite_nIN ?_ | with_reducible refine ite_RN ?_ | with_reducible refine ite_nRN ?_
  | with_reducible refine s_sfld ?_
  | ((with_reducible refine' ⟨_, _, _, _, rfl, ?fp1, ?fp2, ?fp3, ?fp4, ?_⟩); (case fp1 => walk_at "hp"); (case fp2 => assumption); (case fp3 => assumption); (case fp4 => walk_at "few"))
  | with_reducible refine s_fldE ?_
  | ((with_reducible refine' ⟨_, _, _, _, _, rfl, ?fp1, ?fp2, ?fp3, ?fp4, ?_⟩); (case fp1 => walk_at "hp"); (case fp2 => assumption); (case fp3 => assumption); (case fp4 => rfl))
  | with_reducible refine s_bm ?_ | with_reducible refine s_bm0 ?_
  | ((with_reducible refine' s_tyL ?ty1 ?_); (case ty1 => walk_at "hp"))
  | ((with_reducible refine' s_append ?ap1 ?ap2 ?_); (case ap1 => walk_at "hp"); (case ap2 => walk_at "sz"))
  | ((with_reducible refine' s_extend ?ap1 ?ap2 ?ap3 ?_); (case ap1 => walk_at "hp"); (case ap2 => walk_at "hp"); (case ap3 => walk_at "sz"))
  | with_reducible refine s_for (fun _ _ => ?_) | with_reducible refine s_lc ?_ | with_reducible refine s_iList ?_ | with_reducible refine s_iTup ?_ | with_reducible refine s_iRng1 ?_ | with_reducible refine s_iRng2 ?_
  | with_reducible refine s_yes ?_ | with_reducible refine s_par ?_
  | with_reducible refine s_make ?_ | with_reducible refine s_meth ?_
  | with_reducible refine s_tup ?_ | with_reducible refine s_lst ?_ | with_reducible refine s_call ?_
  | with_reducible refine ⟨rfl, ?_⟩
  | with_reducible refine ⟨_, rfl, ?_⟩
  | ((with_reducible refine' ⟨_, _, rfl, ?sd1, ?_⟩); (case sd1 => walk_at "sd"))
  | with_reducible refine ⟨_, _, rfl, ?_⟩
  | with_reducible refine .inl ⟨_, rfl, ?_⟩
  | dsimp only [List.set]
  | walk_at "rdx"
  | (refine fun _ _ => ?_))
local macro_rules | `(tactic| walk_at "rd") => `(tactic| repeat (first
  | (with_reducible show tVar _ _ _ _); refine s_var rfl ?_
  | with_reducible refine s_c ?_ | with_reducible refine s_op ?_ | with_reducible refine s_un ?_
  | with_reducible refine s_cons ?_ | with_reducible refine s_nil ?_ | with_reducible refine s_cb ?_
  | with_reducible refine s_test ?_ | with_reducible refine s_B ?_ | with_reducible refine s_not ?_ | with_reducible refine s_and ?_ | with_reducible refine s_or ?_
  | with_reducible refine s_if ?_ | with_reducible refine s_notV ?_ | with_reducible refine s_andV ?_ | with_reducible refine s_orV ?_
  | with_reducible refine s_orT ?_ | with_reducible refine s_andT ?_ | with_reducible refine s_chain ?_
  | with_reducible refine s_isi_int ?_ | with_reducible refine s_isi_int_bool ?_ | with_reducible refine s_isi_str ?_
  | with_reducible refine iteT ?_ | with_reducible refine iteF ?_ | with_reducible refine iteNT ?_ | with_reducible refine iteNF ?_
  | with_reducible refine s_isN ?_ | with_reducible refine s_notN ?_
  | ((with_reducible refine' s_2setE ?g1 ?_); (case g1 => first | (dsimp only [List.set, L2.wipe, List.map, List.foldl]; done) | (dsimp only [List.set, L2.wipe, List.map, List.foldl]; rfl)))
  | with_reducible refine s_seq ?_ | with_reducible refine s_ifS ?_ | with_reducible refine s_asg ?_ | with_reducible refine s_ret ?_ | with_reducible refine s_drop ?_ | with_reducible refine s_next ?_
  | ((with_reducible refine' s_gnameE ?g1 ?_); (case g1 => first | (dsimp only [List.set, L2.wipe, List.map, List.foldl]; done) | (dsimp only [List.set, L2.wipe, List.map, List.foldl]; rfl)))
  | with_reducible refine s_gsub ?_ | with_reducible refine s_gcons ?_ | with_reducible refine s_gnil ?_
  | (with_reducible show gTup _ _ _ _ _ _ _); refine s_gtup (by walk_at "hp") rfl ?_
  | with_reducible refine s_eqI ?_ | with_reducible refine s_neI ?_ | with_reducible refine s_eqS ?_ | with_reducible refine s_neB ?_ | with_reducible refine s_eqB ?_ | with_reducible refine s_neSr ?_ | with_reducible refine s_neS ?_
  | with_reducible refine s_I0 ?_
  | (with_reducible show rI _ _ _ _ _ _); refine s_I (by walk_at "sd") ?_
  | (with_reducible show rIxL _ _ _ _ _); refine s_ixL (by walk_at "hp") rfl ?_
  | (with_reducible show rIxT _ _ _ _ _); refine s_ixT (by walk_at "hp") rfl ?_
  | (with_reducible show rSetL _ _ _ _ _); refine s_setL (by walk_at "hp") rfl ?_
  | with_reducible refine s_prop ?_
  | (with_reducible show _ ≤ sizeLine ∧ _); refine ⟨le_size (by rfl), ?_⟩
  | with_reducible refine ite_NN ?_ | with_reducible refine ite_IN ?_ | with_reducible refine ite_nNN ?_ | with_reducible refine ite_nIN ?_ | with_reducible refine ite_RN ?_ | with_reducible refine ite_nRN ?_
  | with_reducible refine s_sfld ?_
  | ((with_reducible refine' ⟨_, _, _, _, rfl, ?fp1, ?fp2, ?fp3, ?fp4, ?_⟩); (case fp1 => walk_at "hp"); (case fp2 => assumption); (case fp3 => assumption); (case fp4 => walk_at "few"))
  | with_reducible refine s_fldE ?_
  | ((with_reducible refine' ⟨_, _, _, _, _, rfl, ?fp1, ?fp2, ?fp3, ?fp4, ?_⟩); (case fp1 => walk_at "hp"); (case fp2 => assumption); (case fp3 => assumption); (case fp4 => rfl))
  | with_reducible refine s_bm ?_ | with_reducible refine s_bm0 ?_
  | ((with_reducible refine' s_tyL ?ty1 ?_); (case ty1 => walk_at "hp"))
  | ((with_reducible refine' s_append ?ap1 ?ap2 ?_); (case ap1 => walk_at "hp"); (case ap2 => walk_at "sz"))
  | ((with_reducible refine' s_extend ?ap1 ?ap2 ?ap3 ?_); (case ap1 => walk_at "hp"); (case ap2 => walk_at "hp"); (case ap3 => walk_at "sz"))
  | with_reducible refine s_for (fun _ _ => ?_) | with_reducible refine s_lc ?_ | with_reducible refine s_iList ?_ | with_reducible refine s_iTup ?_ | with_reducible refine s_iRng1 ?_ | with_reducible refine s_iRng2 ?_
  | with_reducible refine s_yes ?_ | with_reducible refine s_par ?_
  | with_reducible refine s_make ?_ | with_reducible refine s_meth ?_
  | with_reducible refine s_tup ?_ | with_reducible refine s_lst ?_ | with_reducible refine s_call ?_
  | with_reducible refine ⟨rfl, ?_⟩
  | with_reducible refine ⟨_, rfl, ?_⟩
  | ((with_reducible refine' ⟨_, _, rfl, ?sd1, ?_⟩); (case sd1 => walk_at "sd"))
  | with_reducible refine ⟨_, _, rfl, ?_⟩
  | with_reducible refine .inl ⟨_, rfl, ?_⟩
  | dsimp only [List.set]
  | walk_at "rdx"
  | (refine fun _ _ => ?_)))

namespace My
open PySem L2
section
variable {P : Program} {w : World} {K : PySem.W.Frag} {mg : Str → Option Value} {base : Heap} {C_Many C_Ratio C_EachError C_InvalidCount C_InvalidNumber C_InvalidMany : Addr} (M : Md K mg C_Many C_Ratio C_EachError C_InvalidCount C_InvalidNumber C_InvalidMany)
include M
local macro_rules | `(tactic| walk_at "rdx") => `(tactic| first | with_reducible refine s_ostG ?_ | with_reducible refine s_raE ?_ | with_reducible refine s_callX ?_ | with_reducible refine s_lstN ?_ | with_reducible refine s_makeX ?_)
omit M
def OkR (lo : Int) (hi : Option Int) : Prop := 0 ≤ lo ∧ lo ≤ 10 ^ 40 ∧ ∀ h, hi = some h → lo ≤ h ∧ h ≤ 2 * 10 ^ 40
inductive Rp (H : Hp) : List V → List (Int × Option Int) → Prop
  | nil : Rp H [] []
  | cons {t : Addr} {lo : Int} {hi : Option Int} {vs : List V} {ps : List (Int × Option Int)} : PairM H t lo hi → OkR lo hi → Rp H vs ps → Rp H (.ref t :: vs) ((lo, hi) :: ps)
theorem Rp.len {H : Hp} {vs : List V} {ps : List (Int × Option Int)} (h : Rp H vs ps) : vs.length = ps.length := by
  induction h with
  | nil => rfl
  | cons _ _ _ ih => exact congrArg (· + 1) ih
theorem Rp.snoc {H : Hp} {vs : List V} {ps : List (Int × Option Int)} {t : Addr} {lo : Int} {hi : Option Int} (h : Rp H vs ps) (e : PairM H t lo hi) (ok : OkR lo hi) : Rp H (vs ++ [.ref t]) (ps ++ [(lo, hi)]) := by
  induction h with
  | nil => exact .cons e ok .nil
  | cons a b _ ih => exact .cons a b ih
theorem Rp.on {H H' : Hp} {vs : List V} {ps : List (Int × Option Int)} (h : Rp H vs ps) (s : ∀ (b : Addr) (xs : List V), H b = some (.tup xs) → H' b = some (.tup xs)) : Rp H' vs ps := by
  induction h with
  | nil => exact .nil
  | cons a b _ ih => exact .cons (s _ _ a) b ih
theorem Rp.mem {H : Hp} {vs : List V} {ps : List (Int × Option Int)} (h : Rp H vs ps) {v : V} (hv : v ∈ vs) : ∃ t lo hi, v = .ref t ∧ PairM H t lo hi ∧ OkR lo hi := by
  induction h with
  | nil => cases hv
  | cons a b _ ih =>
    rcases List.mem_cons.mp hv with rfl | hv
    · exact ⟨_, _, _, rfl, a, b⟩
    · exact ih hv
theorem picked {vs : List V} {v : V} (h : v ∈ vs) (hb : vs.all (fun v => match v with | .int i => decide (0 ≤ i ∧ i ≤ 10 ^ 40) | _ => false) = true) : ∃ i : Int, v = .int i ∧ 0 ≤ i ∧ i ≤ 10 ^ 40 := by
  have z := List.all_eq_true.mp hb v h
  cases v with
  | int i => exact ⟨i, rfl, (of_decide_eq_true z).1, (of_decide_eq_true z).2⟩
  | _ => cases z
theorem ifcut {σ : L2.St} {H : Hp} {b : Bool} {te1 te2 : TE} {k : VK} (R : V → Hp → Prop) (h1 : ∀ k' : VK, (∀ v H', R v H' → k' v H') → if b = true then te1 σ H k' else te2 σ H k') (h2 : ∀ v H', R v H' → k v H') : if b = true then te1 σ H k else te2 σ H k := h1 k h2
def dRow (p : Int × Option Int) : PyData := .tuple [.int p.1, optP p.2]
theorem Rp.dps {K : PySem.W.Frag} {H : Hp} {vs : List V} {ps : List (Int × Option Int)} (h : Rp H vs ps) : DpAll K H vs (ps.map dRow) := by
  induction h with
  | nil => exact .nil
  | cons a b _ ih => exact .cons (.tup (SqT.of a) (.cons (.int _) (.cons (optP_dp _) .nil))) ih
theorem sh_prs (ps : List (Int × Option Int)) : SeqAt.shaped (.list (ps.map dRow)) = true := by
  have c : PyData.canLayAll0 (ps.map dRow) = true := by
    induction ps with
    | nil => rfl
    | cons p ps ih =>
      obtain ⟨lo, hi⟩ := p
      cases hi <;> simpa [PyData.canLayAll0, PyData.canLay0, dRow, optP] using ih
  have d : PyData.depthAll (ps.map dRow) ≤ 1 := by
    clear c
    induction ps with
    | nil => exact Nat.zero_le _
    | cons p ps ih =>
      obtain ⟨lo, hi⟩ := p
      cases hi <;> (simp [PyData.depthAll, PyData.depth, dRow, optP]; omega)
  simp only [SeqAt.shaped, PyData.canLay0, PyData.depth, c, Bool.true_and]
  exact decide_eq_true (by omega)
theorem eqv_nil (ps : List (Int × Option Int)) : PyData.eqv (.list (ps.map dRow)) (.list []) = ps.isEmpty := by
  cases ps <;> simp [PyData.eqv, PyData.eqvAll]
def spPairs : Sp := fun vs H Q _ => ∃ r : Addr, vs = [.ref r] ∧ Pot H r ∧ ∀ (L : Addr) (vs : List V) (ps : List (Int × Option Int)) (H' : Hp), H L = none → L ≠ r → H' L = some (.lst vs) → Rp H' vs ps → 1 ≤ ps.length → ps.length ≤ 9 → But r H H' → Pot H' r → Q (.ref L) H'
include M
theorem c__law_pairs : Dn P w K mg base "_law_pairs" 8 ["_law_rng_here"] [] spPairs := by
  have c__law_draw := c__law_draw (P := P) (w := w) (base := base) M
  have c__law_choice := c__law_choice (P := P) (w := w) (base := base) M
  refine dnN M.f__law_pairs (fun F => ?_) (fun _ _ _ _ _ _ us hl => match us, hl with | [_], _ => rfl)
  refine fnG_body F sc__law_pairs (fun vs H Q E h => ?_) (fun cdv A outer s H vs Q E hr h => ?_)
  · obtain ⟨r, rfl, _⟩ := h
    rfl
  · obtain ⟨r, rfl, hp, q⟩ := h
    refine ⟨_, (pss_cons (ps_set (i := 1) sc__law_pairs.nd rfl (.inl rfl) (pe_lstN pa_nil)) (pss_cons (ps_for (passes_of rfl) rfl (pi_range1 (by rfl) M.b_range (pa_cons (pe_op op_add pe_int (pe_callD c__law_draw (hr.mono (by decide)) rfl (pa_cons (pv 0) (pa_cons pe_int pa_nil)))) pa_nil)) (pg_name (i := 2) sc__law_pairs.nd rfl (.inl rfl)) (pss_cons (ps_set (i := 3) sc__law_pairs.nd rfl (.inl rfl) (pe_callD c__law_choice (hr.mono (by decide)) rfl (pa_cons (pv 0) (pa_cons (pe_lstN (pa_cons pe_int (pa_cons pe_int (pa_cons pe_int (pa_cons pe_int (pa_cons pe_int (pa_cons pe_int (pa_cons (pe_op op_pow pe_int pe_int) (pa_cons (pe_op op_pow pe_int pe_int) pa_nil))))))))) pa_nil)))) (pss_cons (ps_set (i := 4) sc__law_pairs.nd rfl (.inl rfl) (pe_callD c__law_draw (hr.mono (by decide)) rfl (pa_cons (pv 0) (pa_cons pe_int pa_nil)))) (pss_cons (ps_set (i := 5) sc__law_pairs.nd rfl (.inl rfl) (pe_callD c__law_choice (hr.mono (by decide)) rfl (pa_cons (pv 0) (pa_cons (pe_lstN (pa_cons pe_int (pa_cons pe_int (pa_cons pe_int (pa_cons pe_int (pa_cons (pe_op op_pow pe_int pe_int) (pa_cons (pe_op op_pow pe_int pe_int) pa_nil))))))) pa_nil)))) (pss_cons (ps_set (i := 6) sc__law_pairs.nd rfl (.inl rfl) (pe_ifExp (pt_cmpR op_eq (pv 4) pe_int (nomark _)) (pe_tup (pa_cons (pv 3) (pa_cons pe_non pa_nil))) (pe_tup (pa_cons (pv 3) (pa_cons (pe_op op_add (pv 3) (pv 5)) pa_nil))))) (pss_cons (ps_if (PW.pt (pw_and (pt_cmpR (op_neD hr.units) (pv 1) (pe_lstN pa_nil) (nomark _)) (pw_and (pt_cmpR op_eq (pv 4) pe_int (nomark _)) (pw_and1 (pt_cmpR op_eq (pe_callD c__law_draw (hr.mono (by decide)) rfl (pa_cons (pv 0) (pa_cons pe_int pa_nil))) pe_int (nomark _)))))) (pss_one (ps_set (i := 6) sc__law_pairs.nd rfl (.inl rfl) (pe_callD c__law_choice (hr.mono (by decide)) rfl (pa_cons (pv 0) (pa_cons (pv 1) pa_nil))))) pss_nil) (pss_one (ps_expr (pe_bm PySem.F.plainAttrs_list PySem.F.slot_list_append PySem.F.type_list_append mt_append (pv 1) (pa_cons (pv 6) pa_nil)))))))))) (pss_one (ps_ret (pv 1))))), ?_⟩
    refine st_eq (σ := [some _, none, none, none, none, none, none]) rfl ?_
    walk_at "rd"
    rename_i L nL
    intro dL
    have eL0 : (upd H L (.lst [])) L = some (.lst []) := upd_same
    have xL0 := My.Same.new (o := .lst []) nL
    have pL0 := hp.same xL0
    have neL := pL0.ne' eL0 (fun _ _ z => nomatch z)
    generalize upd H L (.lst []) = G0 at *
    walk_at "rd"
    refine ⟨r, 9, rfl, pL0, by decide, by decide, fun d G1 b1 p1 d0 d1 => ?_⟩
    have eL1 := b1.get eL0 neL
    have bH1 : But r H G1 := fun c o e n => b1 _ _ (xL0 _ _ e) n
    clear xL0 pL0 eL0 b1
    walk_at "rd"
    rename_i DE eDE
    refine ⟨by omega, by omega, for_range (lo := 0) (fun i σ H' => But r H H' ∧ Pot H' r ∧ ∃ (vs : List V) (ps : List (Int × Option Int)) (v2 v3 v4 v5 v6 : Option V), σ = [some (.ref r), some (.ref L), v2, v3, v4, v5, v6] ∧ H' L = some (.lst vs) ∧ Rp H' vs ps ∧ ps.length = i) ?_ ?_ ?_⟩
    · exact ⟨bH1, p1, [], [], _, _, _, _, _, rfl, eL1, .nil, rfl⟩
    · rintro i σ H1 hi ⟨c1, q1, vs, ps, v2, v3, v4, v5, v6, rfl, l1, rp1, len1⟩
      have hi9 : i ≤ 8 := by omega
      walk_at "rd"
      have c1' := c1
      have q1' := q1
      have l1' := l1
      have rp1' := rp1
      clear c1 q1 l1 rp1
      rename_i Z2 nZ2
      intro dZ2
      have u2 := My.Same.new (o := .lst [.int 0, .int 0, .int 1, .int 1, .int 2, .int 3, .int (10 ^ Int.toNat 18), .int (10 ^ Int.toNat 40)]) nZ2
      have e2 : (upd H1 Z2 (.lst [.int 0, .int 0, .int 1, .int 1, .int 2, .int 3, .int (10 ^ Int.toNat 18), .int (10 ^ Int.toNat 40)])) Z2 = some (.lst [.int 0, .int 0, .int 1, .int 1, .int 2, .int 3, .int (10 ^ Int.toNat 18), .int (10 ^ Int.toNat 40)]) := upd_same
      have q2 := q1'.same u2
      have c2 : But r H (upd H1 Z2 (.lst [.int 0, .int 0, .int 1, .int 1, .int 2, .int 3, .int (10 ^ Int.toNat 18), .int (10 ^ Int.toNat 40)])) := c1'.upf (c1'.free nZ2 (q1'.ne nZ2))
      have l2 := u2 _ _ l1'
      have rp2 := rp1'.on fun c xs e => u2 _ _ e
      generalize upd H1 Z2 (.lst [.int 0, .int 0, .int 1, .int 1, .int 2, .int 3, .int (10 ^ Int.toNat 18), .int (10 ^ Int.toNat 40)]) = G2 at *
      walk_at "rd"
      refine ⟨r, Z2, _, rfl, e2, q2.ne' e2 (fun _ _ z => nomatch z), by show 0 < 8; decide, by show 8 < 100000; decide, q2, fun v H2 hv b2 p2 => ?_⟩
      obtain ⟨low, rfl, low0, low1⟩ := picked (by first | exact hv) (by decide +kernel)
      have c2' : But r H H2 := fun c o e n => b2 _ _ (c2 _ _ e n) n
      have l2' := b2.get l2 neL
      have rp2' := rp2.on fun c xs e => b2.get e (q2.ne' e (fun _ _ z => nomatch z))
      have q2' := p2
      clear hv b2 p2 q2 c2 l2 rp2 u2 e2 nZ2 dZ2
      walk_at "rd"
      refine ⟨r, 4, rfl, q2', by decide, by decide, fun way H3 b3 q3' w0 w1 => ?_⟩
      have c3' : But r H H3 := fun c o e n => b3 _ _ (c2' _ _ e n) n
      have l3' := b3.get l2' neL
      have rp3' := rp2'.on fun c xs e => b3.get e (q2'.ne' e (fun _ _ z => nomatch z))
      clear b3 q2' c2' l2' rp2'
      walk_at "rd"
      rename_i Z4 nZ4
      intro dZ4
      have u4 := My.Same.new (o := .lst [.int 0, .int 0, .int 1, .int 2, .int (10 ^ Int.toNat 18), .int (10 ^ Int.toNat 40)]) nZ4
      have e4 : (upd H3 Z4 (.lst [.int 0, .int 0, .int 1, .int 2, .int (10 ^ Int.toNat 18), .int (10 ^ Int.toNat 40)])) Z4 = some (.lst [.int 0, .int 0, .int 1, .int 2, .int (10 ^ Int.toNat 18), .int (10 ^ Int.toNat 40)]) := upd_same
      have q4 := q3'.same u4
      have c4 : But r H (upd H3 Z4 (.lst [.int 0, .int 0, .int 1, .int 2, .int (10 ^ Int.toNat 18), .int (10 ^ Int.toNat 40)])) := c3'.upf (c3'.free nZ4 (q3'.ne nZ4))
      have l4 := u4 _ _ l3'
      have rp4 := rp3'.on fun c xs e => u4 _ _ e
      generalize upd H3 Z4 (.lst [.int 0, .int 0, .int 1, .int 2, .int (10 ^ Int.toNat 18), .int (10 ^ Int.toNat 40)]) = G4 at *
      walk_at "rd"
      refine ⟨r, Z4, _, rfl, e4, q4.ne' e4 (fun _ _ z => nomatch z), by show 0 < 6; decide, by show 6 < 100000; decide, q4, fun v H4 hv b4 p4 => ?_⟩
      obtain ⟨more, rfl, more0, more1⟩ := picked (by first | exact hv) (by decide +kernel)
      have c4' : But r H H4 := fun c o e n => b4 _ _ (c4 _ _ e n) n
      have l4' := b4.get l4 neL
      have rp4' := rp4.on fun c xs e => b4.get e (q4.ne' e (fun _ _ z => nomatch z))
      have q4' := p4
      clear hv b4 p4 q4 c4 l4 rp4 u4 e4 nZ4 dZ4
      walk_at "rd"
      refine ifcut (R := fun v H' => ∃ (t : Addr) (hi : Option Int), v = .ref t ∧ PairM H' t low hi ∧ OkR low hi ∧ But r H H' ∧ H' L = some (.lst vs) ∧ Rp H' vs ps ∧ Pot H' r) (fun k' hk => ?_) (fun v H' hR => ?_)
      · by_cases hw : way = 0
        · rw [if_pos (decide_eq_true hw)]
          walk_at "rd"
          rename_i TT nTT
          have uT := My.Same.new (o := .tup [.int low, .non]) nTT
          exact hk _ _ ⟨TT, none, rfl, upd_same, ⟨low0, low1, fun h z => nomatch z⟩, c4'.upf (c4'.free nTT (q4'.ne nTT)), uT _ _ l4', rp4'.on fun c xs e => uT _ _ e, q4'.same uT⟩
        · rw [if_neg (by simpa using hw)]
          walk_at "rd"
          rename_i TT nTT
          have uT := My.Same.new (o := .tup [.int low, .int (low + more)]) nTT
          exact hk _ _ ⟨TT, some (low + more), rfl, upd_same, ⟨low0, low1, fun h z => by cases z; omega⟩, c4'.upf (c4'.free nTT (q4'.ne nTT)), uT _ _ l4', rp4'.on fun c xs e => uT _ _ e, q4'.same uT⟩
      · obtain ⟨t, hi, rfl, et, ok, c5, l5, rp5, q5⟩ := hR
        clear c4' l4' rp4' q4'
        have fin : ∀ (t : Addr) (lo : Int) (hi : Option Int) (Hk : Hp) (a2 a3 a4 a5 a6 : Option V), PairM Hk t lo hi → OkR lo hi → But r H Hk → Hk L = some (.lst vs) → Rp Hk vs ps → Pot Hk r →
            But r H (upd Hk L (.lst (vs ++ [.ref t]))) ∧ Pot (upd Hk L (.lst (vs ++ [.ref t]))) r ∧ ∃ (vs' : List V) (ps' : List (Int × Option Int)) (v2 v3 v4 v5 v6 : Option V), [some (.ref r), some (.ref L), a2, a3, a4, a5, a6] = [some (.ref r), some (.ref L), v2, v3, v4, v5, v6] ∧ (upd Hk L (.lst (vs ++ [.ref t]))) L = some (.lst vs') ∧ Rp (upd Hk L (.lst (vs ++ [.ref t]))) vs' ps' ∧ ps'.length = i + 1 := fun t lo hi Hk a2 a3 a4 a5 a6 et ok c l rp p => by
          have on : ∀ (b : Addr) (xs : List V), Hk b = some (.tup xs) → upd Hk L (.lst (vs ++ [.ref t])) b = some (.tup xs) := fun b xs e => by
            rw [upd_ne (fun z => by rw [z, l] at e; cases e)]
            exact e
          exact ⟨c.upf nL, p.upn neL, _, ps ++ [(lo, hi)], _, _, _, _, _, rfl, upd_same, (rp.on on).snoc (on _ _ et) ok, by rw [List.length_append, len1]; rfl⟩
        have ll : vs.length = i := by rw [← len1]; exact rp5.len
        walk_at "rd"
        rename_i NL nNL
        intro dNL
        have uN := My.Same.new (o := .lst []) nNL
        have eN : (upd H' NL (.lst [])) NL = some (.lst []) := upd_same
        have et6 : PairM _ t low hi := uN _ _ et
        have c6 : But r H (upd H' NL (.lst [])) := c5.upf (c5.free nNL (q5.ne nNL))
        have l6 := uN _ _ l5
        have rp6 := rp5.on fun c xs e => uN _ _ e
        have q6 := q5.same uN
        generalize upd H' NL (.lst []) = H6 at *
        clear uN et c5 l5 rp5 q5 nNL dNL
        refine ⟨_, _, .lst (SqL.of l6) rp6.dps, .lst (SqL.of eN) .nil, sh_prs _, rfl, ?_⟩
        rw [eqv_nil]
        refine ⟨_, rfl, ?_⟩
        cases hps : ps.isEmpty with
        | true =>
          walk_at "rd"
          exact fin _ _ _ _ _ _ _ _ _ et6 ok c6 l6 rp6 q6
        | false =>
          walk_at "rd"
          by_cases hw : way = 3
          · rw [if_pos (decide_eq_true hw)]
            walk_at "rd"
            refine ⟨r, 3, rfl, q6, by decide, by decide, fun d3 H7 b7 q7 _ _ => ?_⟩
            have et7 : PairM H7 t low hi := b7.get et6 (q6.ne' et6 (fun _ _ z => nomatch z))
            have c7 : But r H H7 := fun c o e n => b7 _ _ (c6 _ _ e n) n
            have l7 := b7.get l6 neL
            have rp7 := rp6.on fun c xs e => b7.get e (q6.ne' e (fun _ _ z => nomatch z))
            clear b7 q6 c6 l6 rp6 et6
            walk_at "rd"
            by_cases hd : d3 = 0
            · rw [if_pos (decide_eq_true hd)]
              walk_at "rd"
              have l0 : 0 < vs.length := by
                rw [rp7.len]
                cases ps with
                | nil => cases hps
                | cons _ _ => exact Nat.succ_pos _
              refine ⟨r, L, vs, rfl, l7, neL, l0, by omega, q7, fun v H8 hv b8 q8 => ?_⟩
              obtain ⟨t', lo', hi', rfl, et', ok'⟩ := rp7.mem hv
              have et8 : PairM H8 t' lo' hi' := b8.get et' (q7.ne' et' (fun _ _ z => nomatch z))
              have c8 : But r H H8 := fun c o e n => b8 _ _ (c7 _ _ e n) n
              have l8 := b8.get l7 neL
              have rp8 := rp7.on fun c xs e => b8.get e (q7.ne' e (fun _ _ z => nomatch z))
              walk_at "rd"
              exact fin _ _ _ _ _ _ _ _ _ et8 ok' c8 l8 rp8 q8
            · rw [if_neg (by simpa using hd)]
              walk_at "rd"
              exact fin _ _ _ _ _ _ _ _ _ et7 ok c7 l7 rp7 q7
          · rw [if_neg (by simpa using hw)]
            walk_at "rd"
            exact fin _ _ _ _ _ _ _ _ _ et6 ok c6 l6 rp6 q6
    · rintro σ H1 ⟨c1, q1, vs, ps, v2, v3, v4, v5, v6, rfl, l1, rp1, len1⟩
      rw [eDE]
      walk_at "rd"
      exact q L vs ps H1 nL neL l1 rp1 (by omega) (by omega) c1 q1
end
end My
end
section
open My L2 PySem
open My L2 PySem
local macro_rules | `(tactic| walk_at "as") => `(tactic| with_reducible assumption)
local macro_rules | `(tactic| walk_at "hp") => `(tactic| first
  | walk_at "as" | exact upd_same
  | (rw [upd_ne (by walk_at "ne")]; walk_at "hp")
  | (refine But.get (by walk_at "as") ?hp1 ?hp2; (case hp1 => walk_at "hp"); (case hp2 => walk_at "ne"))
  | (refine My.Same.get (by walk_at "as") ?hp1; (case hp1 => walk_at "hp")))
local macro_rules | `(tactic| walk_at "ne") => `(tactic| first
  | walk_at "as" | exact Ne.symm (by walk_at "as")
  | (refine' ne_of_none ?ne1 ?ne2; (case ne2 => walk_at "as"); (case ne1 => walk_at "hp"))
  | (refine' Ne.symm (ne_of_none ?ne1 ?ne2); (case ne2 => walk_at "as"); (case ne1 => walk_at "hp"))
  | exact ne_of (by walk_at "hp") (by walk_at "hp") (by intro z; cases z))
local macro_rules | `(tactic| walk_at "sd") => `(tactic| first
  | walk_at "as" | omega | decide | exact ⟨by omega, by omega⟩ | exact .inl ⟨by omega, by omega⟩ | exact .inr ⟨by omega, by omega⟩ | exact divp_wide (by walk_at "as") (by walk_at "as") | exact Sm.cmul (by walk_at "as") (by walk_at "as") | exact cmul_small (by omega) (by omega) (by omega) (by omega) | exact ⟨by omega, by decide⟩)
local macro_rules | `(tactic| walk_at "bt") => `(tactic| first
  | walk_at "as" | exact But.refl _ _ | exact Same.but (by walk_at "as")
  | (refine But.trans ?bt1 But.at; (case bt1 => walk_at "bt"))
  | (refine But.trans ?bt1 (But.new (by first | walk_at "as" | walk_at "hp")); (case bt1 => walk_at "bt"))
  | (refine But.trans ?bt1 (by walk_at "as"); (case bt1 => walk_at "bt"))
  | (refine But.trans ?bt1 (Same.but (by walk_at "as")); (case bt1 => walk_at "bt")))
local macro_rules | `(tactic| walk_at "sm") => `(tactic| first
  | walk_at "as" | exact My.Same.rfl' _
  | (refine' My.Same.at_ ?sm1 ?sm2; (case sm1 => walk_at "as"); (case sm2 => walk_at "sm"))
  | (refine' My.Same.tr ?sm1 (My.Same.new ?sm2); (case sm2 => walk_at "as"); (case sm1 => walk_at "sm"))
  | (refine' My.Same.tr ?sm1 ?sm2; (case sm2 => walk_at "as"); (case sm1 => walk_at "sm")))
local macro_rules | `(tactic| walk_at "sz") => `(tactic| first
  | assumption | exact lt_size (by rfl) | exact le_size (by rfl) | (rw [sizeLine_eq]; omega)
  | (rw [sizeLine_eq]; simp only [List.length_append, List.length_map, List.length_cons, List.length_nil]; omega))
local macro_rules | `(tactic| walk_at "few") => `(tactic| (repeat refine few_put ?_); exact few0)
local macro_rules | `(tactic| walk_at "rd1") => `(tactic| first
  | (with_reducible show tVar _ _ _ _); refine s_var rfl ?_
  | with_reducible refine s_c ?_ | with_reducible refine s_op ?_ | with_reducible refine s_un ?_
  | with_reducible refine s_cons ?_ | with_reducible refine s_nil ?_ | with_reducible refine s_cb ?_
  | with_reducible refine s_test ?_ | with_reducible refine s_B ?_ | with_reducible refine s_not ?_ | with_reducible refine s_and ?_ | with_reducible refine s_or ?_
  | with_reducible refine s_if ?_ | with_reducible refine s_notV ?_ | with_reducible refine s_andV ?_ | with_reducible refine s_orV ?_
  | with_reducible refine s_orT ?_ | with_reducible refine s_andT ?_ | with_reducible refine s_chain ?_
  | with_reducible refine s_isi_int ?_ | with_reducible refine s_isi_int_bool ?_ | with_reducible refine s_isi_str ?_
  | with_reducible refine iteT ?_ | with_reducible refine iteF ?_ | with_reducible refine iteNT ?_ | with_reducible refine iteNF ?_
  | with_reducible refine s_isN ?_ | with_reducible refine s_notN ?_
  | ((with_reducible refine' s_2setE ?g1 ?_); (case g1 => first | (dsimp only [List.set, L2.wipe, List.map, List.foldl]; done) | (dsimp only [List.set, L2.wipe, List.map, List.foldl]; rfl)))
  | with_reducible refine s_seq ?_ | with_reducible refine s_ifS ?_ | with_reducible refine s_asg ?_ | with_reducible refine s_ret ?_ | with_reducible refine s_drop ?_ | with_reducible refine s_next ?_
  | ((with_reducible refine' s_gnameE ?g1 ?_); (case g1 => first | (dsimp only [List.set, L2.wipe, List.map, List.foldl]; done) | (dsimp only [List.set, L2.wipe, List.map, List.foldl]; rfl)))
  | with_reducible refine s_gsub ?_ | with_reducible refine s_gcons ?_ | with_reducible refine s_gnil ?_
  | (with_reducible show gTup _ _ _ _ _ _ _); refine s_gtup (by walk_at "hp") rfl ?_
  | with_reducible refine s_eqI ?_ | with_reducible refine s_neI ?_ | with_reducible refine s_eqS ?_ | with_reducible refine s_neB ?_ | with_reducible refine s_eqB ?_ | with_reducible refine s_neSr ?_ | with_reducible refine s_neS ?_
  | with_reducible refine s_I0 ?_
  | (with_reducible show rI _ _ _ _ _ _); refine s_I (by walk_at "sd") ?_
  | (with_reducible show rIxL _ _ _ _ _); refine s_ixL (by walk_at "hp") rfl ?_
  | (with_reducible show rIxT _ _ _ _ _); refine s_ixT (by walk_at "hp") rfl ?_
  | (with_reducible show rSetL _ _ _ _ _); refine s_setL (by walk_at "hp") rfl ?_
  | with_reducible refine s_prop ?_
  | (with_reducible show _ ≤ sizeLine ∧ _); refine ⟨le_size (by rfl), ?_⟩
  | with_reducible refine ite_NN ?_ | with_reducible refine ite_IN ?_ | with_reducible refine ite_nNN ?_ | with_reducible refine ite_nIN ?_ | with_reducible refine ite_RN ?_ | with_reducible refine ite_nRN ?_
  | with_reducible refine s_sfld ?_
  | ((with_reducible refine' ⟨_, _, _, _, rfl, ?fp1, ?fp2, ?fp3, ?fp4, ?_⟩); (case fp1 => walk_at "hp"); (case fp2 => assumption); (case fp3 => assumption); (case fp4 => walk_at "few"))
  | with_reducible refine s_fldE ?_
  | ((with_reducible refine' ⟨_, _, _, _, _, rfl, ?fp1, ?fp2, ?fp3, ?fp4, ?_⟩); (case fp1 => walk_at "hp"); (case fp2 => assumption); (case fp3 => assumption); (case fp4 => rfl))
  | with_reducible refine s_bm ?_ | with_reducible refine s_bm0 ?_
  | ((with_reducible refine' s_tyL ?ty1 ?_); (case ty1 => walk_at "hp"))
  | ((with_reducible refine' s_append ?ap1 ?ap2 ?_); (case ap1 => walk_at "hp"); (case ap2 => walk_at "sz"))
  | ((with_reducible refine' s_extend ?ap1 ?ap2 ?ap3 ?_); (case ap1 => walk_at "hp"); (case ap2 => walk_at "hp"); (case ap3 => walk_at "sz"))
  | with_reducible refine s_for (fun _ _ => ?_) | with_reducible refine s_lc ?_ | with_reducible refine s_iList ?_ | with_reducible refine s_iTup ?_ | with_reducible refine s_iRng1 ?_ | with_reducible refine s_iRng2 ?_
  | with_reducible refine s_yes ?_ | with_reducible refine s_par ?_
  | with_reducible refine s_make ?_ | with_reducible refine s_meth ?_
  | with_reducible refine s_tup ?_ | with_reducible refine s_lst ?_ | with_reducible refine s_call ?_
  | with_reducible refine ⟨rfl, ?_⟩
  | with_reducible refine ⟨_, rfl, ?_⟩
  | ((with_reducible refine' ⟨_, _, rfl, ?sd1, ?_⟩); (case sd1 => walk_at "sd"))
  | with_reducible refine ⟨_, _, rfl, ?_⟩
  | with_reducible refine .inl ⟨_, rfl, ?_⟩
  | dsimp only [List.set]
  | walk_at "rdx"
  | (refine fun _ _ => ?_))
local macro_rules | `(tactic| walk_at "rd") => `(tactic| repeat (first
  | (with_reducible show tVar _ _ _ _); refine s_var rfl ?_
  | with_reducible refine s_c ?_ | with_reducible refine s_op ?_ | with_reducible refine s_un ?_
  | with_reducible refine s_cons ?_ | with_reducible refine s_nil ?_ | with_reducible refine s_cb ?_
  | with_reducible refine s_test ?_ | with_reducible refine s_B ?_ | with_reducible refine s_not ?_ | with_reducible refine s_and ?_ | with_reducible refine s_or ?_
  | with_reducible refine s_if ?_ | with_reducible refine s_notV ?_ | with_reducible refine s_andV ?_ | with_reducible refine s_orV ?_
  | with_reducible refine s_orT ?_ | with_reducible refine s_andT ?_ | with_reducible refine s_chain ?_
  | with_reducible refine s_isi_int ?_ | with_reducible refine s_isi_int_bool ?_ | with_reducible refine s_isi_str ?_
  | with_reducible refine iteT ?_ | with_reducible refine iteF ?_ | with_reducible refine iteNT ?_ | with_reducible refine iteNF ?_
  | with_reducible refine s_isN ?_ | with_reducible refine s_notN ?_
  | ((with_reducible refine' s_2setE ?g1 ?_); (case g1 => first | (dsimp only [List.set, L2.wipe, List.map, List.foldl]; done) | (dsimp only [List.set, L2.wipe, List.map, List.foldl]; rfl)))
  | with_reducible refine s_seq ?_ | with_reducible refine s_ifS ?_ | with_reducible refine s_asg ?_ | with_reducible refine s_ret ?_ | with_reducible refine s_drop ?_ | with_reducible refine s_next ?_
  | ((with_reducible refine' s_gnameE ?g1 ?_); (case g1 => first | (dsimp only [List.set, L2.wipe, List.map, List.foldl]; done) | (dsimp only [List.set, L2.wipe, List.map, List.foldl]; rfl)))
  | with_reducible refine s_gsub ?_ | with_reducible refine s_gcons ?_ | with_reducible refine s_gnil ?_
  | (with_reducible show gTup _ _ _ _ _ _ _); refine s_gtup (by walk_at "hp") rfl ?_
  | with_reducible refine s_eqI ?_ | with_reducible refine s_neI ?_ | with_reducible refine s_eqS ?_ | with_reducible refine s_neB ?_ | with_reducible refine s_eqB ?_ | with_reducible refine s_neSr ?_ | with_reducible refine s_neS ?_
  | with_reducible refine s_I0 ?_
  | (with_reducible show rI _ _ _ _ _ _); refine s_I (by walk_at "sd") ?_
  | (with_reducible show rIxL _ _ _ _ _); refine s_ixL (by walk_at "hp") rfl ?_
  | (with_reducible show rIxT _ _ _ _ _); refine s_ixT (by walk_at "hp") rfl ?_
  | (with_reducible show rSetL _ _ _ _ _); refine s_setL (by walk_at "hp") rfl ?_
  | with_reducible refine s_prop ?_
  | (with_reducible show _ ≤ sizeLine ∧ _); refine ⟨le_size (by rfl), ?_⟩
  | with_reducible refine ite_NN ?_ | with_reducible refine ite_IN ?_ | with_reducible refine ite_nNN ?_ | with_reducible refine ite_nIN ?_ | with_reducible refine ite_RN ?_ | with_reducible refine ite_nRN ?_
  | with_reducible refine s_sfld ?_
  | ((with_reducible refine' ⟨_, _, _, _, rfl, ?fp1, ?fp2, ?fp3, ?fp4, ?_⟩); (case fp1 => walk_at "hp"); (case fp2 => assumption); (case fp3 => assumption); (case fp4 => walk_at "few"))
  | with_reducible refine s_fldE ?_
  | ((with_reducible refine' ⟨_, _, _, _, _, rfl, ?fp1, ?fp2, ?fp3, ?fp4, ?_⟩); (case fp1 => walk_at "hp"); (case fp2 => assumption); (case fp3 => assumption); (case fp4 => rfl))
  | with_reducible refine s_bm ?_ | with_reducible refine s_bm0 ?_
  | ((with_reducible refine' s_tyL ?ty1 ?_); (case ty1 => walk_at "hp"))
  | ((with_reducible refine' s_append ?ap1 ?ap2 ?_); (case ap1 => walk_at "hp"); (case ap2 => walk_at "sz"))
  | ((with_reducible refine' s_extend ?ap1 ?ap2 ?ap3 ?_); (case ap1 => walk_at "hp"); (case ap2 => walk_at "hp"); (case ap3 => walk_at "sz"))
  | with_reducible refine s_for (fun _ _ => ?_) | with_reducible refine s_lc ?_ | with_reducible refine s_iList ?_ | with_reducible refine s_iTup ?_ | with_reducible refine s_iRng1 ?_ | with_reducible refine s_iRng2 ?_
  | with_reducible refine s_yes ?_ | with_reducible refine s_par ?_
  | with_reducible refine s_make ?_ | with_reducible refine s_meth ?_
  | with_reducible refine s_tup ?_ | with_reducible refine s_lst ?_ | with_reducible refine s_call ?_
  | with_reducible refine ⟨rfl, ?_⟩
  | with_reducible refine ⟨_, rfl, ?_⟩
  | ((with_reducible refine' ⟨_, _, rfl, ?sd1, ?_⟩); (case sd1 => walk_at "sd"))
  | with_reducible refine ⟨_, _, rfl, ?_⟩
  | with_reducible refine .inl ⟨_, rfl, ?_⟩
  | dsimp only [List.set]
  | walk_at "rdx"
  | (refine fun _ _ => ?_)))

namespace My
open PySem L2
section
variable {P : Program} {w : World} {K : PySem.W.Frag} {mg : Str → Option Value} {base : Heap} {C_Many C_Ratio C_EachError C_InvalidCount C_InvalidNumber C_InvalidMany : Addr} (M : Md K mg C_Many C_Ratio C_EachError C_InvalidCount C_InvalidNumber C_InvalidMany)
include M
omit M
/-- the due order -/
def ah (p q : Int × Option Int) : Bool := ahead p.1 p.2 q.1 q.2
theorem ah_iff (p q : Int × Option Int) : ah p q = true ↔ p.1 < q.1 ∨ (p.1 = q.1 ∧ ∃ a, p.2 = some a ∧ ∀ b, q.2 = some b → a < b) := by
  obtain ⟨lo, hi⟩ := p
  obtain ⟨lo2, hi2⟩ := q
  unfold ah ahead
  by_cases e : lo = lo2
  · subst e
    cases hi <;> cases hi2 <;> simp
  · simp [e]
theorem swo_ah : SrtO.Swo ah where
  asym x y h := by
    rw [Bool.eq_false_iff]
    intro h2
    rw [ah_iff] at h h2
    rcases h with h | ⟨h, a, ea, ha⟩ <;> rcases h2 with h2 | ⟨h2, b, eb, hb⟩
    · omega
    · omega
    · omega
    · have u := ha _ eb
      have v := hb _ ea
      omega
  tr x y z h1 h2 := by
    rw [Bool.eq_false_iff] at *
    intro h3
    obtain ⟨x1, x2⟩ := x
    obtain ⟨y1, y2⟩ := y
    obtain ⟨z1, z2⟩ := z
    rw [ne_eq, ah_iff] at h1 h2
    rw [ah_iff] at h3
    dsimp only at h1 h2 h3
    rcases h3 with h3 | ⟨h3, a, rfl, ha⟩
    · by_cases e : y1 < x1
      · exact h1 (.inl e)
      · exact h2 (.inl (by omega))
    · by_cases e : y1 < x1
      · exact h1 (.inl e)
      · by_cases e2 : z1 < y1
        · exact h2 (.inl e2)
        · have e3 : z1 = y1 := by omega
          have e4 : y1 = x1 := by omega
          cases y2 with
          | none => exact h2 (.inr ⟨e3, a, rfl, fun b z => nomatch z⟩)
          | some b =>
            by_cases e5 : a < b
            · exact h2 (.inr ⟨e3, a, rfl, fun c z => by cases z; exact e5⟩)
            · refine h1 (.inr ⟨e4, b, rfl, fun c z => ?_⟩)
              have := ha c z
              omega
theorem ah_tot {p q : Int × Option Int} (h1 : ah p q = false) (h2 : ah q p = false) : p = q := by
  rw [Bool.eq_false_iff, ne_eq, ah_iff] at h1 h2
  obtain ⟨x1, x2⟩ := p
  obtain ⟨y1, y2⟩ := q
  dsimp only at h1 h2
  have e : x1 = y1 := by
    rcases Int.lt_trichotomy x1 y1 with h | h | h
    · exact absurd (.inl h) h1
    · exact h
    · exact absurd (.inl h) h2
  subst e
  cases x2 with
  | none =>
    cases y2 with
    | none => rfl
    | some b => exact absurd (.inr ⟨rfl, b, rfl, fun c z => nomatch z⟩) h2
  | some a =>
    cases y2 with
    | none => exact absurd (.inr ⟨rfl, a, rfl, fun c z => nomatch z⟩) h1
    | some b =>
      by_cases h : a < b
      · exact absurd (.inr ⟨rfl, a, rfl, fun c z => by cases z; exact h⟩) h1
      · by_cases h' : b < a
        · exact absurd (.inr ⟨rfl, b, rfl, fun c z => by cases z; exact h'⟩) h2
        · have : a = b := by omega
          rw [this]
/-- two sorted rows of the same pairs are the same row -/
theorem srtd_eq : ∀ {l m : List (Int × Option Int)}, SrtO.Srtd ah l → SrtO.Srtd ah m → l.Perm m → l = m
  | [], m, _, _, h => h.nil_eq
  | x :: l, [], _, _, h => h.eq_nil
  | x :: l, y :: m, h1, h2, h => by
    have hx : ∀ z ∈ y :: m, ah z x = false := fun z hz => by
      rcases List.mem_cons.mp (h.mem_iff.mpr hz) with rfl | hz
      · exact swo_ah.refl _
      · exact (List.pairwise_cons.mp h1).1 z hz
    have hy : ∀ z ∈ x :: l, ah z y = false := fun z hz => by
      rcases List.mem_cons.mp (h.mem_iff.mp hz) with rfl | hz
      · exact swo_ah.refl _
      · exact (List.pairwise_cons.mp h2).1 z hz
    obtain rfl : x = y := ah_tot (hy x List.mem_cons_self) (hx y List.mem_cons_self)
    rw [srtd_eq (List.pairwise_cons.mp h1).2 (List.pairwise_cons.mp h2).2 h.cons_inv]
/-- how many of a row a pair does not stand ahead of -/
def behind (p : Int × Option Int) (l : List (Int × Option Int)) : Nat := (l.filter fun q => !ah p q).length
def put (p : Int × Option Int) (l : List (Int × Option Int)) : List (Int × Option Int) := l.take (behind p l) ++ [p] ++ l.drop (behind p l)
theorem put_perm (p : Int × Option Int) (l : List (Int × Option Int)) : (put p l).Perm (p :: l) := by
  unfold put
  have h : (l.take (behind p l) ++ [p] ++ l.drop (behind p l)).Perm ([p] ++ l.take (behind p l) ++ l.drop (behind p l)) := List.Perm.append_right _ List.perm_append_comm
  rw [List.append_assoc [p], List.take_append_drop] at h
  exact h
theorem behind_cut (p : Int × Option Int) : ∀ {l : List (Int × Option Int)}, SrtO.Srtd ah l → l.take (behind p l) = l.filter (fun q => !ah p q) ∧ ∀ q ∈ l.drop (behind p l), ah p q = true
  | [], _ => ⟨rfl, fun q h => by cases h⟩
  | x :: l, h => by
    by_cases e : ah p x = true
    · have all : ∀ q ∈ x :: l, ah p q = true := fun q hq => by
        rcases List.mem_cons.mp hq with rfl | hq
        · exact e
        · exact swo_ah.ltle e ((List.pairwise_cons.mp h).1 q hq)
      have f : (x :: l).filter (fun q => !ah p q) = [] := List.filter_eq_nil_iff.mpr fun q hq => by rw [all q hq]; decide
      have b : behind p (x :: l) = 0 := by unfold behind; rw [f]; rfl
      rw [b, f]
      exact ⟨rfl, all⟩
    · have e' : (!ah p x) = true := by simpa using e
      have b : behind p (x :: l) = behind p l + 1 := by unfold behind; rw [List.filter_cons_of_pos (p := fun q => !ah p q) e']; rfl
      obtain ⟨i1, i2⟩ := behind_cut p (List.pairwise_cons.mp h).2
      rw [b, List.filter_cons_of_pos (p := fun q => !ah p q) e', List.take_succ_cons, i1]
      exact ⟨rfl, i2⟩
theorem put_srtd (p : Int × Option Int) {l : List (Int × Option Int)} (h : SrtO.Srtd ah l) : SrtO.Srtd ah (put p l) := by
  obtain ⟨c1, c2⟩ := behind_cut p h
  have hs := h
  rw [← List.take_append_drop (behind p l) l] at hs
  obtain ⟨s1, s2, s3⟩ := List.pairwise_append.mp hs
  unfold put
  refine List.pairwise_append.mpr ⟨List.pairwise_append.mpr ⟨s1, List.pairwise_singleton _ _, fun a ha b hb => ?_⟩, s2, fun a ha b hb => ?_⟩
  · obtain rfl := List.mem_singleton.mp hb
    rw [c1] at ha
    simpa using (List.mem_filter.mp ha).2
  · rcases List.mem_append.mp ha with ha | ha
    · exact s3 a ha b hb
    · obtain rfl := List.mem_singleton.mp ha
      exact swo_ah.asym _ _ (c2 b hb)
/-- the pairs in the due order -/
def due (ps : List (Int × Option Int)) : List (Int × Option Int) := ps.foldl (fun l p => put p l) []
theorem due_of (ps : List (Int × Option Int)) : ∀ l, SrtO.Srtd ah l → SrtO.Srtd ah (ps.foldl (fun l p => put p l) l) ∧ (ps.foldl (fun l p => put p l) l).Perm (l ++ ps) := by
  induction ps with
  | nil => exact fun l h => ⟨h, by rw [List.append_nil]; exact List.Perm.refl _⟩
  | cons p ps ih =>
    intro l h
    obtain ⟨i1, i2⟩ := ih _ (put_srtd p h)
    refine ⟨i1, i2.trans ?_⟩
    have z : (put p l ++ ps).Perm ((p :: l) ++ ps) := List.Perm.append_right _ (put_perm p l)
    refine z.trans ?_
    rw [List.cons_append]
    exact List.perm_middle.symm
theorem due_srtd (ps : List (Int × Option Int)) : SrtO.Srtd ah (due ps) := (due_of ps [] List.Pairwise.nil).1
theorem due_perm (ps : List (Int × Option Int)) : (due ps).Perm ps := (due_of ps [] List.Pairwise.nil).2
theorem due_is {l ps : List (Int × Option Int)} (h : SrtO.Srtd ah l) (p : l.Perm ps) : l = due ps := srtd_eq h (due_srtd ps) (p.trans (due_perm ps).symm)
theorem s_sl {σ : L2.St} {H : Hp} {Q : VK} {r : V → Option Int → Option Int → Hp → VK → Prop} {te : TE} {tl th : TO} (h : te σ H fun x H1 => tl σ H1 fun l H2 => th σ H2 fun u H3 => r x l u H3 Q) : L2.tSl r te tl th σ H Q := h
theorem s_noPart {σ : L2.St} {H : Hp} {Q : Option Int → Hp → Prop} (h : Q none H) : L2.tNoPart σ H Q := h
theorem s_part {σ : L2.St} {H : Hp} {t : TE} {Q : Option Int → Hp → Prop} (h : t σ H fun x H1 => ∃ i, x = .int i ∧ Q (some i) H1) : L2.tPart t σ H Q := h
theorem s_revL {K : PySem.W.Frag} {σ : L2.St} {H : Hp} {te : TE} {Q : VK} (h : te σ H fun x H1 => ∃ a xs, x = .ref a ∧ SqL K H1 a xs ∧ ∀ p, H1 p = none → Q (.ref p) (upd H1 p (.lst xs.reverse))) : tRevL K te σ H Q := h
local macro_rules | `(tactic| walk_at "rdx") => `(tactic| first | with_reducible refine s_ostG ?_ | with_reducible refine s_raE ?_ | with_reducible refine s_callX ?_ | with_reducible refine s_lstN ?_ | with_reducible refine s_makeX ?_ | with_reducible refine s_sl ?_ | with_reducible refine s_noPart ?_ | with_reducible refine s_part ?_)
theorem cut_take (xs : List V) (k : Nat) (h : k ≤ xs.length) : cutV xs none (some (k : Int)) = xs.take k := by
  unfold cutV
  rw [HT.sIx_none, HT.sIx_nat, Nat.min_eq_left h]
  rfl
theorem cut_drop (xs : List V) (k : Nat) (h : k ≤ xs.length) : cutV xs (some (k : Int)) none = xs.drop k := by
  unfold cutV
  rw [HT.sIx_none, HT.sIx_nat, Nat.min_eq_left h, ← List.length_drop, List.take_length]
theorem Rp.take {H : Hp} {vs : List V} {ps : List (Int × Option Int)} (h : Rp H vs ps) : ∀ n, Rp H (vs.take n) (ps.take n) := by
  induction h with
  | nil => exact fun n => by simp only [List.take_nil]; exact .nil
  | cons a b _ ih =>
    intro n
    cases n with
    | zero => exact .nil
    | succ n => exact .cons a b (ih n)
theorem Rp.drop {H : Hp} {vs : List V} {ps : List (Int × Option Int)} (h : Rp H vs ps) : ∀ n, Rp H (vs.drop n) (ps.drop n) := by
  induction h with
  | nil => exact fun n => by simp only [List.drop_nil]; exact .nil
  | cons a b h ih =>
    intro n
    cases n with
    | zero => exact .cons a b h
    | succ n => exact ih n
theorem Rp.app {H : Hp} {vs us : List V} {ps qs : List (Int × Option Int)} (h : Rp H vs ps) (g : Rp H us qs) : Rp H (vs ++ us) (ps ++ qs) := by
  induction h with
  | nil => exact g
  | cons a b _ ih => exact .cons a b ih
theorem Rp.get {H : Hp} {vs : List V} {ps : List (Int × Option Int)} (h : Rp H vs ps) : ∀ {i : Nat} {v : V}, vs[i]? = some v → ∃ t lo hi, v = .ref t ∧ ps[i]? = some (lo, hi) ∧ PairM H t lo hi ∧ OkR lo hi := by
  induction h with
  | nil => exact fun e => by cases e
  | cons a b h ih =>
    intro i v e
    cases i with
    | zero => cases e; exact ⟨_, _, _, rfl, rfl, a, b⟩
    | succ i => exact ih e
def spOrd : Sp := fun vs H Q _ => ∃ (L : Addr) (us : List V) (ps : List (Int × Option Int)), vs = [.ref L] ∧ H L = some (.lst us) ∧ Rp H us ps ∧ ps.length ≤ 9 ∧ ∀ (R : Addr) (ws : List V) (H' : Hp), L2.Same H H' → H' R = some (.lst ws) → Rp H' ws (due ps) → Q (.ref R) H'
include M
theorem c__law_ordered : Dn P w K mg base "_law_ordered" 5 ["_law_pairs_here"] [] spOrd := by
  have c__law_ahead := c__law_ahead (P := P) (w := w) (base := base) M
  refine dnN M.f__law_ordered (fun F => ?_) (fun _ _ _ _ _ _ us hl => match us, hl with | [_], _ => rfl)
  refine fnG_body F sc__law_ordered (fun vs H Q E h => ?_) (fun cdv A outer s H vs Q E hr h => ?_)
  · obtain ⟨L, us, ps, rfl, _⟩ := h
    rfl
  · obtain ⟨L, us, ps, rfl, eL, rp, l9, q⟩ := h
    refine ⟨_, (pss_cons (ps_set (i := 1) sc__law_ordered.nd rfl (.inl rfl) (pe_lstN pa_nil)) (pss_cons (ps_for (passes_of rfl) rfl (pi_list (pv 0)) (pg_name (i := 2) sc__law_ordered.nd rfl (.inr rfl)) (pss_cons (ps_set (i := 3) sc__law_ordered.nd rfl (.inl rfl) (pe_callB call_len_seq (by rfl) M.b_len (by decide +kernel) (pa_cons (pe_lc (own := [("_law_one", 4)]) (g := gName 4) (tt := _) (by rfl) sc__law_ordered.nd (pi_list (pv 1)) (blkOk_by (own := [("_law_one", 4)]) (N := N__law_ordered) (sc := defScope st__law_ordered) (by decide +kernel)) (fun _ _ _ _ _ => pg_name (i := 4) sc__law_ordered.nd rfl (by first | exact Or.inl rfl | exact Or.inr rfl)) (fun _ _ _ _ _ => pts_one (pt_not (pt_val (pe_callD c__law_ahead (hr.mono (by decide)) rfl (pa_cons (pv 2) (pa_cons (pv 4) pa_nil)))))) (fun _ _ _ _ _ => (pv 4))) pa_nil))) (pss_one (ps_set (i := 1) sc__law_ordered.nd rfl (.inl rfl) (pe_op op_cat (pe_op op_cat (pe_slice sl_listN (pv 1) po_none (po_some (pv 3))) (pe_lstN (pa_cons (pv 2) pa_nil))) (pe_slice sl_listN (pv 1) (po_some (pv 3)) po_none)))))) (pss_one (ps_ret (pv 1))))), ?_⟩
    refine st_eq (σ := [some _, none, none, none, none]) rfl ?_
    walk_at "rd"
    rename_i L0 nL0
    intro dL0
    have eL0 : (upd H L0 (.lst [])) L0 = some (.lst []) := upd_same
    have s0 := My.Same.new (o := .lst []) nL0
    have eLL := s0 _ _ eL
    generalize upd H L0 (.lst []) = G0 at *
    walk_at "rd"
    rename_i DE eDE
    refine ⟨⟨_, SqL.of eLL⟩, for_it (walk_list (xs := us)) (fun i σ H' => L2.Same H H' ∧ ∃ (F : Addr) (ws : List V) (v2 v3 v4 : Option V), σ = [some (.ref L), some (.ref F), v2, v3, v4] ∧ H' F = some (.lst ws) ∧ Rp H' ws (due (ps.take i)) ∧ i ≤ 9) ?_ (fun i σ H' _ z => SqL.of (z.1 _ _ eL)) ?_ ?_⟩
    · exact ⟨s0, L0, [], _, _, _, rfl, eL0, .nil, by omega⟩
    · rintro i v σ Ha Hb hi ⟨s1, F1, ws, v2, v3, v4, rfl, eF, rp1, i9⟩ ⟨rfl, hv⟩
      obtain ⟨t, lo, h2, rfl, hps, et0, ok⟩ := rp.get hv
      have et : PairM Hb t lo h2 := s1 _ _ et0
      rw [eDE]
      walk_at "rd"
      have la : (due (ps.take i)).length ≤ 9 := by
        rw [(due_perm _).length_eq, List.length_take]
        omega
      refine ⟨⟨_, SqL.of eF⟩, fun W nW => lc_it (walk_list (xs := ws)) (fun j H' => L2.Same Hb H' ∧ ∃ xs : List V, H' W = some (.lst xs) ∧ xs.length = (((due (ps.take i)).take j).filter fun q => !ah (lo, h2) q).length) ?_ (fun j H' _ z => SqL.of (z.1 _ _ eF)) ?_ ?_⟩
      · exact ⟨My.Same.new nW, [], upd_same, rfl⟩
      · rintro j v2 Hc Hd hj ⟨s2, xs, eW, lx⟩ ⟨rfl, hv2⟩
        obtain ⟨t2, lo2, h22, rfl, hps2, et2, ok2⟩ := rp1.get hv2
        walk_at "rd"
        refine ⟨t, t2, lo, lo2, h2, h22, rfl, s2 _ _ et, s2 _ _ et2, ?_⟩
        have fs : ((due (ps.take i)).take (j + 1)).filter (fun q => !ah (lo, h2) q) = ((due (ps.take i)).take j).filter (fun q => !ah (lo, h2) q) ++ (if (!ah (lo, h2) (lo2, h22)) = true then [(lo2, h22)] else []) := by
          rw [List.take_add_one, List.filter_append, hps2]
          show _ ++ List.filter _ [(lo2, h22)] = _
          rw [List.filter_cons]
          rfl
        have hl : (((due (ps.take i)).take j).filter fun q => !ah (lo, h2) q).length ≤ 9 := Nat.le_trans (List.length_filter_le _ _) (Nat.le_trans (List.length_take_le' _ _) la)
        cases hb : ah (lo, h2) (lo2, h22) with
        | false =>
          rw [hb] at fs
          refine ⟨false, (congrArg V.bl hb : _), ?_⟩
          rw [if_pos (show (!false) = true from rfl)]
          walk_at "rd"
          refine ⟨_, eW, ?_, My.Same.at_ nW s2, _, upd_same, ?_⟩
          · rw [sizeLine_eq]
            omega
          · rw [fs, if_pos (show (!false) = true from rfl), List.length_append, List.length_append, lx]
            rfl
        | true =>
          rw [hb] at fs
          refine ⟨true, (congrArg V.bl hb : _), ?_⟩
          rw [if_neg (by decide)]
          refine ⟨s2, xs, eW, ?_⟩
          rw [fs, if_neg (by decide), List.append_nil]
          exact lx
      rintro Hc ⟨s2, xs, eW, lx⟩
      rw [rp1.len, List.take_length] at lx
      walk_at "rd"
      refine ⟨W, xs, rfl, .inl (SqL.of eW), ?_⟩
      have lb : xs.length = behind (lo, h2) (due (ps.take i)) := lx
      have etc := s2 _ _ et
      have rpc := rp1.on fun c ys e => s2 _ _ e
      have eFc := s2 _ _ eF
      have s1c := s1.trans s2
      clear lx eW nW s2
      have lw : xs.length ≤ ws.length := by
        rw [lb, rp1.len]
        exact Nat.le_trans (List.length_filter_le _ _) (Nat.le_refl _)
      have lw9 : ws.length ≤ 9 := by rw [rp1.len]; exact la
      walk_at "rd"
      refine ⟨F1, ws, rfl, SqL.of eFc, fun S1 nS1 dS1 => ?_⟩
      rw [cut_take ws _ lw]
      have s3 := My.Same.new (o := .lst (ws.take xs.length)) nS1
      have e3 : (upd Hc S1 (.lst (ws.take xs.length))) S1 = some (.lst (ws.take xs.length)) := upd_same
      have s1d := s1c.trans s3
      have etd := s3 _ _ etc
      have rpd := rpc.on fun c ys e => s3 _ _ e
      have eFd := s3 _ _ eFc
      generalize upd Hc S1 (.lst (ws.take xs.length)) = Hd at *
      clear s3 nS1 dS1 s1c etc rpc eFc
      walk_at "rd"
      rename_i S2 nS2
      intro dS2
      have s3 := My.Same.new (o := .lst [.ref t]) nS2
      have e4 : (upd Hd S2 (.lst [.ref t])) S2 = some (.lst [.ref t]) := upd_same
      have e3 := s3 _ _ e3
      have s1e := s1d.trans s3
      have ete := s3 _ _ etd
      have rpe := rpd.on fun c ys e => s3 _ _ e
      have eFe := s3 _ _ eFd
      generalize upd Hd S2 (.lst [.ref t]) = He at *
      clear s3 nS2 dS2 s1d etd rpd eFd
      refine ⟨S1, S2, _, _, rfl, rfl, e3, e4, by rw [List.length_take, sizeLine_eq]; show min _ _ + 1 ≤ _; omega, fun S3 nS3 => ?_⟩
      have s3 := My.Same.new (o := .lst (ws.take xs.length ++ [.ref t])) nS3
      have e5 : (upd He S3 (.lst (ws.take xs.length ++ [.ref t]))) S3 = some (.lst (ws.take xs.length ++ [.ref t])) := upd_same
      have s1f := s1e.trans s3
      have etf := s3 _ _ ete
      have rpf := rpe.on fun c ys e => s3 _ _ e
      have eFf := s3 _ _ eFe
      generalize upd He S3 (.lst (ws.take xs.length ++ [.ref t])) = Hf at *
      clear s3 nS3 s1e ete rpe eFe e3 e4
      walk_at "rd"
      refine ⟨F1, ws, rfl, SqL.of eFf, fun S4 nS4 dS4 => ?_⟩
      rw [cut_drop ws _ lw]
      have s3 := My.Same.new (o := .lst (ws.drop xs.length)) nS4
      have e6 : (upd Hf S4 (.lst (ws.drop xs.length))) S4 = some (.lst (ws.drop xs.length)) := upd_same
      have e5 := s3 _ _ e5
      have s1g := s1f.trans s3
      have etg := s3 _ _ etf
      have rpg := rpf.on fun c ys e => s3 _ _ e
      generalize upd Hf S4 (.lst (ws.drop xs.length)) = Hg at *
      clear s3 nS4 dS4 s1f etf rpf eFf
      refine ⟨S3, S4, _, _, rfl, rfl, e5, e6, by rw [List.length_append, List.length_take, List.length_drop, sizeLine_eq]; show min _ _ + 1 + _ ≤ _; omega, fun S5 nS5 => ?_⟩
      have s3 := My.Same.new (o := .lst (ws.take xs.length ++ [.ref t] ++ ws.drop xs.length)) nS5
      have rph := rpg.on fun c ys e => s3 _ _ e
      walk_at "rd"
      refine ⟨s1g.trans s3, S5, _, _, _, _, rfl, upd_same, ?_, by have := rp.len; omega⟩
      have ed : due (ps.take (i + 1)) = put (lo, h2) (due (ps.take i)) := by
        unfold due
        rw [List.take_add_one, hps, List.foldl_append]
        rfl
      rw [ed]
      unfold put
      rw [← lb]
      exact ((rph.take _).app (.cons (s3 _ _ etg) ok .nil)).app (rph.drop _)
    · rintro σ H1 ⟨s1, F1, ws, v2, v3, v4, rfl, eF, rp1, i9⟩
      rw [eDE]
      walk_at "rd"
      rw [rp.len, List.take_length] at rp1
      exact q F1 ws H1 s1 eF rp1
end
end My
end
section
open My L2 PySem
open My L2 PySem
local macro_rules | `(tactic| walk_at "as") => `(tactic| with_reducible assumption)
local macro_rules | `(tactic| walk_at "hp") => `(tactic| first
  | walk_at "as" | exact upd_same
  | (rw [upd_ne (by walk_at "ne")]; walk_at "hp")
  | (refine But.get (by walk_at "as") ?hp1 ?hp2; (case hp1 => walk_at "hp"); (case hp2 => walk_at "ne"))
  | (refine My.Same.get (by walk_at "as") ?hp1; (case hp1 => walk_at "hp")))
local macro_rules | `(tactic| walk_at "ne") => `(tactic| first
  | walk_at "as" | exact Ne.symm (by walk_at "as")
  | (refine' ne_of_none ?ne1 ?ne2; (case ne2 => walk_at "as"); (case ne1 => walk_at "hp"))
  | (refine' Ne.symm (ne_of_none ?ne1 ?ne2); (case ne2 => walk_at "as"); (case ne1 => walk_at "hp"))
  | exact ne_of (by walk_at "hp") (by walk_at "hp") (by intro z; cases z))
local macro_rules | `(tactic| walk_at "sd") => `(tactic| first
  | walk_at "as" | omega | decide | exact ⟨by omega, by omega⟩ | exact .inl ⟨by omega, by omega⟩ | exact .inr ⟨by omega, by omega⟩ | exact divp_wide (by walk_at "as") (by walk_at "as") | exact Sm.cmul (by walk_at "as") (by walk_at "as") | exact cmul_small (by omega) (by omega) (by omega) (by omega) | exact ⟨by omega, by decide⟩)
local macro_rules | `(tactic| walk_at "bt") => `(tactic| first
  | walk_at "as" | exact But.refl _ _ | exact Same.but (by walk_at "as")
  | (refine But.trans ?bt1 But.at; (case bt1 => walk_at "bt"))
  | (refine But.trans ?bt1 (But.new (by first | walk_at "as" | walk_at "hp")); (case bt1 => walk_at "bt"))
  | (refine But.trans ?bt1 (by walk_at "as"); (case bt1 => walk_at "bt"))
  | (refine But.trans ?bt1 (Same.but (by walk_at "as")); (case bt1 => walk_at "bt")))
local macro_rules | `(tactic| walk_at "sm") => `(tactic| first
  | walk_at "as" | exact My.Same.rfl' _
  | (refine' My.Same.at_ ?sm1 ?sm2; (case sm1 => walk_at "as"); (case sm2 => walk_at "sm"))
  | (refine' My.Same.tr ?sm1 (My.Same.new ?sm2); (case sm2 => walk_at "as"); (case sm1 => walk_at "sm"))
  | (refine' My.Same.tr ?sm1 ?sm2; (case sm2 => walk_at "as"); (case sm1 => walk_at "sm")))
local macro_rules | `(tactic| walk_at "sz") => `(tactic| first
  | assumption | exact lt_size (by rfl) | exact le_size (by rfl) | (rw [sizeLine_eq]; omega)
  | (rw [sizeLine_eq]; simp only [List.length_append, List.length_map, List.length_cons, List.length_nil]; omega))
local macro_rules | `(tactic| walk_at "few") => `(tactic| (repeat refine few_put ?_); exact few0)
local macro_rules | `(tactic| walk_at "rd1") => `(tactic| first
  | (with_reducible show tVar _ _ _ _); refine s_var rfl ?_
  | with_reducible refine s_c ?_ | with_reducible refine s_op ?_ | with_reducible refine s_un ?_
  | with_reducible refine s_cons ?_ | with_reducible refine s_nil ?_ | with_reducible refine s_cb ?_
  | with_reducible refine s_test ?_ | with_reducible refine s_B ?_ | with_reducible refine s_not ?_ | with_reducible refine s_and ?_ | with_reducible refine s_or ?_
  | with_reducible refine s_if ?_ | with_reducible refine s_notV ?_ | with_reducible refine s_andV ?_ | with_reducible refine s_orV ?_
  | with_reducible refine s_orT ?_ | with_reducible refine s_andT ?_ | with_reducible refine s_chain ?_
  | with_reducible refine s_isi_int ?_ | with_reducible refine s_isi_int_bool ?_ | with_reducible refine s_isi_str ?_
  | with_reducible refine iteT ?_ | with_reducible refine iteF ?_ | with_reducible refine iteNT ?_ | with_reducible refine iteNF ?_
  | with_reducible refine s_isN ?_ | with_reducible refine s_notN ?_
  | ((with_reducible refine' s_2setE ?g1 ?_); (case g1 => first | (dsimp only [List.set, L2.wipe, List.map, List.foldl]; done) | (dsimp only [List.set, L2.wipe, List.map, List.foldl]; rfl)))
  | with_reducible refine s_seq ?_ | with_reducible refine s_ifS ?_ | with_reducible refine s_asg ?_ | with_reducible refine s_ret ?_ | with_reducible refine s_drop ?_ | with_reducible refine s_next ?_
  | ((with_reducible refine' s_gnameE ?g1 ?_); (case g1 => first | (dsimp only [List.set, L2.wipe, List.map, List.foldl]; done) | (dsimp only [List.set, L2.wipe, List.map, List.foldl]; rfl)))
  | with_reducible refine s_gsub ?_ | with_reducible refine s_gcons ?_ | with_reducible refine s_gnil ?_
  | (with_reducible show gTup _ _ _ _ _ _ _); refine s_gtup (by walk_at "hp") rfl ?_
  | with_reducible refine s_eqI ?_ | with_reducible refine s_neI ?_ | with_reducible refine s_eqS ?_ | with_reducible refine s_neB ?_ | with_reducible refine s_eqB ?_ | with_reducible refine s_neSr ?_ | with_reducible refine s_neS ?_
  | with_reducible refine s_I0 ?_
  | (with_reducible show rI _ _ _ _ _ _); refine s_I (by walk_at "sd") ?_
  | (with_reducible show rIxL _ _ _ _ _); refine s_ixL (by walk_at "hp") rfl ?_
  | (with_reducible show rIxT _ _ _ _ _); refine s_ixT (by walk_at "hp") rfl ?_
  | (with_reducible show rSetL _ _ _ _ _); refine s_setL (by walk_at "hp") rfl ?_
  | with_reducible refine s_prop ?_
  | (with_reducible show _ ≤ sizeLine ∧ _); refine ⟨le_size (by rfl), ?_⟩
  | with_reducible refine ite_NN ?_ | with_reducible refine ite_IN ?_ | with_reducible refine ite_nNN ?_ | with_reducible refine ite_nIN ?_ | with_reducible refine ite_RN ?_ | with_reducible refine ite_nRN ?_
  | with_reducible refine s_sfld ?_
  | ((with_reducible refine' ⟨_, _, _, _, rfl, ?fp1, ?fp2, ?fp3, ?fp4, ?_⟩); (case fp1 => walk_at "hp"); (case fp2 => assumption); (case fp3 => assumption); (case fp4 => walk_at "few"))
  | with_reducible refine s_fldE ?_
  | ((with_reducible refine' ⟨_, _, _, _, _, rfl, ?fp1, ?fp2, ?fp3, ?fp4, ?_⟩); (case fp1 => walk_at "hp"); (case fp2 => assumption); (case fp3 => assumption); (case fp4 => rfl))
  | with_reducible refine s_bm ?_ | with_reducible refine s_bm0 ?_
  | ((with_reducible refine' s_tyL ?ty1 ?_); (case ty1 => walk_at "hp"))
  | ((with_reducible refine' s_append ?ap1 ?ap2 ?_); (case ap1 => walk_at "hp"); (case ap2 => walk_at "sz"))
  | ((with_reducible refine' s_extend ?ap1 ?ap2 ?ap3 ?_); (case ap1 => walk_at "hp"); (case ap2 => walk_at "hp"); (case ap3 => walk_at "sz"))
  | with_reducible refine s_for (fun _ _ => ?_) | with_reducible refine s_lc ?_ | with_reducible refine s_iList ?_ | with_reducible refine s_iTup ?_ | with_reducible refine s_iRng1 ?_ | with_reducible refine s_iRng2 ?_
  | with_reducible refine s_yes ?_ | with_reducible refine s_par ?_
  | with_reducible refine s_make ?_ | with_reducible refine s_meth ?_
  | with_reducible refine s_tup ?_ | with_reducible refine s_lst ?_ | with_reducible refine s_call ?_
  | with_reducible refine ⟨rfl, ?_⟩
  | with_reducible refine ⟨_, rfl, ?_⟩
  | ((with_reducible refine' ⟨_, _, rfl, ?sd1, ?_⟩); (case sd1 => walk_at "sd"))
  | with_reducible refine ⟨_, _, rfl, ?_⟩
  | with_reducible refine .inl ⟨_, rfl, ?_⟩
  | dsimp only [List.set]
  | walk_at "rdx"
  | (refine fun _ _ => ?_))
local macro_rules | `(tactic| walk_at "rd") => `(tactic| repeat (first
  | (with_reducible show tVar _ _ _ _); refine s_var rfl ?_
  | with_reducible refine s_c ?_ | with_reducible refine s_op ?_ | with_reducible refine s_un ?_
  | with_reducible refine s_cons ?_ | with_reducible refine s_nil ?_ | with_reducible refine s_cb ?_
  | with_reducible refine s_test ?_ | with_reducible refine s_B ?_ | with_reducible refine s_not ?_ | with_reducible refine s_and ?_ | with_reducible refine s_or ?_
  | with_reducible refine s_if ?_ | with_reducible refine s_notV ?_ | with_reducible refine s_andV ?_ | with_reducible refine s_orV ?_
  | with_reducible refine s_orT ?_ | with_reducible refine s_andT ?_ | with_reducible refine s_chain ?_
  | with_reducible refine s_isi_int ?_ | with_reducible refine s_isi_int_bool ?_ | with_reducible refine s_isi_str ?_
  | with_reducible refine iteT ?_ | with_reducible refine iteF ?_ | with_reducible refine iteNT ?_ | with_reducible refine iteNF ?_
  | with_reducible refine s_isN ?_ | with_reducible refine s_notN ?_
  | ((with_reducible refine' s_2setE ?g1 ?_); (case g1 => first | (dsimp only [List.set, L2.wipe, List.map, List.foldl]; done) | (dsimp only [List.set, L2.wipe, List.map, List.foldl]; rfl)))
  | with_reducible refine s_seq ?_ | with_reducible refine s_ifS ?_ | with_reducible refine s_asg ?_ | with_reducible refine s_ret ?_ | with_reducible refine s_drop ?_ | with_reducible refine s_next ?_
  | ((with_reducible refine' s_gnameE ?g1 ?_); (case g1 => first | (dsimp only [List.set, L2.wipe, List.map, List.foldl]; done) | (dsimp only [List.set, L2.wipe, List.map, List.foldl]; rfl)))
  | with_reducible refine s_gsub ?_ | with_reducible refine s_gcons ?_ | with_reducible refine s_gnil ?_
  | (with_reducible show gTup _ _ _ _ _ _ _); refine s_gtup (by walk_at "hp") rfl ?_
  | with_reducible refine s_eqI ?_ | with_reducible refine s_neI ?_ | with_reducible refine s_eqS ?_ | with_reducible refine s_neB ?_ | with_reducible refine s_eqB ?_ | with_reducible refine s_neSr ?_ | with_reducible refine s_neS ?_
  | with_reducible refine s_I0 ?_
  | (with_reducible show rI _ _ _ _ _ _); refine s_I (by walk_at "sd") ?_
  | (with_reducible show rIxL _ _ _ _ _); refine s_ixL (by walk_at "hp") rfl ?_
  | (with_reducible show rIxT _ _ _ _ _); refine s_ixT (by walk_at "hp") rfl ?_
  | (with_reducible show rSetL _ _ _ _ _); refine s_setL (by walk_at "hp") rfl ?_
  | with_reducible refine s_prop ?_
  | (with_reducible show _ ≤ sizeLine ∧ _); refine ⟨le_size (by rfl), ?_⟩
  | with_reducible refine ite_NN ?_ | with_reducible refine ite_IN ?_ | with_reducible refine ite_nNN ?_ | with_reducible refine ite_nIN ?_ | with_reducible refine ite_RN ?_ | with_reducible refine ite_nRN ?_
  | with_reducible refine s_sfld ?_
  | ((with_reducible refine' ⟨_, _, _, _, rfl, ?fp1, ?fp2, ?fp3, ?fp4, ?_⟩); (case fp1 => walk_at "hp"); (case fp2 => assumption); (case fp3 => assumption); (case fp4 => walk_at "few"))
  | with_reducible refine s_fldE ?_
  | ((with_reducible refine' ⟨_, _, _, _, _, rfl, ?fp1, ?fp2, ?fp3, ?fp4, ?_⟩); (case fp1 => walk_at "hp"); (case fp2 => assumption); (case fp3 => assumption); (case fp4 => rfl))
  | with_reducible refine s_bm ?_ | with_reducible refine s_bm0 ?_
  | ((with_reducible refine' s_tyL ?ty1 ?_); (case ty1 => walk_at "hp"))
  | ((with_reducible refine' s_append ?ap1 ?ap2 ?_); (case ap1 => walk_at "hp"); (case ap2 => walk_at "sz"))
  | ((with_reducible refine' s_extend ?ap1 ?ap2 ?ap3 ?_); (case ap1 => walk_at "hp"); (case ap2 => walk_at "hp"); (case ap3 => walk_at "sz"))
  | with_reducible refine s_for (fun _ _ => ?_) | with_reducible refine s_lc ?_ | with_reducible refine s_iList ?_ | with_reducible refine s_iTup ?_ | with_reducible refine s_iRng1 ?_ | with_reducible refine s_iRng2 ?_
  | with_reducible refine s_yes ?_ | with_reducible refine s_par ?_
  | with_reducible refine s_make ?_ | with_reducible refine s_meth ?_
  | with_reducible refine s_tup ?_ | with_reducible refine s_lst ?_ | with_reducible refine s_call ?_
  | with_reducible refine ⟨rfl, ?_⟩
  | with_reducible refine ⟨_, rfl, ?_⟩
  | ((with_reducible refine' ⟨_, _, rfl, ?sd1, ?_⟩); (case sd1 => walk_at "sd"))
  | with_reducible refine ⟨_, _, rfl, ?_⟩
  | with_reducible refine .inl ⟨_, rfl, ?_⟩
  | dsimp only [List.set]
  | walk_at "rdx"
  | (refine fun _ _ => ?_)))

namespace My
open PySem L2
section
variable {P : Program} {w : World} {K : PySem.W.Frag} {mg : Str → Option Value} {base : Heap} {C_Many C_Ratio C_EachError C_InvalidCount C_InvalidNumber C_InvalidMany : Addr} (M : Md K mg C_Many C_Ratio C_EachError C_InvalidCount C_InvalidNumber C_InvalidMany)
include M
local macro_rules | `(tactic| walk_at "rdx") => `(tactic| first | with_reducible refine s_notVO ?_ | with_reducible refine s_ostG ?_ | with_reducible refine s_raE ?_ | with_reducible refine s_callX ?_ | with_reducible refine s_opX ?_ | with_reducible refine s_reflX ?_ | with_reducible refine s_lstN ?_ | with_reducible refine s_makeX ?_)
omit M
/-- the text of a Many -/
def stx (lo : Int) : Option Int → Str
  | none => Str.empty ++ numT lo ++ "..*"
  | some h => if lo = h then numT lo else Str.empty ++ numT lo ++ ".." ++ numT h
def spStr (C : Addr) : Sp := fun vs H Q _ => ∃ (x : Addr) (lo : Int) (hi : Option Int), vs = [.ref x] ∧ ManyAt C H x lo hi ∧ 0 ≤ lo ∧ (∀ h, hi = some h → 0 ≤ h) ∧ Sm 1900 lo ∧ (∀ h, hi = some h → Sm 1900 h) ∧ Q (.str (stx lo hi)) H
theorem RatioAt.same {C x : Addr} {H H' : Hp} {p q : Int} (h : RatioAt C H x p q) (s : L2.Same H H') : RatioAt C H' x p q := by
  obtain ⟨dx, e⟩ := h
  exact ⟨dx, s _ _ e⟩
theorem rmake_ok {K : PySem.W.Frag} {L : List Addr} {C CC CN : Addr} {H0 H : Hp} {x dx : Addr} {p q : Int} {Q : VK} (nx : H0 x = none) (s : L2.Same H0 H) (hx : H x = some (.ins C dx [])) (p0 : 0 ≤ p) (q1 : 1 ≤ q) (sm : Sm 900 q) (k : ∀ H', L2.Same H0 H' → RatioAt C H' x (p / gc p q) (q / gc p q) → Q .non H') :
    spRInitX K L C CC CN [.ref x, .int p, .int q] H Q E0 :=
  ⟨x, dx, .int p, .int q, _, _, rfl, hx, AnyV.int p, AnyV.int q, .inr (.inr ⟨p, q, rfl, rfl, p0, q1, sm, fun H' b m => k H' (b.same s nx) m⟩)⟩
theorem rmake_new {K : PySem.W.Frag} {L : List Addr} {C CC CN : Addr} {H0 : Hp} {x dx : Addr} {p q : Int} {Q : VK} (nx : H0 x = none) (nd : H0 dx = none) (p0 : 0 ≤ p) (q1 : 1 ≤ q) (sm : Sm 900 q) (k : ∀ H', L2.Same H0 H' → RatioAt C H' x (p / gc p q) (q / gc p q) → Q .non H') :
    spRInitX K L C CC CN [.ref x, .int p, .int q] (L2.upd (L2.upd H0 dx (.own x)) x (.ins C dx [])) Q E0 :=
  rmake_ok nx (My.Same.at_ (o := .ins C dx []) nx (My.Same.new (o := .own x) nd)) upd_same p0 q1 sm k
theorem cmp_odd {K : PySem.W.Frag} {L : List Addr} {C : Addr} {H : Hp} {x : Addr} {y : V} {t : Value} {lo : Int} {hi : Option Int} {QQ : VK} (nf : (aTys L).all (PySem.W.notFirst K C) = true) (mx : ManyAt C H x lo hi) (a : AnyV K L H y t) (nt : t ≠ .ref C) (k : QQ (.bl false) H) :
    ∃ (a dx : Addr) (fs : List (Str × V)) (t : Value), V.ref x = .ref a ∧ H a = some (.ins C dx fs) ∧ TyX K H y t ∧ PySem.W.notFirst K C t = true ∧ spEqG K L C [.ref a, y] H QQ E0 := by
  obtain ⟨dx, kx, e, _⟩ := id mx
  exact ⟨x, dx, _, t, rfl, e, a.ty, List.all_eq_true.mp nf t a.mem, x, y, lo, hi, rfl, mx, .inr ⟨t, a, nt, k⟩⟩
/-- odd == one, odd of a built-in kind or a Ratio -/
inductive OddV (CR : Addr) (H : Hp) : V → Value → Prop where
  | left {v : V} {t : Value} (e : LeftV H v) : OddV CR H v t
  | ratio {x : Addr} {p q : Int} (m : RatioAt CR H x p q) : OddV CR H (.ref x) (.ref CR)
theorem cmp_back {K : PySem.W.Frag} {L : List Addr} {C CR : Addr} {H : Hp} {x : Addr} {y : V} {t : Value} {lo : Int} {hi : Option Int} {QQ : VK} (nfR : (aTys L).all (PySem.W.notFirst K CR) = true) (z : ∀ {H : Hp} {a dx : Addr} {fs : List (Str × V)}, H a = some (.ins C dx fs) → TyOf K H (.ref a) (.ref C)) (memC : C ∈ L) (ne : C ≠ CR) (mx : ManyAt C H x lo hi) (a : AnyV K L H y t) (nt : t ≠ .ref C) (o : OddV CR H y t) (k : QQ (.bl false) H) :
    (∃ (a dx : Addr) (fs : List (Str × V)) (t : Value), y = .ref a ∧ H a = some (.ins CR dx fs) ∧ TyX K H (.ref x) t ∧ PySem.W.notFirst K CR t = true ∧ spREq K L CR [.ref a, .ref x] H QQ E0) ∨
    (∃ (a dx : Addr) (fs : List (Str × V)), V.ref x = .ref a ∧ H a = some (.ins C dx fs) ∧ LeftV H y ∧ spEqG K L C [.ref a, y] H QQ E0) := by
  obtain ⟨dx, kx, e, _⟩ := id mx
  have ax := AnyV.own (K := K) z memC e
  cases o with
  | left l => exact .inr ⟨x, dx, _, rfl, e, l, x, y, lo, hi, rfl, mx, .inr ⟨t, a, nt, k⟩⟩
  | ratio m =>
    rename_i u p q
    obtain ⟨du, eu⟩ := id m
    exact .inl ⟨u, du, _, _, rfl, eu, ax.ty, List.all_eq_true.mp nfR _ ax.mem, u, _, p, q, rfl, m, .inr ⟨_, ax, (fun w => ne (by cases w; rfl)), k⟩⟩
theorem OkR.okB {lo : Int} {hi : Option Int} (h : OkR lo hi) : OkB lo hi := by
  refine ⟨h.1, fun m e => ?_, ?_⟩
  · have := (h.2.2 m e).1
    have := h.1
    omega
  · cases hi with
    | none => rfl
    | some m => exact decide_eq_true (h.2.2 m rfl).1
theorem OkR.sm {lo : Int} {hi : Option Int} (h : OkR lo hi) : Sm 1900 lo ∧ ∀ m, hi = some m → Sm 1900 m :=
  ⟨Sm.le h.1 h.2.1 (by decide +kernel), fun m e => Sm.le (h.okB.2.1 m e) (h.2.2 m e).2 (by decide +kernel)⟩
theorem ah_refl (lo : Int) (hi : Option Int) : ahead lo hi lo hi = false := swo_ah.refl (lo, hi)
theorem cutG {i : Nat} {σ : L2.St} {H : Hp} {T : L2.St → Hp → Prop} {v : V} {A : Prop} (h1 : L2.gName i v σ H T → A) (h2 : L2.gName i v σ H T) : A := h1 h2
theorem two_d (a b : Bool) : (PyData.list [.bool a, .bool b]).depth ≤ 64 := by
  cases a <;> cases b <;> decide +kernel
def spAlone : Sp := fun vs H Q _ => ∃ (t : Addr) (lo : Int) (hi : Option Int), vs = [.ref t] ∧ PairM H t lo hi ∧ OkR lo hi ∧ ∀ H', L2.Same H H' → Q (.bl true) H'
include M
theorem c_Many___repr__ : Mtn P w K mg base C_Many "__repr__" 1 ["self"] [] (spMRep C_Many) := by
  obtain ⟨f, fd, ds, c, hm, F, hb, hd⟩ := (d_Many___repr__ (P := P) (w := w) (base := base) M).ex
  exact ⟨f, fd, ds, c, hm, FnG.of F, hb, hd⟩
theorem c_Many___str__ : Mtn P w K mg base C_Many "__str__" 1 ["self"] [] (spStr C_Many) := by
  refine mtN M.e_Many___str__ M.k_Many (fun F => ?_) (fun _ _ _ _ _ _ us hl => match us, hl with | [_], _ => rfl)
  refine fnG_body F sc_Many___str__ (fun vs H Q E h => ?_) (fun cdv A outer s H vs Q E hr h => ?_)
  · obtain ⟨x, l, hh, rfl, _⟩ := h
    rfl
  · obtain ⟨x, lo, hi, rfl, ⟨dx, t, e, et⟩, z0, z1, s1, s2, q⟩ := h
    refine ⟨_, (pss_cons (ps_if (pt_cmpR op_isN (pe_fld (pv 0) rfl) pe_non (nomark _)) (pss_one (ps_ret (pe_joined (.cons (pe_fmt (pe_fld (pv 0) rfl)) (.cons pe_str .nil))))) pss_nil) (pss_cons (ps_if (pt_cmpR op_eq (pe_fld (pv 0) rfl) (pe_fld (pv 0) rfl) (nomark _)) (pss_one (ps_ret (pe_callTy call_str_int (by rfl) M.b_str (by decide +kernel) (pa_cons (pe_fld (pv 0) rfl) pa_nil)))) pss_nil) (pss_one (ps_ret (pe_joined (.cons (pe_fmt (pe_fld (pv 0) rfl)) (.cons pe_str (.cons (pe_fmt (pe_fld (pv 0) rfl)) .nil)))))))), ?_⟩
    refine st_eq (σ := [some _]) rfl ?_
    have kM := M.k_Many
    have n1 := M.n_Many__most
    have n2 := M.n_Many__least
    have l1 : (Str.ofString (toString lo)).length ≤ 600 := numT_len z0 s1
    have g1 : (Str.ofString "..*").length = 3 := w_len
    have g2 : (Str.ofString "..").length = 2 := w_len
    have g4 : Str.empty.length = 0 := rfl
    cases hi with
    | none =>
      have e : H x = some (.ins C_Many dx [("_least", .int lo), ("_most", .non), ("_key", .ref t)]) := e
      walk_at "rd"
      dsimp only [L2.tJs, L2.tFmt]
      with_reducible refine s_fldE ?_
      with_reducible refine s_var rfl ?_
      refine ⟨x, C_Many, dx, _, _, rfl, e, kM, n2, rfl, .inr ⟨_, rfl, lg1900 s1, _, rfl, fit (by simp only [strLen_append]; omega), ?_⟩⟩
      with_reducible refine s_c ?_
      refine ⟨_, rfl, fit (by simp only [strLen_append]; omega), ?_⟩
      exact q
    | some m =>
      have e : H x = some (.ins C_Many dx [("_least", .int lo), ("_most", .int m), ("_key", .ref t)]) := e
      have l2 : (Str.ofString (toString m)).length ≤ 600 := numT_len (z1 m rfl) (s2 m rfl)
      walk_at "rd"
      refine ite_d (fun h1 => ?_) (fun h1 => ?_)
      · have h2 : lo = m := h1.symm
        walk_at "rd"
        rw [show stx lo (some m) = numT lo from if_pos h2] at q
        exact ⟨lg1900 s1, q⟩
      · have h2 : ¬ lo = m := fun z => h1 z.symm
        rw [show stx lo (some m) = Str.empty ++ numT lo ++ ".." ++ numT m from if_neg h2] at q
        walk_at "rd"
        dsimp only [L2.tJs, L2.tFmt]
        with_reducible refine s_fldE ?_
        with_reducible refine s_var rfl ?_
        refine ⟨x, C_Many, dx, _, _, rfl, e, kM, n2, rfl, .inr ⟨_, rfl, lg1900 s1, _, rfl, fit (by simp only [strLen_append]; omega), ?_⟩⟩
        with_reducible refine s_c ?_
        refine ⟨_, rfl, fit (by simp only [strLen_append]; omega), ?_⟩
        with_reducible refine s_fldE ?_
        with_reducible refine s_var rfl ?_
        refine ⟨x, C_Many, dx, _, _, rfl, e, kM, n1, rfl, .inr ⟨_, rfl, lg1900 (s2 m rfl), _, rfl, fit (by simp only [strLen_append]; omega), ?_⟩⟩
        exact q
theorem c__law_alone_right : Dn P w K mg base "_law_alone_right" 8 ["_law_pair"] [] spAlone := by
  have x_Many_2 := x_Many_2 (P := P) (w := w) (base := base) M
  have x_Ratio_1 := x_Ratio_1 (P := P) (w := w) (base := base) M
  have c_Many___eq__ := c_Many___eq__ (P := P) (w := w) (base := base) M
  have c_Ratio___eq__ := c_Ratio___eq__ (P := P) (w := w) (base := base) M
  have c_Many___lt__ := c_Many___lt__ (P := P) (w := w) (base := base) M
  have c_Many___le__ := c_Many___le__ (P := P) (w := w) (base := base) M
  have c_Many___gt__ := c_Many___gt__ (P := P) (w := w) (base := base) M
  have c_Many___ge__ := c_Many___ge__ (P := P) (w := w) (base := base) M
  have c_Many___bool__ := c_Many___bool__ (P := P) (w := w) (base := base) M
  have c_Many___str__ := c_Many___str__ (P := P) (w := w) (base := base) M
  have c_Many___repr__ := c_Many___repr__ (P := P) (w := w) (base := base) M
  refine dnN M.f__law_alone_right (fun F => ?_) (fun _ _ _ _ _ _ us hl => match us, hl with | [_], _ => rfl)
  refine fnG_body F sc__law_alone_right (fun vs H Q E h => ?_) (fun cdv A outer s H vs Q E hr h => ?_)
  · obtain ⟨t, lo, hi, rfl, _⟩ := h
    rfl
  · obtain ⟨t, lo, hi, rfl, et, ok, q⟩ := h
    have okb := ok.okB
    obtain ⟨sm1, sm2⟩ := ok.sm
    have et' : H t = some (.tup [.int lo, optV hi]) := et
    refine ⟨_, (pss_cons (ps_set (i := 1) sc__law_alone_right.nd rfl (.inl rfl) (pe_makeD x_Many_2.calm (hr.mono (by decide)) rfl (pa_cons (pe_ix ix_tup (pv 0) pe_int (fun _ _ => rfl)) (pa_cons (pe_ix ix_tup (pv 0) pe_int (fun _ _ => rfl)) pa_nil)))) (pss_cons (ps_set (i := 2) sc__law_alone_right.nd rfl (.inl rfl) (pe_or (pe_cmpR op_isN (pe_ix ix_tup (pv 0) pe_int (fun _ _ => rfl)) pe_non (nomark _)) (pe_one (pe_cmpR op_gt (pe_ix ix_tup (pv 0) pe_int (fun _ _ => rfl)) pe_int (nomark _))))) (pss_cons (ps_if (pt_cmpR op_ne (pe_callB (call_reprQ hr) (by rfl) M.b_repr (by decide +kernel) (pa_cons (pe_lstN (pa_cons (pe_callTy (call_boolO c_Many___bool__ (hr.mono (by decide))) (by rfl) M.b_bool (by decide +kernel) (pa_cons (pv 1) pa_nil)) (pa_cons (pe_notO c_Many___bool__ (hr.mono (by decide)) (pv 1)) pa_nil))) pa_nil)) (pe_callB (call_reprQ hr) (by rfl) M.b_repr (by decide +kernel) (pa_cons (pe_lstN (pa_cons (pv 2) (pa_cons (pe_not (pv 2)) pa_nil))) pa_nil)) (nomark _)) (pss_one (ps_ret pe_bl)) pss_nil) (pss_cons (ps_if (PW.pt (pw_or (pt_cmpR (op_cmpO (K := K) (op := .Lt) rfl c_Many___lt__ M.z_Many M.nf_Many (hr.mono (by decide))) (pv 1) (pv 1) (nomark _)) (pw_or (pt_cmpR (op_cmpO (K := K) (op := .Gt) rfl c_Many___gt__ M.z_Many M.nf_Many (hr.mono (by decide))) (pv 1) (pv 1) (nomark _)) (pw_or (pt_not (pt_cmpR (op_cmpO (K := K) (op := .LtE) rfl c_Many___le__ M.z_Many M.nf_Many (hr.mono (by decide))) (pv 1) (pv 1) (nomark _))) (pw_or (pt_not (pt_cmpR (op_cmpO (K := K) (op := .GtE) rfl c_Many___ge__ M.z_Many M.nf_Many (hr.mono (by decide))) (pv 1) (pv 1) (nomark _))) (pw_or1 (pt_cmpR (or_neO c_Many___eq__ M.ne_Many M.mo_Many (hr.mono (by decide))) (pv 1) (pv 1) (nomark _)))))))) (pss_one (ps_ret pe_bl)) pss_nil) (pss_cons (ps_for (passes_of rfl) rfl (pi_list (pe_lstN (pa_cons (pv 0) (pa_cons (pe_callTy call_list_ofN (by rfl) M.b_list (by decide +kernel) (pa_cons (pv 0) pa_nil)) (pa_cons (pe_ix ix_tup (pv 0) pe_int (fun _ _ => rfl)) (pa_cons (pe_callTy (call_strO c_Many___str__ (hr.mono (by decide))) (by rfl) M.b_str (by decide +kernel) (pa_cons (pv 1) pa_nil)) (pa_cons (pe_callB (call_reprO c_Many___repr__ (hr.mono (by decide))) (by rfl) M.b_repr (by decide +kernel) (pa_cons (pv 1) pa_nil)) (pa_cons pe_non (pa_cons pe_bl (pa_cons (pe_makeD x_Ratio_1.calm (hr.mono (by decide)) rfl (pa_cons (pe_ix ix_tup (pv 0) pe_int (fun _ _ => rfl)) pa_nil)) (pa_cons pe_dnewK (pa_cons pe_str pa_nil)))))))))))) (pg_name (i := 3) sc__law_alone_right.nd rfl (.inl rfl)) (pss_one (ps_if (PW.pt (pw_or (pt_cmpR (or_eqO c_Many___eq__ (hr.mono (by decide))) (pv 1) (pv 3) (nomark _)) (pw_or (pt_cmpR (or_either (or_eqOK (K := K) rfl c_Ratio___eq__ (hr.mono (by decide))) (or_eqR (K := K) rfl c_Many___eq__ M.bn_Many (hr.mono (by decide)))) (pv 3) (pv 1) (nomark _)) (pw_or1 (pt_not (pt_cmpR (or_neO c_Many___eq__ M.ne_Many M.mo_Many (hr.mono (by decide))) (pv 1) (pv 3) (nomark _))))))) (pss_one (ps_ret pe_bl)) pss_nil))) (pss_one (ps_ret pe_bl))))))), ?_⟩
    refine st_eq (σ := [some _, none, none, none]) rfl ?_
    walk_at "rd"
    rename_i X DX nX nDX
    refine fun neX => make_ok (hi := hi) nX (My.Same.at_ (o := .ins C_Many DX []) nX (My.Same.new (o := .own X) nDX)) upd_same okb.1 okb.2.1 okb.2.2 fun H1 s1 mx => ⟨rfl, ?_⟩
    have et1 := s1 _ _ et'
    clear et et' nX nDX neX
    walk_at "rd"
    refine cutG (i := 2) (v := .bl (pos hi)) (σ := [some (.ref t), some (.ref X), none, none]) (H := H1) (T := ?T) ?h1 ?h2
    case h1 =>
      intro z
      cases hi with
      | none =>
        rw [if_pos (show decide (optV none = V.non) = true from decide_eq_true rfl)]
        exact z
      | some m =>
        rw [if_neg (by simp [optV])]
        repeat (first | exact z | walk_at "rd1")
    walk_at "rd"
    obtain ⟨dx, kx, ex, ekx⟩ := id mx
    refine ⟨X, dx, _, rfl, ex, X, lo, hi, rfl, mx, _, rfl, ?_⟩
    walk_at "rd"
    refine ⟨X, dx, _, rfl, ex, X, lo, hi, rfl, mx, _, rfl, ?_⟩
    walk_at "rd"
    rename_i L3 nL3
    intro dL3
    have two : ∀ (G : Hp) (l : Addr) (b : Bool), G l = some (.lst [.bl b, .bl (!b)]) → l ≠ sysModules → Dq G (.ref l) (.list [.bool b, .bool (!b)]) := fun G l b e n => .lst e n (.cons (.bl _) (.cons (.bl _) .nil))
    have u3 := My.Same.new (o := .lst [.bl (pos hi), .bl (!pos hi)]) nL3
    have e3 : (upd H1 L3 (.lst [.bl (pos hi), .bl (!pos hi)])) L3 = some (.lst [.bl (pos hi), .bl (!pos hi)]) := upd_same
    have s2 := s1.trans u3
    have mx2 := mx.same u3
    have et2 := u3 _ _ et1
    generalize upd H1 L3 (.lst [.bl (pos hi), .bl (!pos hi)]) = H2 at *
    walk_at "rd"
    refine ⟨_, _, rfl, two H2 L3 _ e3 dL3, two_d _ _, rfl, two_b _ _, ?_⟩
    clear e3 nL3 dL3 u3 s1 mx et1 ex ekx
    walk_at "rd"
    rename_i L4 nL4
    intro dL4
    have u3 := My.Same.new (o := .lst [.bl (pos hi), .bl (!pos hi)]) nL4
    have e3 : (upd H2 L4 (.lst [.bl (pos hi), .bl (!pos hi)])) L4 = some (.lst [.bl (pos hi), .bl (!pos hi)]) := upd_same
    have s3 := s2.trans u3
    have mx3 := mx2.same u3
    have et3 := u3 _ _ et2
    generalize upd H2 L4 (.lst [.bl (pos hi), .bl (!pos hi)]) = H3 at *
    walk_at "rd"
    refine ⟨_, _, rfl, two H3 L4 _ e3 dL4, two_d _ _, rfl, two_b _ _, ?_⟩
    clear e3 nL4 dL4 u3 s2 mx2 et2
    walk_at "rd"
    obtain ⟨dx, kx, ex, ekx⟩ := id mx3
    refine s_cmpO ex ex ⟨X, X, lo, lo, hi, hi, rfl, mx3, mx3, ?_⟩
    rw [lex_lt, ah_refl]
    walk_at "rd"
    refine s_cmpO ex ex ⟨X, X, lo, lo, hi, hi, rfl, mx3, mx3, ?_⟩
    rw [lex_gt, ah_refl]
    walk_at "rd"
    refine s_cmpO ex ex ⟨X, X, lo, lo, hi, hi, rfl, mx3, mx3, ?_⟩
    rw [lex_le, ah_refl, Bool.not_false]
    walk_at "rd"
    refine s_cmpO ex ex ⟨X, X, lo, lo, hi, hi, rfl, mx3, mx3, ?_⟩
    rw [lex_ge, ah_refl, Bool.not_false]
    walk_at "rd"
    refine ⟨X, dx, _, .ref C_Many, rfl, ex, TyX.base (M.z_Many ex), M.nf_Many, X, .ref X, lo, hi, rfl, mx3, .inl ⟨X, lo, hi, rfl, mx3, ?_⟩⟩
    rw [decide_eq_true (⟨rfl, rfl⟩ : lo = lo ∧ hi = hi)]
    walk_at "rd"
    refine ⟨t, _, rfl, .inr (SqT.of et3), fun L5 nL5 dL5 => ?_⟩
    have u3 := My.Same.new (o := .lst [.int lo, optV hi]) nL5
    have e5 : (upd H3 L5 (.lst [.int lo, optV hi])) L5 = some (.lst [.int lo, optV hi]) := upd_same
    have s4 := s3.trans u3
    have mx4 := mx3.same u3
    have et4 : (upd H3 L5 (.lst [.int lo, optV hi])) t = some (.tup [.int lo, optV hi]) := u3 _ _ et3
    generalize upd H3 L5 (.lst [.int lo, optV hi]) = H4 at *
    clear nL5 dL5 u3 s3 mx3 et3 ex ekx
    walk_at "rd"
    obtain ⟨dx, kx, ex, ekx⟩ := id mx4
    refine ⟨X, dx, _, rfl, ex, X, lo, hi, rfl, mx4, okb.1, okb.2.1, sm1, sm2, _, rfl, ?_⟩
    walk_at "rd"
    refine ⟨X, dx, _, rfl, ex, X, lo, hi, rfl, mx4, okb.1, okb.2.1, sm1, sm2, fun H5 s5 => ⟨_, rfl, ?_⟩⟩
    have s45 := s4.trans s5
    have mx5 := mx4.same s5
    have et5 := s5 _ _ et4
    have eL5 := s5 _ _ e5
    clear s5 s4 mx4 et4 e5 ex ekx
    walk_at "rd"
    rename_i U DU nU nDU
    intro neU
    refine rmake_new nU nDU ok.1 (by decide) (by decide) (fun H6 s6 mu => ⟨rfl, ?_⟩)
    have s06 := s45.trans s6
    have mx6 := mx5.same s6
    have et6 := s6 _ _ et5
    have eL6 := s6 _ _ eL5
    clear nU nDU neU s45 s6 mx5 et5 eL5
    walk_at "rd"
    rename_i DE eDE D0 nD0 W nW
    intro dW
    have rD := My.Same.new (o := .dK []) nD0
    have eD := (upd_same (H := H6) (a := D0) (o := .dK []))
    generalize upd H6 D0 (.dK []) = H7 at *
    have rW := My.Same.new (o := .lst [.ref t, .ref L5, .int lo, .str (stx lo hi), .str (mtx lo hi), .non, .bl true, .ref U, .ref D0, .str (Str.ofString "")]) nW
    have eW := (upd_same (H := H7) (a := W) (o := .lst [.ref t, .ref L5, .int lo, .str (stx lo hi), .str (mtx lo hi), .non, .bl true, .ref U, .ref D0, .str (Str.ofString "")]))
    generalize upd H7 W (.lst [.ref t, .ref L5, .int lo, .str (stx lo hi), .str (mtx lo hi), .non, .bl true, .ref U, .ref D0, .str (Str.ofString "")]) = H8 at *
    have rDW := rD.trans rW
    have s08 := s06.trans rDW
    have mxA := mx6.same rDW
    have muA := mu.same rDW
    have etA := rDW _ _ et6
    have eLA := rDW _ _ eL6
    have eDA := rW _ _ eD
    clear mx6 mu et6 eL6 eD rD rW rDW nD0 nW dW s06
    have nR : C_Many ≠ C_Ratio := M.cne
    have many_mem : C_Many ∈ [C_Many, C_Ratio] := by simp
    have ra_mem : C_Ratio ∈ [C_Many, C_Ratio] := by simp
    have odd : ∀ y ∈ [V.ref t, V.ref L5, V.int lo, V.str (stx lo hi), V.str (mtx lo hi), V.non, V.bl true, V.ref U, V.ref D0, V.str (Str.ofString "")], ∃ ty, AnyV K [C_Many, C_Ratio] H8 y ty ∧ ty ≠ .ref C_Many ∧ OddV C_Ratio H8 y ty := by
      intro y hy
      simp only [List.mem_cons, List.not_mem_nil, or_false] at hy
      rcases hy with rfl | rfl | rfl | rfl | rfl | rfl | rfl | rfl | rfl | rfl
      · exact ⟨_, AnyV.tup etA, (fun z => nomatch z), .left (.tup etA)⟩
      · exact ⟨_, AnyV.lst eLA, (fun z => nomatch z), .left (.lst eLA)⟩
      · exact ⟨_, AnyV.int _, (fun z => nomatch z), .left (.int _)⟩
      · exact ⟨_, AnyV.str _, (fun z => nomatch z), .left (.str _)⟩
      · exact ⟨_, AnyV.str _, (fun z => nomatch z), .left (.str _)⟩
      · exact ⟨_, AnyV.non, (fun z => nomatch z), .left .non⟩
      · exact ⟨_, AnyV.bl _, (fun z => nomatch z), .left (.bl _)⟩
      · obtain ⟨dx, f1⟩ := id muA
        exact ⟨_, AnyV.own M.z_Ratio ra_mem f1, (fun z => nR (by cases z; rfl)), .ratio muA⟩
      · exact ⟨_, AnyV.dK eDA, (fun z => nomatch z), .left (.dK eDA)⟩
      · exact ⟨_, AnyV.str _, (fun z => nomatch z), .left (.str _)⟩
    refine ⟨W, rfl, ⟨_, SqL.of eW⟩, for_it (walk_list (xs := [V.ref t, V.ref L5, V.int lo, V.str (stx lo hi), V.str (mtx lo hi), V.non, V.bl true, V.ref U, V.ref D0, V.str (Str.ofString "")])) (fun i σ H' => H' = H8 ∧ ∃ v : Option V, σ = [some (.ref t), some (.ref X), some (.bl (pos hi)), v]) ?_ (fun i σ H' _ z => by rw [z.1]; exact SqL.of eW) ?_ ?_⟩
    · exact ⟨rfl, _, rfl⟩
    · rintro i y σ Ha Hb hii ⟨rfl, v3, rfl⟩ ⟨rfl, hv⟩
      obtain ⟨ty, ay, nt, oy⟩ := odd y (List.mem_of_getElem? hv)
      rw [eDE]
      walk_at "rd"
      refine cmp_odd M.nfs_Many mxA ay nt ⟨_, rfl, ?_⟩
      walk_at "rd"
      refine cmp_back M.nfs_Ratio M.z_Many many_mem nR mxA ay nt oy ⟨_, rfl, ?_⟩
      walk_at "rd"
      refine cmp_odd M.nfs_Many mxA ay nt ⟨_, rfl, ⟨_, rfl, ?_⟩⟩
      walk_at "rd"
      exact ⟨rfl, _, rfl⟩
    rintro σ Ha ⟨rfl, v3, rfl⟩
    rw [eDE]
    clear eDE
    walk_at "rd"
    exact q _ s08
end
end My
end
section
open My L2 PySem
open My L2 PySem
local macro_rules | `(tactic| walk_at "as") => `(tactic| with_reducible assumption)
local macro_rules | `(tactic| walk_at "hp") => `(tactic| first
  | walk_at "as" | exact upd_same
  | (rw [upd_ne (by walk_at "ne")]; walk_at "hp")
  | (refine But.get (by walk_at "as") ?hp1 ?hp2; (case hp1 => walk_at "hp"); (case hp2 => walk_at "ne"))
  | (refine My.Same.get (by walk_at "as") ?hp1; (case hp1 => walk_at "hp")))
local macro_rules | `(tactic| walk_at "ne") => `(tactic| first
  | walk_at "as" | exact Ne.symm (by walk_at "as")
  | (refine' ne_of_none ?ne1 ?ne2; (case ne2 => walk_at "as"); (case ne1 => walk_at "hp"))
  | (refine' Ne.symm (ne_of_none ?ne1 ?ne2); (case ne2 => walk_at "as"); (case ne1 => walk_at "hp"))
  | exact ne_of (by walk_at "hp") (by walk_at "hp") (by intro z; cases z))
local macro_rules | `(tactic| walk_at "sd") => `(tactic| first
  | walk_at "as" | omega | decide | exact ⟨by omega, by omega⟩ | exact .inl ⟨by omega, by omega⟩ | exact .inr ⟨by omega, by omega⟩ | exact divp_wide (by walk_at "as") (by walk_at "as") | exact Sm.cmul (by walk_at "as") (by walk_at "as") | exact cmul_small (by omega) (by omega) (by omega) (by omega) | exact ⟨by omega, by decide⟩)
local macro_rules | `(tactic| walk_at "bt") => `(tactic| first
  | walk_at "as" | exact But.refl _ _ | exact Same.but (by walk_at "as")
  | (refine But.trans ?bt1 But.at; (case bt1 => walk_at "bt"))
  | (refine But.trans ?bt1 (But.new (by first | walk_at "as" | walk_at "hp")); (case bt1 => walk_at "bt"))
  | (refine But.trans ?bt1 (by walk_at "as"); (case bt1 => walk_at "bt"))
  | (refine But.trans ?bt1 (Same.but (by walk_at "as")); (case bt1 => walk_at "bt")))
local macro_rules | `(tactic| walk_at "sm") => `(tactic| first
  | walk_at "as" | exact My.Same.rfl' _
  | (refine' My.Same.at_ ?sm1 ?sm2; (case sm1 => walk_at "as"); (case sm2 => walk_at "sm"))
  | (refine' My.Same.tr ?sm1 (My.Same.new ?sm2); (case sm2 => walk_at "as"); (case sm1 => walk_at "sm"))
  | (refine' My.Same.tr ?sm1 ?sm2; (case sm2 => walk_at "as"); (case sm1 => walk_at "sm")))
local macro_rules | `(tactic| walk_at "sz") => `(tactic| first
  | assumption | exact lt_size (by rfl) | exact le_size (by rfl) | (rw [sizeLine_eq]; omega)
  | (rw [sizeLine_eq]; simp only [List.length_append, List.length_map, List.length_cons, List.length_nil]; omega))
local macro_rules | `(tactic| walk_at "few") => `(tactic| (repeat refine few_put ?_); exact few0)
local macro_rules | `(tactic| walk_at "rd1") => `(tactic| first
  | (with_reducible show tVar _ _ _ _); refine s_var rfl ?_
  | with_reducible refine s_c ?_ | with_reducible refine s_op ?_ | with_reducible refine s_un ?_
  | with_reducible refine s_cons ?_ | with_reducible refine s_nil ?_ | with_reducible refine s_cb ?_
  | with_reducible refine s_test ?_ | with_reducible refine s_B ?_ | with_reducible refine s_not ?_ | with_reducible refine s_and ?_ | with_reducible refine s_or ?_
  | with_reducible refine s_if ?_ | with_reducible refine s_notV ?_ | with_reducible refine s_andV ?_ | with_reducible refine s_orV ?_
  | with_reducible refine s_orT ?_ | with_reducible refine s_andT ?_ | with_reducible refine s_chain ?_
  | with_reducible refine s_isi_int ?_ | with_reducible refine s_isi_int_bool ?_ | with_reducible refine s_isi_str ?_
  | with_reducible refine iteT ?_ | with_reducible refine iteF ?_ | with_reducible refine iteNT ?_ | with_reducible refine iteNF ?_
  | with_reducible refine s_isN ?_ | with_reducible refine s_notN ?_
  | ((with_reducible refine' s_2setE ?g1 ?_); (case g1 => first | (dsimp only [List.set, L2.wipe, List.map, List.foldl]; done) | (dsimp only [List.set, L2.wipe, List.map, List.foldl]; rfl)))
  | with_reducible refine s_seq ?_ | with_reducible refine s_ifS ?_ | with_reducible refine s_asg ?_ | with_reducible refine s_ret ?_ | with_reducible refine s_drop ?_ | with_reducible refine s_next ?_
  | ((with_reducible refine' s_gnameE ?g1 ?_); (case g1 => first | (dsimp only [List.set, L2.wipe, List.map, List.foldl]; done) | (dsimp only [List.set, L2.wipe, List.map, List.foldl]; rfl)))
  | with_reducible refine s_gsub ?_ | with_reducible refine s_gcons ?_ | with_reducible refine s_gnil ?_
  | (with_reducible show gTup _ _ _ _ _ _ _); refine s_gtup (by walk_at "hp") rfl ?_
  | with_reducible refine s_eqI ?_ | with_reducible refine s_neI ?_ | with_reducible refine s_eqS ?_ | with_reducible refine s_neB ?_ | with_reducible refine s_eqB ?_ | with_reducible refine s_neSr ?_ | with_reducible refine s_neS ?_
  | with_reducible refine s_I0 ?_
  | (with_reducible show rI _ _ _ _ _ _); refine s_I (by walk_at "sd") ?_
  | (with_reducible show rIxL _ _ _ _ _); refine s_ixL (by walk_at "hp") rfl ?_
  | (with_reducible show rIxT _ _ _ _ _); refine s_ixT (by walk_at "hp") rfl ?_
  | (with_reducible show rSetL _ _ _ _ _); refine s_setL (by walk_at "hp") rfl ?_
  | with_reducible refine s_prop ?_
  | (with_reducible show _ ≤ sizeLine ∧ _); refine ⟨le_size (by rfl), ?_⟩
  | with_reducible refine ite_NN ?_ | with_reducible refine ite_IN ?_ | with_reducible refine ite_nNN ?_ | with_reducible refine ite_nIN ?_ | with_reducible refine ite_RN ?_ | with_reducible refine ite_nRN ?_
  | with_reducible refine s_sfld ?_
  | ((with_reducible refine' ⟨_, _, _, _, rfl, ?fp1, ?fp2, ?fp3, ?fp4, ?_⟩); (case fp1 => walk_at "hp"); (case fp2 => assumption); (case fp3 => assumption); (case fp4 => walk_at "few"))
  | with_reducible refine s_fldE ?_
  | ((with_reducible refine' ⟨_, _, _, _, _, rfl, ?fp1, ?fp2, ?fp3, ?fp4, ?_⟩); (case fp1 => walk_at "hp"); (case fp2 => assumption); (case fp3 => assumption); (case fp4 => rfl))
  | with_reducible refine s_bm ?_ | with_reducible refine s_bm0 ?_
  | ((with_reducible refine' s_tyL ?ty1 ?_); (case ty1 => walk_at "hp"))
  | ((with_reducible refine' s_append ?ap1 ?ap2 ?_); (case ap1 => walk_at "hp"); (case ap2 => walk_at "sz"))
  | ((with_reducible refine' s_extend ?ap1 ?ap2 ?ap3 ?_); (case ap1 => walk_at "hp"); (case ap2 => walk_at "hp"); (case ap3 => walk_at "sz"))
  | with_reducible refine s_for (fun _ _ => ?_) | with_reducible refine s_lc ?_ | with_reducible refine s_iList ?_ | with_reducible refine s_iTup ?_ | with_reducible refine s_iRng1 ?_ | with_reducible refine s_iRng2 ?_
  | with_reducible refine s_yes ?_ | with_reducible refine s_par ?_
  | with_reducible refine s_make ?_ | with_reducible refine s_meth ?_
  | with_reducible refine s_tup ?_ | with_reducible refine s_lst ?_ | with_reducible refine s_call ?_
  | with_reducible refine ⟨rfl, ?_⟩
  | with_reducible refine ⟨_, rfl, ?_⟩
  | ((with_reducible refine' ⟨_, _, rfl, ?sd1, ?_⟩); (case sd1 => walk_at "sd"))
  | with_reducible refine ⟨_, _, rfl, ?_⟩
  | with_reducible refine .inl ⟨_, rfl, ?_⟩
  | dsimp only [List.set]
  | walk_at "rdx"
  | (refine fun _ _ => ?_))
local macro_rules | `(tactic| walk_at "rd") => `(tactic| repeat (first
  | (with_reducible show tVar _ _ _ _); refine s_var rfl ?_
  | with_reducible refine s_c ?_ | with_reducible refine s_op ?_ | with_reducible refine s_un ?_
  | with_reducible refine s_cons ?_ | with_reducible refine s_nil ?_ | with_reducible refine s_cb ?_
  | with_reducible refine s_test ?_ | with_reducible refine s_B ?_ | with_reducible refine s_not ?_ | with_reducible refine s_and ?_ | with_reducible refine s_or ?_
  | with_reducible refine s_if ?_ | with_reducible refine s_notV ?_ | with_reducible refine s_andV ?_ | with_reducible refine s_orV ?_
  | with_reducible refine s_orT ?_ | with_reducible refine s_andT ?_ | with_reducible refine s_chain ?_
  | with_reducible refine s_isi_int ?_ | with_reducible refine s_isi_int_bool ?_ | with_reducible refine s_isi_str ?_
  | with_reducible refine iteT ?_ | with_reducible refine iteF ?_ | with_reducible refine iteNT ?_ | with_reducible refine iteNF ?_
  | with_reducible refine s_isN ?_ | with_reducible refine s_notN ?_
  | ((with_reducible refine' s_2setE ?g1 ?_); (case g1 => first | (dsimp only [List.set, L2.wipe, List.map, List.foldl]; done) | (dsimp only [List.set, L2.wipe, List.map, List.foldl]; rfl)))
  | with_reducible refine s_seq ?_ | with_reducible refine s_ifS ?_ | with_reducible refine s_asg ?_ | with_reducible refine s_ret ?_ | with_reducible refine s_drop ?_ | with_reducible refine s_next ?_
  | ((with_reducible refine' s_gnameE ?g1 ?_); (case g1 => first | (dsimp only [List.set, L2.wipe, List.map, List.foldl]; done) | (dsimp only [List.set, L2.wipe, List.map, List.foldl]; rfl)))
  | with_reducible refine s_gsub ?_ | with_reducible refine s_gcons ?_ | with_reducible refine s_gnil ?_
  | (with_reducible show gTup _ _ _ _ _ _ _); refine s_gtup (by walk_at "hp") rfl ?_
  | with_reducible refine s_eqI ?_ | with_reducible refine s_neI ?_ | with_reducible refine s_eqS ?_ | with_reducible refine s_neB ?_ | with_reducible refine s_eqB ?_ | with_reducible refine s_neSr ?_ | with_reducible refine s_neS ?_
  | with_reducible refine s_I0 ?_
  | (with_reducible show rI _ _ _ _ _ _); refine s_I (by walk_at "sd") ?_
  | (with_reducible show rIxL _ _ _ _ _); refine s_ixL (by walk_at "hp") rfl ?_
  | (with_reducible show rIxT _ _ _ _ _); refine s_ixT (by walk_at "hp") rfl ?_
  | (with_reducible show rSetL _ _ _ _ _); refine s_setL (by walk_at "hp") rfl ?_
  | with_reducible refine s_prop ?_
  | (with_reducible show _ ≤ sizeLine ∧ _); refine ⟨le_size (by rfl), ?_⟩
  | with_reducible refine ite_NN ?_ | with_reducible refine ite_IN ?_ | with_reducible refine ite_nNN ?_ | with_reducible refine ite_nIN ?_ | with_reducible refine ite_RN ?_ | with_reducible refine ite_nRN ?_
  | with_reducible refine s_sfld ?_
  | ((with_reducible refine' ⟨_, _, _, _, rfl, ?fp1, ?fp2, ?fp3, ?fp4, ?_⟩); (case fp1 => walk_at "hp"); (case fp2 => assumption); (case fp3 => assumption); (case fp4 => walk_at "few"))
  | with_reducible refine s_fldE ?_
  | ((with_reducible refine' ⟨_, _, _, _, _, rfl, ?fp1, ?fp2, ?fp3, ?fp4, ?_⟩); (case fp1 => walk_at "hp"); (case fp2 => assumption); (case fp3 => assumption); (case fp4 => rfl))
  | with_reducible refine s_bm ?_ | with_reducible refine s_bm0 ?_
  | ((with_reducible refine' s_tyL ?ty1 ?_); (case ty1 => walk_at "hp"))
  | ((with_reducible refine' s_append ?ap1 ?ap2 ?_); (case ap1 => walk_at "hp"); (case ap2 => walk_at "sz"))
  | ((with_reducible refine' s_extend ?ap1 ?ap2 ?ap3 ?_); (case ap1 => walk_at "hp"); (case ap2 => walk_at "hp"); (case ap3 => walk_at "sz"))
  | with_reducible refine s_for (fun _ _ => ?_) | with_reducible refine s_lc ?_ | with_reducible refine s_iList ?_ | with_reducible refine s_iTup ?_ | with_reducible refine s_iRng1 ?_ | with_reducible refine s_iRng2 ?_
  | with_reducible refine s_yes ?_ | with_reducible refine s_par ?_
  | with_reducible refine s_make ?_ | with_reducible refine s_meth ?_
  | with_reducible refine s_tup ?_ | with_reducible refine s_lst ?_ | with_reducible refine s_call ?_
  | with_reducible refine ⟨rfl, ?_⟩
  | with_reducible refine ⟨_, rfl, ?_⟩
  | ((with_reducible refine' ⟨_, _, rfl, ?sd1, ?_⟩); (case sd1 => walk_at "sd"))
  | with_reducible refine ⟨_, _, rfl, ?_⟩
  | with_reducible refine .inl ⟨_, rfl, ?_⟩
  | dsimp only [List.set]
  | walk_at "rdx"
  | (refine fun _ _ => ?_)))

namespace My
open PySem L2
section
variable {P : Program} {w : World} {K : PySem.W.Frag} {mg : Str → Option Value} {base : Heap} {C_Many C_Ratio C_EachError C_InvalidCount C_InvalidNumber C_InvalidMany : Addr} (M : Md K mg C_Many C_Ratio C_EachError C_InvalidCount C_InvalidNumber C_InvalidMany)
include M
omit M
def ReqM (C : Addr) (a b : Addr) (H : Hp) : Prop := ∃ (lo : Int) (hi : Option Int), ManyAt C H a lo hi ∧ ManyAt C H b lo hi
/-! rows of own objects -/
inductive Ml (C : Addr) (H : Hp) : List Addr → List (Int × Option Int) → Prop
  | nil : Ml C H [] []
  | cons {x : Addr} {lo : Int} {hi : Option Int} {as : List Addr} {ps : List (Int × Option Int)} : ManyAt C H x lo hi → OkR lo hi → Ml C H as ps → Ml C H (x :: as) ((lo, hi) :: ps)
theorem Ml.snoc {C : Addr} {H : Hp} {as : List Addr} {ps : List (Int × Option Int)} {x : Addr} {lo : Int} {hi : Option Int} (h : Ml C H as ps) (e : ManyAt C H x lo hi) (ok : OkR lo hi) : Ml C H (as ++ [x]) (ps ++ [(lo, hi)]) := by
  induction h with
  | nil => exact .cons e ok .nil
  | cons a b _ ih => exact .cons a b ih
theorem Ml.same {C : Addr} {H H' : Hp} {as : List Addr} {ps : List (Int × Option Int)} (h : Ml C H as ps) (s : L2.Same H H') : Ml C H' as ps := by
  induction h with
  | nil => exact .nil
  | cons a b _ ih => exact .cons (a.same s) b ih
theorem Ml.on {C : Addr} {H H' : Hp} {as : List Addr} {ps : List (Int × Option Int)} (h : Ml C H as ps) (s : ∀ (x : Addr) (lo : Int) (hi : Option Int), ManyAt C H x lo hi → ManyAt C H' x lo hi) : Ml C H' as ps := by
  induction h with
  | nil => exact .nil
  | cons a b _ ih => exact .cons (s _ _ _ a) b ih
theorem Ml.len {C : Addr} {H : Hp} {as : List Addr} {ps : List (Int × Option Int)} (h : Ml C H as ps) : as.length = ps.length := by
  induction h with
  | nil => rfl
  | cons a b _ ih => exact congrArg (· + 1) ih
/-- what a Many at an address holds -/
def valOf (H : Hp) (a : Addr) : Int × Option Int := match H a with
  | some (.ins _ _ ((_, .int lo) :: (_, .int h) :: _)) => (lo, some h)
  | some (.ins _ _ ((_, .int lo) :: _)) => (lo, none)
  | _ => (0, none)
theorem valOf_eq {C : Addr} {H : Hp} {x : Addr} {lo : Int} {hi : Option Int} (h : ManyAt C H x lo hi) : valOf H x = (lo, hi) := by
  obtain ⟨dx, k, e, _⟩ := h
  unfold valOf
  rw [e]
  cases hi <;> rfl
/-- the Manys of a row, each with what it holds -/
def Ms (C : Addr) (H : Hp) (as : List Addr) (val : Addr → Int × Option Int) : Prop := ∀ a ∈ as, ManyAt C H a (val a).1 (val a).2 ∧ OkR (val a).1 (val a).2
theorem Ms.same {C : Addr} {H H' : Hp} {as : List Addr} {val : Addr → Int × Option Int} (h : Ms C H as val) (s : L2.Same H H') : Ms C H' as val := fun a ha => ⟨(h a ha).1.same s, (h a ha).2⟩
theorem Ml.ms {C : Addr} {H : Hp} {as : List Addr} {ps : List (Int × Option Int)} (h : Ml C H as ps) : as.map (valOf H) = ps ∧ Ms C H as (valOf H) := by
  induction h with
  | nil => exact ⟨rfl, fun a ha => by cases ha⟩
  | cons a b _ ih =>
    refine ⟨by rw [List.map_cons, valOf_eq a, ih.1], fun c hc => ?_⟩
    rcases List.mem_cons.mp hc with rfl | hc
    · rw [valOf_eq a]
      exact ⟨a, b⟩
    · exact ih.2 c hc
theorem Ms.ins {C : Addr} {H : Hp} {as : List Addr} {val : Addr → Int × Option Int} (h : Ms C H as val) : ∀ a ∈ as, ∃ dx fs, H a = some (.ins C dx fs) := fun a ha => by
  obtain ⟨⟨dx, k, e, _⟩, _⟩ := h a ha
  exact ⟨dx, _, e⟩
theorem swo_val (val : Addr → Int × Option Int) : SrtO.Swo (fun a b : Addr => ah (val a) (val b)) := ⟨fun x y => swo_ah.asym _ _, fun x y z => swo_ah.tr _ _ _⟩
theorem swo_flip (val : Addr → Int × Option Int) : SrtO.Swo (fun a b : Addr => ah (val b) (val a)) := ⟨fun x y => swo_ah.asym _ _, fun x y z h1 h2 => swo_ah.tr _ _ _ h2 h1⟩
theorem sorted_due {val : Addr → Int × Option Int} {as out : List Addr} {ps : List (Int × Option Int)} (e : as.map val = ps) (pm : out.Perm as) (so : SrtO.Srtd (fun a b : Addr => ah (val a) (val b)) out) : out.map val = due ps :=
  due_is (List.pairwise_map.mpr so) (by rw [← e]; exact pm.map val)
theorem Ms.perm {C : Addr} {H : Hp} {as out : List Addr} {val : Addr → Int × Option Int} (h : Ms C H as val) (pm : out.Perm as) : Ms C H out val := fun a ha => h a (pm.mem_iff.mp ha)
theorem Ms.lt {C : Addr} {H : Hp} {as : List Addr} {val : Addr → Int × Option Int} (h : Ms C H as val) : ∀ a ∈ as, ∀ b ∈ as, ∀ H', L2.Same H H' → ∀ Q' : VK, (∀ H2, L2.Same H' H2 → Q' (.bl (ah (val a) (val b))) H2) → spCmpM C (fun i j => decide (i < j)) false [.ref a, .ref b] H' Q' E0 := fun a ha b hb H' s Q' q => by
  refine ⟨a, b, _, _, _, _, rfl, ((h a ha).1).same s, ((h b hb).1).same s, ?_⟩
  rw [lex_lt]
  exact q _ (L2.Same.refl _)
theorem mtx_len {lo : Int} {hi : Option Int} (ok : OkR lo hi) : (mtx lo hi).length ≤ 1300 := by
  obtain ⟨s1, s2⟩ := ok.sm
  have l1 : (numT lo).length ≤ 600 := numT_len ok.1 s1
  have g1 : (Str.ofString "Many(").length = 5 := w_len
  have g2 : (Str.ofString ")").length = 1 := w_len
  have g3 : (Str.ofString ", ").length = 2 := w_len
  have g4 : Str.empty.length = 0 := rfl
  cases hi with
  | none =>
    unfold mtx
    simp only [strLen_append]
    omega
  | some m =>
    have l2 : (numT m).length ≤ 600 := numT_len (ok.okB.2.1 m rfl) (s2 m rfl)
    unfold mtx
    simp only [strLen_append]
    omega
def keptT (ps : List (Int × Option Int)) : Str := listText (ps.map fun p => mtx p.1 p.2)
theorem rep_some {C : Addr} {H : Hp} {l : Addr} {as : List Addr} {val : Addr → Int × Option Int} {Q : VK} (el : H l = some (.lst (as.map V.ref))) (ms : Ms C H as val) (l1 : 1 ≤ as.length) (l9 : as.length ≤ 9) (q : ∀ H', L2.Same H H' → Q (.str (keptT (as.map val))) H') : rReprZ [.ref l] H Q ∨ rReprT [(C, spMRep C)] [.ref l] H Q := by
  have ne : as.map V.ref ≠ [] := fun z => by
    have := congrArg List.length z
    rw [List.length_map, List.length_nil] at this
    omega
  have tx : ∀ bs : List Addr, (∀ a ∈ bs, a ∈ as) → TxLs [(C, spMRep C)] H 3 [l] (bs.map V.ref) ((bs.map val).map fun p => mtx p.1 p.2) := by
    intro bs
    induction bs with
    | nil => exact fun _ => .nil
    | cons b bs ih =>
      intro hb
      obtain ⟨m, ok⟩ := ms b (hb b List.mem_cons_self)
      obtain ⟨dx, k, e, _⟩ := id m
      obtain ⟨s1, s2⟩ := ok.sm
      exact .cons (.own (p := (C, spMRep C)) List.mem_cons_self e (fun H1 s Q1 z => ⟨b, _, _, rfl, m.same s, ok.1, ok.okB.2.1, s1, s2, z⟩)) (ih fun a ha => hb a (List.mem_cons_of_mem _ ha))
  have len : ∀ bs : List Addr, (∀ a ∈ bs, a ∈ as) → piled ((bs.map val).map fun p => mtx p.1 p.2) ≤ 1302 * bs.length := by
    intro bs
    induction bs with
    | nil => exact fun _ => Nat.le_refl _
    | cons b bs ih =>
      intro hb
      have z := ih fun a ha => hb a (List.mem_cons_of_mem _ ha)
      have m := mtx_len (ms b (hb b List.mem_cons_self)).2
      rw [List.map_cons, List.map_cons, piled_cons, List.length_cons]
      omega
  refine .inr ⟨l, _, _, _, rfl, .inl ⟨el, ne, rfl⟩, tx as fun a ha => ha, ?_, q⟩
  have e := listText_le ((as.map val).map fun p => mtx p.1 p.2)
  have e2 := len as fun a ha => ha
  rw [sizeLine_eq]
  omega
/-! the least and the greatest -/
theorem best_of {c : Addr → Addr → Bool} (O : SrtO.Swo c) : ∀ (r : List Addr) (t : Addr), (r.foldl (fun t y => if c y t = true then y else t) t) ∈ t :: r ∧ ∀ z, (c z t = false ∨ z ∈ t :: r) → c z (r.foldl (fun t y => if c y t = true then y else t) t) = false
  | [], t => ⟨List.mem_cons_self, fun z h => by
    rcases h with h | h
    · exact h
    · rw [List.mem_singleton.mp h]
      exact O.refl t⟩
  | y :: r, t => by
    rw [List.foldl_cons]
    obtain ⟨i1, i2⟩ := best_of O r (if c y t = true then y else t)
    by_cases e : c y t = true
    · rw [if_pos e] at i1 i2 ⊢
      refine ⟨List.mem_cons_of_mem _ i1, fun z h => i2 z ?_⟩
      rcases h with h | h
      · left
        rw [Bool.eq_false_iff]
        intro h2
        have a := O.asym _ _ h2
        have := O.tr t z y h a
        rw [e] at this
        cases this
      · rcases List.mem_cons.mp h with rfl | h
        · exact .inl (O.asym _ _ e)
        · exact .inr h
    · rw [if_neg e] at i1 i2 ⊢
      refine ⟨?_, fun z h => i2 z ?_⟩
      · rcases List.mem_cons.mp i1 with h | h
        · rw [h]
          exact List.mem_cons_self
        · exact List.mem_cons_of_mem _ (List.mem_cons_of_mem _ h)
      · rcases h with h | h
        · exact .inl h
        · rcases List.mem_cons.mp h with rfl | h
          · exact .inl (O.refl z)
          · rcases List.mem_cons.mp h with rfl | h
            · exact .inl (Bool.eq_false_iff.mpr e)
            · exact .inr (List.mem_cons_of_mem _ h)
theorem best_run {C : Addr} {sp : Sp} {H : Hp} {Q : VK} {c : Addr → Addr → Bool} : ∀ (r : List Addr) (t : Addr), (∀ a ∈ t :: r, ∃ dx fs, H a = some (.ins C dx fs)) → (∀ a ∈ t :: r, ∀ b ∈ t :: r, ∀ Q' : VK, Q' (.bl (c a b)) H → sp [.ref a, .ref b] H Q' E0) → Q (.ref (r.foldl (fun t y => if c y t = true then y else t) t)) H → BestP C sp (r.map V.ref) (.ref t) H Q
  | [], t, _, _, q => q
  | y :: r, t, ins, cmp, q => by
    have hy : y ∈ t :: y :: r := List.mem_cons_of_mem _ List.mem_cons_self
    obtain ⟨dx, fs, ey⟩ := ins y hy
    obtain ⟨db, fb, et⟩ := ins t List.mem_cons_self
    refine ⟨y, dx, t, db, fs, fb, rfl, rfl, ey, et, cmp y hy t List.mem_cons_self _ ⟨L2.Same.refl _, c y t, rfl, ?_⟩⟩
    rw [show (if c y t = true then V.ref y else V.ref t) = V.ref (if c y t = true then y else t) from (apply_ite V.ref _ _ _).symm]
    have sub : ∀ a ∈ (if c y t = true then y else t) :: r, a ∈ t :: y :: r := fun a ha => by
      rcases List.mem_cons.mp ha with rfl | ha
      · split
        · exact hy
        · exact List.mem_cons_self
      · exact List.mem_cons_of_mem _ (List.mem_cons_of_mem _ ha)
    exact best_run r _ (fun a ha => ins a (sub a ha)) (fun a ha b hb => cmp a (sub a ha) b (sub b hb)) q
theorem due_head {ps l : List (Int × Option Int)} {p h : Int × Option Int} (hp : p ∈ ps) (hl : ∀ q ∈ ps, ah q p = false) (e : due ps = h :: l) : p = h := by
  have s := due_srtd ps
  have m := (due_perm ps).mem_iff (a := p)
  have hh : h ∈ ps := (due_perm ps).mem_iff.mp (by rw [e]; exact List.mem_cons_self)
  rw [e] at s m
  refine ah_tot ?_ (hl h hh)
  rcases List.mem_cons.mp (m.mpr hp) with rfl | z
  · exact swo_ah.refl _
  · exact (List.pairwise_cons.mp s).1 p z
theorem due_last {ps l : List (Int × Option Int)} {p h : Int × Option Int} (hp : p ∈ ps) (hl : ∀ q ∈ ps, ah p q = false) (e : due ps = l ++ [h]) : p = h := by
  have s := due_srtd ps
  have m := (due_perm ps).mem_iff (a := p)
  have hh : h ∈ ps := (due_perm ps).mem_iff.mp (by rw [e]; simp)
  rw [e] at s m
  refine ah_tot (hl h hh) ?_
  rcases List.mem_append.mp (m.mpr hp) with z | z
  · exact (List.pairwise_append.mp s).2.2 p z h (List.mem_singleton.mpr rfl)
  · rw [List.mem_singleton.mp z]
    exact swo_ah.refl _
theorem rep_map (n : Nat) : List.replicate n (V.bl true) = (List.replicate n true).map V.bl := by
  rw [List.map_replicate]
theorem rep_all (n : Nat) : (List.replicate n true).all id = true := by
  induction n with
  | zero => rfl
  | succ n ih => simpa using ih
/-- what all the rest of a turn stands on -/
structure RB (C : Addr) (H1 : Hp) (L : Addr) (us : List V) (ps : List (Int × Option Int)) (D : Addr) (as : List Addr) (val : Addr → Int × Option Int) (R : Addr) (ws : List V) (H : Hp) : Prop where
  s : L2.Same H1 H
  eL : H L = some (.lst us)
  rp : Rp H us ps
  eD : H D = some (.lst (as.map V.ref))
  ms : Ms C H as val
  eR : H R = some (.lst ws)
  rd : Rp H ws (due ps)
theorem RB.same {C : Addr} {H1 : Hp} {L : Addr} {us : List V} {ps : List (Int × Option Int)} {D : Addr} {as : List Addr} {val : Addr → Int × Option Int} {R : Addr} {ws : List V} {H H' : Hp} (h : RB C H1 L us ps D as val R ws H) (s : L2.Same H H') : RB C H1 L us ps D as val R ws H' :=
  ⟨h.s.trans s, s _ _ h.eL, h.rp.on fun c xs e => s _ _ e, s _ _ h.eD, h.ms.same s, s _ _ h.eR, h.rd.on fun c xs e => s _ _ e⟩
theorem Rp.rev {H : Hp} {vs : List V} {ps : List (Int × Option Int)} (h : Rp H vs ps) : Rp H vs.reverse ps.reverse := by
  induction h with
  | nil => exact .nil
  | cons a b _ ih =>
    rw [List.reverse_cons, List.reverse_cons]
    exact ih.snoc a b
theorem Rp.first {H : Hp} {vs : List V} {ps : List (Int × Option Int)} (h : Rp H vs ps) (n : 1 ≤ ps.length) : ∃ t lo hi zs l, vs = .ref t :: zs ∧ PairM H t lo hi ∧ ps = (lo, hi) :: l := by
  cases h with
  | nil => exact absurd n (by decide)
  | cons a b _ => exact ⟨_, _, _, _, _, rfl, a, rfl⟩
theorem Rp.last {H : Hp} {vs : List V} {ps : List (Int × Option Int)} (h : Rp H vs ps) (n : 1 ≤ ps.length) : ∃ t lo hi zs l, vs = zs ++ [.ref t] ∧ PairM H t lo hi ∧ ps = l ++ [(lo, hi)] := by
  obtain ⟨t, lo, hi, zs, l, e1, e2, e3⟩ := h.rev.first (by rw [List.length_reverse]; exact n)
  refine ⟨t, lo, hi, zs.reverse, l.reverse, ?_, e2, ?_⟩
  · have := congrArg List.reverse e1
    rwa [List.reverse_reverse, List.reverse_cons] at this
  · have := congrArg List.reverse e3
    rwa [List.reverse_reverse, List.reverse_cons] at this
inductive Tl (H : Hp) : List Addr → List Addr → Prop
  | nil : Tl H [] []
  | cons {t x : Addr} {ts xs : List Addr} : H t = some (.tup [.ref x, .int 0]) → Tl H ts xs → Tl H (t :: ts) (x :: xs)
theorem Tl.len {H : Hp} {ts xs : List Addr} (h : Tl H ts xs) : ts.length = xs.length := by
  induction h with
  | nil => rfl
  | cons _ _ ih => exact congrArg (· + 1) ih
theorem Tl.snoc {H : Hp} {ts xs : List Addr} {t x : Addr} (h : Tl H ts xs) (e : H t = some (.tup [.ref x, .int 0])) : Tl H (ts ++ [t]) (xs ++ [x]) := by
  induction h with
  | nil => exact .cons e .nil
  | cons a _ ih => exact .cons a ih
theorem Tl.on {H H' : Hp} {ts xs : List Addr} (h : Tl H ts xs) (s : ∀ (b : Addr) (xs : List V), H b = some (.tup xs) → H' b = some (.tup xs)) : Tl H' ts xs := by
  induction h with
  | nil => exact .nil
  | cons a _ ih => exact .cons (s _ _ a) ih
def ownOf (H : Hp) (t : Addr) : Addr := match H t with
  | some (.tup (.ref a :: _)) => a
  | _ => 0
theorem Tl.own {H : Hp} {ts xs : List Addr} (h : Tl H ts xs) : ts.map (ownOf H) = xs ∧ ∀ t ∈ ts, H t = some (.tup [.ref (ownOf H t), .int 0]) := by
  induction h with
  | nil => exact ⟨rfl, fun t ht => by cases ht⟩
  | cons a _ ih =>
    have e : ∀ {t x : Addr}, H t = some (.tup [.ref x, .int 0]) → ownOf H t = x := fun {t x} a => by
      unfold ownOf
      rw [a]
    refine ⟨by rw [List.map_cons, e a, ih.1], fun t ht => ?_⟩
    rcases List.mem_cons.mp ht with rfl | ht
    · rw [e a]
      exact a
    · exact ih.2 t ht
theorem s_cKw {σ : L2.St} {H : Hp} {Q : VK} {r : List V → List V → Hp → VK → Prop} {t tk : TA} (h : t σ H fun vs H1 => tk σ H1 fun zs H2 => r vs zs H2 Q) : tCKw r t tk σ H Q := h
local macro_rules | `(tactic| walk_at "rdx") => `(tactic| first | with_reducible refine s_ostG ?_ | with_reducible refine s_raE ?_ | with_reducible refine s_callX ?_ | with_reducible refine s_opX ?_ | with_reducible refine s_reflX ?_ | with_reducible refine s_lstN ?_ | with_reducible refine s_makeX ?_ | with_reducible refine s_revL ?_ | with_reducible refine s_cKw ?_)
def spRight : Sp := fun vs H Q _ => ∃ r : Addr, vs = [.ref r] ∧ Pot H r ∧ ∀ H', But r H H' → Pot H' r → Q (.bl true) H'
include M
/-- for lists of Manys -/
theorem d_Many___eq__ : MtO P w K mg base C_Many "__eq__" 1 ["self", "other"] [] (L2.spEq (ReqM C_Many)) := by
  obtain ⟨f, fd, hm, F⟩ := M.e_Many___eq__
  refine ⟨f, fd, [], M.k_Many, hm, ?_, F.bindsN (fun _ _ _ _ _ _ us hl => match us, hl with | [_, _], _ => rfl), .nil⟩
  refine fnO_body F sc_Many___eq__ (fun vs H Q E h => ?_) (fun cdv A outer s H vs Q E hr h => ?_)
  · obtain ⟨x, y, rfl, _⟩ := h
    rfl
  · obtain ⟨x, y, rfl, ⟨lo, hi, ⟨dx, t, e, et⟩, ⟨dy, u, f, fu⟩⟩, q⟩ := h
    refine ⟨_, (pss_one (ps_ret (pe_and (pe_callB call_isi (by rfl) M.b_isinstance (by decide +kernel) (pa_cons (pv 1) (pa_cons (pe_glob (v := .ref C_Many) rfl M.m_Many rfl) pa_nil))) (pe_one (pe_cmpR (op_eqD hr.units) (pe_fld (pv 0) rfl) (pe_fld (pv 1) rfl) (nomark _)))))), ?_⟩
    refine st_eq (σ := [some _, some _]) rfl ?_
    have kM := M.k_Many
    have n3 := M.n_Many__key
    walk_at "rd"
    refine s_isi_own (M.z_Many f) ?_
    walk_at "rd"
    refine ⟨.tuple [.int lo, .bool (decide (hi = none)), .int (hi.getD 0)], .tuple [.int lo, .bool (decide (hi = none)), .int (hi.getD 0)], .tup (SqT.of et) (.cons (.int _) (.cons (.bl _) (.cons (.int _) .nil))), .tup (SqT.of fu) (.cons (.int _) (.cons (.bl _) (.cons (.int _) .nil))), rfl, rfl, ?_⟩
    rw [show PyData.eqv (.tuple [.int lo, .bool (decide (hi = none)), .int (hi.getD 0)]) (.tuple [.int lo, .bool (decide (hi = none)), .int (hi.getD 0)]) = true from by simp [PyData.eqv, PyData.eqvAll]]
    exact q _ (L2.Same.refl _)
theorem c__law_right : Dn P w K mg base "_law_right" 12 ["_law_rng_here"] [] spRight := by
  have c__law_pairs := c__law_pairs (P := P) (w := w) (base := base) M
  have c__law_ordered := c__law_ordered (P := P) (w := w) (base := base) M
  have c__law_alone_right := c__law_alone_right (P := P) (w := w) (base := base) M
  have c__law_two_right := c__law_two_right (P := P) (w := w) (base := base) M
  have c__law_row := c__law_row (P := P) (w := w) (base := base) M
  have x_Many_2 := x_Many_2 (P := P) (w := w) (base := base) M
  have c_Many___lt__ := c_Many___lt__ (P := P) (w := w) (base := base) M
  have c_Many___gt__ := c_Many___gt__ (P := P) (w := w) (base := base) M
  have c_Many___eq__ := c_Many___eq__ (P := P) (w := w) (base := base) M
  have d_Many___eq__ := d_Many___eq__ (P := P) (w := w) (base := base) M
  have hR_Many : ∀ a b H H', L2.Ext H H' → ReqM C_Many a b H → ReqM C_Many a b H' := fun a b H H' e ⟨lo, hi, h1, h2⟩ => ⟨lo, hi, h1.same e, h2.same e⟩
  have dm : ∀ p ∈ ([(C_Many, spMRep C_Many)] : OwnL), MtO P w K mg base p.1 "__repr__" 1 ["self"] [] p.2 := fun p hp => by
    obtain rfl := List.mem_singleton.mp hp
    exact d_Many___repr__ (P := P) (w := w) (base := base) M
  refine dnN M.f__law_right (fun F => ?_) (fun _ _ _ _ _ _ us hl => match us, hl with | [_], _ => rfl)
  refine fnG_body F sc__law_right (fun vs H Q E h => ?_) (fun cdv A outer s H vs Q E hr h => ?_)
  · obtain ⟨r, rfl, _⟩ := h
    rfl
  · obtain ⟨r, rfl, hp, k⟩ := h
    refine ⟨_, (pss_cons (ps_set (i := 1) sc__law_right.nd rfl (.inl rfl) (pe_callD c__law_pairs (hr.mono (by decide)) rfl (pa_cons (pv 0) pa_nil))) (pss_cons (ps_setLc (i := 2) (own := [("_law_pair", 7)]) (g := gName 7) (tt := tYes) (by rfl) sc__law_right.nd rfl rfl (sw_true rfl rfl rfl (by decide +kernel)) (pi_list (pv 1)) (blkOk_by (own := [("_law_pair", 7)]) (N := N__law_right) (sc := defScope st__law_right) (by decide +kernel)) (fun _ _ _ _ _ => pg_name (i := 7) sc__law_right.nd rfl (by first | exact Or.inl rfl | exact Or.inr rfl)) (fun _ _ _ _ _ => pts_nil) (fun _ _ _ _ _ => (pe_makeD x_Many_2.calm (hr.mono (by decide)) rfl (pa_cons (pe_ix (ix_tupK (K := K) rfl) (pv 7) pe_int (fun _ _ => rfl)) (pa_cons (pe_ix (ix_tupK (K := K) rfl) (pv 7) pe_int (fun _ _ => rfl)) pa_nil))))) (pss_cons (ps_par (i := 3) (j := 4) (by rfl) sc__law_right.nd rfl rfl (by decide) rfl rfl (pa_cons (pe_callB (call_or (call_reprZ (Nat.lt_of_le_of_lt (Nat.add_le_add_right (Nat.le_add_right _ _) 200) hr.r.un) hr.g) (call_reprT dm (hr.mono (by decide)))) (by rfl) M.b_repr (by decide +kernel) (pa_cons (pv 2) pa_nil)) (pa_cons (pe_callD c__law_ordered (hr.mono (by decide)) rfl (pa_cons (pv 1) pa_nil)) pa_nil)) (by rfl)) (pss_cons (ps_for (passes_of rfl) rfl (pi_list (pv 1)) (pg_name (i := 5) sc__law_right.nd rfl (.inr rfl)) (pss_one (ps_if (PW.pt (pw_or (pt_not (pt_val (pe_callD c__law_alone_right (hr.mono (by decide)) rfl (pa_cons (pv 5) pa_nil)))) (pw_or1 (pt_not (pt_val (pe_callB (cr_all rfl) (by rfl) M.b_all (by decide +kernel) (pa_cons (pe_lc (own := [("_law_second", 10)]) (g := gName 10) (tt := tYes) (by rfl) sc__law_right.nd (pi_list (pv 1)) (blkOk_by (own := [("_law_second", 10)]) (N := N__law_right) (sc := defScope st__law_right) (by decide +kernel)) (fun _ _ _ _ _ => pg_name (i := 10) sc__law_right.nd rfl (by first | exact Or.inl rfl | exact Or.inr rfl)) (fun _ _ _ _ _ => pts_nil) (fun _ _ _ _ _ => (pe_callD c__law_two_right (hr.mono (by decide)) rfl (pa_cons (pv 5) (pa_cons (pv 10) pa_nil))))) pa_nil))))))) (pss_one (ps_ret pe_bl)) pss_nil))) (pss_cons (ps_if (PW.pt (pw_or (pt_cmpR (op_neD hr.units) (pe_lc (own := [("_law_made", 8)]) (g := gName 8) (tt := tYes) (by rfl) sc__law_right.nd (pi_list (pe_callB (call_sortedO (K := K) rfl c_Many___lt__ (hr.mono (by decide))) (by rfl) M.b_sorted (by decide +kernel) (pa_cons (pv 2) pa_nil))) (blkOk_by (own := [("_law_made", 8)]) (N := N__law_right) (sc := defScope st__law_right) (by decide +kernel)) (fun _ _ _ _ _ => pg_name (i := 8) sc__law_right.nd rfl (by first | exact Or.inl rfl | exact Or.inr rfl)) (fun _ _ _ _ _ => pts_nil) (fun _ _ _ _ _ => (pe_callD c__law_row (hr.mono (by decide)) rfl (pa_cons (pv 8) pa_nil)))) (pv 4) (nomark _)) (pw_or1 (pt_cmpR op_ne (pe_callB (call_or (call_reprZ (Nat.lt_of_le_of_lt (Nat.add_le_add_right (Nat.le_add_right _ _) 200) hr.r.un) hr.g) (call_reprT dm (hr.mono (by decide)))) (by rfl) M.b_repr (by decide +kernel) (pa_cons (pv 2) pa_nil)) (pv 3) (nomark _))))) (pss_one (ps_ret pe_bl)) pss_nil) (pss_cons (ps_if (pt_cmpR (op_neD hr.units) (pe_lc (own := [("_law_made", 8)]) (g := gName 8) (tt := tYes) (by rfl) sc__law_right.nd (pi_list (pe_callBK (call_sortedOR (K := K) rfl c_Many___lt__ (hr.mono (by decide))) (by rfl) M.b_sorted (by decide +kernel) (pa_cons (pv 2) pa_nil) (pk_cons pe_bl pk_nil))) (blkOk_by (own := [("_law_made", 8)]) (N := N__law_right) (sc := defScope st__law_right) (by decide +kernel)) (fun _ _ _ _ _ => pg_name (i := 8) sc__law_right.nd rfl (by first | exact Or.inl rfl | exact Or.inr rfl)) (fun _ _ _ _ _ => pts_nil) (fun _ _ _ _ _ => (pe_callD c__law_row (hr.mono (by decide)) rfl (pa_cons (pv 8) pa_nil)))) (pe_revL (pv 4)) (nomark _)) (pss_one (ps_ret pe_bl)) pss_nil) (pss_cons (ps_if (pt_cmpR (op_neD hr.units) (pe_lstN (pa_cons (pe_callD c__law_row (hr.mono (by decide)) rfl (pa_cons (pe_callB (call_minP (K := K) rfl c_Many___lt__ M.z_Many M.nf_Many (hr.mono (by decide)) rfl) (by rfl) M.b_min (by decide +kernel) (pa_cons (pv 2) pa_nil)) pa_nil)) (pa_cons (pe_callD c__law_row (hr.mono (by decide)) rfl (pa_cons (pe_callB (call_maxP (K := K) rfl c_Many___gt__ M.z_Many M.nf_Many (hr.mono (by decide)) rfl) (by rfl) M.b_max (by decide +kernel) (pa_cons (pv 2) pa_nil)) pa_nil)) pa_nil))) (pe_lstN (pa_cons (pe_ix ix_list (pv 4) pe_int (fun _ _ => rfl)) (pa_cons (pe_ix ix_list (pv 4) (pe_un un_neg pe_int) (fun _ _ => rfl)) pa_nil))) (nomark _)) (pss_one (ps_ret pe_bl)) pss_nil) (pss_cons (ps_set (i := 6) sc__law_right.nd rfl (.inl rfl) (pe_callB (call_sortedOT (K := K) rfl c_Many___lt__ c_Many___eq__ (hr.mono (by decide)) (hr.mono (by decide))) (by rfl) M.b_sorted (by decide +kernel) (pa_cons (pe_lc (own := [("_law_made", 8)]) (g := gName 8) (tt := tYes) (by rfl) sc__law_right.nd (pi_list (pv 2)) (blkOk_by (own := [("_law_made", 8)]) (N := N__law_right) (sc := defScope st__law_right) (by decide +kernel)) (fun _ _ _ _ _ => pg_name (i := 8) sc__law_right.nd rfl (by first | exact Or.inl rfl | exact Or.inr rfl)) (fun _ _ _ _ _ => pts_nil) (fun _ _ _ _ _ => (pe_tup (pa_cons (pv 8) (pa_cons pe_int pa_nil))))) pa_nil))) (pss_one (ps_ret (pe_and (pe_cmpR (op_eqD hr.units) (pe_lc (own := [("_law_row_here", 9)]) (g := gName 9) (tt := tYes) (by rfl) sc__law_right.nd (pi_list (pv 6)) (blkOk_by (own := [("_law_row_here", 9)]) (N := N__law_right) (sc := defScope st__law_right) (by decide +kernel)) (fun _ _ _ _ _ => pg_name (i := 9) sc__law_right.nd rfl (by first | exact Or.inl rfl | exact Or.inr rfl)) (fun _ _ _ _ _ => pts_nil) (fun _ _ _ _ _ => (pe_callD c__law_row (hr.mono (by decide)) rfl (pa_cons (pe_ix (ix_tupK (K := K) rfl) (pv 9) pe_int (fun _ _ => rfl)) pa_nil)))) (pv 4) (nomark _)) (pe_one (pe_cmpR (op_eqOL d_Many___eq__ hR_Many (hr.r.mono (by decide))) (pe_callB (call_sortedO (K := K) rfl c_Many___lt__ (hr.mono (by decide))) (by rfl) M.b_sorted (by decide +kernel) (pa_cons (pe_revL (pe_callB (call_sortedO (K := K) rfl c_Many___lt__ (hr.mono (by decide))) (by rfl) M.b_sorted (by decide +kernel) (pa_cons (pv 2) pa_nil))) pa_nil)) (pe_callB (call_sortedO (K := K) rfl c_Many___lt__ (hr.mono (by decide))) (by rfl) M.b_sorted (by decide +kernel) (pa_cons (pv 2) pa_nil)) (nomark _)))))))))))))), ?_⟩
    refine st_eq (σ := [some _, none, none, none, none, none, none, none, none, none, none]) rfl ?_
    walk_at "rd"
    refine ⟨r, rfl, hp, fun L us ps H1 nL neL eL rp l1 l9 b1 p1 => ?_⟩
    walk_at "rd"
    refine ⟨⟨_, SqL.of eL⟩, fun D nD => lc_it (walk_list (xs := us)) (fun j H' => L2.Same H1 H' ∧ ∃ as : List Addr, H' D = some (.lst (as.map V.ref)) ∧ Ml C_Many H' as (ps.take j)) ?_ (fun j H' _ z => SqL.of (z.1 _ _ eL)) ?_ ?_⟩
    · exact ⟨My.Same.new nD, [], upd_same, .nil⟩
    · rintro j v Ha Hb hj ⟨s2, as, eD, ml⟩ ⟨rfl, hv⟩
      obtain ⟨t, lo, hi, rfl, hps, et, ok⟩ := rp.get hv
      have okb := ok.okB
      have etb : Hb t = some (.tup [.int lo, optV hi]) := s2 _ _ et
      walk_at "rd"
      rename_i X DX nX nDX
      refine fun neX => make_ok (hi := hi) nX (My.Same.at_ (o := .ins C_Many DX []) nX (My.Same.new (o := .own X) nDX)) upd_same okb.1 okb.2.1 okb.2.2 fun H3 s3 mx => ⟨rfl, ?_⟩
      have s23 := s2.trans s3
      have eD3 := s3 _ _ eD
      have hl : as.length ≤ 9 := by
        rw [ml.len, List.length_take]
        omega
      walk_at "rd"
      refine ⟨_, eD3, ?_, My.Same.at_ nD s23, as ++ [X], ?_, ?_⟩
      · rw [List.length_map, sizeLine_eq]
        omega
      · rw [upd_same, List.map_append]
        rfl
      · have on : ∀ (x : Addr) (lo : Int) (hi : Option Int), ManyAt C_Many H3 x lo hi → ManyAt C_Many (upd H3 D (.lst (as.map V.ref ++ [.ref X]))) x lo hi := fun x lo hi m => by
          obtain ⟨dx, kx, e1, e2⟩ := m
          refine ⟨dx, kx, ?_, ?_⟩
          · rw [upd_ne (fun z => by rw [z, eD3] at e1; cases e1)]
            exact e1
          · rw [upd_ne (fun z => by rw [z, eD3] at e2; cases e2)]
            exact e2
        rw [List.take_add_one, hps]
        exact ((ml.same s3).on on).snoc (on _ _ _ mx) ok
    rintro H2 ⟨s2, as, eD, ml⟩
    rw [rp.len, List.take_length] at ml
    obtain ⟨ev, ms⟩ := ml.ms
    have as1 : 1 ≤ as.length := by rw [ml.len]; exact l1
    have as9 : as.length ≤ 9 := by rw [ml.len]; exact l9
    generalize valOf H2 = val at *
    have eL2 := s2 _ _ eL
    have rp2 := rp.on fun c xs e => s2 _ _ e
    clear eL rp nD
    walk_at "rd"
    refine rep_some eD ms as1 as9 fun H3 s3 => ?_
    rw [ev]
    have eL3 := s3 _ _ eL2
    have rp3 := rp2.on fun c xs e => s3 _ _ e
    walk_at "rd"
    refine ⟨L, us, ps, rfl, eL3, rp3, l9, fun R ws H4 s4 eR rpR => ?_⟩
    have s34 := s3.trans s4
    have B4 : RB C_Many H1 L us ps D as val R ws H4 := ⟨s2.trans s34, s4 _ _ eL3, rp3.on fun c xs e => s4 _ _ e, s34 _ _ eD, ms.same s34, eR, rpR⟩
    clear s2 s3 s4 s34 eL2 rp2 eL3 rp3 eD ms eR rpR ml
    walk_at "rd"
    rename_i DE eDE
    refine ⟨⟨_, SqL.of B4.eL⟩, for_it (walk_list (xs := us)) (fun i σ H' => RB C_Many H1 L us ps D as val R ws H' ∧ ∃ v5 v6 v7 v8 v9 v10 : Option V, σ = [some (.ref r), some (.ref L), some (.ref D), some (.str (keptT ps)), some (.ref R), v5, v6, v7, v8, v9, v10]) ?_ (fun i σ H' _ z => SqL.of z.1.eL) ?_ ?_⟩
    · exact ⟨B4, _, _, _, _, _, _, rfl⟩
    · rintro i v σ Ha Hb hi ⟨B5, v5, v6, v7, v8, v9, v10, rfl⟩ ⟨rfl, hv⟩
      obtain ⟨t, lo, h2, rfl, hps, et, ok⟩ := B5.rp.get hv
      rw [eDE]
      walk_at "rd"
      refine ⟨t, lo, h2, rfl, et, ok, fun H6 s6 => ?_⟩
      have B6 := B5.same s6
      have et6 : PairM H6 t lo h2 := s6 _ _ et
      walk_at "rd"
      refine ⟨⟨_, SqL.of B6.eL⟩, fun W nW => lc_it (walk_list (xs := us)) (fun j H' => L2.Same H6 H' ∧ H' W = some (.lst (List.replicate j (V.bl true))) ∧ j ≤ 9) ?_ (fun j H' _ z => SqL.of (z.1 _ _ B6.eL)) ?_ ?_⟩
      · exact ⟨My.Same.new nW, upd_same, by omega⟩
      · rintro j v2 Hc Hd hj ⟨s2, eW, j9⟩ ⟨rfl, hv2⟩
        obtain ⟨u, lo2, h22, rfl, hps2, eu, ok2⟩ := B6.rp.get hv2
        have j10 : j + 1 ≤ 9 := by
          have := B6.rp.len
          omega
        walk_at "rd"
        refine ⟨t, u, lo, lo2, h2, h22, rfl, s2 _ _ et6, s2 _ _ eu, ok.okB, ok2.okB, fun H7 s7 => ?_⟩
        walk_at "rd"
        refine ⟨_, s7 _ _ eW, ?_, My.Same.at_ nW (s2.trans s7), ?_, j10⟩
        · rw [List.length_replicate, sizeLine_eq]
          omega
        · rw [upd_same, List.replicate_succ']
      rintro H7 ⟨s7, eW, j9⟩
      walk_at "rd"
      refine ⟨_, List.replicate _ true, rfl, SqL.of (by rw [← rep_map]; exact eW), ?_⟩
      rw [rep_all]
      walk_at "rd"
      exact ⟨B6.same s7, _, _, _, _, _, _, rfl⟩
    · rintro σ H5 ⟨B5, v5, v6, v7, v8, v9, v10, rfl⟩
      rw [eDE]
      clear eDE
      walk_at "rd"
      refine ⟨D, as, fun a b => ah (val a) (val b), rfl, B5.eD, by omega, swo_val val, B5.ms.ins, B5.ms.lt, fun out p H6 s6 np pm so => ?_⟩
      have od := sorted_due ev pm so
      have ep : (upd H6 p (.lst (out.map V.ref))) p = some (.lst (out.map V.ref)) := upd_same
      have B7 := (B5.same s6).same (My.Same.new (o := .lst (out.map V.ref)) np)
      generalize upd H6 p (.lst (out.map V.ref)) = H7 at *
      have mo := B7.ms.perm pm
      clear B5 s6 np so
      walk_at "rd"
      refine ⟨⟨_, SqL.of ep⟩, fun W nW => lc_it (walk_list (xs := out.map V.ref)) (fun j H' => L2.Same H7 H' ∧ ∃ zs : List V, H' W = some (.lst zs) ∧ Rp H' zs ((out.take j).map val)) ?_ (fun j H' _ z => SqL.of (z.1 _ _ ep)) ?_ ?_⟩
      · exact ⟨My.Same.new nW, [], upd_same, .nil⟩
      · rintro j v Ha Hb hj ⟨s2, zs, eW, rz⟩ ⟨rfl, hv⟩
        rw [List.getElem?_map] at hv
        obtain ⟨x, hx, rfl⟩ := Option.map_eq_some_iff.mp hv
        obtain ⟨mx, okx⟩ := mo x (List.mem_of_getElem? hx)
        have o9 : out.length ≤ 9 := by
          have := pm.length_eq
          omega
        walk_at "rd"
        refine ⟨x, _, _, rfl, mx.same s2, fun t H3 s3 et => ?_⟩
        walk_at "rd"
        have e3 := s3 _ _ eW
        have on : ∀ (b : Addr) (xs : List V), H3 b = some (.tup xs) → upd H3 W (.lst (zs ++ [.ref t])) b = some (.tup xs) := fun b xs e => by
          rw [upd_ne (fun z => by rw [z, e3] at e; cases e)]
          exact e
        refine ⟨_, e3, ?_, My.Same.at_ nW (s2.trans s3), zs ++ [.ref t], upd_same, ?_⟩
        · rw [rz.len, List.length_map, List.length_take, sizeLine_eq]
          omega
        · rw [List.take_add_one, hx, List.map_append]
          exact ((rz.on fun c xs e => s3 _ _ e).on on).snoc (on _ _ et) okx
      rintro H8 ⟨s2, zs, eW, rz⟩
      rw [List.length_map, List.take_length] at rz
      have B8 := B7.same s2
      clear nW s2
      rw [od] at rz
      walk_at "rd"
      refine s_neSame (.lst (SqL.of eW) rz.dps) (.lst (SqL.of B8.eR) B8.rd.dps) (sh_prs _) ⟨_, rfl, ?_⟩
      clear eW rz ep B7 mo od
      walk_at "rd"
      refine rep_some B8.eD B8.ms as1 as9 fun H9 s9 => ?_
      rw [ev]
      have B9 := B8.same s9
      clear B8 s9
      walk_at "rd"
      refine ⟨D, as, fun a b => ah (val a) (val b), rfl, rfl, B9.eD, by omega, swo_val val, B9.ms.ins, B9.ms.lt, fun out p H6 s6 np pm so => ?_⟩
      have od : out.map val = (due ps).reverse := by
        have z := sorted_due ev ((List.reverse_perm out).trans pm) so
        rw [List.map_reverse] at z
        rw [← z, List.reverse_reverse]
      have ep : (upd H6 p (.lst (out.map V.ref))) p = some (.lst (out.map V.ref)) := upd_same
      have B10 := (B9.same s6).same (My.Same.new (o := .lst (out.map V.ref)) np)
      generalize upd H6 p (.lst (out.map V.ref)) = H10 at *
      have mo := B10.ms.perm pm
      clear B9 s6 np so
      walk_at "rd"
      refine ⟨⟨_, SqL.of ep⟩, fun W nW => lc_it (walk_list (xs := out.map V.ref)) (fun j H' => L2.Same H10 H' ∧ ∃ zs : List V, H' W = some (.lst zs) ∧ Rp H' zs ((out.take j).map val)) ?_ (fun j H' _ z => SqL.of (z.1 _ _ ep)) ?_ ?_⟩
      · exact ⟨My.Same.new nW, [], upd_same, .nil⟩
      · rintro j v Ha Hb hj ⟨s2, zs, eW, rz⟩ ⟨rfl, hv⟩
        rw [List.getElem?_map] at hv
        obtain ⟨x, hx, rfl⟩ := Option.map_eq_some_iff.mp hv
        obtain ⟨mx, okx⟩ := mo x (List.mem_of_getElem? hx)
        have o9 : out.length ≤ 9 := by
          have := pm.length_eq
          omega
        walk_at "rd"
        refine ⟨x, _, _, rfl, mx.same s2, fun t H3 s3 et => ?_⟩
        walk_at "rd"
        have e3 := s3 _ _ eW
        have on : ∀ (b : Addr) (xs : List V), H3 b = some (.tup xs) → upd H3 W (.lst (zs ++ [.ref t])) b = some (.tup xs) := fun b xs e => by
          rw [upd_ne (fun z => by rw [z, e3] at e; cases e)]
          exact e
        refine ⟨_, e3, ?_, My.Same.at_ nW (s2.trans s3), zs ++ [.ref t], upd_same, ?_⟩
        · rw [rz.len, List.length_map, List.length_take, sizeLine_eq]
          omega
        · rw [List.take_add_one, hx, List.map_append]
          exact ((rz.on fun c xs e => s3 _ _ e).on on).snoc (on _ _ et) okx
      rintro H11 ⟨s2, zs, eW, rz⟩
      rw [List.length_map, List.take_length] at rz
      have B11 := B10.same s2
      clear nW s2
      rw [od] at rz
      walk_at "rd"
      refine ⟨R, ws, rfl, SqL.of B11.eR, fun p2 np2 => ?_⟩
      have s12 := My.Same.new (o := .lst ws.reverse) np2
      have B12 := B11.same s12
      have eW := s12 _ _ eW
      have rz := rz.on fun c xs e => s12 _ _ e
      have e2 : (upd H11 p2 (.lst ws.reverse)) p2 = some (.lst ws.reverse) := upd_same
      generalize upd H11 p2 (.lst ws.reverse) = H12 at *
      refine s_neSame (.lst (SqL.of eW) rz.dps) (.lst (SqL.of e2) B12.rd.rev.dps) (sh_prs _) ⟨_, rfl, ?_⟩
      clear eW rz ep B10 mo od B11 s12 e2 np2
      obtain ⟨a0, ar, rfl⟩ : ∃ a0 ar, as = a0 :: ar := by
        cases as with
        | nil => exact absurd as1 (by decide)
        | cons a0 ar => exact ⟨a0, ar, rfl⟩
      have dn : 1 ≤ (due ps).length := by rw [(due_perm ps).length_eq]; exact l1
      walk_at "rd"
      refine ⟨D, a0, ar.map V.ref, rfl, B12.eD, best_run (c := fun a b => ah (val a) (val b)) ar a0 B12.ms.ins (fun a ha b hb Q' q => ⟨a, b, _, _, _, _, rfl, (B12.ms a ha).1, (B12.ms b hb).1, by rw [lex_lt]; exact q⟩) ?_⟩
      obtain ⟨bm, bl⟩ := best_of (swo_val val) ar a0
      generalize ar.foldl (fun t y => if ah (val y) (val t) = true then y else t) a0 = m0 at *
      obtain ⟨mm, okm⟩ := B12.ms m0 bm
      walk_at "rd"
      refine ⟨m0, _, _, rfl, mm, fun t1 H13 s13 et1 => ?_⟩
      have B13 := B12.same s13
      walk_at "rd"
      refine ⟨D, a0, ar.map V.ref, rfl, B13.eD, best_run (c := fun a b => ah (val b) (val a)) ar a0 B13.ms.ins (fun a ha b hb Q' q => ⟨a, b, _, _, _, _, rfl, (B13.ms a ha).1, (B13.ms b hb).1, by rw [lex_gt]; exact q⟩) ?_⟩
      obtain ⟨bm', bl'⟩ := best_of (swo_flip val) ar a0
      generalize ar.foldl (fun t y => if ah (val t) (val y) = true then y else t) a0 = m1 at *
      obtain ⟨mm', okm'⟩ := B13.ms m1 bm'
      walk_at "rd"
      refine ⟨m1, _, _, rfl, mm', fun t2 H14 s14 et2 => ?_⟩
      have B14 := B13.same s14
      have et1 : PairM H14 t1 (val m0).1 (val m0).2 := s14 _ _ et1
      clear B12 B13 s13 s14 mm mm'
      walk_at "rd"
      rename_i PP nP
      intro dP
      have s15 := My.Same.new (o := .lst [.ref t1, .ref t2]) nP
      have eP : (upd H14 PP (.lst [.ref t1, .ref t2])) PP = some (.lst [.ref t1, .ref t2]) := upd_same
      have B15 := B14.same s15
      have et1 : PairM _ t1 (val m0).1 (val m0).2 := s15 _ _ et1
      have et2 : PairM _ t2 (val m1).1 (val m1).2 := s15 _ _ et2
      generalize upd H14 PP (.lst [.ref t1, .ref t2]) = H15 at *
      clear B14 s15 nP dP
      obtain ⟨u1, lo1, hi1, z1, l1', eu1, pu1, ed1⟩ := B15.rd.first dn
      obtain ⟨u2, lo2, hi2, z2, l2', eu2, pu2, ed2⟩ := B15.rd.last dn
      have im : ∀ a ∈ a0 :: ar, val a ∈ ps := fun a ha => by rw [← ev]; exact List.mem_map_of_mem ha
      have em0 : val m0 = (lo1, hi1) := due_head (im m0 bm) (fun q hq => by
        rw [← ev] at hq
        obtain ⟨a, ha, rfl⟩ := List.mem_map.mp hq
        exact bl a (.inr ha)) ed1
      have em1 : val m1 = (lo2, hi2) := due_last (im m1 bm') (fun q hq => by
        rw [← ev] at hq
        obtain ⟨a, ha, rfl⟩ := List.mem_map.mp hq
        exact bl' a (.inr ha)) ed2
      rw [em0] at et1
      rw [em1] at et2
      walk_at "rd"
      refine s_ixL (v := .ref u1) B15.eR (by rw [eu1]; exact atI_nat (j := 0) rfl) ?_
      walk_at "rd"
      refine ⟨1, rfl, ?_⟩
      refine s_ixL (v := .ref u2) B15.eR (by rw [eu2]; exact atI_last _ _) ?_
      walk_at "rd"
      rename_i P2 nP2
      intro dP2
      have s16 := My.Same.new (o := .lst [.ref u1, .ref u2]) nP2
      have eP2 : (upd H15 P2 (.lst [.ref u1, .ref u2])) P2 = some (.lst [.ref u1, .ref u2]) := upd_same
      have B16 := B15.same s16
      have et1 : PairM _ t1 lo1 hi1 := s16 _ _ et1
      have et2 : PairM _ t2 lo2 hi2 := s16 _ _ et2
      have pu1 : PairM _ u1 lo1 hi1 := s16 _ _ pu1
      have pu2 : PairM _ u2 lo2 hi2 := s16 _ _ pu2
      have eP := s16 _ _ eP
      generalize upd H15 P2 (.lst [.ref u1, .ref u2]) = H16 at *
      have two : ∀ (l a b : Addr), H16 l = some (.lst [.ref a, .ref b]) → PairM H16 a lo1 hi1 → PairM H16 b lo2 hi2 → Dp K H16 (.ref l) (.list (([(lo1, hi1), (lo2, hi2)] : List (Int × Option Int)).map dRow)) := fun l a b e e1 e2 => .lst (SqL.of e) (.cons (.tup (SqT.of e1) (.cons (.int _) (.cons (optP_dp _) .nil))) (.cons (.tup (SqT.of e2) (.cons (.int _) (.cons (optP_dp _) .nil))) .nil))
      refine s_neSame (two PP t1 t2 eP et1 et2) (two P2 u1 u2 eP2 pu1 pu2) (sh_prs _) ⟨_, rfl, ?_⟩
      clear two eP eP2 et1 et2 pu1 pu2 s16 B15 nP2 dP2 eu1 eu2 ed1 ed2
      generalize a0 :: ar = as at *
      walk_at "rd"
      refine ⟨⟨_, SqL.of B16.eD⟩, fun W nW => lc_it (walk_list (xs := as.map V.ref)) (fun j H' => L2.Same H16 H' ∧ ∃ ts : List Addr, H' W = some (.lst (ts.map V.ref)) ∧ Tl H' ts (as.take j)) ?_ (fun j H' _ z => SqL.of (z.1 _ _ B16.eD)) ?_ ?_⟩
      · exact ⟨My.Same.new nW, [], upd_same, .nil⟩
      · rintro j v Ha Hb hj ⟨s2, ts, eW, tl⟩ ⟨rfl, hv⟩
        rw [List.getElem?_map] at hv
        obtain ⟨x, hx, rfl⟩ := Option.map_eq_some_iff.mp hv
        have lt9 : ts.length ≤ 9 := by
          rw [tl.len, List.length_take]
          omega
        walk_at "rd"
        rename_i T nT
        have s3 := My.Same.new (o := .tup [.ref x, .int 0]) nT
        have e3 := s3 _ _ eW
        have eT : (upd Hb T (.tup [.ref x, .int 0])) T = some (.tup [.ref x, .int 0]) := upd_same
        have on : ∀ (b : Addr) (xs : List V), (upd Hb T (.tup [.ref x, .int 0])) b = some (.tup xs) → upd (upd Hb T (.tup [.ref x, .int 0])) W (.lst (ts.map V.ref ++ [.ref T])) b = some (.tup xs) := fun b xs e => by
          rw [upd_ne (fun z => by rw [z, e3] at e; cases e)]
          exact e
        refine ⟨_, e3, ?_, My.Same.at_ nW (s2.trans s3), ts ++ [T], by rw [upd_same, List.map_append]; rfl, ?_⟩
        · rw [List.length_map, sizeLine_eq]
          omega
        · rw [List.take_add_one, hx]
          exact ((tl.on fun c xs e => s3 _ _ e).on on).snoc (on _ _ eT)
      rintro H17 ⟨s17, ts, eW, tl⟩
      rw [List.length_map, List.take_length] at tl
      have B17 := B16.same s17
      clear B16 s17 nW
      obtain ⟨eo, to⟩ := tl.own
      generalize ownOf H17 = own at *
      have oin : ∀ t ∈ ts, own t ∈ as := fun t ht => by rw [← eo]; exact List.mem_map_of_mem ht
      walk_at "rd"
      refine ⟨W, ts, own, 0, fun t u => decide ((val (own t)).1 = (val (own u)).1 ∧ (val (own t)).2 = (val (own u)).2), fun t u => ah (val (own t)) (val (own u)), rfl, eW, by rw [tl.len]; omega, swo_val fun t => val (own t), fun t ht => ⟨to t ht, B17.ms.ins _ (oin t ht)⟩, fun t ht u hu e => by dsimp only; rw [e]; exact decide_eq_true ⟨rfl, rfl⟩, fun t ht u hu e => ?_, fun t ht u hu H' s' Q' q => ?_, fun t ht u hu => B17.ms.lt _ (oin t ht) _ (oin u hu), fun out p H6 s6 np pm so => ?_⟩
      · show ah (val (own t)) (val (own u)) = false
        rw [show val (own t) = val (own u) from Prod.ext (of_decide_eq_true e).1 (of_decide_eq_true e).2]
        exact swo_ah.refl _
      · exact ⟨own t, .ref (own u), _, _, rfl, (B17.ms _ (oin t ht)).1.same s', .inl ⟨own u, _, _, rfl, (B17.ms _ (oin u hu)).1.same s', q _ (L2.Same.refl _)⟩⟩
      have od : out.map (fun t => val (own t)) = due ps := sorted_due (val := fun t => val (own t)) (as := ts) (by rw [← ev, ← eo, List.map_map]; rfl) pm so
      have s7 := s6.trans (My.Same.new (o := .lst (out.map V.ref)) np)
      have ep : (upd H6 p (.lst (out.map V.ref))) p = some (.lst (out.map V.ref)) := upd_same
      have B18 := B17.same s7
      have to : ∀ t ∈ out, (upd H6 p (.lst (out.map V.ref))) t = some (.tup [.ref (own t), .int 0]) := fun t ht => s7 _ _ (to t (pm.mem_iff.mp ht))
      have oin : ∀ t ∈ out, own t ∈ as := fun t ht => oin t (pm.mem_iff.mp ht)
      have o9 : out.length ≤ 9 := by
        rw [pm.length_eq, tl.len]
        exact as9
      generalize upd H6 p (.lst (out.map V.ref)) = H18 at *
      clear s7 s6 np so pm tl eo eW B17
      walk_at "rd"
      refine ⟨⟨_, SqL.of ep⟩, fun W nW => lc_it (walk_list (xs := out.map V.ref)) (fun j H' => L2.Same H18 H' ∧ ∃ zs : List V, H' W = some (.lst zs) ∧ Rp H' zs ((out.take j).map fun t => val (own t))) ?_ (fun j H' _ z => SqL.of (z.1 _ _ ep)) ?_ ?_⟩
      · exact ⟨My.Same.new nW, [], upd_same, .nil⟩
      · rintro j v Ha Hb hj ⟨s2, zs, eW, rz⟩ ⟨rfl, hv⟩
        rw [List.getElem?_map] at hv
        obtain ⟨x, hx, rfl⟩ := Option.map_eq_some_iff.mp hv
        have mx := List.mem_of_getElem? hx
        obtain ⟨mo, okx⟩ := B18.ms _ (oin x mx)
        have ex : Hb x = some (.tup [.ref (own x), .int 0]) := s2 _ _ (to x mx)
        walk_at "rd"
        refine ⟨own x, _, _, rfl, mo.same s2, fun t H3 s3 et => ?_⟩
        walk_at "rd"
        have e3 := s3 _ _ eW
        have on : ∀ (b : Addr) (xs : List V), H3 b = some (.tup xs) → upd H3 W (.lst (zs ++ [.ref t])) b = some (.tup xs) := fun b xs e => by
          rw [upd_ne (fun z => by rw [z, e3] at e; cases e)]
          exact e
        refine ⟨_, e3, ?_, My.Same.at_ nW (s2.trans s3), zs ++ [.ref t], upd_same, ?_⟩
        · rw [rz.len, List.length_map, List.length_take, sizeLine_eq]
          omega
        · rw [List.take_add_one, hx, List.map_append]
          exact ((rz.on fun c xs e => s3 _ _ e).on on).snoc (on _ _ et) okx
      rintro H19 ⟨s19, zs, eW, rz⟩
      rw [List.length_map, List.take_length] at rz
      have B19 := B18.same s19
      clear nW s19 ep to oin B18
      rw [od] at rz
      walk_at "rd"
      refine s_eqSame (.lst (SqL.of eW) rz.dps) (.lst (SqL.of B19.eR) B19.rd.dps) (sh_prs _) ?_
      clear eW rz od
      walk_at "rd"
      refine ⟨D, as, fun a b => ah (val a) (val b), rfl, B19.eD, by omega, swo_val val, B19.ms.ins, B19.ms.lt, fun o1 q1 H20 s20 n1 pm1 so1 => ?_⟩
      have s21 := s20.trans (My.Same.new (o := .lst (o1.map V.ref)) n1)
      have e1 : (upd H20 q1 (.lst (o1.map V.ref))) q1 = some (.lst (o1.map V.ref)) := upd_same
      have B21 := B19.same s21
      generalize upd H20 q1 (.lst (o1.map V.ref)) = H21 at *
      clear s20 n1 so1 s21 B19
      refine ⟨q1, _, rfl, SqL.of e1, fun q2 n2 => ?_⟩
      have s22 := My.Same.new (o := .lst (o1.map V.ref).reverse) n2
      have e2 : (upd H21 q2 (.lst (o1.map V.ref).reverse)) q2 = some (.lst (o1.map V.ref).reverse) := upd_same
      have B22 := B21.same s22
      generalize upd H21 q2 (.lst (o1.map V.ref).reverse) = H22 at *
      rw [← List.map_reverse] at e2
      clear n2 e1 s22 B21
      have pmr : o1.reverse.Perm as := (List.reverse_perm o1).trans pm1
      have mr := B22.ms.perm pmr
      walk_at "rd"
      refine ⟨q2, o1.reverse, fun a b => ah (val a) (val b), rfl, e2, by rw [pmr.length_eq]; omega, swo_val val, mr.ins, mr.lt, fun o2 q3 H23 s23 n3 pm3 so3 => ?_⟩
      have s24 := s23.trans (My.Same.new (o := .lst (o2.map V.ref)) n3)
      have e3 : (upd H23 q3 (.lst (o2.map V.ref))) q3 = some (.lst (o2.map V.ref)) := upd_same
      have B24 := B22.same s24
      generalize upd H23 q3 (.lst (o2.map V.ref)) = H24 at *
      clear s23 n3 s24 B22 e2 mr
      walk_at "rd"
      refine ⟨D, as, fun a b => ah (val a) (val b), rfl, B24.eD, by omega, swo_val val, B24.ms.ins, B24.ms.lt, fun o3 q4 H25 s25 n4 pm4 so4 => ?_⟩
      have s26 := s25.trans (My.Same.new (o := .lst (o3.map V.ref)) n4)
      have e4 : (upd H25 q4 (.lst (o3.map V.ref))) q4 = some (.lst (o3.map V.ref)) := upd_same
      have B26 := B24.same s26
      have e3 := s26 _ _ e3
      generalize upd H25 q4 (.lst (o3.map V.ref)) = H26 at *
      clear s25 n4 s26 B24
      have d2 := sorted_due ev (pm3.trans pmr) so3
      have d3 := sorted_due ev pm4 so4
      have m2 := B26.ms.perm (pm3.trans pmr)
      have m3 := B26.ms.perm pm4
      have ss := B26.s
      refine ⟨⟨q3, q4, _, _, rfl, rfl, e3, e4, ?_, fun i x y hx hy => ?_⟩, fun H' ext => k H' (fun c o e n => ext _ _ (ss _ _ (b1 _ _ e n))) ((p1.same ss).same ext)⟩
      · rw [List.length_map, List.length_map]
        have := congrArg List.length (d2.trans d3.symm)
        rwa [List.length_map, List.length_map] at this
      · rw [List.getElem?_map] at hx hy
        obtain ⟨a, ha, rfl⟩ := Option.map_eq_some_iff.mp hx
        obtain ⟨b, hb, rfl⟩ := Option.map_eq_some_iff.mp hy
        have ma := (m2 a (List.mem_of_getElem? ha)).1
        have mb := (m3 b (List.mem_of_getElem? hb)).1
        have z : val a = val b := by
          have z1 : (o2.map val)[i]? = some (val a) := by rw [List.getElem?_map, ha]; rfl
          have z2 : (o3.map val)[i]? = some (val b) := by rw [List.getElem?_map, hb]; rfl
          rw [d2, ← d3, z2] at z1
          exact (Option.some.inj z1).symm
        rw [← z] at mb
        obtain ⟨dx, kx, ea, _⟩ := id ma
        obtain ⟨dy, ky, eb, _⟩ := id mb
        exact ⟨a, b, dx, dy, _, _, rfl, rfl, ea, eb, _, _, ma, mb⟩
end
end My
end
section
open My L2 PySem
open My L2 PySem
local macro_rules | `(tactic| walk_at "as") => `(tactic| with_reducible assumption)
local macro_rules | `(tactic| walk_at "hp") => `(tactic| first
  | walk_at "as" | exact upd_same
  | (rw [upd_ne (by walk_at "ne")]; walk_at "hp")
  | (refine But.get (by walk_at "as") ?hp1 ?hp2; (case hp1 => walk_at "hp"); (case hp2 => walk_at "ne"))
  | (refine My.Same.get (by walk_at "as") ?hp1; (case hp1 => walk_at "hp")))
local macro_rules | `(tactic| walk_at "ne") => `(tactic| first
  | walk_at "as" | exact Ne.symm (by walk_at "as")
  | (refine' ne_of_none ?ne1 ?ne2; (case ne2 => walk_at "as"); (case ne1 => walk_at "hp"))
  | (refine' Ne.symm (ne_of_none ?ne1 ?ne2); (case ne2 => walk_at "as"); (case ne1 => walk_at "hp"))
  | exact ne_of (by walk_at "hp") (by walk_at "hp") (by intro z; cases z))
local macro_rules | `(tactic| walk_at "sd") => `(tactic| first
  | walk_at "as" | omega | decide | exact ⟨by omega, by omega⟩ | exact .inl ⟨by omega, by omega⟩ | exact .inr ⟨by omega, by omega⟩ | exact divp_wide (by walk_at "as") (by walk_at "as") | exact Sm.cmul (by walk_at "as") (by walk_at "as") | exact cmul_small (by omega) (by omega) (by omega) (by omega) | exact ⟨by omega, by decide⟩)
local macro_rules | `(tactic| walk_at "bt") => `(tactic| first
  | walk_at "as" | exact But.refl _ _ | exact Same.but (by walk_at "as")
  | (refine But.trans ?bt1 But.at; (case bt1 => walk_at "bt"))
  | (refine But.trans ?bt1 (But.new (by first | walk_at "as" | walk_at "hp")); (case bt1 => walk_at "bt"))
  | (refine But.trans ?bt1 (by walk_at "as"); (case bt1 => walk_at "bt"))
  | (refine But.trans ?bt1 (Same.but (by walk_at "as")); (case bt1 => walk_at "bt")))
local macro_rules | `(tactic| walk_at "sm") => `(tactic| first
  | walk_at "as" | exact My.Same.rfl' _
  | (refine' My.Same.at_ ?sm1 ?sm2; (case sm1 => walk_at "as"); (case sm2 => walk_at "sm"))
  | (refine' My.Same.tr ?sm1 (My.Same.new ?sm2); (case sm2 => walk_at "as"); (case sm1 => walk_at "sm"))
  | (refine' My.Same.tr ?sm1 ?sm2; (case sm2 => walk_at "as"); (case sm1 => walk_at "sm")))
local macro_rules | `(tactic| walk_at "sz") => `(tactic| first
  | assumption | exact lt_size (by rfl) | exact le_size (by rfl) | (rw [sizeLine_eq]; omega)
  | (rw [sizeLine_eq]; simp only [List.length_append, List.length_map, List.length_cons, List.length_nil]; omega))
local macro_rules | `(tactic| walk_at "few") => `(tactic| (repeat refine few_put ?_); exact few0)
local macro_rules | `(tactic| walk_at "rd1") => `(tactic| first
  | (with_reducible show tVar _ _ _ _); refine s_var rfl ?_
  | with_reducible refine s_c ?_ | with_reducible refine s_op ?_ | with_reducible refine s_un ?_
  | with_reducible refine s_cons ?_ | with_reducible refine s_nil ?_ | with_reducible refine s_cb ?_
  | with_reducible refine s_test ?_ | with_reducible refine s_B ?_ | with_reducible refine s_not ?_ | with_reducible refine s_and ?_ | with_reducible refine s_or ?_
  | with_reducible refine s_if ?_ | with_reducible refine s_notV ?_ | with_reducible refine s_andV ?_ | with_reducible refine s_orV ?_
  | with_reducible refine s_orT ?_ | with_reducible refine s_andT ?_ | with_reducible refine s_chain ?_
  | with_reducible refine s_isi_int ?_ | with_reducible refine s_isi_int_bool ?_ | with_reducible refine s_isi_str ?_
  | with_reducible refine iteT ?_ | with_reducible refine iteF ?_ | with_reducible refine iteNT ?_ | with_reducible refine iteNF ?_
  | with_reducible refine s_isN ?_ | with_reducible refine s_notN ?_
  | ((with_reducible refine' s_2setE ?g1 ?_); (case g1 => first | (dsimp only [List.set, L2.wipe, List.map, List.foldl]; done) | (dsimp only [List.set, L2.wipe, List.map, List.foldl]; rfl)))
  | with_reducible refine s_seq ?_ | with_reducible refine s_ifS ?_ | with_reducible refine s_asg ?_ | with_reducible refine s_ret ?_ | with_reducible refine s_drop ?_ | with_reducible refine s_next ?_
  | ((with_reducible refine' s_gnameE ?g1 ?_); (case g1 => first | (dsimp only [List.set, L2.wipe, List.map, List.foldl]; done) | (dsimp only [List.set, L2.wipe, List.map, List.foldl]; rfl)))
  | with_reducible refine s_gsub ?_ | with_reducible refine s_gcons ?_ | with_reducible refine s_gnil ?_
  | (with_reducible show gTup _ _ _ _ _ _ _); refine s_gtup (by walk_at "hp") rfl ?_
  | with_reducible refine s_eqI ?_ | with_reducible refine s_neI ?_ | with_reducible refine s_eqS ?_ | with_reducible refine s_neB ?_ | with_reducible refine s_eqB ?_ | with_reducible refine s_neSr ?_ | with_reducible refine s_neS ?_
  | with_reducible refine s_I0 ?_
  | (with_reducible show rI _ _ _ _ _ _); refine s_I (by walk_at "sd") ?_
  | (with_reducible show rIxL _ _ _ _ _); refine s_ixL (by walk_at "hp") rfl ?_
  | (with_reducible show rIxT _ _ _ _ _); refine s_ixT (by walk_at "hp") rfl ?_
  | (with_reducible show rSetL _ _ _ _ _); refine s_setL (by walk_at "hp") rfl ?_
  | with_reducible refine s_prop ?_
  | (with_reducible show _ ≤ sizeLine ∧ _); refine ⟨le_size (by rfl), ?_⟩
  | with_reducible refine ite_NN ?_ | with_reducible refine ite_IN ?_ | with_reducible refine ite_nNN ?_ | with_reducible refine ite_nIN ?_ | with_reducible refine ite_RN ?_ | with_reducible refine ite_nRN ?_
  | with_reducible refine s_sfld ?_
  | ((with_reducible refine' ⟨_, _, _, _, rfl, ?fp1, ?fp2, ?fp3, ?fp4, ?_⟩); (case fp1 => walk_at "hp"); (case fp2 => assumption); (case fp3 => assumption); (case fp4 => walk_at "few"))
  | with_reducible refine s_fldE ?_
  | ((with_reducible refine' ⟨_, _, _, _, _, rfl, ?fp1, ?fp2, ?fp3, ?fp4, ?_⟩); (case fp1 => walk_at "hp"); (case fp2 => assumption); (case fp3 => assumption); (case fp4 => rfl))
  | with_reducible refine s_bm ?_ | with_reducible refine s_bm0 ?_
  | ((with_reducible refine' s_tyL ?ty1 ?_); (case ty1 => walk_at "hp"))
  | ((with_reducible refine' s_append ?ap1 ?ap2 ?_); (case ap1 => walk_at "hp"); (case ap2 => walk_at "sz"))
  | ((with_reducible refine' s_extend ?ap1 ?ap2 ?ap3 ?_); (case ap1 => walk_at "hp"); (case ap2 => walk_at "hp"); (case ap3 => walk_at "sz"))
  | with_reducible refine s_for (fun _ _ => ?_) | with_reducible refine s_lc ?_ | with_reducible refine s_iList ?_ | with_reducible refine s_iTup ?_ | with_reducible refine s_iRng1 ?_ | with_reducible refine s_iRng2 ?_
  | with_reducible refine s_yes ?_ | with_reducible refine s_par ?_
  | with_reducible refine s_make ?_ | with_reducible refine s_meth ?_
  | with_reducible refine s_tup ?_ | with_reducible refine s_lst ?_ | with_reducible refine s_call ?_
  | with_reducible refine ⟨rfl, ?_⟩
  | with_reducible refine ⟨_, rfl, ?_⟩
  | ((with_reducible refine' ⟨_, _, rfl, ?sd1, ?_⟩); (case sd1 => walk_at "sd"))
  | with_reducible refine ⟨_, _, rfl, ?_⟩
  | with_reducible refine .inl ⟨_, rfl, ?_⟩
  | dsimp only [List.set]
  | walk_at "rdx"
  | (refine fun _ _ => ?_))
local macro_rules | `(tactic| walk_at "rd") => `(tactic| repeat (first
  | (with_reducible show tVar _ _ _ _); refine s_var rfl ?_
  | with_reducible refine s_c ?_ | with_reducible refine s_op ?_ | with_reducible refine s_un ?_
  | with_reducible refine s_cons ?_ | with_reducible refine s_nil ?_ | with_reducible refine s_cb ?_
  | with_reducible refine s_test ?_ | with_reducible refine s_B ?_ | with_reducible refine s_not ?_ | with_reducible refine s_and ?_ | with_reducible refine s_or ?_
  | with_reducible refine s_if ?_ | with_reducible refine s_notV ?_ | with_reducible refine s_andV ?_ | with_reducible refine s_orV ?_
  | with_reducible refine s_orT ?_ | with_reducible refine s_andT ?_ | with_reducible refine s_chain ?_
  | with_reducible refine s_isi_int ?_ | with_reducible refine s_isi_int_bool ?_ | with_reducible refine s_isi_str ?_
  | with_reducible refine iteT ?_ | with_reducible refine iteF ?_ | with_reducible refine iteNT ?_ | with_reducible refine iteNF ?_
  | with_reducible refine s_isN ?_ | with_reducible refine s_notN ?_
  | ((with_reducible refine' s_2setE ?g1 ?_); (case g1 => first | (dsimp only [List.set, L2.wipe, List.map, List.foldl]; done) | (dsimp only [List.set, L2.wipe, List.map, List.foldl]; rfl)))
  | with_reducible refine s_seq ?_ | with_reducible refine s_ifS ?_ | with_reducible refine s_asg ?_ | with_reducible refine s_ret ?_ | with_reducible refine s_drop ?_ | with_reducible refine s_next ?_
  | ((with_reducible refine' s_gnameE ?g1 ?_); (case g1 => first | (dsimp only [List.set, L2.wipe, List.map, List.foldl]; done) | (dsimp only [List.set, L2.wipe, List.map, List.foldl]; rfl)))
  | with_reducible refine s_gsub ?_ | with_reducible refine s_gcons ?_ | with_reducible refine s_gnil ?_
  | (with_reducible show gTup _ _ _ _ _ _ _); refine s_gtup (by walk_at "hp") rfl ?_
  | with_reducible refine s_eqI ?_ | with_reducible refine s_neI ?_ | with_reducible refine s_eqS ?_ | with_reducible refine s_neB ?_ | with_reducible refine s_eqB ?_ | with_reducible refine s_neSr ?_ | with_reducible refine s_neS ?_
  | with_reducible refine s_I0 ?_
  | (with_reducible show rI _ _ _ _ _ _); refine s_I (by walk_at "sd") ?_
  | (with_reducible show rIxL _ _ _ _ _); refine s_ixL (by walk_at "hp") rfl ?_
  | (with_reducible show rIxT _ _ _ _ _); refine s_ixT (by walk_at "hp") rfl ?_
  | (with_reducible show rSetL _ _ _ _ _); refine s_setL (by walk_at "hp") rfl ?_
  | with_reducible refine s_prop ?_
  | (with_reducible show _ ≤ sizeLine ∧ _); refine ⟨le_size (by rfl), ?_⟩
  | with_reducible refine ite_NN ?_ | with_reducible refine ite_IN ?_ | with_reducible refine ite_nNN ?_ | with_reducible refine ite_nIN ?_ | with_reducible refine ite_RN ?_ | with_reducible refine ite_nRN ?_
  | with_reducible refine s_sfld ?_
  | ((with_reducible refine' ⟨_, _, _, _, rfl, ?fp1, ?fp2, ?fp3, ?fp4, ?_⟩); (case fp1 => walk_at "hp"); (case fp2 => assumption); (case fp3 => assumption); (case fp4 => walk_at "few"))
  | with_reducible refine s_fldE ?_
  | ((with_reducible refine' ⟨_, _, _, _, _, rfl, ?fp1, ?fp2, ?fp3, ?fp4, ?_⟩); (case fp1 => walk_at "hp"); (case fp2 => assumption); (case fp3 => assumption); (case fp4 => rfl))
  | with_reducible refine s_bm ?_ | with_reducible refine s_bm0 ?_
  | ((with_reducible refine' s_tyL ?ty1 ?_); (case ty1 => walk_at "hp"))
  | ((with_reducible refine' s_append ?ap1 ?ap2 ?_); (case ap1 => walk_at "hp"); (case ap2 => walk_at "sz"))
  | ((with_reducible refine' s_extend ?ap1 ?ap2 ?ap3 ?_); (case ap1 => walk_at "hp"); (case ap2 => walk_at "hp"); (case ap3 => walk_at "sz"))
  | with_reducible refine s_for (fun _ _ => ?_) | with_reducible refine s_lc ?_ | with_reducible refine s_iList ?_ | with_reducible refine s_iTup ?_ | with_reducible refine s_iRng1 ?_ | with_reducible refine s_iRng2 ?_
  | with_reducible refine s_yes ?_ | with_reducible refine s_par ?_
  | with_reducible refine s_make ?_ | with_reducible refine s_meth ?_
  | with_reducible refine s_tup ?_ | with_reducible refine s_lst ?_ | with_reducible refine s_call ?_
  | with_reducible refine ⟨rfl, ?_⟩
  | with_reducible refine ⟨_, rfl, ?_⟩
  | ((with_reducible refine' ⟨_, _, rfl, ?sd1, ?_⟩); (case sd1 => walk_at "sd"))
  | with_reducible refine ⟨_, _, rfl, ?_⟩
  | with_reducible refine .inl ⟨_, rfl, ?_⟩
  | dsimp only [List.set]
  | walk_at "rdx"
  | (refine fun _ _ => ?_)))

namespace My
open PySem L2
section
variable {P : Program} {w : World} {K : PySem.W.Frag} {mg : Str → Option Value} {base : Heap} {C_Many C_Ratio C_EachError C_InvalidCount C_InvalidNumber C_InvalidMany : Addr} (M : Md K mg C_Many C_Ratio C_EachError C_InvalidCount C_InvalidNumber C_InvalidMany)
include M
local macro_rules | `(tactic| walk_at "rdx") => `(tactic| first | with_reducible refine s_ostG ?_ | with_reducible refine s_raE ?_ | with_reducible refine s_callX ?_)
omit M
def spLaw (K : PySem.W.Frag) : Sp := fun vs H Q _ => ∃ (a : Addr) (ns : List Int), vs = [.ref a] ∧ SqL K H a (ns.map V.int) ∧ ns.length ≤ 63 ∧ ∀ H', Q (.bl true) H'
theorem turns4 (n : Nat) : 0 ≤ (if (if (n : Int) < 4 then (n : Int) else 4) > 1 then (if (n : Int) < 4 then (n : Int) else 4) else 1) ∧ (if (if (n : Int) < 4 then (n : Int) else 4) > 1 then (if (n : Int) < 4 then (n : Int) else 4) else 1) ≤ 4 := by
  split <;> split <;> omega
include M
theorem ok_law {f : Addr} {fd : FuncData} (F : FunD K "law" "law" (defArgs st_law) (defBody st_law) (defScope st_law) [] [] f fd) : FnG P w K mg base CX0 16 f fd ["_law_script"] (spLaw K) := by
  have c__law_rng := c__law_rng (P := P) (w := w) (base := base) M
  have c__law_right := c__law_right (P := P) (w := w) (base := base) M
  refine fnG_body F sc_law (fun vs H Q E h => ?_) (fun cdv A outer s H vs Q E hr h => ?_)
  · obtain ⟨a, ns, rfl, _⟩ := h
    rfl
  · obtain ⟨a, ns, rfl, hS, hl, k⟩ := h
    refine ⟨_, (pss_one (ps_ret (pe_callB (cr_all rfl) (by rfl) M.b_all (by decide +kernel) (pa_cons (pe_lc (own := [("_law_k", 1)]) (g := gName 1) (tt := tYes) (by rfl) sc_law.nd (pi_range1 (by rfl) M.b_range (pa_cons (pe_callB (call_max2 rfl) (by rfl) M.b_max (by decide +kernel) (pa_cons pe_int (pa_cons (pe_callB (call_min2 rfl) (by rfl) M.b_min (by decide +kernel) (pa_cons pe_int (pa_cons (pe_callB call_len_seq (by rfl) M.b_len (by decide +kernel) (pa_cons (pv 0) pa_nil)) pa_nil))) pa_nil))) pa_nil)) (blkOk_by (own := [("_law_k", 1)]) (N := N_law) (sc := defScope st_law) (by decide +kernel)) (fun _ _ _ _ _ => pg_name (i := 1) sc_law.nd rfl (by first | exact Or.inl rfl | exact Or.inr rfl)) (fun _ _ _ _ _ => pts_nil) (fun _ _ _ _ _ => (pe_callD c__law_right (hr.mono (by decide)) rfl (pa_cons (pe_callD c__law_rng (hr.mono (by decide)) rfl (pa_cons (pv 0) (pa_cons (pv 1) pa_nil))) pa_nil)))) pa_nil)))), ?_⟩
    refine st_eq (σ := [some _, none]) rfl ?_
    walk_at "rd"
    refine ⟨_, _, rfl, .inl hS, ?_⟩
    walk_at "rd"
    have hb := turns4 (ns.map V.int).length
    refine ⟨Int.le_trans (by decide) hb.1, Int.lt_of_le_of_lt hb.2 (by decide), fun D nD => lc_range (lo := 0) (fun j H' => L2.Same H H' ∧ H' D = some (.lst (List.replicate j (V.bl true))) ∧ j ≤ 4) ?_ ?_ ?_⟩
    · exact ⟨My.Same.new nD, upd_same, Nat.zero_le _⟩
    · rintro j H1 hj ⟨s1, hD, _⟩
      have hj5 : j + 1 ≤ 4 := by
        have := hb.2
        omega
      walk_at "rd"
      refine ⟨a, ns, _, rfl, hS.ext s1, by omega, by omega, fun r H2 s2 nr p2 => ?_⟩
      walk_at "rd"
      have Dr : D ≠ r := ne_of_none hD nr
      refine ⟨r, rfl, p2, fun H3 b3 p3 => ?_⟩
      have l3 := b3.get (s2 _ _ hD) Dr
      have s3 : L2.Same H H3 := fun c o e => b3 _ _ (s2 _ _ (s1 _ _ e)) (ne_of_none (s1 _ _ e) nr)
      refine ⟨_, l3, ?_, My.Same.at_ nD s3, ?_, hj5⟩
      · rw [List.length_replicate, sizeLine_eq]
        omega
      · rw [upd_same, List.replicate_succ']
    · rintro H1 ⟨s1, hD, _⟩
      walk_at "rd"
      refine ⟨_, List.replicate _ true, rfl, SqL.of (by rw [← rep_map]; exact hD), ?_⟩
      rw [rep_all]
      exact k _
end
end My
end
section
namespace My
open PySem L2 PySem.W
theorem no_ok {K : PySem.W.Frag} {C : Addr} {f : Str} (h : eqO (PySem.W.findIn K (.ref C) f) (some none) = true) : NoAttr K C f := (of_decide_eq_true (p := PySem.W.findIn K (.ref C) f = some none) h : PySem.W.findIn K (.ref C) f = some none)
theorem facts {P : Program} {w : World} {K : PySem.W.Frag} {h : Heap} {mg : Str → Option Value} {f : Addr} (X : K.In h) (G : h.Ns mainGlobals mg) (hfa : mg "law" = some (.ref f)) (c : SaysY faL fnL adL exB K) :
    ∃ fd : FuncData, (∀ (s : Shared) (v : Value), BindsTo s fd ⟨[v], []⟩ [("_law_script", v)]) ∧ ∀ base : Heap, K.In base → base.Ns mainGlobals mg → FnG P w K mg base CX0 16 f fd ["_law_script"] (spLaw K) := by
  have c1 := c.d
  have t : (tests K).all id = true := c.more.1
  obtain ⟨fd_0, F_0⟩ := c1.def_ 0 (d := dd_is_integer) rfl
  obtain ⟨fd_1, F_1⟩ := c1.def_ 1 (d := dd_is_count) rfl
  obtain ⟨fd_2, F_2⟩ := c1.def_ 2 (d := dd__is_up_to) rfl
  obtain ⟨fd_3, F_3⟩ := c1.def_ 3 (d := dd__law_rng) rfl
  obtain ⟨fd_4, F_4⟩ := c1.def_ 4 (d := dd__law_draw) rfl
  obtain ⟨fd_5, F_5⟩ := c1.def_ 5 (d := dd__law_choice) rfl
  obtain ⟨fd_6, F_6⟩ := c1.def_ 6 (d := dd__law_pairs) rfl
  obtain ⟨fd_7, F_7⟩ := c1.def_ 7 (d := dd__law_ahead) rfl
  obtain ⟨fd_8, F_8⟩ := c1.def_ 8 (d := dd__law_ordered) rfl
  obtain ⟨fd_9, F_9⟩ := c1.def_ 9 (d := dd__law_row) rfl
  obtain ⟨fd_10, F_10⟩ := c1.def_ 10 (d := dd__law_two_right) rfl
  obtain ⟨fd_11, F_11⟩ := c1.def_ 11 (d := dd__law_alone_right) rfl
  obtain ⟨fd_12, F_12⟩ := c1.def_ 12 (d := dd__law_right) rfl
  obtain ⟨fd_13, F_13⟩ := c1.def_ 13 (d := dd_Many___init__) rfl
  obtain ⟨fd_14, F_14⟩ := c1.def_ 14 (d := dd_Many___bool__) rfl
  obtain ⟨fd_15, F_15⟩ := c1.def_ 15 (d := dd_Many___eq__) rfl
  obtain ⟨fd_16, F_16⟩ := c1.def_ 16 (d := dd_Many___lt__) rfl
  obtain ⟨fd_17, F_17⟩ := c1.def_ 17 (d := dd_Many___le__) rfl
  obtain ⟨fd_18, F_18⟩ := c1.def_ 18 (d := dd_Many___gt__) rfl
  obtain ⟨fd_19, F_19⟩ := c1.def_ 19 (d := dd_Many___ge__) rfl
  obtain ⟨fd_20, F_20⟩ := c1.def_ 20 (d := dd_Many___str__) rfl
  obtain ⟨fd_21, F_21⟩ := c1.def_ 21 (d := dd_Many___repr__) rfl
  obtain ⟨fd_22, F_22⟩ := c1.def_ 22 (d := dd_Ratio___init__) rfl
  obtain ⟨fd_23, F_23⟩ := c1.def_ 23 (d := dd_Ratio___eq__) rfl
  obtain ⟨fd_24, F_24⟩ := c1.def_ 24 (d := dd_InvalidCount___init__) rfl
  obtain ⟨fd_25, F_25⟩ := c1.def_ 25 (d := dd_InvalidNumber___init__) rfl
  obtain ⟨fd_26, F_26⟩ := c1.def_ 26 (d := dd_InvalidMany___init__) rfl
  obtain ⟨fd_27, F_27⟩ := c1.def_ 27 (d := dd_law) rfl
  obtain ⟨gd_0, G_0⟩ := c.at_ 0 (d := (fun K => prA K "Many" "least", dd_Many_least)) rfl
  obtain ⟨gd_1, G_1⟩ := c.at_ 1 (d := (fun K => prA K "Many" "most", dd_Many_most)) rfl
  have M : Md K mg (He.ga K "Many") (He.ga K "Ratio") (He.ga K "EachError") (He.ga K "InvalidCount") (He.ga K "InvalidNumber") (He.ga K "InvalidMany") := ⟨He.free_ok X G (c1.fact 20 (f := .free "isinstance") rfl),
    He.free_ok X G (c1.fact 21 (f := .free "int") rfl),
    He.free_ok X G (c1.fact 22 (f := .free "bool") rfl),
    He.free_ok X G (c1.fact 23 (f := .free "max") rfl),
    He.free_ok X G (c1.fact 24 (f := .free "min") rfl),
    He.free_ok X G (c1.fact 25 (f := .free "abs") rfl),
    He.free_ok X G (c1.fact 26 (f := .free "divmod") rfl),
    He.free_ok X G (c1.fact 27 (f := .free "len") rfl),
    He.free_ok X G (c1.fact 28 (f := .free "range") rfl),
    He.free_ok X G (c1.fact 29 (f := .free "all") rfl),
    He.free_ok X G (c1.fact 30 (f := .free "repr") rfl),
    He.free_ok X G (c1.fact 31 (f := .free "sorted") rfl),
    He.free_ok X G (c1.fact 32 (f := .free "str") rfl),
    He.free_ok X G (c1.fact 33 (f := .free "list") rfl),
    PySem.W.mg_of X G (of_decide_eq_true (p := PySem.W.nsIn K mainGlobals "gcd" = some (some (.builtin "math.gcd"))) (all_at t 28 rfl)),
    ⟨_, _, F_0, (He.glo_ok X G (c1.fact 0 (f := .glo "is_integer") rfl))⟩,
    ⟨_, _, F_1, (He.glo_ok X G (c1.fact 1 (f := .glo "is_count") rfl))⟩,
    ⟨_, _, F_2, (He.glo_ok X G (c1.fact 2 (f := .glo "_is_up_to") rfl))⟩,
    ⟨_, _, F_3, (He.glo_ok X G (c1.fact 3 (f := .glo "_law_rng") rfl))⟩,
    ⟨_, _, F_4, (He.glo_ok X G (c1.fact 4 (f := .glo "_law_draw") rfl))⟩,
    ⟨_, _, F_5, (He.glo_ok X G (c1.fact 5 (f := .glo "_law_choice") rfl))⟩,
    ⟨_, _, F_6, (He.glo_ok X G (c1.fact 6 (f := .glo "_law_pairs") rfl))⟩,
    ⟨_, _, F_7, (He.glo_ok X G (c1.fact 7 (f := .glo "_law_ahead") rfl))⟩,
    ⟨_, _, F_8, (He.glo_ok X G (c1.fact 8 (f := .glo "_law_ordered") rfl))⟩,
    ⟨_, _, F_9, (He.glo_ok X G (c1.fact 9 (f := .glo "_law_row") rfl))⟩,
    ⟨_, _, F_10, (He.glo_ok X G (c1.fact 10 (f := .glo "_law_two_right") rfl))⟩,
    ⟨_, _, F_11, (He.glo_ok X G (c1.fact 11 (f := .glo "_law_alone_right") rfl))⟩,
    ⟨_, _, F_12, (He.glo_ok X G (c1.fact 12 (f := .glo "_law_right") rfl))⟩,
    (He.glo_ok X G (c1.fact 13 (f := .glo "Many") rfl)),
    (He.cls_ok (c1.fact 34 (f := .cls "Many") rfl)),
    ⟨_, _, He.mkr_ok (c1.fact 35 (f := .mkr "Many") rfl), F_13⟩,
    ins_ok (He.cls_ok (c1.fact 34 (f := .cls "Many") rfl)) (of_decide_eq_true (all_at t 14 rfl)) (of_decide_eq_true (all_at t 0 rfl)) (of_decide_eq_true (all_at t 1 rfl)) (of_decide_eq_true (all_at t 15 rfl)),
    He.noat_ok (c1.fact 36 (f := .noat "Many" "_least") rfl),
    He.noat_ok (c1.fact 37 (f := .noat "Many" "_most") rfl),
    He.noat_ok (c1.fact 38 (f := .noat "Many" "_key") rfl),
    ⟨_, _, He.meth_ok (c1.fact 39 (f := .meth "Many" "__bool__") rfl), F_14⟩,
    ⟨_, _, He.meth_ok (c1.fact 40 (f := .meth "Many" "__eq__") rfl), F_15⟩,
    ⟨_, _, He.meth_ok (c1.fact 41 (f := .meth "Many" "__lt__") rfl), F_16⟩,
    ⟨_, _, He.meth_ok (c1.fact 42 (f := .meth "Many" "__le__") rfl), F_17⟩,
    ⟨_, _, He.meth_ok (c1.fact 43 (f := .meth "Many" "__gt__") rfl), F_18⟩,
    ⟨_, _, He.meth_ok (c1.fact 44 (f := .meth "Many" "__ge__") rfl), F_19⟩,
    ⟨_, _, He.meth_ok (c1.fact 45 (f := .meth "Many" "__str__") rfl), F_20⟩,
    ⟨_, _, He.meth_ok (c1.fact 46 (f := .meth "Many" "__repr__") rfl), F_21⟩,
    ⟨_, _, _, prB_ok (all_at t 16 rfl), G_0⟩,
    ⟨_, _, _, prB_ok (all_at t 17 rfl), G_1⟩,
    (He.glo_ok X G (c1.fact 14 (f := .glo "Ratio") rfl)),
    (He.cls_ok (c1.fact 47 (f := .cls "Ratio") rfl)),
    ⟨_, _, He.mkr_ok (c1.fact 48 (f := .mkr "Ratio") rfl), F_22⟩,
    ins_ok (He.cls_ok (c1.fact 47 (f := .cls "Ratio") rfl)) (of_decide_eq_true (all_at t 18 rfl)) (of_decide_eq_true (all_at t 0 rfl)) (of_decide_eq_true (all_at t 1 rfl)) (of_decide_eq_true (all_at t 19 rfl)),
    He.noat_ok (c1.fact 49 (f := .noat "Ratio" "_top") rfl),
    He.noat_ok (c1.fact 50 (f := .noat "Ratio" "_bottom") rfl),
    ⟨_, _, He.meth_ok (c1.fact 51 (f := .meth "Ratio" "__eq__") rfl), F_23⟩,
    of_decide_eq_true (all_at t 20 rfl),
    of_decide_eq_true (all_at t 21 rfl),
    of_decide_eq_true (all_at t 22 rfl),
    of_decide_eq_true (all_at t 23 rfl),
    of_decide_eq_true (all_at t 24 rfl),
    of_decide_eq_true (all_at t 25 rfl),
    of_decide_eq_true (all_at t 26 rfl),
    of_decide_eq_true (all_at t 27 rfl),
    of_decide_eq_true (all_at t 2 rfl),
    of_decide_eq_true (all_at t 0 rfl),
    of_decide_eq_true (all_at t 1 rfl),
    (He.glo_ok X G (c1.fact 15 (f := .glo "EachError") rfl)),
    excB_ok (all_at t 3 rfl),
    (all_at t 4 rfl),
    (He.glo_ok X G (c1.fact 16 (f := .glo "InvalidCount") rfl)),
    excB_ok (all_at t 5 rfl),
    ⟨_, _, (iniB_ok (all_at t 6 rfl)).1, (iniB_ok (all_at t 6 rfl)).2, F_24⟩,
    no_ok (all_at t 7 rfl),
    (He.glo_ok X G (c1.fact 17 (f := .glo "InvalidNumber") rfl)),
    excB_ok (all_at t 8 rfl),
    ⟨_, _, (iniB_ok (all_at t 9 rfl)).1, (iniB_ok (all_at t 9 rfl)).2, F_25⟩,
    no_ok (all_at t 10 rfl),
    (He.glo_ok X G (c1.fact 18 (f := .glo "InvalidMany") rfl)),
    excB_ok (all_at t 11 rfl),
    ⟨_, _, (iniB_ok (all_at t 12 rfl)).1, (iniB_ok (all_at t 12 rfl)).2, F_26⟩,
    no_ok (all_at t 13 rfl)⟩
  have e := hfa.symm.trans (He.glo_ok X G (c1.fact 19 (f := .glo "law") rfl))
  cases e
  have b := FunD.bindsA (ps := ["_law_script"]) F_27 fun _ _ _ _ _ _ us hl => match us, hl with | [_], _ => rfl
  exact ⟨_, fun s v => b s [v] rfl, fun base _ _ => ok_law M F_27⟩
end My
open PySem PySem.W PyProof.Rows
set_option maxRecDepth 100000 in
set_option maxHeartbeats 0 in
theorem PySem.Challenge.cw_howmanyeach_k16_whole_manys_in_order_holds : PySem.Challenge.rw_howmanyeach_k16_whole_manys_in_order.Holds := by
  w_on; o_law
  refine HandSHeadRun.head_imp (r := My.rowR) (q := view My.rowR.prog [34]) (H := My.hkL) (ob := My.obL) (M := 6000) (loose := My.looseL) (d := HandSHeadRun.topDef My.rowR.prog 34) (kwd := []) My.obL_eq My.runL (by kernel_rfl) (by kernel_rfl) (by rfl) (by first | decide +kernel | assumption) (by decide +kernel) (by first | rfl | decide +kernel | kernel_rfl) ⟨rfl, rfl, rfl, rfl, rfl, by decide +kernel⟩ ?hw ?hc
  case hw => w_witness2
  case hc =>
    refine My.walkGE (l := PySem.Challenge.rw_howmanyeach_k16_whole_manys_in_order) (n := 63) (k := 16) (x := "_law_script") rfl (by decide) (by kernel_rfl) ⟨⟨rfl, by decide, by decide⟩, rfl⟩ ?F
    intro w mg fa h Y G hmg0
    obtain ⟨K, KX, c⟩ := Y
    have hmg : mg ("law" : PySem.Str) = some (.ref fa) := by
      have e : (HandSHeadRun.topDef My.rowR.prog 34).name = ("law" : PySem.Str) := by kernel_rfl
      rw [← e]
      exact hmg0
    obtain ⟨fd, hb, hF⟩ := My.facts (P := (PySem.Challenge.rw_howmanyeach_k16_whole_manys_in_order).prog) (w := w) KX G hmg c
    exact ⟨K, fd, My.spLaw K, KX, hb, fun H a ns hl _ hS => ⟨a, ns, rfl, hS, hl, fun _ => rfl⟩, hF⟩
end
