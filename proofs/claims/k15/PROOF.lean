import PyProof.Rows.All
import Wide.All
import OpenK.AllK
import Wide.FinOn
import HandS.Base
import HandS.Call
import KE.KOpsOwn
import KE.KIsAll
import KE.KNestM
import HandS.Head0
import HandS.Head1
import HandS.Head2
import HandS.HeadEnd
import HandS.HeadHook1
import HandS.HeadHook2
import HandS.HeadHook3
import HandS.HeadHook4
import HandS.ForMost
import HandS.Wide
import HandS.WideBits
import HandS.Property
import HandS.Defaults
import HandS.RaiseMore
import HandS.IsInst
import HandS.Flow
import HandS.SetFor
import HandS.Strs
import HandS.Conv
import OpenK.KMeth
import PyProof.InstNe
import PyProof.Conv_bool
import HandS.DictComp
import HandS.More
import HandS.Finally
import HandS.Iter
import HandS.Text
import HandS.Small
import HandS.FStr
import OpenK.KMore
import HandS.ExcInit
import HandS.ExcField
import HandS.ExcIs
import KE.KExcInit
import KE.KExcLine
import HandS.ExcValue
import HandS.Dict
import HandS.ForDict
import HandS.Walk
import HandS.Style
import KE.KParC
import HandS.ClsMeth
import HandS.ListItems
import KE.KCallOwn
import HandS.TryMany
import HandS.ExcOwn
import HandS.Replace
import HandS.Steps
import HandS.Lambda
import HandS.EndTab
import HandS.HotCalls
import HandS.OwnEq
import HandS.Gcd
import HandS.Head3
import PySem.Challenge.RW_howmanyeach_k15_whole_sums_and_products
set_option Elab.async false
set_option linter.all false
set_option maxRecDepth 100000
set_option maxHeartbeats 4000000
namespace My
open PySem L2 PySem.Spec PyProof.Rows PySem.W
/-! ### what the run of the top is asked for (defs alone; their theorems stand behind) -/
def exfB (K : Frag) (C : Addr) (mro : List Value) (newId : String) : Bool :=
  match K.lookup C with
    | some ⟨c, _, .cls cd, sl⟩ => decide (c = .type "type") && (decide (cd.mro = mro) && (cd.hasDict && (!cd.hasDel && (decide (sl.toList.length = 6) && decide (sl.toList[4]? = some (some (.builtin newId)))))))
    | _ => false
def eqO (a b : Option (Option Value)) : Bool := decide (a = b)
def excB (K : Frag) (C : Addr) (mro : List Value) (newId : String) : Bool :=
  exfB K C mro newId && (eqO (findIn K (.ref C) "__setattr__") (some (some (.builtin "object.__setattr__"))) && (keepIn K (.ref C) && (eqO (findIn K (.ref C) "__getattribute__") (some (some (.builtin "BaseException.__getattribute__"))) &&
    (eqO (findIn K (.ref C) "__getattr__") (some none) && (eqO (findIn K (.ref C) "__class__") (some (some (.builtin "object.__class__"))) && decide (typeIn K (.ref C) = some (.type "type")))))))
/-- an own __init__ -/
def iniB (K : Frag) (C : Addr) : Bool := eqO (findIn K (.ref C) "__init__") (some (some (.ref (He.ma K C "__init__")))) && isFn K (.ref (He.ma K C "__init__"))
def fnA (K : Frag) (a : Addr) : He.FnW := match K.lookup a with
  | some ⟨_, _, .func fd, _⟩ => some (fd.name, fd.qualname, fd.params, fd.body, fd.scope, fd.globals, fd.closure, fd.builtins)
  | _ => none
def okA (K : Frag) (a : Addr) (d : He.DefD) : Bool := keepIn K (.ref a) && (match K.lookup a with
  | some ⟨_, _, .func fd, _⟩ => codeIn K fd.code d.qual && (He.dflB K fd.defaults (d.dvs K) && He.kwdB K fd.kwdefaults (d.kws K))
  | _ => false)
abbrev AtD : Type := (Frag → Addr) × He.DefD
abbrev AlY : Type := He.AlD × (Bool × List He.FnW)
def obsY (fa : List He.Fa) (fn : List He.DefD) (ad : List AtD) (ex : Frag → Bool) (K : Frag) : AlY := (He.obsD fa fn K, (ex K && ad.all fun d => okA K (d.1 K) d.2, ad.map fun d => fnA K (d.1 K)))
def valY (fn : List He.DefD) (ad : List AtD) : AlY := (He.valD fn, (true, ad.map fun d => d.2.val))
def SaysY (fa : List He.Fa) (fn : List He.DefD) (ad : List AtD) (ex : Frag → Bool) (K : Frag) : Prop := obsY fa fn ad ex K = valY fn ad
def obsYG (n : Nat) (fa : List He.Fa) (fn : List He.DefD) (ad : List AtD) (ex : Frag → Bool) (g : Addr → Option Obj) : AlY := obsY fa fn ad ex (He.frG g (He.asD g n ++ [cStatics]))
def hookY (n : Nat) (fa : List He.Fa) (fn : List He.DefD) (ad : List AtD) (ex : Frag → Bool) : Hook where
  α := AlY
  obs := fun s => obsYG n fa fn ad ex s.heap.get?
  val := fun _ => valY fn ad
  says := fun _ h => ∃ K : Frag, K.In h ∧ SaysY fa fn ad ex K
  of := fun _ _ e => ⟨_, He.frG_in, e⟩
  keeps := fun _ _ _ ⟨K, hK, c⟩ k => ⟨K, Frag.In.keeps hK k, c⟩
theorem obsYG_eq {n : Nat} {fa : List He.Fa} {fn : List He.DefD} {ad : List AtD} {ex : Frag → Bool} {g : Addr → Option Obj} {s : Shared} (h : ∀ a, g a = s.heap.get? a) : obsYG n fa fn ad ex g = (hookY n fa fn ad ex).obs s := by
  have e : g = s.heap.get? := funext h
  rw [e]
  rfl
def staP (K : Frag) (C : Addr) (m : Str) : Addr := match findCls K (.ref C) (.type "type") m with
  | some (.get _ (.ref p) _ _) => p
  | _ => 0
def staF (K : Frag) (C : Addr) (m : Str) : Addr := match recIn K (staP K C m) "staticmethod" with
  | some (.ref f :: _) => f
  | _ => 0
def staB (K : Frag) (C : Addr) (m : Str) : Bool := readsIn K C (.type "type") && (eqO (specialIn K (.ref C) "__getattribute__") (some (some (.builtin "type.__getattribute__"))) && (match findCls K (.ref C) (.type "type") m with
  | some (.get g (.ref _) o t) => decide (g = .builtin "staticmethod.__get__") && (decide (o = .none) && (decide (t = .ref C) && (match recIn K (staP K C m) "staticmethod" with
    | some (.ref _ :: _) => keepIn K (.ref (staF K C m))
    | _ => false)))
  | _ => false))
def prP (K : PySem.W.Frag) (c m : Str) : Addr := match PySem.W.findIn K (.ref (He.ga K c)) m with
  | some (some (.ref p)) => p
  | _ => 0
def prA (K : PySem.W.Frag) (c m : Str) : Addr := match PySem.W.recIn K (prP K c m) "property" with
  | some (.ref g :: _) => g
  | _ => 0
def prB (K : PySem.W.Frag) (c m : Str) : Bool := eqO (PySem.W.findIn K (.ref (He.ga K c)) m) (some (some (.ref (prP K c m)))) && (eqO (PySem.W.specialIn K (.ref (prP K c m)) "__get__") (some (some (.builtin "property.__get__"))) &&
  (decide (PySem.W.takesIn K (.ref (prP K c m)) = some true) && (match PySem.W.recIn K (prP K c m) "property" with
    | some (.ref _ :: _) => true
    | _ => false)))
/-- the code object and the table of the def at a -/
def tcC (K : Frag) (a : Addr) : Addr := match K.lookup a with
  | some ⟨_, _, .func fd, _⟩ => (match fd.code with | .ref c => c | _ => 0)
  | _ => 0
def tcP (K : Frag) (a : Addr) : Addr := match K.lookup (tcC K a) with
  | some ⟨_, _, .fields us, _⟩ => (match (us[11]? : Option Value) with | some (.ref p) => p | _ => 0)
  | _ => 0
def isTabO (o : Obj) : Bool := match o with
  | ⟨.none, none, .fields us, sl⟩ => us.size == 0 && sl.size == 0
  | _ => false
def isTabG (g : Addr → Option Obj) (a : Addr) : Bool := match g a with
  | some o => isTabO o
  | none => false
def asK (n : Nat) (g : Addr → Option Obj) : List Addr := He.asD g n ++ [cStatics]
def frK (n : Nat) (g : Addr → Option Obj) : Frag := He.frG g ((asK n g).filter fun a => !isTabG g a)
def frT (n : Nat) (g : Addr → Option Obj) : Frag := He.frG g ((asK n g).filter fun a => isTabG g a)
def obsZG (n : Nat) (fa : List He.Fa) (fn : List He.DefD) (ad : List AtD) (ex : Frag → Frag → Bool) (g : Addr → Option Obj) : AlY := obsY fa fn ad (ex (frT n g)) (frK n g)
def hookZ (n : Nat) (fa : List He.Fa) (fn : List He.DefD) (ad : List AtD) (ex : Frag → Frag → Bool) : Hook where
  α := AlY
  obs := fun s => obsZG n fa fn ad ex s.heap.get?
  val := fun _ => valY fn ad
  says := fun _ h => ∃ T K : Frag, T.In h ∧ K.In h ∧ SaysY fa fn ad (ex T) K
  of := fun _ _ e => ⟨_, _, He.frG_in, He.frG_in, e⟩
  keeps := fun _ _ _ ⟨T, K, hT, hK, c⟩ k => ⟨T, K, Frag.In.keeps hT k, Frag.In.keeps hK k, c⟩
theorem obsZG_eq {n : Nat} {fa : List He.Fa} {fn : List He.DefD} {ad : List AtD} {ex : Frag → Frag → Bool} {g : Addr → Option Obj} {s : Shared} (h : ∀ a, g a = s.heap.get? a) : obsZG n fa fn ad ex g = (hookZ n fa fn ad ex).obs s := by
  have e : g = s.heap.get? := funext h
  rw [e]
  rfl
def tabOkB (T K : Frag) (a : Addr) : Bool := codeHdIn K (tcC K a) (tcP K a) && ((K.lookup (tcP K a)).isNone && (match T.lookup (tcP K a) with | some o => isTabO o | none => false))
def bTys : List Value := [.type "NoneType", .type "bool", .type "int", .type "str", .type "tuple", .type "list", .type "dict"]
def aTys (L : List Addr) : List Value := bTys ++ L.map Value.ref
def subT (t u : Value) : Bool := t == u || (t == .type "bool" && u == .type "int")
def kitsB (K : Frag) (L : List Addr) : Bool := (aTys L).all fun t => (aTys L).all fun u => kitOne K t u == some (subT t u)
def fnAt (K : Frag) (D : Addr) (x : Str) : Bool := match findIn K (.ref D) x with
  | some (some (.ref g)) => true
  | _ => false
/-- an operand of type t does not come before C's own nm -/
def rightB (K : Frag) (C : Addr) (nm : String) (t : Value) : Bool := match t with
  | .type T => (findIn K (.type T) (PySem.dunder nm)).isSome && ((findIn K (.type T) (dunderR nm)).isSome && subIn K (.type T) (.ref C) == some false)
  | .ref D => D == C || (!(C == D) && ((findIn K (.ref D) (PySem.dunder nm) == some none && (findIn K (.ref D) (dunderR nm) == some none && ((clsIn K D).any (fun cd => cd.mro == [.ref D, .type "object"]) && (findIn K (.type "object") (PySem.dunder nm) == some none && findIn K (.type "object") (dunderR nm) == some none)))) ||
      (fnAt K D (PySem.dunder nm) && (fnAt K D (dunderR nm) && (selfFirst K D && subIn K (.ref D) (.ref C) == some false)))))
  | _ => false
/-- C's reflected method: there or not, as a def -/
def reflB (K : Frag) (C : Addr) (nm : String) : Bool := findIn K (.ref C) (dunderR nm) == some none || fnAt K C (dunderR nm)
def opsB (K : Frag) (C : Addr) (nm : String) (L : List Addr) : Bool := selfFirst K C && (reflB K C nm && (aTys L).all (rightB K C nm))
def reflOk (K : Frag) (C : Addr) (nm : String) : Bool := selfFirst K C && (fnAt K C (PySem.dunder nm) && (subIn K (.ref C) (.type "int") == some false && subIn K (.ref C) (.type "bool") == some false))
end My

section
namespace My
open PySem L2
def top (i : Nat) : Stmt := PySem.Challenge.pw_howmanyeach_k15_whole_sums_and_products.main.body.getD i (.Pass ⟨0, 0, 0, 0⟩)
abbrev st_is_integer : Stmt := top 12
abbrev N_is_integer : List Str := ["value"]
abbrev P_is_integer : List Str := ["value"]
theorem sc_is_integer : FnScope N_is_integer P_is_integer (defScope st_is_integer) := ⟨rfl, rfl, rfl, by decide +kernel, rfl, by decide +kernel, by decide +kernel⟩
abbrev st_is_count : Stmt := top 13
abbrev N_is_count : List Str := ["value"]
abbrev P_is_count : List Str := ["value"]
theorem sc_is_count : FnScope N_is_count P_is_count (defScope st_is_count) := ⟨rfl, rfl, rfl, by decide +kernel, rfl, by decide +kernel, by decide +kernel⟩
abbrev st__is_up_to : Stmt := top 17
abbrev N__is_up_to : List Str := ["number", "most"]
abbrev P__is_up_to : List Str := ["number", "most"]
theorem sc__is_up_to : FnScope N__is_up_to P__is_up_to (defScope st__is_up_to) := ⟨rfl, rfl, rfl, by decide +kernel, rfl, by decide +kernel, by decide +kernel⟩
abbrev st__most_of_sum : Stmt := top 18
abbrev N__most_of_sum : List Str := ["one", "other"]
abbrev P__most_of_sum : List Str := ["one", "other"]
theorem sc__most_of_sum : FnScope N__most_of_sum P__most_of_sum (defScope st__most_of_sum) := ⟨rfl, rfl, rfl, by decide +kernel, rfl, by decide +kernel, by decide +kernel⟩
abbrev st__most_of_product : Stmt := top 19
abbrev N__most_of_product : List Str := ["one", "other"]
abbrev P__most_of_product : List Str := ["one", "other"]
theorem sc__most_of_product : FnScope N__most_of_product P__most_of_product (defScope st__most_of_product) := ⟨rfl, rfl, rfl, by decide +kernel, rfl, by decide +kernel, by decide +kernel⟩
abbrev st__law_rng : Stmt := top 24
abbrev N__law_rng : List Str := ["_law_script", "_law_k", "_law_cell"]
abbrev P__law_rng : List Str := ["_law_script", "_law_k"]
theorem sc__law_rng : FnScope N__law_rng P__law_rng (defScope st__law_rng) := ⟨rfl, rfl, rfl, by decide +kernel, rfl, by decide +kernel, by decide +kernel⟩
abbrev st__law_draw : Stmt := top 25
abbrev N__law_draw : List Str := ["_law_rng_here", "_law_sides", "_law_digit"]
abbrev P__law_draw : List Str := ["_law_rng_here", "_law_sides"]
theorem sc__law_draw : FnScope N__law_draw P__law_draw (defScope st__law_draw) := ⟨rfl, rfl, rfl, by decide +kernel, rfl, by decide +kernel, by decide +kernel⟩
abbrev st__law_choice : Stmt := top 26
abbrev N__law_choice : List Str := ["_law_rng_here", "_law_some"]
abbrev P__law_choice : List Str := ["_law_rng_here", "_law_some"]
theorem sc__law_choice : FnScope N__law_choice P__law_choice (defScope st__law_choice) := ⟨rfl, rfl, rfl, by decide +kernel, rfl, by decide +kernel, by decide +kernel⟩
abbrev st__law_pair : Stmt := top 27
abbrev N__law_pair : List Str := ["_law_rng_here", "_law_way", "_law_low"]
abbrev P__law_pair : List Str := ["_law_rng_here"]
theorem sc__law_pair : FnScope N__law_pair P__law_pair (defScope st__law_pair) := ⟨rfl, rfl, rfl, by decide +kernel, rfl, by decide +kernel, by decide +kernel⟩
abbrev st__law_far : Stmt := top 28
abbrev N__law_far : List Str := ["_law_rng_here", "_law_low"]
abbrev P__law_far : List Str := ["_law_rng_here"]
theorem sc__law_far : FnScope N__law_far P__law_far (defScope st__law_far) := ⟨rfl, rfl, rfl, by decide +kernel, rfl, by decide +kernel, by decide +kernel⟩
abbrev st__law_made : Stmt := top 29
abbrev N__law_made : List Str := ["_law_pair_here"]
abbrev P__law_made : List Str := ["_law_pair_here"]
theorem sc__law_made : FnScope N__law_made P__law_made (defScope st__law_made) := ⟨rfl, rfl, rfl, by decide +kernel, rfl, by decide +kernel, by decide +kernel⟩
abbrev st__law_row : Stmt := top 30
abbrev N__law_row : List Str := ["_law_made_here"]
abbrev P__law_row : List Str := ["_law_made_here"]
theorem sc__law_row : FnScope N__law_row P__law_row (defScope st__law_row) := ⟨rfl, rfl, rfl, by decide +kernel, rfl, by decide +kernel, by decide +kernel⟩
abbrev st__law_numbers : Stmt := top 31
abbrev N__law_numbers : List Str := ["_law_pair_here", "_law_top", "_law_at"]
abbrev P__law_numbers : List Str := ["_law_pair_here", "_law_top"]
theorem sc__law_numbers : FnScope N__law_numbers P__law_numbers (defScope st__law_numbers) := ⟨rfl, rfl, rfl, by decide +kernel, rfl, by decide +kernel, by decide +kernel⟩
abbrev st__law_spanned : Stmt := top 32
abbrev N__law_spanned : List Str := ["_law_first", "_law_second", "_law_is_sum", "_law_ends", "_law_top", "_law_found", "_law_one", "_law_two"]
abbrev P__law_spanned : List Str := ["_law_first", "_law_second", "_law_is_sum"]
theorem sc__law_spanned : FnScope N__law_spanned P__law_spanned (defScope st__law_spanned) := ⟨rfl, rfl, rfl, by decide +kernel, rfl, by decide +kernel, by decide +kernel⟩
abbrev st__law_bounds : Stmt := top 33
abbrev N__law_bounds : List Str := ["_law_first", "_law_second", "_law_is_sum", "_law_most", "_law_low"]
abbrev P__law_bounds : List Str := ["_law_first", "_law_second", "_law_is_sum"]
theorem sc__law_bounds : FnScope N__law_bounds P__law_bounds (defScope st__law_bounds) := ⟨rfl, rfl, rfl, by decide +kernel, rfl, by decide +kernel, by decide +kernel⟩
abbrev st__law_refused : Stmt := top 34
abbrev N__law_refused : List Str := ["_law_call", "_law_told", "e"]
abbrev P__law_refused : List Str := ["_law_call"]
theorem sc__law_refused : FnScope N__law_refused P__law_refused (defScope st__law_refused) := ⟨rfl, rfl, rfl, by decide +kernel, rfl, by decide +kernel, by decide +kernel⟩
abbrev st__law_two_right : Stmt := top 35
abbrev N__law_two_right : List Str := ["_law_first", "_law_second", "_law_is_near", "_law_one", "_law_two", "_law_kept", "_law_sums", "_law_times", "_law_due", "_law_spans", "_law_again"]
abbrev P__law_two_right : List Str := ["_law_first", "_law_second", "_law_is_near"]
theorem sc__law_two_right : FnScope N__law_two_right P__law_two_right (defScope st__law_two_right) := ⟨rfl, rfl, rfl, by decide +kernel, rfl, by decide +kernel, by decide +kernel⟩
abbrev st__law_three_right : Stmt := top 36
abbrev N__law_three_right : List Str := ["_law_pairs", "_law_one", "_law_two", "_law_three"]
abbrev P__law_three_right : List Str := ["_law_pairs"]
theorem sc__law_three_right : FnScope N__law_three_right P__law_three_right (defScope st__law_three_right) := ⟨rfl, rfl, rfl, by decide +kernel, rfl, by decide +kernel, by decide +kernel⟩
abbrev st__law_count_right : Stmt := top 37
abbrev N__law_count_right : List Str := ["_law_pair_here", "_law_count_by", "_law_one", "_law_due"]
abbrev P__law_count_right : List Str := ["_law_pair_here", "_law_count_by"]
theorem sc__law_count_right : FnScope N__law_count_right P__law_count_right (defScope st__law_count_right) := ⟨rfl, rfl, rfl, by decide +kernel, rfl, by decide +kernel, by decide +kernel⟩
abbrev st__law_odd_right : Stmt := top 38
abbrev N__law_odd_right : List Str := ["_law_rng_here", "_law_pair_here", "_law_due", "_law_told", "_law_odd", "_law_one"]
abbrev P__law_odd_right : List Str := ["_law_rng_here", "_law_pair_here"]
theorem sc__law_odd_right : FnScope N__law_odd_right P__law_odd_right (defScope st__law_odd_right) := ⟨rfl, rfl, rfl, by decide +kernel, rfl, by decide +kernel, by decide +kernel⟩
abbrev st__law_right : Stmt := top 39
abbrev N__law_right : List Str := ["_law_rng_here", "_law_turn", "_law_pairs", "_law_far_here", "_law_again"]
abbrev P__law_right : List Str := ["_law_rng_here"]
theorem sc__law_right : FnScope N__law_right P__law_right (defScope st__law_right) := ⟨rfl, rfl, rfl, by decide +kernel, rfl, by decide +kernel, by decide +kernel⟩
abbrev st_Many___init__ : Stmt := inClass (top 16) 1
abbrev N_Many___init__ : List Str := ["self", "least", "most"]
abbrev P_Many___init__ : List Str := ["self", "least", "most"]
theorem sc_Many___init__ : FnScope N_Many___init__ P_Many___init__ (defScope st_Many___init__) := ⟨rfl, rfl, rfl, by decide +kernel, rfl, by decide +kernel, by decide +kernel⟩
abbrev st_Many_least : Stmt := inClass (top 16) 2
abbrev N_Many_least : List Str := ["self"]
abbrev P_Many_least : List Str := ["self"]
theorem sc_Many_least : FnScope N_Many_least P_Many_least (defScope st_Many_least) := ⟨rfl, rfl, rfl, by decide +kernel, rfl, by decide +kernel, by decide +kernel⟩
abbrev st_Many_most : Stmt := inClass (top 16) 3
abbrev N_Many_most : List Str := ["self"]
abbrev P_Many_most : List Str := ["self"]
theorem sc_Many_most : FnScope N_Many_most P_Many_most (defScope st_Many_most) := ⟨rfl, rfl, rfl, by decide +kernel, rfl, by decide +kernel, by decide +kernel⟩
abbrev st_Many___add__ : Stmt := inClass (top 16) 10
abbrev N_Many___add__ : List Str := ["self", "other"]
abbrev P_Many___add__ : List Str := ["self", "other"]
theorem sc_Many___add__ : FnScope N_Many___add__ P_Many___add__ (defScope st_Many___add__) := ⟨rfl, rfl, rfl, by decide +kernel, rfl, by decide +kernel, by decide +kernel⟩
abbrev st_Many___mul__ : Stmt := inClass (top 16) 11
abbrev N_Many___mul__ : List Str := ["self", "other"]
abbrev P_Many___mul__ : List Str := ["self", "other"]
theorem sc_Many___mul__ : FnScope N_Many___mul__ P_Many___mul__ (defScope st_Many___mul__) := ⟨rfl, rfl, rfl, by decide +kernel, rfl, by decide +kernel, by decide +kernel⟩
abbrev st_Many___rmul__ : Stmt := inClass (top 16) 12
abbrev N_Many___rmul__ : List Str := ["self", "other"]
abbrev P_Many___rmul__ : List Str := ["self", "other"]
theorem sc_Many___rmul__ : FnScope N_Many___rmul__ P_Many___rmul__ (defScope st_Many___rmul__) := ⟨rfl, rfl, rfl, by decide +kernel, rfl, by decide +kernel, by decide +kernel⟩
abbrev st_Many___eq__ : Stmt := inClass (top 16) 14
abbrev N_Many___eq__ : List Str := ["self", "other"]
abbrev P_Many___eq__ : List Str := ["self", "other"]
theorem sc_Many___eq__ : FnScope N_Many___eq__ P_Many___eq__ (defScope st_Many___eq__) := ⟨rfl, rfl, rfl, by decide +kernel, rfl, by decide +kernel, by decide +kernel⟩
abbrev st_Many___repr__ : Stmt := inClass (top 16) 20
abbrev N_Many___repr__ : List Str := ["self"]
abbrev P_Many___repr__ : List Str := ["self"]
theorem sc_Many___repr__ : FnScope N_Many___repr__ P_Many___repr__ (defScope st_Many___repr__) := ⟨rfl, rfl, rfl, by decide +kernel, rfl, by decide +kernel, by decide +kernel⟩
abbrev st_Ratio___init__ : Stmt := inClass (top 21) 0
abbrev N_Ratio___init__ : List Str := ["self", "top", "bottom", "divisor"]
abbrev P_Ratio___init__ : List Str := ["self", "top", "bottom"]
theorem sc_Ratio___init__ : FnScope N_Ratio___init__ P_Ratio___init__ (defScope st_Ratio___init__) := ⟨rfl, rfl, rfl, by decide +kernel, rfl, by decide +kernel, by decide +kernel⟩
abbrev st_Ratio___repr__ : Stmt := inClass (top 21) 15
abbrev N_Ratio___repr__ : List Str := ["self"]
abbrev P_Ratio___repr__ : List Str := ["self"]
theorem sc_Ratio___repr__ : FnScope N_Ratio___repr__ P_Ratio___repr__ (defScope st_Ratio___repr__) := ⟨rfl, rfl, rfl, by decide +kernel, rfl, by decide +kernel, by decide +kernel⟩
abbrev st_InvalidMany___init__ : Stmt := inClass (top 6) 0
abbrev N_InvalidMany___init__ : List Str := ["self", "value"]
abbrev P_InvalidMany___init__ : List Str := ["self", "value"]
theorem sc_InvalidMany___init__ : FnScope N_InvalidMany___init__ P_InvalidMany___init__ (defScope st_InvalidMany___init__) := ⟨rfl, rfl, rfl, by decide +kernel, rfl, by decide +kernel, by decide +kernel⟩
abbrev st_law : Stmt := top 40
abbrev N_law : List Str := ["_law_script", "_law_k"]
abbrev P_law : List Str := ["_law_script"]
theorem sc_law : FnScope N_law P_law (defScope st_law) := ⟨rfl, rfl, rfl, by decide +kernel, rfl, by decide +kernel, by decide +kernel⟩
abbrev TLs (K : PySem.W.Frag) (L__law_odd_right : Addr) : List (Addr × Str) := [(tcP K L__law_odd_right, (("_law_odd_right" : Str) ++ ".<locals>.") ++ "<lambda>")]
abbrev csL (K : PySem.W.Frag) (L__law_odd_right : Addr) : List (Addr × Addr) := [(tcC K L__law_odd_right, tcP K L__law_odd_right)]
end My
end
section
namespace My
open PySem L2 PySem.W
def dd_is_integer : He.DefD := ⟨("is_integer", none), "is_integer", "is_integer", defArgs st_is_integer, defBody st_is_integer, defScope st_is_integer, [], []⟩
def dd_is_count : He.DefD := ⟨("is_count", none), "is_count", "is_count", defArgs st_is_count, defBody st_is_count, defScope st_is_count, [], []⟩
def dd__is_up_to : He.DefD := ⟨("_is_up_to", none), "_is_up_to", "_is_up_to", defArgs st__is_up_to, defBody st__is_up_to, defScope st__is_up_to, [], []⟩
def dd__most_of_sum : He.DefD := ⟨("_most_of_sum", none), "_most_of_sum", "_most_of_sum", defArgs st__most_of_sum, defBody st__most_of_sum, defScope st__most_of_sum, [], []⟩
def dd__most_of_product : He.DefD := ⟨("_most_of_product", none), "_most_of_product", "_most_of_product", defArgs st__most_of_product, defBody st__most_of_product, defScope st__most_of_product, [], []⟩
def dd__law_rng : He.DefD := ⟨("_law_rng", none), "_law_rng", "_law_rng", defArgs st__law_rng, defBody st__law_rng, defScope st__law_rng, [], []⟩
def dd__law_draw : He.DefD := ⟨("_law_draw", none), "_law_draw", "_law_draw", defArgs st__law_draw, defBody st__law_draw, defScope st__law_draw, [], []⟩
def dd__law_choice : He.DefD := ⟨("_law_choice", none), "_law_choice", "_law_choice", defArgs st__law_choice, defBody st__law_choice, defScope st__law_choice, [], []⟩
def dd__law_pair : He.DefD := ⟨("_law_pair", none), "_law_pair", "_law_pair", defArgs st__law_pair, defBody st__law_pair, defScope st__law_pair, [], []⟩
def dd__law_far : He.DefD := ⟨("_law_far", none), "_law_far", "_law_far", defArgs st__law_far, defBody st__law_far, defScope st__law_far, [], []⟩
def dd__law_made : He.DefD := ⟨("_law_made", none), "_law_made", "_law_made", defArgs st__law_made, defBody st__law_made, defScope st__law_made, [], []⟩
def dd__law_row : He.DefD := ⟨("_law_row", none), "_law_row", "_law_row", defArgs st__law_row, defBody st__law_row, defScope st__law_row, [], []⟩
def dd__law_numbers : He.DefD := ⟨("_law_numbers", none), "_law_numbers", "_law_numbers", defArgs st__law_numbers, defBody st__law_numbers, defScope st__law_numbers, [], []⟩
def dd__law_spanned : He.DefD := ⟨("_law_spanned", none), "_law_spanned", "_law_spanned", defArgs st__law_spanned, defBody st__law_spanned, defScope st__law_spanned, [], []⟩
def dd__law_bounds : He.DefD := ⟨("_law_bounds", none), "_law_bounds", "_law_bounds", defArgs st__law_bounds, defBody st__law_bounds, defScope st__law_bounds, [], []⟩
def dd__law_refused : He.DefD := ⟨("_law_refused", none), "_law_refused", "_law_refused", defArgs st__law_refused, defBody st__law_refused, defScope st__law_refused, [], []⟩
def dd__law_two_right : He.DefD := ⟨("_law_two_right", none), "_law_two_right", "_law_two_right", defArgs st__law_two_right, defBody st__law_two_right, defScope st__law_two_right, [], []⟩
def dd__law_three_right : He.DefD := ⟨("_law_three_right", none), "_law_three_right", "_law_three_right", defArgs st__law_three_right, defBody st__law_three_right, defScope st__law_three_right, [], []⟩
def dd__law_count_right : He.DefD := ⟨("_law_count_right", none), "_law_count_right", "_law_count_right", defArgs st__law_count_right, defBody st__law_count_right, defScope st__law_count_right, [], []⟩
def dd__law_odd_right : He.DefD := ⟨("_law_odd_right", none), "_law_odd_right", "_law_odd_right", defArgs st__law_odd_right, defBody st__law_odd_right, defScope st__law_odd_right, [], []⟩
def dd__law_right : He.DefD := ⟨("_law_right", none), "_law_right", "_law_right", defArgs st__law_right, defBody st__law_right, defScope st__law_right, [], []⟩
def dd_Many___init__ : He.DefD := ⟨("Many", some "__init__"), "__init__", "Many.__init__", defArgs st_Many___init__, defBody st_Many___init__, defScope st_Many___init__, [.non], []⟩
def dd_Many___add__ : He.DefD := ⟨("Many", some "__add__"), "__add__", "Many.__add__", defArgs st_Many___add__, defBody st_Many___add__, defScope st_Many___add__, [], []⟩
def dd_Many___mul__ : He.DefD := ⟨("Many", some "__mul__"), "__mul__", "Many.__mul__", defArgs st_Many___mul__, defBody st_Many___mul__, defScope st_Many___mul__, [], []⟩
def dd_Many___rmul__ : He.DefD := ⟨("Many", some "__rmul__"), "__rmul__", "Many.__rmul__", defArgs st_Many___rmul__, defBody st_Many___rmul__, defScope st_Many___rmul__, [], []⟩
def dd_Many___eq__ : He.DefD := ⟨("Many", some "__eq__"), "__eq__", "Many.__eq__", defArgs st_Many___eq__, defBody st_Many___eq__, defScope st_Many___eq__, [], []⟩
def dd_Many___repr__ : He.DefD := ⟨("Many", some "__repr__"), "__repr__", "Many.__repr__", defArgs st_Many___repr__, defBody st_Many___repr__, defScope st_Many___repr__, [], []⟩
def dd_Ratio___init__ : He.DefD := ⟨("Ratio", some "__init__"), "__init__", "Ratio.__init__", defArgs st_Ratio___init__, defBody st_Ratio___init__, defScope st_Ratio___init__, [.int (1)], []⟩
def dd_Ratio___repr__ : He.DefD := ⟨("Ratio", some "__repr__"), "__repr__", "Ratio.__repr__", defArgs st_Ratio___repr__, defBody st_Ratio___repr__, defScope st_Ratio___repr__, [], []⟩
def dd_InvalidMany___init__ : He.DefD := ⟨("InvalidMany", some "__init__"), "__init__", "InvalidMany.__init__", defArgs st_InvalidMany___init__, defBody st_InvalidMany___init__, defScope st_InvalidMany___init__, [], []⟩
def dd_law : He.DefD := ⟨("law", none), "law", "law", defArgs st_law, defBody st_law, defScope st_law, [], []⟩
def dd_Many_least : He.DefD := ⟨("Many", some "least"), "least", "Many.least", defArgs st_Many_least, defBody st_Many_least, defScope st_Many_least, [], []⟩
def dd_Many_most : He.DefD := ⟨("Many", some "most"), "most", "Many.most", defArgs st_Many_most, defBody st_Many_most, defScope st_Many_most, [], []⟩
def fnL : List He.DefD := ([dd_is_integer, dd_is_count, dd__is_up_to, dd__most_of_sum, dd__most_of_product, dd__law_rng, dd__law_draw, dd__law_choice, dd__law_pair, dd__law_far, dd__law_made, dd__law_row, dd__law_numbers, dd__law_spanned, dd__law_bounds, dd__law_refused, dd__law_two_right, dd__law_three_right, dd__law_count_right, dd__law_odd_right, dd__law_right, dd_Many___init__, dd_Many___add__, dd_Many___mul__, dd_Many___rmul__, dd_Many___eq__, dd_Many___repr__, dd_Ratio___init__, dd_Ratio___repr__, dd_InvalidMany___init__] : List He.DefD) ++ ([dd_law] : List He.DefD)
def adL : List AtD := ([(fun K => prA K "Many" "least", dd_Many_least), (fun K => prA K "Many" "most", dd_Many_most)] : List AtD)
def faL : List He.Fa := ([.glo "is_integer", .glo "is_count", .glo "_is_up_to", .glo "_most_of_sum", .glo "_most_of_product", .glo "_law_rng", .glo "_law_draw", .glo "_law_choice", .glo "_law_pair", .glo "_law_far", .glo "_law_made", .glo "_law_row", .glo "_law_numbers", .glo "_law_spanned", .glo "_law_bounds", .glo "_law_refused", .glo "_law_two_right", .glo "_law_three_right", .glo "_law_count_right", .glo "_law_odd_right", .glo "_law_right", .glo "Many", .glo "Ratio", .glo "EachError", .glo "InvalidMany", .glo "law", .free "isinstance", .free "int", .free "bool", .free "max"] : List He.Fa) ++ ([.free "min", .free "abs", .free "divmod", .free "len", .free "range", .free "all", .free "repr", .cls "Many", .mkr "Many", .noat "Many" "_least", .noat "Many" "_most", .noat "Many" "_key", .meth "Many" "__add__", .meth "Many" "__mul__", .meth "Many" "__rmul__", .meth "Many" "__eq__", .meth "Many" "__repr__", .cls "Ratio", .mkr "Ratio", .noat "Ratio" "_top", .noat "Ratio" "_bottom", .meth "Ratio" "__repr__"] : List He.Fa)
def tests (T K : PySem.W.Frag) : List Bool := ([decide (specialIn K (.builtin "object.__class__") "__get__" = some (some (.builtin "getset_descriptor.__get__"))), decide (takesIn K (.builtin "object.__class__") = some true), decide [(He.ga K "EachError"), (He.ga K "InvalidMany")].Nodup, excB K (He.ga K "EachError") [.ref (He.ga K "EachError"), .type "ValueError", .type "Exception", .type "BaseException", .type "object"] "ValueError.__new__", excIn K (He.ga K "EachError") [.type "ValueError", .type "Exception", .type "BaseException", .type "object"] "ValueError.__new__", excB K (He.ga K "InvalidMany") [.ref (He.ga K "InvalidMany"), .ref (He.ga K "EachError"), .type "ValueError", .type "Exception", .type "BaseException", .type "object"] "ValueError.__new__", iniB K (He.ga K "InvalidMany"), eqO (findIn K (.ref (He.ga K "InvalidMany")) "value") (some none), eqO (findIn K (.ref (He.ga K "Many")) "__class__") (some (some (.builtin "object.__class__"))), decide (mroIn K (He.ga K "Many") (.type "object") = some true), prB K "Many" "least", prB K "Many" "most", eqO (findIn K (.ref (He.ga K "Ratio")) "__class__") (some (some (.builtin "object.__class__"))), decide (mroIn K (He.ga K "Ratio") (.type "object") = some true), decide (PySem.W.findIn K (.ref (He.ga K "Many")) "__ne__" = some (some (.builtin "object.__ne__"))), decide (PySem.W.mroIn K (He.ga K "Many") (.type "object") = some true), decide (kitsB K [(He.ga K "Many"), (He.ga K "Ratio")] = true), decide (opsB K (He.ga K "Many") "add" [(He.ga K "Many"), (He.ga K "Ratio")] = true), decide (opsB K (He.ga K "Many") "mul" [(He.ga K "Many"), (He.ga K "Ratio")] = true), decide (reflOk K (He.ga K "Many") "mul" = true), decide (¬ ((He.ga K "Many") = (He.ga K "Ratio"))), eqO (PySem.W.nsIn K mainGlobals "gcd") (some (some (.builtin "math.gcd"))), tabOkB T K (He.ga K "_law_odd_right"), (TLs K (He.ga K "_law_odd_right")).all fun p => (TLs K (He.ga K "_law_odd_right")).all fun q => !(p.1 == q.1) || p.2 == q.2] : List Bool)
def exB (T K : PySem.W.Frag) : Bool := (tests T K).all id
def looseL : List PySem.Str := (["gcd", "_wall", "EachError", "InvalidCount", "InvalidNumber", "InvalidMany", "InvalidRatio", "InvalidText", "StateError", "Apart", "is_integer", "is_count", "number_in", "Many", "_is_up_to", "_most_of_sum", "_most_of_product", "Ratio", "_ratio_from", "_law_rng", "_law_draw", "_law_choice", "_law_pair", "_law_far", "_law_made", "_law_row", "_law_numbers", "_law_spanned", "_law_bounds", "_law_refused"] : List PySem.Str) ++ (["_law_two_right", "_law_three_right", "_law_count_right", "_law_odd_right", "_law_right"] : List PySem.Str)
abbrev rowR : PySem.W.OpenRow := PySem.W.OpenLaw.row PySem.Challenge.rw_howmanyeach_k15_whole_sums_and_products
abbrev hkL : PySem.W.Hook := hookZ 5 faL fnL adL exB
def obL (s : PySem.W.SharedT) : AlY := obsZG 5 faL fnL adL exB (HandSHeadRun.getT s)
theorem obL_eq (s : PySem.W.SharedT) : obL s = hkL.obs s.abs := obsZG_eq (HandSHeadRun.getT_eq s)
theorem runL (w : World) : HandSHeadRun.RunEqI rowR (PySem.W.view rowR.prog [40]) hkL obL 6000 looseL w := by
  unfold HandSHeadRun.RunEqI
  kernel_rfl
end My
end
namespace My
open PySem L2
/-! ### readings, one row each -/
section
variable {σ : L2.St} {H : Hp} {Q : VK} {i : Nat} {v x y : V} {ta tb te tc : TE} {r : R2} {D : Ends} {t u : TS} {tt tu : TT} {ts : TA} {g : TG} {K : PySem.W.Frag} {QB : Bool → Hp → Prop} {QA : List V → Hp → Prop}
theorem s_var (e : σ[i]? = some (some v)) (q : Q v H) : tVar i σ H Q := ⟨v, e, q⟩
theorem s_c (q : Q v H) : tC v σ H Q := q
theorem s_op (h : ta σ H fun x H1 => tb σ H1 fun y H2 => r x y H2 Q) : tOp r ta tb σ H Q := h
theorem s_un {r : V → Hp → VK → Prop} (h : ta σ H fun x H1 => r x H1 Q) : tUn r ta σ H Q := h
theorem s_cons (h : ta σ H fun x H1 => ts σ H1 fun xs H2 => QA (x :: xs) H2) : tCons ta ts σ H QA := h
theorem s_nil (h : QA [] H) : tNil σ H QA := h
theorem s_cb {r : List V → Hp → VK → Prop} (h : ts σ H fun vs H1 => r vs H1 Q) : tCB r ts σ H Q := h
theorem s_test (h : te σ H fun x H' => ∃ k, x = .bl k ∧ QB k H') : tTest te σ H QB := h
theorem s_B (h : te σ H fun x H' => ∃ k, x = .bl k ∧ QB k H') : tB te σ H QB := h
theorem s_not (h : tt σ H fun c H1 => QB (!c) H1) : tNot tt σ H QB := h
theorem s_and (h : tt σ H fun c H1 => if c = true then tu σ H1 QB else QB false H1) : tAnd tt tu σ H QB := h
theorem s_or (h : tt σ H fun c H1 => if c = true then QB true H1 else tu σ H1 QB) : tOr tt tu σ H QB := h
theorem s_if (h : tt σ H fun c H1 => if c = true then ta σ H1 Q else tb σ H1 Q) : tIf tt ta tb σ H Q := h
theorem s_notV (h : ta σ H fun x H1 => ∃ c, x = .bl c ∧ Q (.bl (!c)) H1) : tNotV ta σ H Q := h
theorem s_andV (h : ta σ H fun x H1 => ∃ c, x = .bl c ∧ if c = true then tb σ H1 Q else Q (.bl false) H1) : tAndV ta tb σ H Q := h
theorem s_orV (h : ta σ H fun x H1 => ∃ c, x = .bl c ∧ if c = true then Q (.bl true) H1 else tb σ H1 Q) : tOrV ta tb σ H Q := h
theorem s_isN (h : ta σ H fun x H1 => Q (.bl (decide (x = .non))) H1) : tIsN ta σ H Q := h
theorem s_notN (h : ta σ H fun x H1 => Q (.bl (!decide (x = .non))) H1) : tNotN ta σ H Q := h
theorem s_seq (h : t { D with nx := u D } σ H) : tSeq t u D σ H := h
theorem s_ifS (h : tt σ H fun b H1 => if b = true then t D σ H1 else u D σ H1) : tIfS tt t u D σ H := h
theorem s_asg (h : te σ H fun x H1 => g x σ H1 D.nx) : tAsg te g D σ H := h
theorem s_ret (h : te σ H D.rt) : tRet te D σ H := h
theorem s_drop (h : te σ H fun _ H1 => D.nx σ H1) : tDrop te D σ H := h
theorem s_next (h : D.nx σ H) : tNext D σ H := h
theorem s_break (h : D.bk σ H) : tBreak D σ H := h
theorem s_cont (h : D.ct σ H) : tCont D σ H := h
theorem s_gname {Q : L2.St → Hp → Prop} (h : Q (σ.set i (some v)) H) : gName i v σ H Q := h
theorem s_gsub {Q : L2.St → Hp → Prop} {to ti : TE} {t : TSet} (h : to σ H fun o H1 => ti σ H1 fun i H2 => t o i v H2 fun H3 => Q σ H3) : gSub to ti t v σ H Q := h
theorem s_gcons {Q : L2.St → Hp → Prop} {t : TG} {u : TGs} {vs : List V} (h : t v σ H fun σ' H' => u vs σ' H' Q) : gCons t u (v :: vs) σ H Q := ⟨v, vs, rfl, h⟩
theorem s_gnil {Q : L2.St → Hp → Prop} (h : Q σ H) : gNil [] σ H Q := ⟨rfl, h⟩
theorem s_gtup {Q : L2.St → Hp → Prop} {n : Nat} {t : TGs} {a : Addr} {xs : List V} (h1 : H a = some (.tup xs)) (h2 : xs.length = n) (h : t xs σ H Q) : gTup K n t (.ref a) σ H Q := ⟨a, xs, rfl, SqT.of h1, h2, h⟩
theorem s_I0 {g : Int → Int → V} {a b : Int} (q : Q (g a b) H) : rI0 g (.int a) (.int b) H Q := ⟨a, b, rfl, rfl, q⟩
theorem s_I {C : Int → Int → Prop} {g : Int → Int → V} {a b : Int} (hc : C a b) (q : Q (g a b) H) : rI C g (.int a) (.int b) H Q := ⟨a, b, rfl, rfl, hc, q⟩
theorem s_ixL {a : Addr} {xs : List V} {k : Int} (h : H a = some (.lst xs)) (e : atI xs k = some v) (q : Q v H) : rIxL K (.ref a) (.int k) H Q := ⟨a, xs, k, v, rfl, rfl, SqL.of h, e, q⟩
theorem s_ixT {a : Addr} {xs : List V} {k : Int} (h : H a = some (.tup xs)) (e : atI xs k = some v) (q : Q v H) : rIxT K (.ref a) (.int k) H Q := ⟨a, xs, k, v, rfl, rfl, SqT.of h, e, q⟩
theorem s_setL {a : Addr} {xs : List V} {k : Int} {j : Nat} {Q : Hp → Prop} (h : H a = some (.lst xs)) (e : ixN xs.length k = some j) (q : Q (upd H a (.lst (xs.set j v)))) : rSetL (.ref a) (.int k) v H Q := ⟨a, xs, k, j, rfl, rfl, h, e, q⟩
theorem s_tup (h : ts σ H fun xs H1 => xs.length ≤ sizeLine ∧ ∀ p, H1 p = none → Q (.ref p) (upd H1 p (.tup xs))) : tTup ts σ H Q := h
theorem s_lst (h : ts σ H fun xs H1 => xs.length ≤ sizeLine ∧ ∀ p, H1 p = none → Q (.ref p) (upd H1 p (.lst xs))) : tLst ts σ H Q := h
theorem s_call {sp : Sp} {dvs : List V} {E : XK} (h : ts σ H fun vs H1 => sp (vs ++ dvs) H1 Q E) : tCall sp dvs E ts σ H Q := h
theorem s_fld {a C dx : Addr} {fs : List (Str × V)} {f : Str} (h : ta σ H fun x H1 => ∃ a C dx fs v, x = .ref a ∧ H1 a = some (.ins C dx fs) ∧ Cls K C ∧ NoAttr K C f ∧ fs.lookup f = some v ∧ Q v H1) : tFld K ta f σ H Q := h
theorem ite_d {p : Prop} [Decidable p] {A B : Prop} (h1 : p → A) (h2 : ¬ p → B) : if decide p = true then A else B := by
  by_cases h : p
  · rw [if_pos (decide_eq_true h)]; exact h1 h
  · rw [if_neg (by simpa using h)]; exact h2 h
theorem ite_n {p : Prop} [Decidable p] {A B : Prop} (h1 : ¬ p → A) (h2 : p → B) : if (!decide p) = true then A else B := by
  by_cases h : p
  · rw [if_neg (by simpa using h)]; exact h2 h
  · rw [if_pos (by simpa using h)]; exact h1 h
end
theorem st_eq {N : List Str} {vs : List V} {σ : L2.St} {t : TS} {D : Ends} {H : Hp} (e : L2.start N vs = σ) (h : t D σ H) : t D (L2.start N vs) H := by
  rw [e]; exact h
theorem divp_wide {i j : Int} (h : 0 < j) (hb : j.natAbs.log2 < 9000) : CDivP i j := ⟨h, PyProof.noPylong_of_log2 hb⟩
/-! ### heaps -/
/-- all but r stays -/
def But (r : Addr) (H H' : Hp) : Prop := ∀ c o, H c = some o → c ≠ r → H' c = some o
theorem But.get {r c : Addr} {o : HO} {H H' : Hp} (b : But r H H') (h : H c = some o) (n : c ≠ r) : H' c = some o := b c o h n
theorem But.refl (r : Addr) (H : Hp) : But r H H := fun _ _ h _ => h
theorem But.trans {r : Addr} {H H1 H2 : Hp} (a : But r H H1) (b : But r H1 H2) : But r H H2 := fun c o h n => b c o (a c o h n) n
theorem But.new {r p : Addr} {o : HO} {H : Hp} (h : H p = none) : But r H (upd H p o) := fun c u e _ => by rw [upd_ne (ne_of_none e h)]; exact e
theorem But.at {r : Addr} {o : HO} {H : Hp} : But r H (upd H r o) := fun c u e n => by rw [upd_ne n]; exact e
theorem Same.get {c : Addr} {o : HO} {H H' : Hp} (b : Same H H') (h : H c = some o) : H' c = some o := b c o h
end My
namespace My
open PySem L2 PySem.Spec PyProof.Rows
/-! ### defs that may tell texts of containers: what is being shown already is known to be nothing -/
structure RoomG (k : Nat) (A : Around) : Prop where
  r : Room k A
  g : A.guards = some []
theorem RoomG.mono {j k : Nat} {A : Around} (q : RoomG k A) (h : j ≤ k) : RoomG j A := ⟨q.r.mono h, q.g⟩
theorem RoomG.units {k : Nat} {A : Around} (q : RoomG k A) : A.units + 64 < cLine := q.r.units
theorem RoomG.in1 {k : Nat} {A : Around} (q : RoomG (k + 1) A) : RoomG k A.in1 := ⟨q.r.in1, q.g⟩
theorem hug {A : Around} {k : Nat} (q : RoomG k A) : A.units + 1 < cLine := hu_of q.r
/-- the def at f keeps the promise sp wherever nothing is being shown -/
structure FnG (P : Program) (w : World) (K : PySem.W.Frag) (mg : Str → Option Value) (base : Heap) (CX : CXT) (k : Nat) (f : Addr) (fd : FuncData) (ps : List Str) (sp : Sp) : Prop where
  len : ∀ vs H Q E, sp vs H Q E → vs.length = ps.length
  go : ∀ (A : Around) (outer : List Env) (s : Shared) (H : Hp) (args : Args) (us : List Value) (vs : List V) (Q : VK) (E : XK), RoomG k A →
    Env0 P w K mg base A outer s H → BindsTo s fd args (ps.zip us) → Vals vs us → sp vs H Q E →
      codeAny (model P w) A (.call (.ref f) args) (CR CX outer P w H s Q E) s
section
variable {P : Program} {w : World} {K : PySem.W.Frag} {mg : Str → Option Value} {base : Heap} {CX : CXT} {k j : Nat} {f : Addr} {fd : FuncData} {ps : List Str} {sp sp' : Sp}
theorem FnG.of (F : FnOk P w K mg base CX k f fd ps sp) : FnG P w K mg base CX k f fd ps sp := ⟨F.len, fun A outer s H args us vs Q E hr => F.run A outer s H args us vs Q E hr.r⟩
theorem FnG.mono (F : FnG P w K mg base CX j f fd ps sp) (h : j ≤ k) : FnG P w K mg base CX k f fd ps sp := ⟨F.len, fun A outer s H args us vs Q E hr => F.go A outer s H args us vs Q E (hr.mono h)⟩
theorem FnG.imp (F : FnG P w K mg base CX k f fd ps sp) (h : ∀ vs H Q E, sp' vs H Q E → sp vs H Q E) : FnG P w K mg base CX k f fd ps sp' :=
  ⟨fun vs H Q E q => F.len vs H Q E (h _ _ _ _ q), fun A outer s H args us vs Q E hr a b c d => F.go A outer s H args us vs Q E hr a b c (h _ _ _ _ d)⟩
theorem fnG_body {x qual : Str} {st : Stmt} {N : List Str} {dvs0 : List V} {kws0 : List (Str × V)} (F : FunD K x qual (defArgs st) (defBody st) (defScope st) dvs0 kws0 f fd) (S : FnScope N ps (defScope st)) (len : ∀ vs H Q E, sp vs H Q E → vs.length = ps.length)
    (hb : ∀ (cdv : Value) (A : Around) (outer : List Env) (s : Shared) (H : Hp) (vs : List V) (Q : VK) (E : XK), RoomG k (A.deeper (envOfC qual (defScope st) s.heap.objs.size f cdv)) → sp vs H Q E →
      ∃ t, PSs (cxOf CX P w K mg base N qual (defScope st) f cdv A outer s H E) (defBody st) t ∧ t { nx := fun _ H' => Q .non H', rt := Q } (start N vs) H) :
    FnG P w K mg base CX (k + 1) f fd ps sp := by
  obtain ⟨oc, od, dV, kV, doc, pm, an, cdv, ct, osl, rfl, lk, hcd, _, _⟩ := F.ex
  constructor
  · exact len
  · intro A outer s H args us vs Q E hr e0 hbi r hsp
    have keeps0 : ∀ b o, base.get? b = some o → s.heap.get? b = some o := fun b o e => (e0.bs b o e).1
    have inK : K.In s.heap := e0.mod.kin.keeps keeps0
    refine codeAny_call_function hr.r.depth (inK _ _ lk) rfl S.co S.gen rfl (PySem.W.codeRec_of inK hcd) (hbi _ _ _ _ ?_)
    refine wpAny_newFunctionEnv_cells S.kind ?_ fun env he s1 x => ?_
    · intro ⟨n, v⟩ hy
      cases S.par n (List.of_mem_zip hy).1 with
      | inl q => exact Or.inl q
      | inr q => exact Or.inr ⟨q, PySem.W.cellsFrom_some _ _ _ (Or.inl q)⟩
    · subst he
      refine ⟨(e0.mod.nolimit.keeps keeps0).keeps x.toInCall.keep, codeAny_func ?_⟩
      obtain ⟨t, ht, hq⟩ := hb cdv A outer s H vs Q E ⟨hr.r.deeper _, hr.g⟩ hsp
      have I0 := inv_start (CX := CX) (P := P) (E := E) S hr.r.hd e0 (len _ _ _ _ hsp) r x
      refine wpAny_mono (ht.run [] s1 (start N vs) H _ I0 hq) ?_ (fun _ _ z => z)
      intro fl s' hs
      cases fl with
      | ret u => obtain ⟨v, σ', H', J, rv, q⟩ := hs; exact ⟨v, H', J.os, J.bare, J.base, J.hok, rv, q⟩
      | next => obtain ⟨σ', H', J, q⟩ := hs; exact ⟨V.non, H', J.os, J.bare, J.base, J.hok, rfl, q⟩
      | brk => exact hs.elim fun _ z => z.elim fun _ y => y.2.elim
      | cont => exact hs.elim fun _ z => z.elim fun _ y => y.2.elim
end
/-! ### bundles: a def, a class, a method, a property, by its name -/
structure Dn (P : Program) (w : World) (K : PySem.W.Frag) (mg : Str → Option Value) (base : Heap) (x : Str) (k : Nat) (ps : List Str) (dvs : List V) (sp : Sp) : Prop where
  ex : ∃ (f : Addr) (fd : FuncData) (ds : List Value), FnG P w K mg base CX0 k f fd ps sp ∧ mg x = some (.ref f) ∧ PySem.W.keepIn K (.ref f) = true ∧ Binds K fd ps ds ∧ Vals dvs ds
structure Mkn (P : Program) (w : World) (K : PySem.W.Frag) (mg : Str → Option Value) (base : Heap) (x : Str) (C : Addr) (k : Nat) (ps : List Str) (dvs : List V) (sp : Sp) : Prop where
  ex : ∃ (f : Addr) (fd : FuncData) (ds : List Value), Mk K C f ∧ FnG P w K mg base CX0 k f fd ps sp ∧ mg x = some (.ref C) ∧ Binds K fd ps ds ∧ Vals dvs ds
structure Mtn (P : Program) (w : World) (K : PySem.W.Frag) (mg : Str → Option Value) (base : Heap) (C : Addr) (m : Str) (k : Nat) (ps : List Str) (dvs : List V) (sp : Sp) : Prop where
  ex : ∃ (f : Addr) (fd : FuncData) (ds : List Value), Cls K C ∧ Meth K C m f ∧ FnG P w K mg base CX0 k f fd ps sp ∧ Binds K fd ps ds ∧ Vals dvs ds
structure Prn (P : Program) (w : World) (K : PySem.W.Frag) (mg : Str → Option Value) (base : Heap) (C : Addr) (m : Str) (k : Nat) (ps : List Str) (dvs : List V) (sp : Sp) : Prop where
  ex : ∃ (p g : Addr) (fd : FuncData) (ds : List Value), Cls K C ∧ PropOf K C m p g ∧ FnG P w K mg base CX0 k g fd ps sp ∧ Binds K fd ps ds ∧ Vals dvs ds
section
variable {X : Cx} {j k : Nat} {f C : Addr} {fd : FuncData} {ps : List Str} {sp : Sp} {dvs : List V} {ds : List Value} {x m : Str} {p pos apos : Pos} {e o : Expr} {es : List Expr} {ta : TE} {t : TA}
theorem goG {pins : List (Addr × Obj)} {σ : L2.St} {H : Hp} {s : Shared} {Q : VK} {us : List Value} {vs : List V} (F : FnG X.prog X.w X.K X.mg X.base CX0 k f fd ps sp) (hr : RoomG k X.A) (hb : Binds X.K fd ps ds) (hd : Vals dvs ds)
    (I : Inv X pins σ H s) (r : Vals vs us) (h : sp (vs ++ dvs) H Q E0) : wpAny (model X.prog X.w) X.A (call (.ref f) us) (EP X pins σ Q) X.xe s := by
  have r2 := r.append hd
  have hl : (us ++ ds).length = ps.length := r2.length.symm.trans (F.len _ _ _ _ h)
  refine wpAny_call (codeAny_mono (F.go X.A X.stack s H ⟨us, []⟩ (us ++ ds) _ Q E0 hr I.env0 (hb s us I.kIn hl) r2 h) ?_)
  intro r s' hq
  cases r with
  | error e => exact (show False from hq).elim
  | ok fl => cases fl with
    | ret u => exact I.after hq
    | next => exact (show False from hq).elim
    | brk => exact (show False from hq).elim
    | cont => exact (show False from hq).elim
theorem pe_callD (D : Dn X.prog X.w X.K X.mg X.base x k ps dvs sp) (hr : RoomG k X.A) (hg : Gl X x) (ha : PA X (e :: es) t) (hdb : (x == ("__debug__" : Str)) = false := by decide)
    (h1 : starEach (e :: es) X.env = (false, eval e X.env) :: starEach es X.env := by rfl) (h2 : (backTo pos (starEach es X.env)).any (·.1) = false := by rfl) : PE X (.Call (.Name x p) (e :: es) [] pos) (tCall sp dvs E0 t) := by
  obtain ⟨f, fd, ds, F, hm, hk, hb, hd⟩ := D.ex
  constructor
  intro pins s σ H Q I h
  exact wpAny_Call_Name_kw (ld_glob I hg hm (PySem.W.callWith_K (h₀ := X.base) I.ok.mod.kin hk (thn (ha.run pos pins s σ H _ I h) fun us s1 ⟨vs, H1, I1, r, q⟩ => ⟨I1.kIn, goG F hr hb hd I1 r q⟩) h1 h2) hdb)
theorem pe_call0D (D : Dn X.prog X.w X.K X.mg X.base x k ps dvs sp) (hr : RoomG k X.A) (hg : Gl X x) (hdb : (x == ("__debug__" : Str)) = false := by decide) : PE X (.Call (.Name x p) [] [] pos) (tCall sp dvs E0 tNil) := by
  obtain ⟨f, fd, ds, F, hm, hk, hb, hd⟩ := D.ex
  constructor
  intro pins s σ H Q I h
  exact wpAny_Call_Name_kw (ld_glob I hg hm (PySem.W.callWith_K0 I.kIn hk (goG (us := []) F hr hb hd I .nil h)) hdb)
theorem goMake {pins : List (Addr × Obj)} {σ : L2.St} {H : Hp} {s : Shared} {Q : VK} {us : List Value} {vs : List V} (M : Mk X.K C f) (F : FnG X.prog X.w X.K X.mg X.base CX0 k f fd ps sp) (hr : RoomG (k + 1) X.A) (hb : Binds X.K fd ps ds) (hd : Vals dvs ds)
    (I : Inv X pins σ H s) (r : Vals vs us) (h : ∀ x dx, H x = none → H dx = none → dx ≠ x → sp (.ref x :: (vs ++ dvs)) (upd (upd H dx (.own x)) x (.ins C dx [])) (fun v H2 => v = .non ∧ Q (.ref x) H2) E0) :
    wpAny (model X.prog X.w) X.A (call (.ref C) us) (EP X pins σ Q) X.xe s := by
  have nx : H (s.heap.objs.size + 1) = none := I.hok.fresh (Nat.le_succ _)
  have nd : H s.heap.objs.size = none := I.hok.fresh (Nat.le_refl _)
  have hq := h _ _ nx nd (Nat.ne_of_lt (Nat.lt_succ_self _))
  have J := Inv.made (C := C) I
  have r2 : Vals (V.ref (s.heap.objs.size + 1) :: (vs ++ dvs)) (Value.ref (s.heap.objs.size + 1) :: us ++ ds) := .cons rfl (r.append hd)
  have hl : (Value.ref (s.heap.objs.size + 1) :: us ++ ds).length = ps.length := r2.length.symm.trans (F.len _ _ _ _ hq)
  have hr2 : RoomG k (X.A.under (.builtin "type.__call__" ⟨.ref C :: us, []⟩)) := ⟨hr.r.make C us [], hr.g⟩
  refine wpAny_call (make_map (f := f) I.kIn M.makes M.init (beq_iff_eq.mp M.fn) (codeAny_mono
    (F.go _ X.stack _ _ ⟨Value.ref (s.heap.objs.size + 1) :: us, []⟩ _ _ _ E0 hr2 (J.env0.make C us []) (hb _ (Value.ref (s.heap.objs.size + 1) :: us) J.kIn hl) r2 hq) ?_))
  intro r s' hq'
  cases r with
  | error e => exact (show False from hq').elim
  | ok fl => cases fl with
    | ret u =>
      obtain ⟨v, H', I3, rv, ev, q3⟩ := J.after hq'
      subst ev
      exact ⟨rv, V.ref (s.heap.objs.size + 1), H', I3, rfl, q3⟩
    | next => exact (show False from hq').elim
    | brk => exact (show False from hq').elim
    | cont => exact (show False from hq').elim
theorem pe_makeD (D : Mkn X.prog X.w X.K X.mg X.base x C k ps dvs sp) (hr : RoomG (k + 1) X.A) (hg : Gl X x) (ha : PA X (e :: es) t) (hdb : (x == ("__debug__" : Str)) = false := by decide)
    (h1 : starEach (e :: es) X.env = (false, eval e X.env) :: starEach es X.env := by rfl) (h2 : (backTo pos (starEach es X.env)).any (·.1) = false := by rfl) : PE X (.Call (.Name x p) (e :: es) [] pos) (tMake C sp dvs E0 t) := by
  obtain ⟨f, fd, ds, M, F, hm, hb, hd⟩ := D.ex
  constructor
  intro pins s σ H Q I h
  exact wpAny_Call_Name_kw (ld_glob I hg hm (PySem.W.callWith_K (h₀ := X.base) I.ok.mod.kin M.kp (thn (ha.run pos pins s σ H _ I h) fun us s1 ⟨vs, H1, I1, r, q⟩ => ⟨I1.kIn, goMake M F hr hb hd I1 r q⟩) h1 h2) hdb)
theorem pe_make0D (D : Mkn X.prog X.w X.K X.mg X.base x C k ps dvs sp) (hr : RoomG (k + 1) X.A) (hg : Gl X x) (hdb : (x == ("__debug__" : Str)) = false := by decide) : PE X (.Call (.Name x p) [] [] pos) (tMake C sp dvs E0 tNil) := by
  obtain ⟨f, fd, ds, M, F, hm, hb, hd⟩ := D.ex
  constructor
  intro pins s σ H Q I h
  exact wpAny_Call_Name_kw (ld_glob I hg hm (PySem.W.callWith_K0 I.kIn M.kp (goMake (us := []) M F hr hb hd I .nil h)) hdb)
theorem pe_methD {pl : Sem Bool} (D : Mtn X.prog X.w X.K X.mg X.base C m k ps dvs sp) (he : PE X o ta) (hr : RoomG k X.A) (ha : PA X (e :: es) t)
    (h1 : starEach (e :: es) X.env = (false, eval e X.env) :: starEach es X.env := by rfl) (h2 : (backTo pos (starEach es X.env)).any (·.1) = false := by rfl)
    (h3 : eval (.Call (.Attribute o m apos) (e :: es) [] pos) X.env = (do
      let v ← eval o X.env
      standAt apos.atName
      let (g, fst) ← holding [v] (getMethod v m pl)
      callWith pos g fst (backTo pos (starEach (e :: es) X.env)) (backToKw pos (keywordEach [] X.env))) := by rfl) : PE X (.Call (.Attribute o m apos) (e :: es) [] pos) (tMeth C m sp dvs E0 ta t) := by
  obtain ⟨f, fd, ds, c, hm, F, hb, hd⟩ := D.ex
  constructor
  intro pins s σ H Q I h
  refine PySem.W.methodCall_KW (pl := pl) (thn (he.run pins s σ H _ I h) ?_) h3
  rintro u s1 ⟨x, H1, I1, rx, a, dx, fs, rfl, ea, l, q⟩
  obtain rfl : u = Value.ref a := rx
  exact getmeth_ok I1 ea c hm l (PySem.W.callWith_K (first := [.ref a]) I1.kIn hm.kp (thn (ha.run pos pins s1 σ H1 _ I1 q) fun us s2 ⟨vs, H2, I2, r, q2⟩ => ⟨I2.kIn, goG (vs := .ref a :: vs) F hr hb hd I2 (.cons rfl r) q2⟩) h1 h2)
theorem pe_meth0D {pl : Sem Bool} (D : Mtn X.prog X.w X.K X.mg X.base C m k ps dvs sp) (he : PE X o ta) (hr : RoomG k X.A)
    (h3 : eval (.Call (.Attribute o m apos) [] [] pos) X.env = (do
      let v ← eval o X.env
      standAt apos.atName
      let (g, fst) ← holding [v] (getMethod v m pl)
      callWith pos g fst (backTo pos (starEach [] X.env)) (backToKw pos (keywordEach [] X.env))) := by rfl) : PE X (.Call (.Attribute o m apos) [] [] pos) (tMeth C m sp dvs E0 ta tNil) := by
  obtain ⟨f, fd, ds, c, hm, F, hb, hd⟩ := D.ex
  constructor
  intro pins s σ H Q I h
  refine PySem.W.methodCall_KW (pl := pl) (thn (he.run pins s σ H _ I h) ?_) h3
  rintro u s1 ⟨x, H1, I1, rx, a, dx, fs, rfl, ea, l, q⟩
  obtain rfl : u = Value.ref a := rx
  exact getmeth_ok I1 ea c hm l (PySem.W.callWith_K0 (first := [.ref a]) I1.kIn hm.kp (goG (us := [.ref a]) (vs := [.ref a]) F hr hb hd I1 (.cons rfl .nil) q))
theorem pe_propD (D : Prn X.prog X.w X.K X.mg X.base C m k ps dvs sp) (he : PE X e ta) (hr : RoomG (k + 1) X.A) (hab : attributeBase e m X.env (eval e X.env) = eval e X.env) : PE X (.Attribute e m pos) (tProp C sp dvs E0 ta) := by
  obtain ⟨p, g, fd, ds, c, hp, F, hb, hd⟩ := D.ex
  constructor
  intro pins s σ H Q I h
  refine attr_of hab (thn (he.run pins s σ H _ I h) ?_)
  rintro u s1 ⟨x, H1, I1, rx, a, dx, fs, rfl, ea, q⟩
  obtain rfl : u = Value.ref a := rx
  obtain ⟨mA, O, _, _, _, _⟩ := ins_get I1.hok ea
  obtain ⟨od, J, _⟩ := O.look
  obtain ⟨rest, hrec⟩ := hp.rec_
  have I2 := I1.tok (s1.toks + 1)
  have hl : ([Value.ref a] ++ ds).length = ps.length := by
    have z := F.len _ _ _ _ q
    have y := hd.length
    simp only [List.length_cons, List.length_append, List.length_nil] at z ⊢
    omega
  have hc : (PySem.W.clsIn X.K C).isSome = true := by
    obtain ⟨cd, hc, _⟩ := PySem.W.any_some c.hd
    simp [hc]
  have pg := PySem.W.plainGet_of (c.get m)
  refine PySem.W.get_bind I1.kIn J pg.1 (PySem.W.findObj_data hc hp.at_ hp.get hp.tak) pg.2 (wpAny_call (PySem.W.prop_get (s := { s1 with toks := s1.toks + 1 }) I1.kIn hrec ?_))
  refine codeAny_mono (F.go X.A.in1 X.stack { s1 with toks := s1.toks + 1 } H1 ⟨[.ref a], []⟩ (.ref a :: ds) (.ref a :: dvs) Q E0 hr.in1 I2.env0.in1 (hb _ [.ref a] I2.kIn hl) (.cons rfl hd) q) ?_
  intro r s' hq
  cases r with
  | error er => exact (show False from hq).elim
  | ok fl => cases fl with
    | ret u =>
      obtain ⟨v, H', I3, rv, q3⟩ := I2.after hq
      show wpAny _ _ (handedOut u) _ _ _
      rw [PySem.W.handedOut_of (handed_of rv)]
      exact wpAny_pure ⟨v, H', I3, rv, q3⟩
    | next => exact (show False from hq).elim
    | brk => exact (show False from hq).elim
    | cont => exact (show False from hq).elim
/-- repr of data -/
theorem call_reprD (hr : RoomG k X.A) : CallR X (.builtin "repr") (fun xs H Q => ∃ y d, xs = [y] ∧ Dp X.K H y d ∧ SeqAt.shaped d = true ∧ d.showable = true ∧ d.hasDict = false ∧ d.shown.length ≤ sizeLine ∧ Q (.str d.shown) H) := by
  intro pins s σ H xs us Q I r h
  obtain ⟨y, d, rfl, hd, hs, hw, hn, hz, q⟩ := h
  obtain ⟨u, rfl, ru⟩ := vals1 r
  obtain ⟨as, rd⟩ := Dp.reads I d y u hd ru
  have hA : X.A.units + (d.depth + 1) < cLine := by
    have := SeqAt.depth_of_shaped hs
    have := hr.r.un
    omega
  have fin : ∀ {t : Tok} {s' : Shared}, Inv X pins σ H s' → EP X pins σ Q (.str d.shown t) s' := fun J => ⟨.str d.shown, H, J, ⟨_, rfl⟩, q⟩
  cases rd with
  | none => exact PySem.P.repr_of_none (fin (I.tok _))
  | bool b => exact PySem.P.repr_of_bool (fin (I.tok _))
  | int i t => exact PySem.P.repr_of_int (of_decide_eq_true hw) (fin (I.tok _))
  | str z t => exact PySem.P.repr_of_str (fin (I.tok _)) hz
  | list h1 h2 h3 h4 => exact PySem.repr_of_reads' (.list h1 h2 h3 h4) hw (PyData.noDict_hsm hn) hr.g hA (fun _ _ e => e) (fun h' t tk hk => fin (I.kept hk)) hz
  | tuple h1 h2 h3 h4 => exact PySem.repr_of_reads' (.tuple h1 h2 h3 h4) hw (PyData.noDict_hsm hn) hr.g hA (fun _ _ e => e) (fun h' t tk hk => fin (I.kept hk)) hz
  | dict h1 h2 h3 h4 h5 => simp [PyData.hasDict] at hn
end
end My
namespace My
open PySem L2 PySem.Spec PyProof.Rows PySem.W
section
variable {P : Program} {w : World} {K : Frag} {mg mb : Str → Option Value} {k : Nat} {fa a : Addr} {fd : FuncData} {x : Str} {sp : Sp} {s : Shared} {vs : List Value} {ns : List Int}
abbrev lawEnd (s : Shared) : Result → Shared → Prop := fun r s' => r = .ok (.ret (.bool true)) ∧ OldK s.heap s'.heap ∧ s'.os = s.os ∧ AllBare s'.gens
theorem lawG_from {H : Hp} (KX : K.In s.heap) (hns : s.heap.Ns mainGlobals mg) (hb : s.heap.Ns builtinsNs mb) (hbb : ∀ y : Str, y ≠ "__name__" → mb y = bootBuiltins y) (hlim : s.heap.NoLimit) (hg : s.gens = #[])
    (ha : s.heap.get? a = some { cls := .type "list", data := .seq vs.toArray }) (hr : RoomG k callerA)
    (F : ∀ base : Heap, K.In base → base.Ns mainGlobals mg → FnG P w K mg base CX0 k fa fd [x] sp) (bnd : ∀ (s : Shared) (u : Value), BindsTo s fd ⟨[u], []⟩ [(x, u)])
    (hsp : sp [.ref a] H (fun v _ => v = .bl true) E0) (only : Only H) (ok : HOk P w H s.heap) (atA : ∀ b, H b ≠ none → b = a) (nK : H a ≠ none → K.lookup a = none) :
    codeAny (model P w) callerA (.call (.ref fa) ⟨[.ref a], []⟩) (lawEnd s) s := by
  have free : ∀ {b : Addr}, b ≠ a → H b = none := fun {b} n => Classical.byContradiction fun z => n (atA b z)
  have nsB : ∀ {b : Addr} {m : Str → Option Value}, s.heap.Ns b m → (hidT s.heap H).Ns b m := by
    rintro b m ⟨o, es, ep, e, d, r⟩
    refine ⟨o, es, ep, hidT_get e (free ?_), d, r⟩
    rintro rfl
    rw [ha] at e
    cases e
    cases (show Data.seq vs.toArray _ = Data.dict es ep from d)
  have inB : K.In (hidT s.heap H) := by
    intro b o e
    refine hidT_get (KX b o e) (Classical.byContradiction fun z => ?_)
    have := nK (atA b z ▸ z)
    rw [atA b z, this] at e
    cases e
  obtain ⟨mc, l1, l2⟩ := hlim
  have md : Mod K mg (hidT s.heap H) := ⟨inB, nsB hns, ⟨mb, nsB hb, hbb⟩, mc, nsB l1, l2⟩
  have env : Env0 P w K mg (hidT s.heap H) callerA [] s H :=
    ⟨rfl, md, fun b o e => of_hidT e, Nat.le_of_eq (hidT_size _ _), trivial, fun b z => (List.not_mem_nil (show b ∈ ([] : List Addr) from z)).elim, ok, .of_eq hg⟩
  refine codeAny_mono ((F _ inB (nsB hns)).go callerA [] s H ⟨[.ref a], []⟩ [.ref a] [.ref a] _ _ hr env (bnd s (.ref a)) (.cons rfl .nil) hsp) ?_
  rintro (e | fl) s' h
  · exact (show False from h).elim
  · cases fl with
    | ret u =>
      obtain ⟨v, H', os, bare, un, ok', rv, (rfl : v = .bl true)⟩ := h
      obtain rfl : u = Value.bool true := rv
      refine ⟨rfl, OldK.of_keep ?_, os, bare⟩
      intro b o e
      cases q : H b with
      | none => exact un.keep b o e q (fun z => (List.not_mem_nil (show b ∈ ([] : List Addr) from z)).elim) (by simp)
      | some u =>
        rcases only b with z | ⟨ob, xs, z⟩
        · exact absurd (q.symm.trans z) (by simp)
        · have y1 := (ok b _ z).1
          have y2 := (ok' b _ (un.frzs b ob _ z)).1
          rw [e] at y1
          cases y1
          exact y2
    | next => exact (show False from h).elim
    | brk => exact (show False from h).elim
    | cont => exact (show False from h).elim
theorem lawG (KX : K.In s.heap) (hns : s.heap.Ns mainGlobals mg) (hb : s.heap.Ns builtinsNs mb) (hbb : ∀ y : Str, y ≠ "__name__" → mb y = bootBuiltins y) (hlim : s.heap.NoLimit) (hg : s.gens = #[])
    (ha : s.heap.get? a = some { cls := .type "list", data := .seq vs.toArray }) (hi : IntsAre vs ns) (hl : ns.length ≤ sizeLine) (hr : RoomG k callerA)
    (F : ∀ base : Heap, K.In base → base.Ns mainGlobals mg → FnG P w K mg base CX0 k fa fd [x] sp) (bnd : ∀ (s : Shared) (u : Value), BindsTo s fd ⟨[u], []⟩ [(x, u)])
    (hsp : ∀ H : Hp, Only H → SqL K H a (ns.map V.int) → sp [.ref a] H (fun v _ => v = .bl true) E0) :
    codeAny (model P w) callerA (.call (.ref fa) ⟨[.ref a], []⟩) (lawEnd s) s := by
  have rv := vals_ints hi
  cases hk : K.lookup a with
  | some o =>
    have e := (ha.symm.trans (KX a o hk))
    cases e
    have hS : SqL K (fun _ => none) a (ns.map V.int) := Or.inr ⟨_, vs.toArray, _, hk, rfl, rfl, rfl, by rw [List.size_toArray, hi.length]; exact hl, by simpa using rv⟩
    exact lawG_from (H := fun _ => none) KX hns hb hbb hlim hg ha hr F bnd (hsp _ (fun _ => Or.inl rfl) hS) (fun _ => Or.inl rfl) (fun b u z => nomatch z) (fun b z => (z rfl).elim) fun z => (z rfl).elim
  | none =>
    let H1 : Hp := upd (fun _ => none) a (.frz { cls := .type "list", data := .seq vs.toArray } (.lst (ns.map V.int)))
    have same : H1 a = some (.frz { cls := .type "list", data := .seq vs.toArray } (.lst (ns.map V.int))) := upd_same
    have els : ∀ b, b ≠ a → H1 b = none := fun b n => upd_ne n
    have on : Only H1 := fun b => (Classical.em (b = a)).elim (fun e => Or.inr ⟨_, _, e ▸ same⟩) fun n => Or.inl (els b n)
    refine lawG_from (H := H1) KX hns hb hbb hlim hg ha hr F bnd (hsp H1 on (Or.inl (Or.inr ⟨_, same⟩))) on ?_ (fun b z => Classical.byContradiction fun n => z (els b n)) fun _ => hk
    intro b u z
    rcases Classical.em (b = a) with e | n
    · subst e
      rw [same] at z
      cases z
      exact ⟨ha, by rw [List.length_map]; exact hl, vs, _, rv, ha⟩
    · rw [els b n] at z
      cases z
end
theorem walkG {l : OpenLaw} {n k : Nat} {q : Program} {loose : List Str} {XP : (Str → Option Value) → Heap → Prop} {YP : World → Heap → Prop} {d : DefRec} {K : Params → Frag} {sp : World → Sp} {x : Str}
    (hn : l.most = some n) (hn2 : n ≤ sizeLine) (hdf : d.params.defaults = []) (hr : RoomG k callerA) (hY : ∀ (w : World) (h : Heap), YP w h → (K w.params).In h)
    (F : ∀ (w : World) (mg : Str → Option Value) (fa : Addr) (h : Heap), (K w.params).In h → h.Ns mainGlobals mg → mg d.name = some (.ref fa) →
      ∃ fd : FuncData, (∀ (s : Shared) (u : Value), BindsTo s fd ⟨[u], []⟩ [(x, u)]) ∧ ∀ base : Heap, (K w.params).In base → base.Ns mainGlobals mg → FnG l.prog w (K w.params) mg base CX0 k fa fd [x] (sp w))
    (hsp : ∀ (w : World) (H : Hp) (a : Addr) (ns : List Int), ns.length ≤ n → Only H → SqL (K w.params) H a (ns.map V.int) → sp w [.ref a] H (fun v _ => v = .bl true) E0) :
    WalkO q loose XP YP l.row.toRowW d [] (fun f vs => PySem.call f vs) := by
  refine Att.attach_call hn hdf ?_
  intro w s₀ s₁ mg mb fa o pm cd doc a vs ns G Y ho hd hcd hmg hobj hints hlen hg
  obtain ⟨fd, hb, hF⟩ := F w mg fa _ (hY w _ Y) G.T.g hmg
  exact lawG (hY w _ Y) G.T.g G.T.b G.T.builtins G.T.nolimit hg hobj hints (Nat.le_trans hlen hn2) hr hF hb fun H h1 h2 => hsp w H a ns hlen h1 h2
end My

namespace My
open PySem L2 PySem.Spec PyProof.Rows
section
variable {σ : L2.St} {H : Hp} {Q : VK} {ta tb : TE} {K : PySem.W.Frag} {i : Int}
/-- slot i holds v -/
inductive GetAt : Nat → L2.St → V → Prop
  | zero {v : V} {l : L2.St} : GetAt 0 (some v :: l) v
  | succ {i : Nat} {v : V} {x : Option V} {l : L2.St} (h : GetAt i l v) : GetAt (i + 1) (x :: l) v
inductive SetAt : Nat → V → L2.St → L2.St → Prop
  | zero {v : V} {x : Option V} {l : L2.St} : SetAt 0 v (x :: l) (some v :: l)
  | succ {i : Nat} {v : V} {x : Option V} {l m : L2.St} (h : SetAt i v l m) : SetAt (i + 1) v (x :: l) (x :: m)
theorem GetAt.get {i : Nat} {σ : L2.St} {v : V} (h : GetAt i σ v) : σ[i]? = some (some v) := by
  induction h with
  | zero => rfl
  | succ _ ih => simpa using ih
theorem SetAt.set {i : Nat} {σ τ : L2.St} {v : V} (h : SetAt i v σ τ) : σ.set i (some v) = τ := by
  induction h with
  | zero => rfl
  | succ _ ih => simpa using ih
theorem s_varG {i : Nat} {v : V} (g : GetAt i σ v) (q : Q v H) : tVar i σ H Q := ⟨v, g.get, q⟩
theorem s_gnameG {i : Nat} {v : V} {τ : L2.St} {Q : L2.St → Hp → Prop} (g : SetAt i v σ τ) (q : Q τ H) : gName i v σ H Q := by
  show Q (σ.set i (some v)) H
  rw [g.set]
  exact q
theorem s_gnameE {i : Nat} {v : V} {τ : L2.St} {Q : L2.St → Hp → Prop} (e : σ.set i (some v) = τ) (q : Q τ H) : gName i v σ H Q := by
  show Q (σ.set i (some v)) H
  rw [e]
  exact q
theorem s_2setE {D : Ends} {i j : Nat} {t : TS} {x y : V} {τ : L2.St} (e : (σ.set i (some x)).set j (some y) = τ) (h : t D τ H) : t D ((σ.set i (some x)).set j (some y)) H := by
  rw [e]
  exact h
theorem s_orT (h : ta σ H fun x H1 => ∃ k, TruV K x H1 k ∧ if k = true then Q x H1 else tb σ H1 Q) : tOrT K ta tb σ H Q := h
theorem s_andT (h : ta σ H fun x H1 => ∃ k, TruV K x H1 k ∧ if k = true then tb σ H1 Q else Q x H1) : tAndT K ta tb σ H Q := h
theorem s_chain {r r' : R2} {tc : TE} (h : ta σ H fun x H1 => tb σ H1 fun y H2 => r x y H2 fun z H3 => ∃ k, z = .bl k ∧
  (if k = true then tc σ H3 fun w' H4 => r' y w' H4 Q else Q (.bl false) H3)) : tChain r r' ta tb tc σ H Q := h
theorem s_isi_int (q : Q (.bl true) H) : rIsi K [.int i, .ty "int"] H Q := ⟨_, _, _, _, true, rfl, .ty _, .base (.int i), kit_ty (by decide +kernel), q⟩
theorem s_isi_int_bool (q : Q (.bl false) H) : rIsi K [.int i, .ty "bool"] H Q := ⟨_, _, _, _, false, rfl, .ty _, .base (.int i), kit_ty (by decide +kernel), q⟩
theorem s_isi_own {a C : Addr} (t : TyOf K H (.ref a) (.ref C)) (q : Q (.bl true) H) : rIsi K [.ref a, .ref C] H Q := ⟨_, _, _, _, true, rfl, .own C, .base t, by simp [PySem.W.kitOne], q⟩
theorem s_prop {C : Addr} {sp : Sp} {dvs : List V} {E : XK} (h : ta σ H fun x H1 => ∃ a dx fs, x = .ref a ∧ H1 a = some (.ins C dx fs) ∧ sp (.ref a :: dvs) H1 Q E) : tProp C sp dvs E ta σ H Q := h
theorem s_sfld {D : Ends} {f : Str} (h : tb σ H fun y H1 => ta σ H1 fun x H2 => ∃ a C dx fs, x = .ref a ∧ H2 a = some (.ins C dx fs) ∧ Cls K C ∧ NoAttr K C f ∧ fs.length < 1000 ∧ D.nx σ (upd H2 a (.ins C dx (putF f y fs)))) : sFld K ta tb f D σ H := h
theorem s_fput {a C dx : Addr} {fs : List (Str × V)} {f : Str} {y : V} {Q : Hp → Prop} (e : H a = some (.ins C dx fs)) (c : Cls K C) (n : NoAttr K C f) (l : fs.length < 1000) (q : Q (upd H a (.ins C dx (putF f y fs)))) :
    ∃ a' C dx fs, V.ref a = .ref a' ∧ H a' = some (.ins C dx fs) ∧ Cls K C ∧ NoAttr K C f ∧ fs.length < 1000 ∧ Q (upd H a' (.ins C dx (putF f y fs))) := ⟨a, C, dx, fs, rfl, e, c, n, l, q⟩
theorem s_fget {a C dx : Addr} {fs : List (Str × V)} {f : Str} {v : V} (e : H a = some (.ins C dx fs)) (c : Cls K C) (n : NoAttr K C f) (l : fs.lookup f = some v) (q : Q v H) :
    ∃ a' C dx fs v, V.ref a = .ref a' ∧ H a' = some (.ins C dx fs) ∧ Cls K C ∧ NoAttr K C f ∧ fs.lookup f = some v ∧ Q v H := ⟨a, C, dx, fs, v, rfl, e, c, n, l, q⟩
theorem few0 {m : Nat} : ([] : List (Str × V)).length < m + 1 := Nat.succ_pos _
theorem few_put {m : Nat} {fs : List (Str × V)} {f : Str} {v : V} (h : fs.length < m) : (putF f v fs).length < m + 1 := by
  have e : ∀ fs : List (Str × V), (putF f v fs).length ≤ fs.length + 1 := by
    intro fs
    induction fs with
    | nil => exact Nat.le_refl _
    | cons x r ih =>
      obtain ⟨g, x⟩ := x
      unfold putF
      split
      · exact Nat.le_succ _
      · exact Nat.succ_le_succ ih
  exact Nat.lt_of_le_of_lt (e fs) (Nat.succ_lt_succ h)
theorem putF_nil {f : Str} {v : V} : putF f v [] = [(f, v)] := rfl
theorem putF_ne {f g : Str} {v x : V} {r : List (Str × V)} (h : g ≠ f) : putF f v ((g, x) :: r) = (g, x) :: putF f v r := if_neg h
theorem s_eqI {i j : Int} (q : Q (.bl (decide (i = j))) H) : rEq (.int i) (.int j) H Q := by
  refine ⟨rfl, ?_⟩
  rw [show decide (V.int i = V.int j) = decide (i = j) from by (rw [Bool.eq_iff_iff]; simp)]
  exact q
theorem s_neI {i j : Int} (q : Q (.bl (!decide (i = j))) H) : rNe (.int i) (.int j) H Q := by
  refine ⟨rfl, ?_⟩
  rw [show decide (V.int i = V.int j) = decide (i = j) from by (rw [Bool.eq_iff_iff]; simp)]
  exact q
theorem s_eqS {i j : Str} (q : Q (.bl (decide (i = j))) H) : rEq (.str i) (.str j) H Q := by
  refine ⟨rfl, ?_⟩
  rw [show decide (V.str i = V.str j) = decide (i = j) from by (rw [Bool.eq_iff_iff]; simp)]
  exact q
theorem s_neSr {i : Str} (q : Q (.bl false) H) : rNe (.str i) (.str i) H Q := by
  refine ⟨rfl, ?_⟩
  rw [decide_eq_true rfl]
  exact q
theorem s_neS {i j : Str} (q : Q (.bl (!decide (i = j))) H) : rNe (.str i) (.str j) H Q := by
  refine ⟨rfl, ?_⟩
  rw [show decide (V.str i = V.str j) = decide (i = j) from by (rw [Bool.eq_iff_iff]; simp)]
  exact q
theorem s_bm {T : String} {r : V → List V → Hp → VK → Prop} {t : TA} (h : ta σ H fun x H1 => tyV K T x H1 ∧ t σ H1 fun xs H2 => r x xs H2 Q) : tBM K T r ta t σ H Q := h
theorem s_bm0 {T : String} {r : V → List V → Hp → VK → Prop} (h : ta σ H fun x H1 => tyV K T x H1 ∧ r x [] H1 Q) : tBM0 K T r ta σ H Q := h
theorem s_tyL {a : Addr} {xs : List V} {P : Prop} (h : H a = some (.lst xs)) (q : P) : tyV K "list" (.ref a) H ∧ P := ⟨.inl ⟨rfl, xs, SqL.of h⟩, q⟩
theorem s_append {l : Addr} {xs : List V} {y : V} (h : H l = some (.lst xs)) (hz : xs.length < sizeLine) (q : Q .non (upd H l (.lst (xs ++ [y])))) : rAppend (.ref l) [y] H Q := ⟨l, xs, y, rfl, rfl, h, hz, q⟩
theorem s_extend {l b : Addr} {xs zs : List V} (h : H l = some (.lst xs)) (hb : H b = some (.lst zs)) (hz : xs.length + zs.length ≤ sizeLine) (q : Q .non (upd H l (.lst (xs ++ zs)))) : rExtend (.ref l) [.ref b] H Q := ⟨l, b, xs, zs, rfl, rfl, h, hb, hz, q⟩
theorem lt_size {n : Nat} (h : Nat.blt n sizeLine = true) : n < sizeLine := Nat.le_of_ble_eq_true h
theorem s_make {C : Addr} {sp : Sp} {dvs : List V} {E : XK} {t : TA} (h : t σ H fun vs H1 => ∀ x dx, H1 x = none → H1 dx = none → dx ≠ x → sp (.ref x :: (vs ++ dvs)) (upd (upd H1 dx (.own x)) x (.ins C dx [])) (fun v H2 => v = .non ∧ Q (.ref x) H2) E) : tMake C sp dvs E t σ H Q := h
theorem s_meth {C : Addr} {m : Str} {sp : Sp} {dvs : List V} {E : XK} {t : TA} (h : ta σ H fun x H1 => ∃ a dx fs, x = .ref a ∧ H1 a = some (.ins C dx fs) ∧ fs.lookup m = none ∧ t σ H1 fun vs H2 => sp (x :: (vs ++ dvs)) H2 Q E) : tMeth C m sp dvs E ta t σ H Q := h
theorem s_for {wi : TI} {g : TG} {tb : TS} {D0 : Ends}
    (h : ∀ D : Ends, D = D0 → wi σ H fun J H1 => ∃ W : Nat → Nat → L2.St → Hp → Prop, (∃ m, W 0 m σ H1) ∧ ∀ i m σ H, W i m σ H →
      (J.stop i H ∧ D.nx σ H) ∨ (J.go i H ∧ ∃ N : L2.St → Hp → Prop, (∀ σ' H', N σ' H' → ∃ m', m' < m ∧ W (i + 1) m' σ' H') ∧
        ∀ x H', J.yld i H x H' → g x σ H' fun σ2 H2 => tb { D with nx := N, ct := N, bk := D.nx } σ2 H2)) : tFor wi g tb D0 σ H := h D0 rfl
theorem s_lc {wi : TI} {g : TG} {tt : TT} {te : TE} {vs : List Nat}
    (h : wi σ H fun J H1 => ∀ D, H1 D = none → ∃ W : Nat → Nat → Hp → Prop, (∃ m, W 0 m (upd H1 D (.lst []))) ∧ ∀ i m H, W i m H →
      (J.stop i H ∧ Q (.ref D) H) ∨ (J.go i H ∧ ∃ Nx : Hp → Prop, (∀ H', Nx H' → ∃ m', m' < m ∧ W (i + 1) m' H') ∧
        ∀ x H', J.yld i H x H' → g x (wipe σ vs) H' fun σ2 H2 => wipe σ2 vs = wipe σ vs ∧ tt σ2 H2 fun b H3 =>
          if b = true then te σ2 H3 fun y H4 => ∃ acc, H4 D = some (.lst acc) ∧ acc.length < sizeLine ∧ Nx (upd H4 D (.lst (acc ++ [y]))) else Nx H3)) : tLc wi g tt te vs σ H Q := h
theorem s_iList {R : L2.It → Hp → Prop} (h : ta σ H fun x H1 => ∃ a, x = .ref a ∧ (∃ xs, SqL K H1 a xs) ∧ R (Itl K a) H1) : iList K ta σ H R := h
theorem s_iTup {R : L2.It → Hp → Prop} (h : ta σ H fun x H1 => ∃ a, x = .ref a ∧ (∃ xs, SqT K H1 a xs) ∧ R (Itt K a) H1) : iTup K ta σ H R := h
theorem s_iRng1 {R : L2.It → Hp → Prop} {t : TA} (h : t σ H fun vs H1 => ∃ j : Int, vs = [.int j] ∧ -(2 ^ 62) ≤ j ∧ j < 2 ^ 62 ∧ R (Itr 0 j.toNat) H1) : iRng1 t σ H R := h
theorem s_iRng2 {R : L2.It → Hp → Prop} {t : TA} (h : t σ H fun vs H1 => ∃ i j : Int, vs = [.int i, .int j] ∧ (-(2 ^ 62) ≤ i ∧ i < 2 ^ 62 ∧ -(2 ^ 62) ≤ j ∧ j < 2 ^ 62) ∧ R (Itr i (j - i).toNat) H1) : iRng2 t σ H R := h
theorem s_par {D : Ends} {i j : Nat} {t : TA} (h : t σ H fun vs H1 => ∃ v w, vs = [v, w] ∧ D.nx ((σ.set i (some v)).set j (some w)) H1) : tPar i j t D σ H := h
theorem s_2set {D : Ends} {i j : Nat} {t : TS} {x y : V} {τ υ : L2.St} (g : SetAt i x σ τ) (g2 : SetAt j y τ υ) (h : t D υ H) : t D ((σ.set i (some x)).set j (some y)) H := by
  rw [g.set, g2.set]
  exact h
theorem s_yes {QB : Bool → Hp → Prop} (h : QB true H) : tYes σ H QB := h
theorem s_fldE {f : Str} (h : ta σ H fun x H1 => ∃ a C dx fs v, x = .ref a ∧ H1 a = some (.ins C dx fs) ∧ Cls K C ∧ NoAttr K C f ∧ fs.lookup f = some v ∧ Q v H1) : tFld K ta f σ H Q := h
theorem s_isi_str {x : Str} (q : Q (.bl true) H) : rIsi K [.str x, .ty "str"] H Q := ⟨_, _, _, _, true, rfl, .ty _, .base (.str x), kit_ty (by decide +kernel), q⟩
theorem s_truInt {i : Int} {P : Bool → Prop} (q : P (i != 0)) : ∃ k, TruV K (.int i) H k ∧ P k := ⟨_, rfl, q⟩
theorem s_neB {i j : Bool} (q : Q (.bl (i != j)) H) : rNe (.bl i) (.bl j) H Q := by
  refine ⟨rfl, ?_⟩
  rw [show (!decide (V.bl i = V.bl j)) = (i != j) from by cases i <;> cases j <;> rfl]
  exact q
theorem s_eqB {i j : Bool} (q : Q (.bl (i == j)) H) : rEq (.bl i) (.bl j) H Q := by
  refine ⟨rfl, ?_⟩
  rw [show decide (V.bl i = V.bl j) = (i == j) from by cases i <;> cases j <;> rfl]
  exact q
theorem inV_ints (x : Int) (ns : List Int) : inV (.int x) (ns.map V.int) = decide (x ∈ ns) := by
  unfold inV
  rw [List.any_map, Bool.eq_iff_iff, List.any_eq_true, decide_eq_true_eq]
  constructor
  · rintro ⟨y, hy, e⟩
    have e2 : y = x := by simpa [eqV] using e
    exact e2 ▸ hy
  · intro h
    exact ⟨x, h, by simp [eqV]⟩
theorem flat_ints (ns : List Int) : (ns.map V.int).all flatV = true := by
  rw [List.all_map, List.all_eq_true]
  intro x _
  rfl
theorem le_size {n : Nat} (h : Nat.ble n sizeLine = true) : n ≤ sizeLine := Nat.le_of_ble_eq_true h
theorem ite_NN {A B : Prop} (h : A) : if decide (V.non = V.non) = true then A else B := by rw [if_pos (decide_eq_true rfl)]; exact h
theorem ite_IN {A B : Prop} {i : Int} (h : B) : if decide (V.int i = V.non) = true then A else B := by rw [if_neg (by simp)]; exact h
theorem ite_nNN {A B : Prop} (h : B) : if (!decide (V.non = V.non)) = true then A else B := by rw [if_neg (by simp)]; exact h
theorem ite_nIN {A B : Prop} {i : Int} (h : A) : if (!decide (V.int i = V.non)) = true then A else B := by rw [if_pos (by simp)]; exact h
/-- the test's answer c is known: what follows need not be read twice -/
theorem s_cut {tt : TT} {QB : Bool → Hp → Prop} (c : Bool) (h1 : QB c H) (h2 : ∀ QB' : Bool → Hp → Prop, QB' c H → tt σ H QB') : tt σ H QB := h2 QB h1
theorem qb_eq {QB : Bool → Hp → Prop} {c d : Bool} (h : QB c H) (e : c = true ↔ d = true) : QB d H := by
  rw [← (Bool.eq_iff_iff.mpr e)]
  exact h
theorem ite_RN {A B : Prop} {a : Addr} (h : B) : if decide (V.ref a = V.non) = true then A else B := by rw [if_neg (by simp)]; exact h
theorem ite_nRN {A B : Prop} {a : Addr} (h : A) : if (!decide (V.ref a = V.non)) = true then A else B := by rw [if_pos (by simp)]; exact h
theorem iteNT {A B : Prop} (h : B) : if (!true) = true then A else B := by simpa using h
theorem iteNF {A B : Prop} (h : A) : if (!false) = true then A else B := by simpa using h
theorem ite_b {b : Bool} {A B : Prop} (h1 : b = true → A) (h2 : b = false → B) : if b = true then A else B := by
  cases b
  · exact iteF (h2 rfl)
  · exact iteT (h1 rfl)
theorem ite_nb {b : Bool} {A B : Prop} (h1 : b = false → A) (h2 : b = true → B) : if (!b) = true then A else B := by
  cases b
  · exact iteNF (h1 rfl)
  · exact iteNT (h2 rfl)
end
section
variable {P : Program} {w : World} {K : PySem.W.Frag} {mg : Str → Option Value} {base : Heap} {x qual : Str} {params : Arguments} {body : List Stmt} {scope : Scope} {dvs : List V} {C : Addr} {k : Nat} {ps : List Str} {sp : Sp}
theorem dnN (e : ∃ (f : Addr) (fd : FuncData), FunD K x qual params body scope [] [] f fd ∧ mg x = some (.ref f)) (ok : ∀ {f : Addr} {fd : FuncData}, FunD K x qual params body scope [] [] f fd → FnG P w K mg base CX0 k f fd ps sp)
    (h : ∀ (kV doc pm : Value) (an : Option Addr) (cdv ct : Value) (us : List Value), us.length = ps.length → bindArgs (PySem.W.fnOf x qual params body scope .none kV doc pm an cdv ct) ⟨us, []⟩ = pure (ps.zip us)) : Dn P w K mg base x k ps [] sp := by
  obtain ⟨f, fd, F, hm⟩ := e
  exact ⟨f, fd, [], ok F, hm, F.kp, F.bindsN h, .nil⟩
theorem prN {q : Str} (e : ∃ (p f : Addr) (fd : FuncData), PropOf K C q p f ∧ FunD K x qual params body scope [] [] f fd) (c : Cls K C) (ok : ∀ {f : Addr} {fd : FuncData}, FunD K x qual params body scope [] [] f fd → FnG P w K mg base CX0 k f fd ps sp)
    (h : ∀ (kV doc pm : Value) (an : Option Addr) (cdv ct : Value) (us : List Value), us.length = ps.length → bindArgs (PySem.W.fnOf x qual params body scope .none kV doc pm an cdv ct) ⟨us, []⟩ = pure (ps.zip us)) : Prn P w K mg base C q k ps [] sp := by
  obtain ⟨p, f, fd, hp, F⟩ := e
  exact ⟨p, f, fd, [], c, hp, ok F, F.bindsN h, .nil⟩
theorem mtN {q : Str} (e : ∃ (f : Addr) (fd : FuncData), Meth K C q f ∧ FunD K x qual params body scope [] [] f fd) (c : Cls K C) (ok : ∀ {f : Addr} {fd : FuncData}, FunD K x qual params body scope [] [] f fd → FnG P w K mg base CX0 k f fd ps sp)
    (h : ∀ (kV doc pm : Value) (an : Option Addr) (cdv ct : Value) (us : List Value), us.length = ps.length → bindArgs (PySem.W.fnOf x qual params body scope .none kV doc pm an cdv ct) ⟨us, []⟩ = pure (ps.zip us)) : Mtn P w K mg base C q k ps [] sp := by
  obtain ⟨f, fd, hp, F⟩ := e
  exact ⟨f, fd, [], c, hp, ok F, F.bindsN h, .nil⟩
theorem mkN {y : Str} (e : ∃ (f : Addr) (fd : FuncData), Mk K C f ∧ FunD K x qual params body scope [] [] f fd) (m : mg y = some (.ref C)) (ok : ∀ {f : Addr} {fd : FuncData}, FunD K x qual params body scope [] [] f fd → FnG P w K mg base CX0 k f fd ps sp)
    (h : ∀ (kV doc pm : Value) (an : Option Addr) (cdv ct : Value) (us : List Value), us.length = ps.length → bindArgs (PySem.W.fnOf x qual params body scope .none kV doc pm an cdv ct) ⟨us, []⟩ = pure (ps.zip us)) : Mkn P w K mg base y C k ps [] sp := by
  obtain ⟨f, fd, hp, F⟩ := e
  exact ⟨f, fd, [], hp, ok F, m, F.bindsN h, .nil⟩
theorem mkD {y : Str} (n j : Nat) (e : ∃ (f : Addr) (fd : FuncData), Mk K C f ∧ FunD K x qual params body scope dvs [] f fd) (m : mg y = some (.ref C)) (ok : ∀ {f : Addr} {fd : FuncData}, FunD K x qual params body scope dvs [] f fd → FnG P w K mg base CX0 k f fd ps sp) (hd : dvs ≠ []) (hn : n + (dvs.length - j) = ps.length)
    (h : ∀ (T : Addr) (kV doc pm : Value) (an : Option Addr) (cdv ct : Value) (us its : List Value), us.length = n → its.length = dvs.length →
      ∃ k, bindArgs (PySem.W.fnOf x qual params body scope (.ref T) kV doc pm an cdv ct) ⟨us, []⟩ = seqItems? (.ref T) >>= k ∧ k (some its.toArray) = pure (ps.zip (us ++ its.drop j))) : Mkn P w K mg base y C k ps (dvs.drop j) sp := by
  obtain ⟨f, fd, hp, F⟩ := e
  obtain ⟨ds, hv, hb⟩ := F.binds1 n j hd hn h
  exact ⟨f, fd, ds, hp, ok F, m, hb, hv⟩
end
abbrev optV : Option Int → V
  | none => .non
  | some i => .int i
/-- a comprehension within a comprehension -/
def reS (scope sc : Scope) : Scope := { scope with names := scope.names.map fun p => if (p.2 == NameKind.free && sc.kind == ScopeKind.function && sc.names.lookup p.1 == some NameKind.cell) = true then (p.1, NameKind.cell) else p }
theorem reS_eq (scope : Scope) (env : Env) : PySem.relabel scope env = reS scope env.scope := by
  unfold PySem.relabel reS
  congr 1
theorem blkOk_nest {X : Cx} {s : Shared} {H : Hp} {scope0 scope : Scope} {cl : List (Str × Addr)} {C : Addr} {env : Env} {fp : List Addr} {own : List (Str × Nat)} (N : List Str) (sc : Scope) (e : X.N = N) (e2 : env.scope = sc) (h : blkC N (reS scope0 sc) scope own = true) :
    BlkOk (X.blk s H scope0 (compEnvC scope0 cl C env) fp).N (X.blk s H scope0 (compEnvC scope0 cl C env) fp).env.scope scope own := by
  have z := blkOk_by h
  subst e e2
  rw [← reS_eq] at z
  exact z
/-! ### rules within a comprehension: the written part by its own name -/
section
variable {X : Cx} {K : PySem.W.Frag} {l e : Expr} {tl ta : TE} {tg : Expr} {f : Str} {pos : Pos}
def rLen (K : PySem.W.Frag) : List V → Hp → VK → Prop := fun xs H Q => ∃ p ys, xs = [.ref p] ∧ (SqL K H p ys ∨ SqT K H p ys) ∧ Q (.int ys.length) H
theorem ix_listK (h : X.K = K) : IxR X (rIxL K) := h ▸ ix_list
theorem ix_tupK (h : X.K = K) : IxR X (rIxT K) := h ▸ ix_tup
theorem call_len_seqK (h : X.K = K) : CallR X (.builtin "len") (rLen K) := by
  subst h
  exact call_len_seq
theorem pi_listK (h : X.K = K) (hl : PE X l tl) : PI X tg l (iList K tl) := h ▸ pi_list hl
theorem pi_tupK (h : X.K = K) (hl : PE X l tl) : PI X tg l (iTup K tl) := h ▸ pi_tup hl
theorem cr_allK (h : X.K = K) (hc : X.calm = true) : CallR X (.builtin "all") (rAll K) := h ▸ cr_all hc
theorem cr_anyK (h : X.K = K) (hc : X.calm = true) : CallR X (.builtin "any") (rAny K) := h ▸ cr_any hc
theorem cr_sumK (h : X.K = K) (hc : X.calm = true) : CallR X (.builtin "sum") (rSum K) := h ▸ cr_sum hc
theorem cr_maxK (h : X.K = K) (hc : X.calm = true) : CallR X (.builtin "max") (rMax K) := h ▸ cr_max hc
theorem cr_minK (h : X.K = K) (hc : X.calm = true) : CallR X (.builtin "min") (rMin K) := h ▸ cr_min hc
theorem op_in_seqK (h : X.K = K) : OpR X (compareOp .In) (rIn K false) := h ▸ op_in_seq
theorem op_notIn_seqK (h : X.K = K) : OpR X (compareOp .NotIn) (rIn K true) := h ▸ op_notIn_seq
theorem op_eqDK (h : X.K = K) (hu : X.A.units + 64 < cLine) : OpR X (compareOp .Eq) (rEqD K) := h ▸ op_eqD hu
theorem op_neDK (h : X.K = K) (hu : X.A.units + 64 < cLine) : OpR X (compareOp .NotEq) (rNeD K) := h ▸ op_neD hu
theorem pe_fldK (h : X.K = K) (he : PE X e ta) (hb : attributeBase e f X.env (eval e X.env) = eval e X.env) : PE X (.Attribute e f pos) (tFld K ta f) := h ▸ pe_fld he hb
end
theorem s_len {K : PySem.W.Frag} {a : Addr} {xs : List V} {H : Hp} {Q : VK} (h : SqL K H a xs) (q : Q (.int xs.length) H) : rLen K [.ref a] H Q := ⟨a, xs, rfl, .inl h, q⟩
/-! ### bounds of ints -/
theorem Same.new {p : Addr} {o : HO} {H : Hp} (h : H p = none) : Same H (upd H p o) := fun c u e => by rw [upd_ne (ne_of_none e h)]; exact e
theorem Same.rfl' (H : Hp) : Same H H := fun _ _ e => e
theorem Same.tr {A B C : Hp} (x : Same A B) (y : Same B C) : Same A C := fun c u e => y c u (x c u e)
theorem Same.at_ {p : Addr} {o : HO} {H H1 : Hp} (h : H p = none) (s : Same H H1) : Same H (upd H1 p o) := fun c u e => by rw [upd_ne (ne_of_none e h)]; exact s c u e
theorem Same.but {r : Addr} {H H' : Hp} (s : Same H H') : But r H H' := fun c o h _ => s c o h
def Sm (k : Nat) (x : Int) : Prop := x.natAbs < 2 ^ k
instance {k : Nat} {x : Int} : Decidable (Sm k x) := inferInstanceAs (Decidable (_ < _))
theorem Sm.mono {j k : Nat} {x : Int} (h : Sm j x) (l : j ≤ k) : Sm k x := Nat.lt_of_lt_of_le h (Nat.pow_le_pow_right (by decide) l)
theorem Sm.mul {j k : Nat} {x y : Int} (h : Sm j x) (g : Sm k y) : Sm (j + k) (x * y) := by
  unfold Sm at *
  rw [Int.natAbs_mul, Nat.pow_add]
  exact Nat.mul_lt_mul'' h g
theorem Sm.add {k : Nat} {x y : Int} (h : Sm k x) (g : Sm k y) : Sm (k + 1) (x + y) := by
  unfold Sm at *
  rw [Nat.pow_succ]
  omega
theorem Sm.le {k : Nat} {x y : Int} (h0 : 0 ≤ x) (h : x ≤ y) (g : Sm k y) : Sm k x := by
  unfold Sm at *
  omega
theorem Sm.cmul {j k : Nat} {x y : Int} (h : Sm j x) (g : Sm k y) (h0 : 0 < j := by decide) (h1 : 0 < k := by decide) (l : j + k ≤ 1000000 := by decide) : CMulW x y := wide_mul h g h0 h1 l
theorem But.same {x : Addr} {H H1 H' : Hp} (b : But x H1 H') (s : Same H H1) (n : H x = none) : Same H H' := fun c o h => b c o (s c o h) (ne_of_none h n)
theorem lg {k : Nat} {x : Int} (h : Sm k x) (h0 : 0 < k := by decide) (hk : k ≤ 9000 := by decide) : x.natAbs.log2 < 9000 := Nat.lt_of_lt_of_le (PySem.Flt.log2_lt_of h0 h) hk
theorem sm62 {x : Int} (h0 : 0 ≤ x) (h : x < 4611686018427387904) : Sm 62 x := by
  show x.natAbs < 4611686018427387904
  omega
theorem cmul_small {i j : Int} (h0 : 0 ≤ i) (h1 : i < 2147483648) (g0 : 0 ≤ j) (g1 : j < 2147483648) : CMulW i j := wide_mul (a := 31) (b := 31) (by omega) (by omega) (by decide) (by decide) (by decide)
theorem atI_ints {ns : List Int} {k : Int} (h0 : 0 ≤ k) (h : k < (ns.map V.int).length) : ∃ c, atI (ns.map V.int) k = some (.int c) := by
  obtain ⟨j, rfl⟩ : ∃ j : Nat, k = j := ⟨k.toNat, by omega⟩
  rw [List.length_map] at h
  have hj : j < ns.length := by omega
  exact ⟨ns[j], atI_nat (by rw [List.getElem?_map, List.getElem?_eq_getElem hj]; rfl)⟩
theorem Sm.log {k : Nat} {x : Int} (h : Sm k x) (h0 : 0 < k := by decide) : x.natAbs.log2 < k := PySem.Flt.log2_lt_of h0 h
end My

namespace My
open PySem L2 PySem.Spec PyProof.Rows Sem
/-! ### set(xs), xs a list of ints -/
abbrev setO0 (w : World) : Obj := { cls := .type "set", dict := none, data := .set #[] 0 (.fresh 0 0 (!w.params.followText "set-order")) }
section
variable {P : Program} {w : World} {A : Around} {E : Value → Shared → Prop} {s : Shared}
theorem set_ints {l : Addr} {its : Array Value} (ks : List Int) {Q : Value → Shared → Prop} (calm : A.handled = none) (isl : s.heap.IsList l its) (are : IntsAre its.toList ks) (few : ks.length + 1 < scanBound)
    (fin : ∀ (hp : Heap) (tk c : Nat), SetR w hp s.heap.objs.size (fun j => decide (j ∈ ks)) c → c ≤ ks.length → (∀ b o, s.heap.get? b = some o → hp.get? b = some o) → Q (.ref s.heap.objs.size) { s with heap := hp, toks := tk }) :
    wpAny (model P w) A (call (.type "set") [.ref l]) Q E s := by
  have size_eq : its.size = ks.length := by simpa using IntsAre.length are
  have z1 := F.called_set.mro
  have z2 := F.called_set.made
  have z3 := F.called_set.sub
  have z4 := F.called_set.notType
  have z5 := F.called_set.canCreate
  have z6 := F.typeCall_set_1 (.ref l)
  obtain ⟨c0, tl0, mro0⟩ := z1
  apply wpAny_call; apply codeAny_of_tree
  show wpAny _ _ (callAny (Value.type "set") _) _ _ _
  apply wpAny_pure; refine ⟨Code.quiet_builtin _ (by decide +kernel), ?_⟩; apply codeAny_builtin F.entry_type_call
  rw [Around.under_plain (weight_type_call_type "set" [Value.ref l] []) (by rfl)]
  repeat (any_goals (first | assumption | wp_step))
  apply codeAny_mono (code_set_led1 (.ref l) (E := E) (Q₁ := fun v t => v = .ref s.heap.objs.size ∧ t = { s with heap := s.heap.push (setO0 w) }) ⟨rfl, rfl⟩)
  rintro (er | fl) t hq
  · exact hq
  cases fl with
  | ret v =>
    obtain ⟨rfl, rfl⟩ := hq
    have atS : (s.heap.push (setO0 w)).get? s.heap.objs.size = some (setO0 w) := Heap.get?_push_size _ rfl
    have ty : Shared.TypeIs { s with heap := s.heap.push (setO0 w) } (.ref s.heap.objs.size) "set" := ⟨_, atS, rfl⟩
    have i1 := F.called_set.init.lookup
    have i2 := F.called_set.init.bind (.ref s.heap.objs.size)
    repeat (any_goals (first | assumption | wp_step))
    refine codeAny_mono (codeAny_call_builtin (R := wants (fun v t => v = .none ∧ ∃ hp tk c, t = { s with heap := hp, toks := tk } ∧ SetR w hp s.heap.objs.size (fun j => decide (j ∈ ks)) c ∧ c ≤ ks.length ∧
      ∀ b o, s.heap.get? b = some o → hp.get? b = some o) E) F.called_set.init.plain F.entry_set_init (check_set_init_1 ty ?_)) ?_
    · obtain ⟨o1, at1, cls1, n1, dat1⟩ := isl
      obtain ⟨oc, od, odat, osl⟩ := o1
      simp only at cls1 dat1
      subst cls1 dat1
      have at2 : (s.heap.push (setO0 w)).get? l = some { cls := .type "list", dict := od, data := .seq its n1, slots := osl } := Heap.get?_push_of_some _ at1
      have u1 := F.sub_list_set
      have u2 := F.sub_list_frozenset
      have u3 : (Value.type "list" == Value.type "dict") = false := by decide
      have isl2 : (s.heap.push (setO0 w)).IsList l its := ⟨_, at2, rfl, n1, rfl⟩
      unfold Builtin.«set.__init__» noKeywords Builtin.Frozenset.updateFrom
      generalize gPI : pyIter = PI
      wp_walk
      subst gPI
      apply wpAny_pyIter_list isl2
      apply wpAny_bind; apply wpAny_runValue
      have lS : l < s.heap.objs.size := Heap.lt_size at1
      have calm3 : A.in1.in1.in1.handled = none := by simp [calm]
      have lI : l ≠ (s.heap.push (setO0 w)).objs.size := Heap.size_push .. ▸ Nat.ne_of_lt (Nat.lt_succ_of_lt lS)
      have Sf : s.heap.objs.size ∉ [(s.heap.push (setO0 w)).objs.size, l] := by
        rw [Heap.size_push, List.mem_cons, List.mem_singleton]
        rintro (z | z)
        · exact absurd z (Nat.ne_of_lt (Nat.lt_succ_self _))
        · exact absurd z.symm (Nat.ne_of_lt lS)
      have vals : ∀ (i : Nat) (v : Value), its[i]? = some v → ∃ k t, ks[i]? = some k ∧ v = .int k t := fun i v hv => by
        have lt : i < ks.length := size_eq ▸ (Array.getElem?_eq_some_iff.mp hv).1
        obtain ⟨t, e⟩ := IntsAre.int_at are i v (by simpa using hv)
        exact ⟨ks[i], t, List.getElem?_eq_getElem lt, by rw [e, List.getD_eq_getElem?_getD, List.getElem?_eq_getElem lt]; rfl⟩
      refine set_update_ints ((Walks.list calm3 _ l lI its).toS) s.heap.objs.size Sf ks size_eq few vals (its.size - 0) 0 _ (by omega) (Nat.zero_le _) ⟨⟨_, Heap.get?_push_size _ rfl, rfl, rfl⟩, isl2.push _⟩ ⟨0, Nat.le_refl 0, setR_new_at (Heap.get?_push_of_some _ atS)⟩ ?_
      intro t c moved le R
      obtain ⟨hp, gs, dr, tk, os⟩ := t
      have e1 : gs = s.gens := moved.gens
      have e2 : dr = s.drawn := moved.drawn
      have e3 : os = s.os := moved.os
      subst e1 e2 e3
      show wpAny _ _ _ _ _ _
      apply wpAny_pure
      show wpAny _ _ (ret Value.none) _ _ _
      refine wpAny_pure ⟨rfl, hp, tk, c, rfl, R, size_eq ▸ le, fun b o e => ?_⟩
      have b0 : b < s.heap.objs.size := Heap.lt_size e
      refine moved.heap b o ?_ (Heap.get?_push_of_some _ (Heap.get?_push_of_some _ e))
      rw [Heap.size_push]
      simp only [List.mem_cons, List.mem_singleton, List.not_mem_nil, or_false, not_or]
      exact ⟨Nat.ne_of_lt b0, Nat.ne_of_lt (Nat.lt_succ_of_lt b0)⟩
    · rintro (er | fl) t hq
      · exact hq
      cases fl with
      | ret v =>
        obtain ⟨rfl, hp, tk, c, rfl, R, le, keep⟩ := hq
        repeat (any_goals (first | assumption | wp_step))
        exact fin _ _ _ R le keep
      | _ => exact hq.elim
  | _ => exact hq.elim
end
section
variable {X : Cx}
/-- set(xs) of a list of ints: a new set -/
def rSetOfI (K : PySem.W.Frag) (w : World) : List V → Hp → VK → Prop := fun xs H Q => ∃ (l : Addr) (ns : List Int), xs = [.ref l] ∧ SqL K H l (ns.map V.int) ∧ ns.length + 1 < scanBound ∧
  ∀ (p : Addr) (ks : List Int), H p = none → ks.Nodup → (∀ k, k ∈ ks ↔ k ∈ ns) → Q (.ref p) (upd H p (SetO w p (fun j => decide (j ∈ ns)) ks.length))
theorem cr_setOfI (hc : X.calm = true) : CallR X (.type "set") (rSetOfI X.K X.w) := by
  intro pins s σ H xs us Q I r h
  obtain ⟨l, ns, rfl, hl, few, q⟩ := h
  rw [Vals.ref1 r]
  obtain ⟨its, rv, pl, _⟩ := I.list hl
  have fresh : H s.heap.objs.size = none := I.hok.fresh (Nat.le_refl _)
  refine set_ints (P := X.prog) (w := X.w) ns (I.ok.hd hc) pl.isList (by simpa using intsAre_of rv) few fun hp tk c R le keep => ?_
  refine ⟨.ref s.heap.objs.size, upd H s.heap.objs.size (SetO X.w s.heap.objs.size (fun j => decide (j ∈ ns)) c), I.laid (t' := tk) keep (Nat.le_refl _) (setO_new R), rfl, ?_⟩
  obtain ⟨o, es, ep, t, _, _, _, _, nd, hm, _, _, ln, _⟩ := id R
  have e : (es.toList.map keyOf).length = c := by rw [List.length_map, Array.length_toList, ln]
  rw [← e]
  exact q _ _ fresh nd fun k => ((hm k).symm).trans decide_eq_true_iff
end
/-- different numbers below n: at most n -/
theorem nd_len : ∀ (n : Nat) (ks : List Int), ks.Nodup → (∀ k ∈ ks, 0 ≤ k ∧ k < (n : Int)) → ks.length ≤ n
  | 0, ks, _, h => by
    cases ks with
    | nil => exact Nat.le_refl _
    | cons k ks =>
      have := h k (List.mem_cons_self ..)
      omega
  | n + 1, ks, nd, h => by
    by_cases hm : (n : Int) ∈ ks
    · have ih := nd_len n (ks.erase (n : Int)) (nd.erase _) fun k hk => by
        rw [nd.mem_erase_iff] at hk
        have := h k hk.2
        have := hk.1
        omega
      rw [List.length_erase_of_mem hm] at ih
      omega
    · have ih := nd_len n ks nd fun k hk => by
        have := h k hk
        have hne : k ≠ n := fun e => hm (e ▸ hk)
        omega
      omega
end My

namespace My
open PySem L2 PySem.Spec PyProof.Rows Sem
section
variable {X : Cx} {j k : Nat} {f C : Addr} {fd : FuncData} {ps : List Str} {sp : Sp} {dvs : List V} {ds : List Value} {m : Str} {pins : List (Addr × Obj)} {σ : L2.St} {H : Hp} {s : Shared}
/-- a def's call, seen from inside a builtin's run -/
theorem goIn {A : Around} {Q : VK} {us : List Value} {vs : List V} (F : FnG X.prog X.w X.K X.mg X.base CX0 k f fd ps sp) (hr : RoomG k A) (e0 : Env0 X.prog X.w X.K X.mg X.base A X.stack s H) (hb : Binds X.K fd ps ds) (hd : Vals dvs ds)
    (I : Inv X pins σ H s) (r : Vals vs us) (h : sp (vs ++ dvs) H Q E0) : wpAny (model X.prog X.w) A (call (.ref f) us) (EP X pins σ Q) X.xe s := by
  have r2 := r.append hd
  have hl : (us ++ ds).length = ps.length := r2.length.symm.trans (F.len _ _ _ _ h)
  refine wpAny_call (codeAny_mono (F.go A X.stack s H ⟨us, []⟩ (us ++ ds) _ Q E0 hr e0 (hb s us I.kIn hl) r2 h) ?_)
  intro r s' hq
  cases r with
  | error e => exact (show False from hq).elim
  | ok fl => cases fl with
    | ret u => exact I.after hq
    | next => exact (show False from hq).elim
    | brk => exact (show False from hq).elim
    | cont => exact (show False from hq).elim
/-- an object of the class, as the heap has it -/
theorem insAt {a dx : Addr} {fs : List (Str × V)} (I : Inv X pins σ H s) (e : H a = some (.ins C dx fs)) : ∃ ox od, PySem.W.InstAt s.heap a ox C od := by
  obtain ⟨mA, O, _⟩ := ins_get I.hok e
  obtain ⟨od, J, _⟩ := O.look
  exact ⟨_, _, J⟩
/-! ### x in o, o its own __contains__ -/
def rInO (C : Addr) (sp : Sp) (dvs : List V) (g : Bool → Bool) : R2 := fun x y H Q => ∃ a dx fs, y = .ref a ∧ H a = some (.ins C dx fs) ∧ sp (.ref a :: x :: dvs) H (fun v H' => ∃ b, v = .bl b ∧ Q (.bl (g b)) H') E0
theorem or_inO (D : Mtn X.prog X.w X.K X.mg X.base C "__contains__" k ps dvs sp) (hr : RoomG k X.A) : OpR X (compareOp .In) (rInO C sp dvs id) := by
  obtain ⟨f, fd, ds, c, hm, F, hb, hd⟩ := D.ex
  intro pins s σ H x y v u Q I rx ry h
  obtain ⟨a, dx, fs, rfl, ea, q⟩ := h
  obtain rfl : u = Value.ref a := ry
  obtain ⟨ox, od, J⟩ := insAt I ea
  obtain ⟨mf, fr⟩ := I.fr
  refine PySem.W.in_K fr I.mod.kin J hm.at_ hm.fn (wpAny_mono (goIn (us := [.ref a, v]) (vs := [.ref a, x]) F hr I.env0 hb hd I (.cons rfl (.cons rx .nil)) q) (fun w s1 hw => ?_) fun _ _ z => z)
  obtain ⟨t, H1, I1, rt, b, rfl, q1⟩ := hw
  obtain rfl : w = Value.bool b := rt
  exact wpAny_truthy_bool ⟨.bl b, H1, I1, rfl, q1⟩
theorem or_notInO (D : Mtn X.prog X.w X.K X.mg X.base C "__contains__" k ps dvs sp) (hr : RoomG k X.A) : OpR X (compareOp .NotIn) (rInO C sp dvs (!·)) := by
  obtain ⟨f, fd, ds, c, hm, F, hb, hd⟩ := D.ex
  intro pins s σ H x y v u Q I rx ry h
  obtain ⟨a, dx, fs, rfl, ea, q⟩ := h
  obtain rfl : u = Value.ref a := ry
  obtain ⟨ox, od, J⟩ := insAt I ea
  obtain ⟨mf, fr⟩ := I.fr
  refine PySem.W.notIn_K fr I.mod.kin J hm.at_ hm.fn (wpAny_mono (goIn (us := [.ref a, v]) (vs := [.ref a, x]) F hr I.env0 hb hd I (.cons rfl (.cons rx .nil)) q) (fun w s1 hw => ?_) fun _ _ z => z)
  obtain ⟨t, H1, I1, rt, b, rfl, q1⟩ := hw
  obtain rfl : w = Value.bool b := rt
  exact wpAny_truthy_bool ⟨.bl (!b), H1, I1, rfl, q1⟩
/-! ### len(o), repr(o) -/
theorem call_lenO (D : Mtn X.prog X.w X.K X.mg X.base C "__len__" k ps dvs sp) (hr : RoomG (k + 1) X.A) :
    CallR X (.builtin "len") (fun xs H Q => ∃ a dx fs, xs = [.ref a] ∧ H a = some (.ins C dx fs) ∧ sp (.ref a :: dvs) H (fun v H' => ∃ n : Int, v = .int n ∧ 0 ≤ n ∧ n < 2 ^ 63 ∧ Q (.int n) H') E0) := by
  obtain ⟨f, fd, ds, c, hm, F, hb, hd⟩ := D.ex
  intro pins s σ H xs us Q I r h
  obtain ⟨a, dx, fs, rfl, ea, q⟩ := h
  rw [Vals.ref1 r]
  obtain ⟨ox, od, J⟩ := insAt I ea
  obtain ⟨mf, fr⟩ := I.fr
  refine PySem.W.len_K fr I.mod.kin J hm.at_ hm.fn (wpAny_mono (goIn (us := [.ref a]) (vs := [.ref a]) F hr.in1 I.env0.in1 hb hd I (.cons rfl .nil) q) (fun w s1 hw => ?_) fun _ _ z => z)
  obtain ⟨t, H1, I1, rt, n, rfl, n0, n1, q1⟩ := hw
  obtain ⟨tk, rfl⟩ := (show ∃ t, w = Value.int n t from rt)
  exact ⟨⟨n0, n1⟩, .int n, H1, I1.tok _, ⟨_, rfl⟩, q1⟩
theorem call_reprO (D : Mtn X.prog X.w X.K X.mg X.base C "__repr__" k ps dvs sp) (hr : RoomG (k + 1) X.A) :
    CallR X (.builtin "repr") (fun xs H Q => ∃ a dx fs, xs = [.ref a] ∧ H a = some (.ins C dx fs) ∧ sp (.ref a :: dvs) H (fun v H' => ∃ y : Str, v = .str y ∧ Q (.str y) H') E0) := by
  obtain ⟨f, fd, ds, c, hm, F, hb, hd⟩ := D.ex
  intro pins s σ H xs us Q I r h
  obtain ⟨a, dx, fs, rfl, ea, q⟩ := h
  rw [Vals.ref1 r]
  obtain ⟨ox, od, J⟩ := insAt I ea
  obtain ⟨mf, fr⟩ := I.fr
  have hu : X.A.in1.units < cLine := by
    have := hr.in1.units
    omega
  refine PySem.W.repr_K hu fr I.mod.kin J hm.at_ hm.fn (wpAny_mono (goIn (us := [.ref a]) (vs := [.ref a]) F hr.in1 I.env0.in1 hb hd I (.cons rfl .nil) q) (fun w s1 hw => ?_) fun _ _ z => z)
  obtain ⟨t, H1, I1, rt, y, rfl, q1⟩ := hw
  obtain ⟨tk, rfl⟩ := (show ∃ t, w = Value.str y t from rt)
  exact ⟨.str y, H1, I1, ⟨_, rfl⟩, q1⟩
/-! ### o[k] -/
def rIxO (C : Addr) (sp : Sp) (dvs : List V) : R2 := fun x y H Q => ∃ a dx fs, x = .ref a ∧ H a = some (.ins C dx fs) ∧ sp (.ref a :: y :: dvs) H Q E0
theorem pe_ixO {a b : Expr} {ta tb : TE} {pos : Pos} (D : Mtn X.prog X.w X.K X.mg X.base C "__getitem__" k ps dvs sp) (hr : RoomG (k + 1) X.A) (hfn : ∀ f, PySem.W.findIn X.K (.ref C) "__getitem__" = some (some (.ref f)) → PySem.W.fnIn X.K f = true)
    (ha : PE X a ta) (hb : PE X b tb) (hs : ∀ o i, subscripted b true o i = runValue (.builtin "lifetime.subscript" ⟨[o, i], []⟩) := by intros; with_unfolding_all rfl) : PE X (.Subscript a b pos) (tOp (rIxO C sp dvs) ta tb) := by
  obtain ⟨f, fd, ds, c, hm, F, hbd, hd⟩ := D.ex
  refine ⟨fun pins s σ H Q I h => Subscript_ (binT ha hb I h fun v u s2 x y H2 I2 rx ry q => ?_)⟩
  obtain ⟨a, dx, fs, rfl, ea, q⟩ := q
  obtain rfl : v = Value.ref a := rx
  obtain ⟨ox, od, J⟩ := insAt I2 ea
  obtain ⟨mf, fr⟩ := I2.fr
  exact PySem.W.sub_K fr I2.mod.kin J hm.at_ (hfn f hm.at_) hm.fn (goIn (us := [.ref a, u]) (vs := [.ref a, y]) F hr.in1 I2.env0.in1 hbd hd I2 (.cons rfl (.cons ry .nil)) q) (hs _ _)
/-! ### o + p, both of the class -/
def rBinO (C : Addr) (sp : Sp) (dvs : List V) : R2 := fun x y H Q => ∃ a b dx dy fs gs, x = .ref a ∧ y = .ref b ∧ H a = some (.ins C dx fs) ∧ H b = some (.ins C dy gs) ∧ sp (.ref a :: .ref b :: dvs) H Q E0
theorem op_own {op : Operator} {nm : Str} (D : Mtn X.prog X.w X.K X.mg X.base C nm k ps dvs sp) (e : PySem.dunder op.info.2 = nm) (hc : PySem.W.selfFirst X.K C = true) (hr : RoomG k X.A) : OpR X (binaryOp op) (rBinO C sp dvs) := by
  subst e
  obtain ⟨f, fd, ds, c, hm, F, hb, hd⟩ := D.ex
  intro pins s σ H x y v u Q I rx ry h
  obtain ⟨a, b, dx, dy, fs, gs, rfl, rfl, ea, eb, q⟩ := h
  obtain rfl : v = Value.ref a := rx
  obtain rfl : u = Value.ref b := ry
  obtain ⟨ox, od, J⟩ := insAt I ea
  obtain ⟨oy, od2, J2⟩ := insAt I eb
  obtain ⟨mf, fr⟩ := I.fr
  refine PySem.W.binop_K fr I.mod.kin J J2.type hc hm.at_ hm.fn (wpAny_mono (goIn (us := [.ref a, .ref b]) (vs := [.ref a, .ref b]) F hr I.env0 hb hd I (.cons rfl (.cons rfl .nil)) q) (fun w s1 hw => ?_) fun _ _ z => z)
  obtain ⟨t, H1, I1, rt, q1⟩ := hw
  have ni : w ≠ .notImplemented := by
    rintro rfl
    cases t <;> simp [L2.RelV] at rt
  have hw : EP X pins σ Q w s1 := ⟨t, H1, I1, rt, q1⟩
  cases w with
  | notImplemented => exact absurd rfl ni
  | none => exact hw
  | ellipsis => exact hw
  | bool _ => exact hw
  | int _ _ => exact hw
  | float _ _ => exact hw
  | str _ _ => exact hw
  | bytes _ _ => exact hw
  | type _ => exact hw
  | builtin _ => exact hw
  | ref _ => exact hw
/-- a method never gives NotImplemented back -/
theorem back {Q : VK} {w : Value} {s1 : Shared} (hw : EP X pins σ Q w s1) : PySem.W.CmpBack (EP X pins σ Q) w s1 := by
  obtain ⟨t, H1, I1, rt, q1⟩ := id hw
  have ni : w ≠ .notImplemented := by
    rintro rfl
    cases t <;> simp [L2.RelV] at rt
  cases w with
  | notImplemented => exact absurd rfl ni
  | none => exact hw
  | ellipsis => exact hw
  | bool _ => exact hw
  | int _ _ => exact hw
  | float _ _ => exact hw
  | str _ _ => exact hw
  | bytes _ _ => exact hw
  | type _ => exact hw
  | builtin _ => exact hw
  | ref _ => exact hw
/-! ### o == y, o != y, y of any kind -/
def rEqO (C : Addr) (sp : Sp) (dvs : List V) (g : Bool → Bool) : R2 := fun x y H Q => ∃ (K : PySem.W.Frag) (a dx : Addr) (fs : List (Str × V)) (t : Value), x = .ref a ∧ H a = some (.ins C dx fs) ∧ TyX K H y t ∧ PySem.W.notFirst K C t = true ∧ sp (.ref a :: y :: dvs) H (fun v H' => ∃ b, v = .bl b ∧ Q (.bl (g b)) H') E0
theorem or_eqO (D : Mtn X.prog X.w X.K X.mg X.base C "__eq__" k ps dvs sp) (hr : RoomG k X.A) : OpR X (compareOp .Eq) (fun x y H Q => ∃ (a dx : Addr) (fs : List (Str × V)) (t : Value), x = .ref a ∧ H a = some (.ins C dx fs) ∧ TyX X.K H y t ∧ PySem.W.notFirst X.K C t = true ∧ sp (.ref a :: y :: dvs) H Q E0) := by
  obtain ⟨f, fd, ds, c, hm, F, hb, hd⟩ := D.ex
  intro pins s σ H x y v u Q I rx ry h
  obtain ⟨a, dx, fs, t, rfl, ea, ty, nf, q⟩ := h
  obtain rfl : v = Value.ref a := rx
  obtain ⟨ox, od, J⟩ := insAt I ea
  obtain ⟨mf, fr⟩ := I.fr
  obtain ⟨PH, Z, pH, _⟩ := kit_of I ry ty
  have hu : X.A.units < cLine := by
    have := hr.units
    omega
  exact PySem.W.cmp_K (op := .Eq) hu fr I.mod.kin J (Z.ty _ _ I.kIn pH) nf hm.at_ hm.fn (wpAny_mono (goIn (us := [.ref a, u]) (vs := [.ref a, y]) F hr I.env0 hb hd I (.cons rfl (.cons ry .nil)) q) (fun w s1 hw => back hw) fun _ _ z => z)
/-- the comparison by object.__ne__ and an own __eq__ -/
theorem ne_inK {prog : Program} {w : World} {A : Around} {E : Value → Shared → Prop} {s : Shared} {K : PySem.W.Frag} {x C f : Addr} {ox : Obj} {od : Option Obj} {b tb : Value} {Q : Value → Shared → Prop} (hu : A.units + 1 < cLine) (XK : K.In s.heap) (I : PySem.W.InstAt s.heap x ox C od)
    (hb : PySem.W.Looks (model prog w) s.heap (typeOf b) tb) (hn : PySem.W.notFirst K C tb = true) (hne : PySem.W.findIn K (.ref C) "__ne__" = some (some (.builtin "object.__ne__"))) (hob : PySem.W.mroIn K C (.type "object") = some true)
    (hs : PySem.W.findIn K (.ref C) "__eq__" = some (some (.ref f))) (hf : PySem.W.isFn K (.ref f) = true)
    (h : wpAny (model prog w) A.in1 (call (.ref f) [.ref x, b]) (fun v s' => ∃ c, v = .bool c ∧ Q (.bool (!c)) s') E s) : wpAny (model prog w) A (compareOp .NotEq (.ref x) b) Q E s := by
  have one : wpAny (model prog w) A (tryCompare (.ref x) "__ne__" b) (fun r s' => ∃ v, r = some v ∧ Q v s') E s := by
    unfold tryCompare
    refine wpAny_bind ?_
    simp only [callSpecialIfBound?, bindSpecialIfBound?]
    refine wpAny_holding (wpAny_bind (wpAny_bind (wpAny_bind (I.type.here ((PySem.W.looks_findIn XK hne).here ?_)))))
    refine wpAny_bind (wpAny_askSetting (wpAny_ite ?_))
    have body : wpAny (model prog w) A (call (.builtin "object.__ne__") ([.ref x] ++ [b])) (fun v s' => ∃ c, v = .bool c ∧ Q (.bool c) s') E s := by
      refine wpAny_call (codeAny_call_builtin F.cmp_object.ne.plain F.cmpEntry_ne ?_)
      have sub : PySem.W.Looks (model prog w) s.heap (isInstance (.ref x) (.type "object")) true := I.type.andThen (PySem.W.looks_mroIn XK hob)
      refine @PySem.W.check_slot (model prog w) _ _ _ "object.__ne__" "object" "__ne__" (.ref x) [b] [] _ F.cmpKind_ne F.cmpSplit_ne sub (F.cmpArgs_ne _ _) ?_
      unfold Builtin.«object.__ne__»
      refine wpAny_bind (wpAny_of_eq (a := ((Value.ref x : Value), [b])) (by first | rfl | (simp only [slotArgs]; rfl)) ?_)
      have hu1 : A.in1.units < cLine := hu
      refine wpAny_bind (wpAny_cRoomFor hu1 ?_)
      refine wpAny_bind (PySem.W.ifBound_K XK I hs hf (wpAny_mono h (fun v s' hv => ?_) fun _ _ z => z))
      obtain ⟨c, rfl, hq⟩ := hv
      refine wpAny_bind (wpAny_truthy_bool ?_)
      exact wpAny_pure ⟨_, rfl, hq⟩
    have fin : wpAny (model prog w) A (call (.builtin "object.__ne__") ([.ref x] ++ [b]) >>= fun v => Pure.pure (some v)) (fun r s' => ∃ c, r = some (.bool c) ∧ Q (.bool c) s') E s :=
      wpAny_bind (wpAny_mono body (fun v s' z => by
        obtain ⟨c, rfl, q⟩ := z
        exact wpAny_pure ⟨c, rfl, q⟩) fun _ _ z => z)
    rw [F.cmp_object.ne.bind]
    have fin2 : wpAny (model prog w) A (call (.builtin "object.__ne__") ([.ref x] ++ [b]) >>= fun v => Pure.pure (some v)) (fun r s' => wpAny (model prog w) A (match r with | some .notImplemented | none => Pure.pure none | some v => Pure.pure (some v)) (fun r s' => ∃ v, r = some v ∧ Q v s') E s') E s :=
      wpAny_mono fin (fun r s' z => by
        obtain ⟨c, rfl, q⟩ := z
        exact wpAny_pure ⟨_, rfl, q⟩) fun _ _ z => z
    split
    · refine wpAny_bind (wpAny_pure (wpAny_pure ?_))
      exact fin2
    · refine wpAny_tryCatch (wpAny_bind (wpAny_pure (wpAny_pure ?_)))
      exact fin2
  show wpAny (model prog w) A (richCompare .NotEq (.ref x) b) Q E s
  unfold richCompare
  simp only [oneThing_ref]
  have hu0 : A.units < cLine := by omega
  refine wpAny_holding (wpAny_bind (wpAny_cRoomFor hu0 ?_))
  refine wpAny_bind (I.type.here ?_)
  refine wpAny_bind (hb.here ?_)
  split
  · rename_i q
    have e : PySem.W.subIn K tb (.ref C) = some false := by
      rcases Bool.or_eq_true_iff.mp hn with e | e
      · rw [beq_iff_eq.mp e] at q
        simp at q
      · exact beq_iff_eq.mp e
    refine wpAny_bind ((PySem.W.looks_subIn XK e).here ?_)
    rw [if_neg Bool.false_ne_true]
    refine wpAny_bind (wpAny_mono one (fun r s' z => ?_) fun _ _ z => z)
    obtain ⟨v, rfl, q⟩ := z
    exact wpAny_pure q
  · refine wpAny_bind (wpAny_pure ?_)
    rw [if_neg Bool.false_ne_true]
    refine wpAny_bind (wpAny_mono one (fun r s' z => ?_) fun _ _ z => z)
    obtain ⟨v, rfl, q⟩ := z
    exact wpAny_pure q
theorem or_neO (D : Mtn X.prog X.w X.K X.mg X.base C "__eq__" k ps dvs sp) (hne : PySem.W.findIn X.K (.ref C) "__ne__" = some (some (.builtin "object.__ne__"))) (hob : PySem.W.mroIn X.K C (.type "object") = some true) (hr : RoomG (k + 1) X.A) :
    OpR X (compareOp .NotEq) (fun x y H Q => ∃ (a dx : Addr) (fs : List (Str × V)) (t : Value), x = .ref a ∧ H a = some (.ins C dx fs) ∧ TyX X.K H y t ∧ PySem.W.notFirst X.K C t = true ∧ sp (.ref a :: y :: dvs) H (fun v H' => ∃ b, v = .bl b ∧ Q (.bl (!b)) H') E0) := by
  obtain ⟨f, fd, ds, c, hm, F, hb, hd⟩ := D.ex
  intro pins s σ H x y v u Q I rx ry h
  obtain ⟨a, dx, fs, t, rfl, ea, ty, nf, q⟩ := h
  obtain rfl : v = Value.ref a := rx
  obtain ⟨ox, od, J⟩ := insAt I ea
  obtain ⟨PH, Z, pH, _⟩ := kit_of I ry ty
  refine ne_inK (hug hr) I.kIn J (Z.ty _ _ I.kIn pH) nf hne hob hm.at_ hm.fn (wpAny_mono (goIn (us := [.ref a, u]) (vs := [.ref a, y]) F hr.in1 I.env0.in1 hb hd I (.cons rfl (.cons ry .nil)) q) (fun w s1 hw => ?_) fun _ _ z => z)
  obtain ⟨t1, H1, I1, rt, b, rfl, q1⟩ := hw
  obtain rfl : w = Value.bool b := rt
  exact ⟨b, rfl, .bl (!b), H1, I1, rfl, q1⟩
/-! ### o * y, y of a built-in type -/
theorem op_ownT {op : Operator} {nm : Str} {T : String} {fo ro rc : Option Value} (D : Mtn X.prog X.w X.K X.mg X.base C nm k ps dvs sp) (e : PySem.dunder op.info.2 = nm) (hc : PySem.W.selfFirst X.K C = true) (hr : RoomG k X.A)
    (h0 : PySem.W.findIn X.K (.ref C) (dunderR op.info.2) = some rc) (hp : rc = none ∨ ∃ g : Addr, rc = some (.ref g)) (h1 : PySem.W.findIn X.K (.type T) (PySem.dunder op.info.2) = some fo) (h2 : PySem.W.findIn X.K (.type T) (dunderR op.info.2) = some ro) (h3 : PySem.W.subIn X.K (.type T) (.ref C) = some false)
    (hT : ∀ y u, L2.RelV y u → (∃ i, y = .int i) → typeOf u = Pure.pure (.type T)) :
    OpR X (binaryOp op) (fun x y H Q => ∃ a dx fs, x = .ref a ∧ H a = some (.ins C dx fs) ∧ (∃ i, y = .int i) ∧ sp (.ref a :: y :: dvs) H Q E0) := by
  subst e
  obtain ⟨f, fd, ds, c, hm, F, hb, hd⟩ := D.ex
  intro pins s σ H x y v u Q I rx ry h
  obtain ⟨a, dx, fs, rfl, ea, hy, q⟩ := h
  obtain rfl : v = Value.ref a := rx
  obtain ⟨ox, od, J⟩ := insAt I ea
  obtain ⟨mf, fr⟩ := I.fr
  exact PySem.W.ksp_binT fr I.mod.kin J (hT _ _ ry hy) hc hm.at_ hm.fn h0 hp h1 h2 h3 (wpAny_mono (goIn (us := [.ref a, u]) (vs := [.ref a, y]) F hr I.env0 hb hd I (.cons rfl (.cons ry .nil)) q) (fun w s1 hw => back hw) fun _ _ z => z)
theorem typeOf_int {y : V} {u : Value} (r : L2.RelV y u) (h : ∃ i, y = .int i) : typeOf u = Pure.pure (.type "int") := by
  obtain ⟨i, rfl⟩ := h
  obtain ⟨t, rfl⟩ := (show ∃ t, u = Value.int i t from r)
  rfl
/-! ### i * o, by o's own __rmul__ -/
theorem insAt' {a dx : Addr} {fs : List (Str × V)} (I : Inv X pins σ H s) (e : H a = some (.ins C dx fs)) : ∃ od, PySem.W.InstAt s.heap a (PySem.W.instObj C dx) C (some od) := by
  obtain ⟨mA, O, _⟩ := ins_get I.hok e
  obtain ⟨od, J, _⟩ := O.look
  exact ⟨_, J⟩
theorem int_mul_own (i : Int) (t : Tok) (x C dx : Addr) : Meets (Builtin.«int.__mul__» ⟨[.int i t, .ref x], []⟩) (fun _ R s => s.heap.get? x = some (PySem.W.instObj C dx) ∧ R (.ok (.ret Value.notImplemented)) s) :=
  .of_wp fun prog w A R s h => by
    obtain ⟨hp, g, d, tk, os⟩ := s
    obtain ⟨hl, h⟩ := h
    unfold PySem.W.instObj at hl
    wp_walk
    exact ⟨_, rfl, h⟩
theorem rmul_inK {prog : Program} {w : World} {A : Around} {E : Value → Shared → Prop} {s : Shared} {K : PySem.W.Frag} {x C dx f f0 : Addr} {od : Option Obj} {i : Int} {t : Tok} {Q : Value → Shared → Prop} (XK : K.In s.heap) (I : PySem.W.InstAt s.heap x (PySem.W.instObj C dx) C od) (hc : PySem.W.selfFirst K C = true)
    (hs : PySem.W.findIn K (.ref C) "__mul__" = some (some (.ref f0))) (hr : PySem.W.findIn K (.ref C) "__rmul__" = some (some (.ref f))) (hf : PySem.W.isFn K (.ref f) = true) (hsub : PySem.W.subIn K (.ref C) (.type "int") = some false)
    (h : wpAny (model prog w) A (call (.ref f) [.ref x, .int i t]) (PySem.W.CmpBack Q) E s) : wpAny (model prog w) A (binaryOp .Mult (.int i t) (.ref x)) Q E s := by
  obtain ⟨cd, rest, hcd, hm⟩ := PySem.W.ksp_first hc
  have one := PySem.W.ksp_try XK I hr hf h
  have L2 := PySem.W.fills_K (M := model prog w) (nm := "mul") XK hcd hm hs
  unfold binaryOp
  refine wpAny_holding (wpAny_bind ?_)
  simp only [binaryOp1]
  refine wpAny_bind (wpAny_typeOf (typeIs_int s i t) (wpAny_bind (I.type.here (wpAny_bind (wpAny_of_eq F.fills_int_mul ?_)))))
  have hne : (Value.type "int" == Value.ref C) = false := Bool.eq_false_iff.mpr fun q => by cases beq_iff_eq.mp q
  rw [if_neg (by rw [hne]; exact Bool.false_ne_true)]
  refine wpAny_bind (L2.here ?_)
  rw [if_pos (show (true && true) = true from rfl)]
  refine wpAny_bind ((PySem.W.looks_subIn XK hsub).here ?_)
  rw [if_neg Bool.false_ne_true]
  simp only [Bool.not_false, Bool.and_self, if_true]
  have hpy : numberSlotInPython (.type "int") "mul" = Pure.pure false := rfl
  rw [hpy]
  simp only [pure_bind, Bool.false_eq_true, if_false]
  have dec : wpAny (model prog w) A (call (.builtin "int.__mul__") [.int i t, .ref x]) (fun v s' => v = .notImplemented ∧ s' = s) E s :=
    call_meets F.slot_int_mul (typeIs_int s i t) F.entry_int_mul (F.args_int_mul_2 _ _) (int_mul_own i t x C dx) ⟨I.at_, rfl, rfl⟩
  refine wpAny_bind (wpAny_tryMethod_declines (typeIs_int s i t) F.slot_int_mul (wpAny_mono dec (fun v s' z => ⟨z.1, ?_⟩) fun _ _ z => z))
  obtain ⟨_, rfl⟩ := z
  dsimp only
  refine wpAny_bind (wpAny_mono one (fun r s' z => ?_) fun _ _ z => z)
  obtain ⟨v, rfl, q⟩ := z
  refine wpAny_bind (wpAny_rule (wpAny_pure ?_))
  exact wpAny_pure q
theorem op_rmulO (D0 : ∃ f0 : Addr, PySem.W.findIn X.K (.ref C) "__mul__" = some (some (.ref f0))) (D : Mtn X.prog X.w X.K X.mg X.base C "__rmul__" k ps dvs sp) (hc : PySem.W.selfFirst X.K C = true) (hsub : PySem.W.subIn X.K (.ref C) (.type "int") = some false) (hr : RoomG k X.A) :
    OpR X (binaryOp .Mult) (fun x y H Q => ∃ (i : Int) (a dx : Addr) (fs : List (Str × V)), x = .int i ∧ y = .ref a ∧ H a = some (.ins C dx fs) ∧ sp (.ref a :: .int i :: dvs) H Q E0) := by
  obtain ⟨f0, h0⟩ := D0
  obtain ⟨f, fd, ds, c, hm, F, hb, hd⟩ := D.ex
  intro pins s σ H x y v u Q I rx ry h
  obtain ⟨i, a, dx, fs, rfl, rfl, ea, q⟩ := h
  obtain ⟨t, rfl⟩ := (show ∃ t, v = Value.int i t from rx)
  obtain rfl : u = Value.ref a := ry
  obtain ⟨od, J⟩ := insAt' I ea
  exact rmul_inK I.kIn J hc h0 hm.at_ hm.fn hsub (wpAny_mono (goIn (us := [.ref a, .int i t]) (vs := [.ref a, .int i]) F hr I.env0 hb hd I (.cons rfl (.cons ⟨t, rfl⟩ .nil)) q) (fun w s1 hw => back hw) fun _ _ z => z)
end
end My

namespace My
open PySem L2 PySem.Spec PyProof.Rows Sem
/-! ### calls with keywords -/
/-- a method as it is called with n values (itself among them) and keywords ks -/
structure Mtk (P : Program) (w : World) (K : PySem.W.Frag) (mg : Str → Option Value) (base : Heap) (C : Addr) (m : Str) (k : Nat) (n : Nat) (ks : List Str) (gV : List V → List V → List V) (sp : Sp) : Prop where
  ex : ∃ (f : Addr) (fd : FuncData) (ps : List Str) (g : List Value → List Value → List Value), Cls K C ∧ Meth K C m f ∧ FnG P w K mg base CX0 k f fd ps sp ∧ KBn K fd ps n ks g gV
/-- a class likewise, by its __init__ -/
structure Mkk (P : Program) (w : World) (K : PySem.W.Frag) (mg : Str → Option Value) (base : Heap) (x : Str) (C : Addr) (k : Nat) (n : Nat) (ks : List Str) (gV : List V → List V → List V) (sp : Sp) : Prop where
  ex : ∃ (f : Addr) (fd : FuncData) (ps : List Str) (g : List Value → List Value → List Value), Mk K C f ∧ FnG P w K mg base CX0 k f fd ps sp ∧ mg x = some (.ref C) ∧ KBn K fd ps n ks g gV
theorem kbn0 {K : PySem.W.Frag} {x qual : Str} {params : Arguments} {body : List Stmt} {scope : Scope} {f : Addr} {fd : FuncData} {ps : List Str} (F : FunD K x qual params body scope [] [] f fd) (n : Nat) (ks : List Str) (g : {α : Type} → List α → List α → List α)
    (hrel : ∀ {vs zs : List V} {us ws : List Value}, Vals vs us → Vals zs ws → Vals (g vs zs) (g us ws))
    (h : ∀ (kV doc pm : Value) (an : Option Addr) (cdv ct : Value) (us ws : List Value), us.length = n → ws.length = ks.length → bindArgs (PySem.W.fnOf x qual params body scope .none kV doc pm an cdv ct) ⟨us, ks.zip ws⟩ = Pure.pure (ps.zip (g us ws))) :
    KBn K fd ps n ks (fun us ws => g us ws) (fun vs zs => g vs zs) := by
  obtain ⟨oc, od, dV, kV, doc, pm, an, cdv, ct, osl, rfl, lk, hcd, hD, hK⟩ := F.ex
  rcases hD with ⟨_, rfl⟩ | ⟨z, _⟩
  · refine ⟨fun s us ws _ l1 l2 => ?_, fun r1 r2 => hrel r1 r2⟩
    refine BindsTo.of_looks fun M => ?_
    rw [h kV doc pm an cdv ct us ws l1 l2]
    exact .of_pure rfl
  · exact absurd rfl z
section
variable {X : Cx} {j k n : Nat} {C : Addr} {sp : Sp} {m x : Str} {ks : List Str} {gV : List V → List V → List V} {p pos apos : Pos} {o : Expr} {kws : List Keyword} {ta : TE} {t tk : TA} {pins : List (Addr × Obj)} {σ : L2.St} {H : Hp} {s : Shared}
theorem goKw {f : Addr} {fd : FuncData} {ps : List Str} {g : List Value → List Value → List Value} {Q : VK} {us ws : List Value} {vs zs : List V} (F : FnG X.prog X.w X.K X.mg X.base CX0 k f fd ps sp) (hr : RoomG k X.A) (hb : KBn X.K fd ps n ks g gV)
    (I : Inv X pins σ H s) (r : Vals vs us) (rz : Vals zs ws) (l1 : vs.length = n) (l2 : zs.length = ks.length) (h : sp (gV vs zs) H Q E0) : wpAny (model X.prog X.w) X.A (call (.ref f) us (ks.zip ws)) (EP X pins σ Q) X.xe s := by
  refine wpAny_call (codeAny_mono (F.go X.A X.stack s H ⟨us, ks.zip ws⟩ (g us ws) (gV vs zs) Q E0 hr I.env0 (hb.to s us ws I.kIn (r.length.symm.trans l1) (rz.length.symm.trans l2)) (hb.rel r rz) h) fun r s' hq => ?_)
  cases r with
  | error e => exact (show False from hq).elim
  | ok fl => cases fl with
    | ret u => exact I.after hq
    | next => exact (show False from hq).elim
    | brk => exact (show False from hq).elim
    | cont => exact (show False from hq).elim
/-- o.m(k = v, ..) -/
def tMethK (C : Addr) (m : Str) (l : Nat) (sp : Sp) (gV : List V → List V → List V) (ta : TE) (tk : TA) : TE := fun σ H Q => ta σ H fun y H1 => ∃ a dx fs, y = .ref a ∧ H1 a = some (.ins C dx fs) ∧ fs.lookup m = none ∧ tk σ H1 fun zs H2 => zs.length = l ∧ sp (gV [.ref a] zs) H2 Q E0
theorem pe_methK {pl : Sem Bool} (D : Mtk X.prog X.w X.K X.mg X.base C m k 1 ks gV sp) (he : PE X o ta) (hr : RoomG k X.A) (hkw : PK X kws tk) (hall : (backToKw pos (keywordEach kws X.env)).all (·.1.isSome) = true := by rfl) (hks : (backToKw pos (keywordEach kws X.env)).filterMap (·.1) = ks := by rfl)
    (hpl : ((backTo pos (starEach [] X.env)).any (fun q => q.1) || (backToKw pos (keywordEach kws X.env)).any (fun q => q.1.isNone)) = false := by rfl)
    (h3 : eval (.Call (.Attribute o m apos) [] kws pos) X.env = (do
      let v ← eval o X.env
      standAt apos.atName
      let (g, fst) ← holding [v] (getMethod v m pl)
      callWith pos g fst (backTo pos (starEach [] X.env)) (backToKw pos (keywordEach kws X.env))) := by rfl) : PE X (.Call (.Attribute o m apos) [] kws pos) (tMethK C m ks.length sp gV ta tk) := by
  obtain ⟨f, fd, ps, g, c, hm, F, hb⟩ := D.ex
  constructor
  intro pins s σ H Q I h
  refine PySem.W.methodCall_KW (pl := pl) (thn (he.run pins s σ H _ I h) ?_) h3
  rintro u s1 ⟨y, H1, I1, ry, a, dx, fs, rfl, ea, l, q⟩
  obtain rfl : u = Value.ref a := ry
  refine getmeth_ok I1 ea c hm l ?_
  refine PySem.W.callWith_KW0 (first := [.ref a]) (h₀ := X.base) I1.ok.mod.kin hm.kp hall ?_ hpl
  refine thn (hkw.run pos pins s1 σ H1 _ I1 q) fun ws s2 ⟨zs, H2, I2, rz, l2, q2⟩ => ⟨I2.kIn, ?_⟩
  rw [hks]
  exact goKw (us := [.ref a]) (vs := [.ref a]) F hr hb I2 (.cons rfl .nil) rz rfl l2 q2
/-- C(k = v, ..) -/
def tMakeKw (C : Addr) (l : Nat) (sp : Sp) (gV : List V → List V → List V) (tk : TA) : TE := fun σ H Q => tk σ H fun zs H2 => zs.length = l ∧ ∀ x dx, H2 x = none → H2 dx = none → dx ≠ x → sp (gV [.ref x] zs) (upd (upd H2 dx (.own x)) x (.ins C dx [])) (fun v H3 => v = .non ∧ Q (.ref x) H3) E0
theorem pe_makeKw (D : Mkk X.prog X.w X.K X.mg X.base x C k 1 ks gV sp) (hr : RoomG (k + 1) X.A) (hg : Gl X x) (hkw : PK X kws tk)
    (h1 : (backToKw pos (keywordEach kws X.env)).all (fun q => q.1.isSome) = true := by rfl)
    (h2 : (backToKw pos (keywordEach kws X.env)).filterMap (fun q => q.1) = ks := by rfl)
    (h3 : ((backTo pos (starEach [] X.env)).any (fun q => q.1) || (backToKw pos (keywordEach kws X.env)).any (fun q => q.1.isNone)) = false := by rfl) (h4 : (x == ("__debug__" : Str)) = false := by decide) :
    PE X (.Call (.Name x p) [] kws pos) (tMakeKw C ks.length sp gV tk) := by
  obtain ⟨f, fd, ps, g, M, F, hm, hb⟩ := D.ex
  refine ⟨fun pins s σ H Q I h => ?_⟩
  refine wpAny_Call_Name_kw (ld_glob I hg hm ?_ h4)
  have kin := I.ok.mod.kin
  refine PySem.W.callWith_KW0 (first := []) kin M.kp h1 ?_ h3
  refine thn (hkw.run pos pins s σ H _ I h) fun ws s2 ⟨zs, H2, I2, rz, l2, q2⟩ => ⟨I2.kIn, ?_⟩
  rw [h2]
  have hq := q2 (s2.heap.objs.size + 1) s2.heap.objs.size (I2.hok.fresh (Nat.le_succ _)) (I2.hok.fresh (Nat.le_refl _)) (Nat.ne_of_lt (Nat.lt_succ_self _))
  have I3 := Inv.made (C := C) I2
  have hr2 : RoomG k (X.A.under (.builtin "type.__call__" ⟨.ref C :: [], ks.zip ws⟩)) := ⟨hr.r.make C [] (ks.zip ws), hr.g⟩
  have r1 : Vals [V.ref (s2.heap.objs.size + 1)] [Value.ref (s2.heap.objs.size + 1)] := .cons rfl .nil
  refine wpAny_call (make_map (f := f) I2.kIn M.makes M.init (beq_iff_eq.mp M.fn) (codeAny_mono (F.go _ X.stack _ _ ⟨[Value.ref (s2.heap.objs.size + 1)], ks.zip ws⟩ (g [Value.ref (s2.heap.objs.size + 1)] ws) _ _ E0 hr2
    (I3.env0.make C [] (ks.zip ws)) (hb.to _ [Value.ref (s2.heap.objs.size + 1)] ws I3.kIn rfl (rz.length.symm.trans l2)) (hb.rel r1 rz) hq) fun r s' hq' => ?_))
  cases r with
  | error e => exact (show False from hq').elim
  | ok fl => cases fl with
    | ret u =>
      obtain ⟨v, H', I4, rv, ev, q3⟩ := I3.after hq'
      subst ev
      exact ⟨rv, V.ref (s2.heap.objs.size + 1), H', I4, rfl, q3⟩
    | next => exact (show False from hq').elim
    | brk => exact (show False from hq').elim
    | cont => exact (show False from hq').elim
end
end My

namespace My
open PySem L2 PySem.Spec PyProof.Rows Sem
section
variable {X : Cx} {j k n : Nat} {C : Addr} {sp : Sp} {ps : List Str} {dvs : List V} {pins : List (Addr × Obj)} {σ : L2.St} {H : Hp} {s : Shared}
/-! ### bool(o), by o's own __bool__ -/
theorem plain_bool_new : plainId "bool.__new__" = true := by decide +kernel
theorem call_boolO (D : Mtn X.prog X.w X.K X.mg X.base C "__bool__" k ps dvs sp) (hr : RoomG (k + 2) X.A) :
    CallR X (.type "bool") (fun xs H Q => ∃ a dx fs, xs = [.ref a] ∧ H a = some (.ins C dx fs) ∧ sp (.ref a :: dvs) H (fun v H' => ∃ b, v = .bl b ∧ Q (.bl b) H') E0) := by
  obtain ⟨f, fd, ds, c, hm, F, hb, hd⟩ := D.ex
  intro pins s σ H xs us Q I r h
  obtain ⟨a, dx, fs, rfl, ea, q⟩ := h
  rw [Vals.ref1 r]
  obtain ⟨ox, od, J⟩ := insAt I ea
  obtain ⟨mf, fr⟩ := I.fr
  refine callType_codes (Q₁ := fun obj s1 => ∃ b, obj = .bool b ∧ EP X pins σ Q (.bool b) s1) PySem.F.called_bool (PySem.F.typeCall_bool_1 _) PySem.F.entry_object_init ?_ fun obj s1 h1 => ?_
  · refine codeAny_of_tree ?_
    show wpAny _ X.A.in1.in1 (do checkBuiltinCall "bool.__new__" ⟨[.type "bool", .ref a], []⟩; again (.builtin "bool.__new__" ⟨[.type "bool", .ref a], []⟩)) _ _ s
    refine wpAny_bind (wpAny_of_eq (PySem.F.newCall_bool_1 _) (wpAny_pure ⟨plainId_quiet plain_bool_new _, codeAny_builtin PySem.F.entry_bool_new ?_⟩))
    rw [Around.under_plainId plain_bool_new _]
    have f1 := PySem.F.conv_sub_bool
    have tr : ∀ (Q' : Bool → Shared → Prop), (∀ b s', EP X pins σ Q (.bool b) s' → Q' b s') → wpAny (model X.prog X.w) X.A.in1.in1 (truthy (.ref a)) Q' (fun e s' => X.xe e s') s := fun Q' hq =>
      PySem.W.truthy_K fr I.mod.kin J hm.at_ hm.fn (wpAny_mono (goIn (us := [.ref a]) (vs := [.ref a]) F hr.in1.in1 I.env0.in1.in1 hb hd I (.cons rfl .nil) q) (fun w s1 hw => by
        obtain ⟨t, H1, I1, rt, b, rfl, q1⟩ := hw
        obtain rfl : w = Value.bool b := rt
        exact hq b s1 ⟨.bl b, H1, I1, rfl, q1⟩) fun _ _ z => z)
    unfold Builtin.«bool.__new__»
    repeat (any_goals (first | assumption | with_reducible refine wpAny_bind (tr _ ?_) | wp_step))
    intro b s' hb'
    exact wpAny_pure ⟨b, rfl, hb'⟩
  · obtain ⟨b, rfl, q1⟩ := h1
    refine ⟨show Shared.TypeIs s1 (.bool b) "bool" from PySem.typeIs_bool _ _, PySem.F.args_object_init_2 _ _, ?_⟩
    have f2 := PySem.F.called_bool.init.lookup
    have f3 := PySem.F.called_bool.made
    have f4 := PySem.F.newNe_bool
    unfold Builtin.«object.__init__»
    repeat (any_goals (first | assumption | wp_step))
    all_goals exact ⟨rfl, q1⟩
end
end My

namespace My
open PySem L2 PySem.Spec PyProof.Rows PySem.W Builtin Builtin.ObjectAttr
/-! ### own exception objects as values -/
/-- what the written part says of an own exception class with an __init__, over a built-in base -/
structure OexG (K : Frag) (C : Addr) : Prop where
  base : ∃ (B newId initId : String) (bmB : List Value), ExcBaseFacts B newId initId bmB ∧ StoreFacts B bmB "object.__setattr__" "object" ∧ excInitIn K C bmB newId = true ∧ excOver K C bmB = true
  hd : hasDictIn K C = true
  sa : findIn K (.ref C) "__setattr__" = some (some (.builtin "object.__setattr__"))
  kp : keepIn K (.ref C) = true
section
variable {prog : Program} {w : World} {A : Around} {R : Result → Shared → Prop} {hp : Heap} {g : Array GenState} {d : Drawn} {t : Nat} {os : OsState} {K : Frag}
theorem osaNew {B : String} {bmB : List Value} {name : Str} {tk : Tok} {v : Value} {x C : Addr} {fv : Array Value} (SF : StoreFacts B bmB "object.__setattr__" "object") (X : K.In hp) (hx : hp.get? x = some { cls := .ref C, data := .fields fv }) (ov : excOver K C bmB = true) (hh : hasDictIn K C = true)
    (ha : NoAttr K C name)
    (hq : ∀ h' tk' dx, (∀ b o, b ≠ x → hp.get? b = some o → h'.get? b = some o) → hp.objs.size ≤ dx → dx ≠ x → h'.get? x = some { cls := .ref C, dict := some dx, data := .fields fv } → h'.Ns1 dx (fun y => if y = name then some v else none) → R (.ok (.ret .none)) ⟨h', g, d, tk', os⟩) :
    codeAny (model prog w) A (.call (.builtin "object.__setattr__") ⟨[.ref x, .str name tk, v], []⟩) R ⟨hp, g, d, t, os⟩ := by
  have I : InstAt hp x { cls := .ref C, data := .fields fv } C none := ⟨hx, rfl, rfl, trivial⟩
  obtain ⟨cd, hc, hdct⟩ := any_some hh
  have hxs : x ≠ hp.objs.size := Nat.ne_of_lt (Heap.lt_size hx)
  have Lc : Looks (model prog w) hp (classData C) cd := looks_clsIn X hc
  refine osa_openX SF X I ov ha.taker fun b => ?_
  show wpAny _ _ (storeInOwnDict (.ref x) (.ref C) (.str name tk) name v b) _ _ _
  obtain ⟨nm, bs, mro, ns, qn, hd, sn, sb, ab, col, del⟩ := cd
  dsimp only at hdct
  subst hdct
  unfold storeInOwnDict ownDictForStores
  repeat (first | with_reducible refine HandSPX.store_in_new ?_ ?_ | with_reducible refine wpAny_loadPart_at hx ?_ | with_reducible refine Lc.at ?_ | wp_step)
  · exact ⟨_, #[], _, (Heap.get?_update_ne _ _ _ _ hxs.symm).trans (Heap.get?_push_at rfl rfl), rfl, fun e he => absurd he (by simp), fun _ => rfl⟩
  · intro h' tk' hn' hs
    have hx1 : (hp.push { cls := .type "dict", data := .dict #[] }).get? x = some { cls := .ref C, data := .fields fv } := Heap.get?_push_of_some _ hx
    refine hq h' tk' hp.objs.size (fun b o nb ho => ?_) (Nat.le_refl _) hxs.symm ((hs.2 x hxs).trans (Heap.get?_update_self _ hx1 rfl)) hn'
    have nb2 : b ≠ hp.objs.size := Nat.ne_of_lt (Heap.lt_size ho)
    exact (hs.2 b nb2).trans ((Heap.get?_update_ne _ _ _ _ nb).trans (Heap.get?_push_of_some _ ho))
theorem osaOld {B : String} {bmB : List Value} {name : Str} {tk : Tok} {v : Value} {x C dx : Addr} {fv : Array Value} {m0 : Str → Option Value} {nl : List Str} (SF : StoreFacts B bmB "object.__setattr__" "object") (X : K.In hp) (hx : hp.get? x = some { cls := .ref C, dict := some dx, data := .fields fv })
    (hns : hp.Ns1 dx m0) (hw : Within m0 nl) (hz : nl.length ≤ 1000) (ov : excOver K C bmB = true) (hh : hasDictIn K C = true) (ha : NoAttr K C name)
    (hq : ∀ h' tk', (∀ b o, b ≠ dx → hp.get? b = some o → h'.get? b = some o) → h'.Ns1 dx (fun y => if y = name then some v else m0 y) → R (.ok (.ret .none)) ⟨h', g, d, tk', os⟩) :
    codeAny (model prog w) A (.call (.builtin "object.__setattr__") ⟨[.ref x, .str name tk, v], []⟩) R ⟨hp, g, d, t, os⟩ := by
  obtain ⟨oD, esD, epD, hoD, hdD, _⟩ := hns.count hw
  have I : InstAt hp x { cls := .ref C, dict := some dx, data := .fields fv } C (some oD) := ⟨hx, rfl, rfl, hoD⟩
  obtain ⟨cd, hc, hdct⟩ := any_some hh
  have Lc : Looks (model prog w) hp (classData C) cd := looks_clsIn X hc
  refine osa_openX SF X I ov ha.taker fun b => ?_
  show wpAny _ _ (storeInOwnDict (.ref x) (.ref C) (.str name tk) name v b) _ _ _
  obtain ⟨nm, bs, mro, ns, qn, hd, sn, sb, ab, col, del⟩ := cd
  dsimp only at hdct
  subst hdct
  unfold storeInOwnDict ownDictForStores
  repeat (first | with_reducible refine OEX.store_in_old hns hw hz ?_ | with_reducible refine wpAny_loadPart_at hx ?_ | with_reducible refine Lc.at ?_ | wp_step)
  intro h' tk' hn' hs
  exact hq h' tk' (fun b o nb ho => (hs.2 b nb).trans ho) hn'
end
section
variable {X : Cx} {pins : List (Addr × Obj)} {σ : L2.St} {H : Hp} {s : Shared} {a C dx : Addr} {f : Str} {y : V} {u : Value} {fs : List (Str × V)} {Q : Unit → Shared → Prop} {E : Value → Shared → Prop} {A : Around}
/-- a.f = y, the first field -/
theorem ostNew (T : OexG X.K C) (I : Inv X pins σ H s) (e : H a = some (exo a C none)) (hno : NoAttr X.K C f) (ry : L2.RelV y u)
    (h : ∀ dx s', H dx = none → dx ≠ a → Inv X pins σ (L2.upd (L2.upd H dx (exd dx [(f, y)])) a (exo a C (some dx))) s' → Q () s') : wpAny (model X.prog X.w) A (setAttr (.ref a) f u) Q E s := by
  obtain ⟨B, ni, ii, bmB, FB, SF, ini, ov⟩ := T.base
  obtain ⟨t1, ho⟩ := exo_at I.hok e
  obtain ⟨hp, g, d, t, os⟩ := s
  refine set_plain I.kIn (ox := { cls := .ref C, dict := none, data := .fields #[.ref t1, .none, .none, .none, .bool false, .none] }) (od := none) ⟨ho, rfl, rfl, trivial⟩ T.sa ?_
  refine osaNew SF I.kIn ho ov T.hd hno fun h' tk' dx k dn dne hx hn => ?_
  have hnd : H dx = none := I.hok.fresh dn
  have nd : ∀ {b : Addr} {o : Obj}, hp.get? b = some o → b ≠ dx := fun {b o} q => Nat.ne_of_lt (Nat.lt_of_lt_of_le (Heap.lt_size q) dn)
  have na : ∀ {b : Addr}, H b = none → b ≠ a := fun {b} n z => by
    rw [z, e] at n
    cases n
  have U : Un X.fs [] H (L2.upd (L2.upd H dx (exd dx [(f, y)])) a (exo a C (some dx))) hp h' := by
    constructor
    · intro b o q n _ _
      exact k b o (na n) q
    · intro b o q n _ _
      exact ⟨o.slots, k b o (na n) q⟩
    · intro b o q n _
      rw [upd_ne (na n), upd_ne (nd q)]
      exact n
    · intro b o q _
      by_cases hb : b = a
      · exact ⟨_, by rw [hb]; exact hx⟩
      · exact ⟨o, k b o hb q⟩
    · intro b xs q
      rw [upd_ne (at_ne e q exo_tup), upd_ne (ne_of_none q hnd)]
      exact q
    · intro b o v q
      rw [upd_ne (at_ne e q exo_frz), upd_ne (ne_of_none q hnd)]
      exact q
    · intro b ps q
      exact ⟨#[], by rw [upd_ne (at_ne e q exo_tbl), upd_ne (ne_of_none q hnd), q]; simp⟩
  refine h dx _ hnd dne (I.un (t' := tk') U fun b o q => ?_)
  by_cases hb : b = a
  · subst hb
    rw [upd_same] at q
    cases q
    exact exo_ok hx
  rw [upd_ne hb] at q
  by_cases hd : b = dx
  · subst hd
    rw [upd_same] at q
    cases q
    exact exd_ok hn (relO_put (fs := []) ry fun g => True.intro)
  rw [upd_ne hd] at q
  refine (I.hok b o q).stay (fun c v hc z => k c v ?_ z) (fun c hc => ?_) fun c xs hc => ?_
  · rcases hc with hc | hc
    · rw [hc]
      exact hb
    · exact at_ne e hc exo_own
  · rw [upd_ne (at_ne e hc exo_own), upd_ne (ne_of_none hc hnd)]
    exact hc
  · rw [upd_ne (at_ne e hc exo_tup), upd_ne (ne_of_none hc hnd)]
    exact hc
/-- a.f = y, a further field -/
theorem ostOld (T : OexG X.K C) (I : Inv X pins σ H s) (e : H a = some (exo a C (some dx))) (ed : H dx = some (exd dx fs)) (hl : fs.length ≤ 900) (hno : NoAttr X.K C f) (ry : L2.RelV y u)
    (h : ∀ s', Inv X pins σ (L2.upd H dx (exd dx ((f, y) :: fs))) s' → Q () s') : wpAny (model X.prog X.w) A (setAttr (.ref a) f u) Q E s := by
  obtain ⟨B, ni, ii, bmB, FB, SF, ini, ov⟩ := T.base
  obtain ⟨t1, ho⟩ := exo_at I.hok e
  obtain ⟨mA, hns, rel⟩ := exd_at I.hok ed
  have hw := within_of rel
  obtain ⟨hp, g, d, t, os⟩ := s
  obtain ⟨oD, _, _, hoD, _, _⟩ := hns.count hw
  refine set_plain I.kIn (ox := { cls := .ref C, dict := some dx, data := .fields #[.ref t1, .none, .none, .none, .bool false, .none] }) (od := some oD) ⟨ho, rfl, rfl, hoD⟩ T.sa ?_
  refine osaOld SF I.kIn ho hns hw (by rw [List.length_map]; omega) ov T.hd hno fun h' tk' k hn => ?_
  have hd : ∃ o, h'.get? dx = some o := by
    obtain ⟨o, _, _, e', _⟩ := hn
    exact ⟨o, e'⟩
  exact h _ (I.write (t' := tk') (x := dx) (e := dx) (o := exd dx ((f, y) :: fs)) (by rw [ed]; exact True.intro) (.inl rfl) k hd (exd_ok hn (relO_put ry rel)))
end
section
variable {X : Cx} {o e : Expr} {es : List Expr} {to te : TE} {ta tk : TA} {f m : Str} {p p' pos : Pos} {pins : List (Addr × Obj)} {σ : L2.St} {H : Hp} {s : Shared}
/-- self.f = e of an exception that is being made -/
def tOstG (K : Frag) (f : Str) (to te : TE) : TS := fun D σ H => te σ H fun y H1 => to σ H1 fun x H2 => ∃ a C : Addr, x = .ref a ∧ OexG K C ∧ NoAttr K C f ∧
  ((H2 a = some (exo a C none) ∧ ∀ dx, H2 dx = none → dx ≠ a → D.nx σ (L2.upd (L2.upd H2 dx (exd dx [(f, y)])) a (exo a C (some dx)))) ∨
    ∃ (dx : Addr) (fs : List (Str × V)), H2 a = some (exo a C (some dx)) ∧ H2 dx = some (exd dx fs) ∧ fs.length ≤ 900 ∧ D.nx σ (L2.upd H2 dx (exd dx ((f, y) :: fs))))
theorem ps_ostG (ho : PE X o to) (he : PE X e te) (hs : swapsWith e (some (.Attribute o f p')) pos.line X.env = pure false := by rfl) : PS X (.Assign [.Attribute o f p'] e pos) (tOstG X.K f to te) := by
  constructor
  intro pins s σ H D I h
  refine plainObj_wpAny_Assign_Attribute (thn (he.run pins s σ H _ I h) fun v s1 z1 => ?_) hs
  obtain ⟨y, H1, I1, r1, q1⟩ := z1
  refine thn (ho.run pins s1 σ H1 _ I1 q1) fun u s2 z2 => ?_
  obtain ⟨x, H2, I2, r2, a, C, ex, T, hno, q⟩ := z2
  subst ex
  cases (show u = Value.ref a from r2)
  rcases q with ⟨ea, q⟩ | ⟨dx, fs, ea, ed, hl, q⟩
  · exact ostNew T I2 ea hno r1 fun dx s' n ne J => ⟨σ, _, J, q dx n ne⟩
  · exact ostOld T I2 ea ed hl hno r1 fun s' J => ⟨σ, _, J, q⟩
end
/-- an own exception class by its name, with its __init__ -/
structure Exn (P : Program) (w : World) (K : Frag) (mg : Str → Option Value) (base : Heap) (x : Str) (C : Addr) (k : Nat) (ps : List Str) (sp : Sp) : Prop where
  ex : ∃ (f : Addr) (fd : FuncData), OexG K C ∧ findIn K (.ref C) "__init__" = some (some (.ref f)) ∧ isFn K (.ref f) = true ∧ FnG P w K mg base CX0 k f fd ps sp ∧ mg x = some (.ref C) ∧ Binds K fd ps []
/-- C(e, ..): the exception object, then its __init__ -/
def tMkE (C : Addr) (sp : Sp) (ta : TA) : TE := fun σ H Q => ta σ H fun vs H1 => vs.length ≤ 1000 ∧ ∀ a, H1 a = none → sp (.ref a :: vs) (L2.upd H1 a (exo a C none)) (fun v H2 => v = .non ∧ Q (.ref a) H2) E0
section
variable {X : Cx} {k : Nat} {C : Addr} {x : Str} {ps : List Str} {sp : Sp} {e : Expr} {es : List Expr} {ta : TA} {p pos : Pos}
theorem pe_mkE (D : Exn X.prog X.w X.K X.mg X.base x C k ps sp) (hr : RoomG (k + 1) X.A) (hg : Gl X x) (ha : PA X (e :: es) ta)
    (h1 : (x == ("__debug__" : Str)) = false := by decide) (h2 : starEach (e :: es) X.env = (false, eval e X.env) :: starEach es X.env := by rfl) (h3 : (backTo pos (starEach es X.env)).any (fun q => q.1) = false := by rfl) :
    PE X (.Call (.Name x p) (e :: es) [] pos) (tMkE C sp ta) := by
  obtain ⟨f, fd, T, iC, fC, F, hm, hb⟩ := D.ex
  obtain ⟨B, ni, ii, bmB, FB, SF, ini, ov⟩ := T.base
  constructor
  intro pins s σ H Q I h
  refine wpAny_Call_Name_kw (ld_glob I hg hm ?_ h1)
  refine callWith_K (h₀ := X.base) I.ok.mod.kin T.kp (thn (ha.run pos pins s σ H _ I h) fun us s1 z => ?_) h2 h3
  obtain ⟨vs, H1, I1, r1, hz, q1⟩ := z
  refine ⟨I1.kIn, ?_⟩
  show wpAny _ _ (call (.ref C) us) _ _ _
  obtain ⟨hp, g, dr, tk, os⟩ := s1
  obtain ⟨nm, N, qn, bs, bm, hdct, sn, sub, ab, col, dd, k0, k1, k2, k3, k5, hC, hT⟩ := excInit_of I1.kIn ini
  have hsz : hp.objs.size ≤ hp.objs.size + 1 := Nat.le_succ _
  have hn : H1 (hp.objs.size + 1) = none := I1.hok.fresh hsz
  have hq := q1 (hp.objs.size + 1) hn
  have kk : ∀ b o, hp.get? b = some o → ((hp.push (kdv_tup us)).push (HandSPX.excO C hp.objs.size)).get? b = some o := fun b o z => Heap.get?_push_of_some _ (Heap.get?_push_of_some _ z)
  have hget : ((hp.push (kdv_tup us)).push (HandSPX.excO C hp.objs.size)).get? (hp.objs.size + 1) = some (HandSPX.excO C hp.objs.size) := by heap_get
  have I2 : Inv X pins σ (L2.upd H1 (hp.objs.size + 1) (exo (hp.objs.size + 1) C none)) ⟨(hp.push (kdv_tup us)).push (HandSPX.excO C hp.objs.size), g, dr, tk, os⟩ := I1.laid (t' := tk) kk hsz (exo_ok hget)
  have r2 : Vals (V.ref (hp.objs.size + 1) :: vs) (Value.ref (hp.objs.size + 1) :: us) := .cons rfl r1
  have hl : (Value.ref (hp.objs.size + 1) :: us ++ []).length = ps.length := by
    have z := r2.length
    rw [F.len _ _ _ _ hq] at z
    rw [List.append_nil]
    exact z.symm
  have hus : us.length ≤ sizeLine := by
    rw [← r1.length, sizeLine_eq]
    omega
  have bd := hb _ (Value.ref (hp.objs.size + 1) :: us) I2.kIn hl
  rw [List.append_nil] at bd
  have hr2 : RoomG k (X.A.under (.builtin "type.__call__" ⟨.ref C :: us, []⟩)) := ⟨hr.r.make C us [], hr.g⟩
  refine wpAny_call (HandSPX.call_own FB hT hC (looks_findIn I1.kIn iC) (fun self => bind_fn I1.kIn self (beq_iff_eq.mp fC)) hus
    (codeAny_mono (F.go _ X.stack _ _ ⟨Value.ref (hp.objs.size + 1) :: us, []⟩ _ _ _ E0 hr2 (I2.env0.make C us []) bd r2 hq) fun r s' hq' => ?_))
  cases r with
  | error er => exact (show False from hq').elim
  | ok fl => cases fl with
    | ret u =>
      obtain ⟨v, H', I3, rv, ev, q3⟩ := I2.after hq'
      subst ev
      exact ⟨rv, V.ref (hp.objs.size + 1), H', I3, rfl, q3⟩
    | next => exact (show False from hq').elim
    | brk => exact (show False from hq').elim
    | cont => exact (show False from hq').elim
end
end My

namespace My
open PySem L2 PySem.Spec PyProof.Rows PySem.W Builtin Builtin.ObjectAttr
/-! ### an exception class called with keywords alone -/
section
variable {M : Model} {A : Around} {E : Value → Shared → Prop} {h : Heap} {g : Array GenState} {d : Drawn} {t : Nat} {os : OsState}
variable {nm q : Str} {C N : Addr} {bs bm bmB : List Value} {hdct : Bool} {sn : List Str} {sub : List Value} {ab : Bool} {col : Option Bool} {dd : Option Addr} {k0 k1 k2 k3 k5 : Option Value} {B newId initId : String} {kw : List (Str × Value)}
theorem kwCheck (FB : ExcBaseFacts B newId initId bmB) (hT : ∀ X : String, bm.contains (.type X) = bmB.contains (.type X)) {Q : Unit → Shared → Prop}
    (hC : h.get? C = some (excClassObj nm q C N bs bm hdct sn sub ab col dd k0 k1 k2 k3 k5 newId)) (hq : Q () ⟨h, g, d, t, os⟩) : wpAny M A (checkBuiltinCall newId ⟨[.ref C], kw⟩) Q E ⟨h, g, d, t, os⟩ := by
  have hB : (Value.ref C :: bm).contains (.type B) = true := by
    rw [List.contains_cons, hT, FB.hasB, Bool.or_true]
  have st := FB.noStar
  simp only [checkBuiltinCall, FB.newKind, FB.newSplit, FB.newRow]
  repeat (first | refine wpAny_loadPart_at hC ?_ | (refine wpAny_isSubtype_exc hC ?_; rw [hB]) | refine wpAny_staticBase_exc hC ?_ | refine wpAny_madeBy_exc hC ?_ | simp only [bne_self_eq_false, Bool.false_eq_true, if_false] | wp_step)
  exact hq
end
section
variable {prog : Program} {w : World} {A : Around} {E : Value → Shared → Prop} {R : Result → Shared → Prop} {h : Heap} {g : Array GenState} {d : Drawn} {t : Nat} {os : OsState}
variable {nm q : Str} {C N : Addr} {bs bm bmB : List Value} {hdct : Bool} {sn : List Str} {sub : List Value} {ab : Bool} {col : Option Bool} {dd : Option Addr} {k0 k1 k2 k3 k5 : Option Value} {B newId initId : String} {kw : List (Str × Value)}
theorem kwNew (FB : ExcBaseFacts B newId initId bmB) (hT : ∀ X : String, bm.contains (.type X) = bmB.contains (.type X)) (hC : h.get? C = some (excClassObj nm q C N bs bm hdct sn sub ab col dd k0 k1 k2 k3 k5 newId))
    (hq : R (.ok (.ret (.ref (h.objs.size + 1)))) ⟨(h.push (kdv_tup [])).push (HandSPX.excO C h.objs.size), g, d, t, os⟩) :
    codeAny (model prog w) A (.builtin newId ⟨[.ref C], kw⟩) R ⟨h, g, d, t, os⟩ := by
  have en := FB.ends
  have hB : (Value.ref C :: bm).contains (.type B) = true := by
    rw [List.contains_cons, hT, FB.hasB, Bool.or_true]
  have hA : (Value.ref C :: bm).contains (.type "AttributeError") = false := by
    rw [List.contains_cons, hT, FB.noAttr]
    rfl
  have hN : (Value.ref C :: bm).contains (.type "NameError") = false := by
    rw [List.contains_cons, hT, FB.noName]
    rfl
  refine codeAny_builtinAt FB.entry ?_
  unfold Builtin.«BaseException.__new__»
  refine PySem.wpAt_bind ?_
  show PySem.wpAt _ _ _ (stack >>= _) _ _ _
  refine PySem.wpAt_bind (PySem.wpAt_stack fun p below => PySem.wpAt_of_wpAny ?_)
  wp_walk
  refine PySem.wpAt_of_wpAny ?_
  rw [FB.owner]
  repeat (first | with_reducible refine wpAny_madeHere_exc FB.canon hC ?_ | with_reducible refine wpAny_loadPart_at hC ?_ | (with_reducible refine wpAny_isSubtype_exc hC ?_; first | rw [hB] | rw [hA] | rw [hN]) | wp_step)
  show R _ _
  rw [Heap.size_push]
  exact hq
theorem kwType (FB : ExcBaseFacts B newId initId bmB) (hT : ∀ X : String, bm.contains (.type X) = bmB.contains (.type X)) {fI : Addr} {Q : PySem.Fin → Shared → Prop}
    (hC : h.get? C = some (excClassObj nm q C N bs bm hdct sn sub ab col dd k0 k1 k2 k3 k5 newId)) (hi : Looks (model prog w) h (typeLookup (.ref C) "__init__") (some (.ref fI))) (hb : ∀ self, Looks (model prog w) h (bindSpecial (.ref fI) self) (.ref fI, [self]))
    (hq : codeAny (model prog w) A (.call (.ref fI) ⟨[.ref (h.objs.size + 1)], kw⟩) (fun r s' => match r with | .ok (.ret v) => v = .none ∧ Q (.done (.ret (.ref (h.objs.size + 1)))) s' | .ok _ => False | .error e => E e s')
      ⟨(h.push (kdv_tup [])).push (HandSPX.excO C h.objs.size), g, d, t, os⟩) :
    wpAny (model prog w) A (Builtin.«type.__call__» ⟨[.ref C], kw⟩) Q E ⟨h, g, d, t, os⟩ := by
  repeat (first | with_reducible refine wpAny_loadPart_at hC ?_ | with_reducible refine wpAny_madeBy_exc hC ?_ | wp_step)
  refine codeAny_call_builtin_code (Code.quiet_builtin _ FB.quiet) (kwCheck FB hT hC ?_)
  refine kwNew FB hT hC ?_
  show wpAny _ _ _ _ _ _
  have k : ∀ b o, h.get? b = some o → ((h.push (kdv_tup [])).push (HandSPX.excO C h.objs.size)).get? b = some o := fun b o z => Heap.get?_push_of_some _ (Heap.get?_push_of_some _ z)
  have hC1 := k _ _ hC
  have hget : ((h.push (kdv_tup [])).push (HandSPX.excO C h.objs.size)).get? (h.objs.size + 1) = some (HandSPX.excO C h.objs.size) := by heap_get
  have hcC : (Value.ref C :: bm).contains (.ref C) = true := by simp
  have i1 := hi.keeps k
  have b1 := (hb (.ref (h.objs.size + 1))).keeps k
  unfold isInstance
  repeat (first | with_reducible refine wpAny_loadPart_at hget ?_ | (with_reducible refine wpAny_isSubtype_exc hC1 ?_; rw [hcC]) | wp_step)
  show wpAny _ _ (typeLookup (.ref C) _) _ _ _
  refine i1.at (wpAny_holding (wpAny_bind (b1.at ?_)))
  refine wpAny_bind (wpAny_call (codeAny_mono hq fun r s' z => ?_))
  rcases r with e | (v | _ | _ | _) <;> first | exact z | exact z.elim | skip
  obtain ⟨rfl, z⟩ := z
  first
    | exact wpAny_pure (wpAny_pure z)
    | (wp_walk; exact z)
theorem kwTop {Q : Unit → Shared → Prop} (hC : h.get? C = some (excClassObj nm q C N bs bm hdct sn sub ab col dd k0 k1 k2 k3 k5 newId)) (hq : Q () ⟨h, g, d, t, os⟩) : wpAny (model prog w) A (checkBuiltinCall "type.__call__" ⟨[.ref C], kw⟩) Q E ⟨h, g, d, t, os⟩ := by
  have f3 := tc_sub
  have hTy : (⟨h, g, d, t, os⟩ : Shared).TypeIs (.ref C) "type" := ⟨_, hC, rfl⟩
  simp only [checkBuiltinCall, tc_kind, tc_split]
  repeat (any_goals (first | assumption | with_reducible refine wpAny_loadPart_at hC ?_ | with_reducible refine wpAny_onRaise ?_ | with_reducible refine wpAny_map ?_ | wp_step))
theorem kwCall (FB : ExcBaseFacts B newId initId bmB) (hT : ∀ X : String, bm.contains (.type X) = bmB.contains (.type X)) {fI : Addr}
    (hC : h.get? C = some (excClassObj nm q C N bs bm hdct sn sub ab col dd k0 k1 k2 k3 k5 newId)) (hi : Looks (model prog w) h (typeLookup (.ref C) "__init__") (some (.ref fI))) (hb : ∀ self, Looks (model prog w) h (bindSpecial (.ref fI) self) (.ref fI, [self]))
    (hq : codeAny (model prog w) (A.under (.builtin "type.__call__" ⟨[.ref C], kw⟩)) (.call (.ref fI) ⟨[.ref (h.objs.size + 1)], kw⟩) (InitBack (h.objs.size + 1) R) ⟨(h.push (kdv_tup [])).push (HandSPX.excO C h.objs.size), g, d, t, os⟩) :
    codeAny (model prog w) A (.call (.ref C) ⟨[], kw⟩) R ⟨h, g, d, t, os⟩ := by
  have f1 := tc_lookup
  have f2 := tc_bind (.ref C)
  have hTy : (⟨h, g, d, t, os⟩ : Shared).TypeIs (.ref C) "type" := ⟨_, hC, rfl⟩
  refine codeAny_of_tree ?_
  show wpAny _ _ (callAny (.ref C) _) _ _ _
  repeat (any_goals (first | assumption | with_reducible refine wpAny_loadPart_at hC ?_ | wp_step))
  refine ⟨rfl, codeAny_call_builtin_at (Code.quiet_builtin _ (by decide +kernel)) entry_typeCall (kwTop hC (kwType FB hT hC hi hb ?_))⟩
  refine codeAny_mono hq fun r s' z => ?_
  rcases r with e | (v | _ | _ | _) <;> exact z
end
end My

namespace My
open PySem L2 PySem.Spec PyProof.Rows PySem.W Builtin Builtin.ObjectAttr
/-! ### C(k = v, ..) of an exception class -/
structure Exk (P : Program) (w : World) (K : Frag) (mg : Str → Option Value) (base : Heap) (x : Str) (C : Addr) (k : Nat) (ks : List Str) (gV : List V → List V → List V) (sp : Sp) : Prop where
  ex : ∃ (f : Addr) (fd : FuncData) (ps : List Str) (g : List Value → List Value → List Value), OexG K C ∧ findIn K (.ref C) "__init__" = some (some (.ref f)) ∧ isFn K (.ref f) = true ∧ FnG P w K mg base CX0 k f fd ps sp ∧ mg x = some (.ref C) ∧ KBn K fd ps 1 ks g gV
def tMkEK (C : Addr) (l : Nat) (sp : Sp) (gV : List V → List V → List V) (tk : TA) : TE := fun σ H Q => tk σ H fun zs H1 => zs.length = l ∧ ∀ a, H1 a = none → sp (gV [.ref a] zs) (L2.upd H1 a (exo a C none)) (fun v H2 => v = .non ∧ Q (.ref a) H2) E0
section
variable {X : Cx} {k : Nat} {C : Addr} {x : Str} {ks : List Str} {gV : List V → List V → List V} {sp : Sp} {kws : List Keyword} {tk : TA} {p pos : Pos}
theorem pe_mkEK (D : Exk X.prog X.w X.K X.mg X.base x C k ks gV sp) (hr : RoomG (k + 1) X.A) (hg : Gl X x) (hkw : PK X kws tk)
    (h1 : (backToKw pos (keywordEach kws X.env)).all (fun q => q.1.isSome) = true := by rfl)
    (h2 : (backToKw pos (keywordEach kws X.env)).filterMap (fun q => q.1) = ks := by rfl)
    (h3 : ((backTo pos (starEach [] X.env)).any (fun q => q.1) || (backToKw pos (keywordEach kws X.env)).any (fun q => q.1.isNone)) = false := by rfl) (h4 : (x == ("__debug__" : Str)) = false := by decide) :
    PE X (.Call (.Name x p) [] kws pos) (tMkEK C ks.length sp gV tk) := by
  obtain ⟨f, fd, ps, gg, T, iC, fC, F, hm, hb⟩ := D.ex
  obtain ⟨B, ni, ii, bmB, FB, SF, ini, ov⟩ := T.base
  constructor
  intro pins s σ H Q I h
  refine wpAny_Call_Name_kw (ld_glob I hg hm ?_ h4)
  have kin := I.ok.mod.kin
  refine callWith_KW0 (first := []) kin T.kp h1 ?_ h3
  refine thn (hkw.run pos pins s σ H _ I h) fun ws s1 z => ?_
  obtain ⟨zs, H1, I1, rz, l2, q1⟩ := z
  refine ⟨I1.kIn, ?_⟩
  rw [h2]
  obtain ⟨hp, g, dr, tt, os⟩ := s1
  obtain ⟨nm, N, qn, bs, bm, hdct, sn, sub, ab, col, dd, k0, k1, k2, k3, k5, hC, hT⟩ := excInit_of I1.kIn ini
  have hsz : hp.objs.size ≤ hp.objs.size + 1 := Nat.le_succ _
  have hn : H1 (hp.objs.size + 1) = none := I1.hok.fresh hsz
  have hq := q1 (hp.objs.size + 1) hn
  have kk : ∀ b o, hp.get? b = some o → ((hp.push (kdv_tup [])).push (HandSPX.excO C hp.objs.size)).get? b = some o := fun b o z => Heap.get?_push_of_some _ (Heap.get?_push_of_some _ z)
  have hget : ((hp.push (kdv_tup [])).push (HandSPX.excO C hp.objs.size)).get? (hp.objs.size + 1) = some (HandSPX.excO C hp.objs.size) := by heap_get
  have I2 : Inv X pins σ (L2.upd H1 (hp.objs.size + 1) (exo (hp.objs.size + 1) C none)) ⟨(hp.push (kdv_tup [])).push (HandSPX.excO C hp.objs.size), g, dr, tt, os⟩ := I1.laid (t' := tt) kk hsz (exo_ok hget)
  have r1 : Vals [V.ref (hp.objs.size + 1)] [Value.ref (hp.objs.size + 1)] := .cons rfl .nil
  have hr2 : RoomG k (X.A.under (.builtin "type.__call__" ⟨[.ref C], ks.zip ws⟩)) := ⟨hr.r.make C [] (ks.zip ws), hr.g⟩
  refine wpAny_call (kwCall FB hT hC (looks_findIn I1.kIn iC) (fun self => bind_fn I1.kIn self (beq_iff_eq.mp fC))
    (codeAny_mono (F.go _ X.stack _ _ ⟨[Value.ref (hp.objs.size + 1)], ks.zip ws⟩ (gg [Value.ref (hp.objs.size + 1)] ws) _ _ E0 hr2 (I2.env0.make C [] (ks.zip ws)) (hb.to _ [Value.ref (hp.objs.size + 1)] ws I2.kIn rfl (rz.length.symm.trans l2)) (hb.rel r1 rz) hq) fun r s' hq' => ?_))
  cases r with
  | error er => exact (show False from hq').elim
  | ok fl => cases fl with
    | ret u =>
      obtain ⟨v, H', I3, rv, ev, q3⟩ := I2.after hq'
      subst ev
      exact ⟨rv, V.ref (hp.objs.size + 1), H', I3, rfl, q3⟩
    | next => exact (show False from hq').elim
    | brk => exact (show False from hq').elim
    | cont => exact (show False from hq').elim
/-- C() of an exception class without an __init__ of its own -/
theorem pe_mkE0 {bmB : List Value} {B newId initId : String} (FB : ExcBaseFacts B newId initId bmB) (q : excIn X.K C bmB newId = true) (gC : X.mg x = some (.ref C)) (kC : keepIn X.K (.ref C) = true) (hg : Gl X x) (h4 : (x == ("__debug__" : Str)) = false := by decide) :
    PE X (.Call (.Name x p) [] [] pos) (fun _ H Q => ∀ a, H a = none → Q (.ref a) (L2.upd H a (exo a C none))) := by
  constructor
  intro pins s σ H Q I h
  refine wpAny_Call_Name_kw (ld_glob I hg gC (callWith_K0 I.kIn kC ?_) h4)
  show wpAny _ _ (call (.ref C) []) _ _ _
  obtain ⟨bm, N, nm, qn, bs, hdct, sn, sub, ab, col, dd, k0, k1, k2, k3, k5, mN, hC, hN, hni, T⟩ := exc_obj I.kIn q
  refine wpAny_call_exc_subT FB T hC hN hni (fun h' a hm => ?_) (by rw [sizeLine_eq]; exact Nat.zero_le _)
  have hn : H a = none := I.hok.gone hm.new
  obtain ⟨t, ht, _, _⟩ := hm.there
  exact ⟨.ref a, L2.upd H a (exo a C none), I.laidN hm.keeps hm.new hn (exo_ok ht), rfl, h a hn⟩
end
/-! ### its fields -/
/-- o.f, o an exception object with a dict -/
def tXfO (K : Frag) (f : Str) (te : TE) : TE := fun σ H Q => te σ H fun x H1 => ∃ (a C dd : Addr) (fs : List (Str × V)) (v : V), x = .ref a ∧ XfC K C ∧ NoAttr K C f ∧ H1 a = some (exo a C (some dd)) ∧ H1 dd = some (exd dd fs) ∧ fs.lookup f = some v ∧ Q v H1
theorem pe_xfO {X : Cx} {e : Expr} {te : TE} {pos : Pos} {f : Str} (he : PE X e te) (hb : attributeBase e f X.env (eval e X.env) = eval e X.env := by rfl) : PE X (.Attribute e f pos) (tXfO X.K f te) := by
  constructor
  intro pins s σ H Q I h
  refine attr_of hb (thn (he.run pins s σ H _ I h) fun u s1 z => ?_)
  obtain ⟨x, H1, I1, rx, a, C, dd, fs, v, rfl, T, hno, ea, ed, l, q⟩ := z
  cases (show u = Value.ref a from rx)
  obtain ⟨t1, ho⟩ := exo_at I1.hok ea
  obtain ⟨mA, hns1, rel⟩ := exd_at I1.hok ed
  obtain ⟨od, hod, hl⟩ := lookIn_ns hns1
  obtain ⟨u, hu, ru⟩ := RelO.some_of (v := v) (o := mA f) (by rw [← l]; exact rel f)
  have J : InstAt s1.heap a { cls := .ref C, dict := some dd, data := .fields #[.ref t1, .none, .none, .none, .bool false, .none] } C (some od) := ⟨ho, rfl, rfl, hod⟩
  exact HandSPX.exc_get I1.kIn J T.ga T.gg T.exC (findObj_own T.hdC hno rfl (by rw [hl, hu])) (handed_of ru) ⟨v, H1, I1.tok _, ru, q⟩
/-! ### isinstance of an exception object -/
section
variable {prog : Program} {w : World} {A : Around} {E : Value → Shared → Prop} {s : Shared} {K : Frag} {x D : Addr} {ox : Obj} {od : Option Obj}
theorem exClass {Q : Option Value → Shared → Prop} (T : ExcC K D) (X : K.In s.heap) (I : InstAt s.heap x ox D od) (h : Q (some (.ref D)) { s with toks := s.toks + 1 }) : wpAny (model prog w) A (getAttr? (.ref x) "__class__") Q E s := by
  have hf : findObj K D od "__class__" = some (.bind (.builtin "getset_descriptor.__get__") (.builtin "object.__class__")) := by
    have hc : (clsIn K D).isSome = true := by
      obtain ⟨cd, hc, _⟩ := any_some T.hd
      rw [hc]
      rfl
    cases od with
    | none => exact findObj_dataN hc T.ha T.hn T.ht
    | some od => exact findObj_data hc T.ha T.hn T.ht
  obtain ⟨hp, g, d, t, os⟩ := s
  have l0 := I.type (M := model prog w)
  have l1 := looks_findIn (M := model prog w) X T.hg
  have l2 := looks_findIn (M := model prog w) X T.hk
  have l3 := looks_find (M := model prog w) X I hf
  have sub : Looks (model prog w) hp (isInstance (.ref x) (.type "BaseException")) true := l0.andThen (looks_subIn X T.hs)
  have b2 : (Value.builtin "BaseException.__getattribute__" == Value.builtin "object.__getattribute__") = false := by decide +kernel
  have b1 : (onTheHeap (Value.ref D) && Value.builtin "BaseException.__getattribute__" == Value.builtin "object.__getattribute__") = false := by
    rw [b2]
    rfl
  have b0 : (false && onTheHeap (Value.builtin "BaseException.__getattribute__")) = false := rfl
  unfold getAttr? getAttrBy? getAttrBy
  refine wpAny_bind (wpAny_mkText (wpAny_bind (wpAny_attempt (wpAny_holding (wpAny_bind (l0.at (wpAny_bind (l1.at ?_))))))))
  show wpAny _ _ (if (onTheHeap (Value.ref D) && Value.builtin "BaseException.__getattribute__" == Value.builtin "object.__getattribute__") = true then _ else _) _ _ _
  rw [b1, if_neg Bool.false_ne_true]
  unfold getAttrByItsOwn hookBefore
  refine wpAny_bind ?_
  rw [if_pos (show onTheHeap (Value.ref D) = true from rfl)]
  refine l2.at (wpAny_bind (wpAny_attempt (wpAny_holding ?_)))
  unfold callGetattribute
  rw [b0, if_neg Bool.false_ne_true]
  unfold boundAndCalled
  rw [PySem.F.excAttr_ValueError.ga.bind (.ref x)]
  refine wpAny_bind (wpAny_pure ?_)
  show wpAny _ _ (call (.builtin "BaseException.__getattribute__") [.ref x, .str "__class__" t]) _ _ _
  refine wpAny_call (codeAny_call_builtin PySem.F.excAttr_ValueError.ga.plain PySem.F.entry_bexc_ga ?_)
  refine @check_slot (model prog w) _ _ ⟨hp, g, d, t + 1, os⟩ "BaseException.__getattribute__" "BaseException" "__getattribute__" (.ref x) [.str "__class__" t] [] _ (by decide +kernel) (by decide +kernel) sub (PySem.F.args_bexc_ga (.ref x) (.str "__class__" t)) ?_
  unfold Builtin.«object.__getattribute__»
  refine wpAny_bind (wpAny_of_eq (a := ((Value.ref x : Value), [Value.str "__class__" t])) (by first | rfl | (simp only [slotArgs]; rfl)) ?_)
  refine wpAny_bind (wpAny_pure (wpAny_bind (l0.at (wpAny_bind (l3.at ?_)))))
  show wpAny _ _ (holding [Value.builtin "object.__class__"] (call (.builtin "getset_descriptor.__get__") [.builtin "object.__class__", .ref x, .ref D]) >>= ret) _ _ _
  refine wpAny_bind (wpAny_holding (wpAny_call (class_get (s := ⟨hp, g, d, t + 1, os⟩) (ox := ox) (od := od) X I T.hm ?_)))
  refine wpAny_pure ?_
  show wpAny _ _ (handedOut (.ref D)) _ _ _
  rw [handedOut_of (v := .ref D) rfl]
  first
    | exact wpAny_pure (wpAny_pure h)
    | exact wpAny_pure h
    | exact wpAny_pure (wpAny_bind (wpAny_pure (wpAny_pure h)))
theorem exKit (T : ExcC K D) : KitX K (.ref x) (.ref D) (fun h => InstAt h x ox D od) where
  ty := fun _ _ _ I => I.type
  it := fun _ _ X _ => by
    obtain ⟨cdD, hcD, _⟩ := any_some T.hd
    unfold clsIn at hcD
    split at hcD
    · rename_i c' d' cd' sl' ho
      intro A' Q' E' s' k q
      unfold isType loadHead
      exact wpAny_bind (wpAny_loadPart (k _ _ (X _ _ ho)) (wpAny_pure q))
    · cases hcD
  ne := fun h tp dd its n sl X htp => by
    obtain ⟨cdD, hcD, _⟩ := any_some T.hd
    refine Bool.eq_false_iff.mpr fun q => ?_
    have e : D = tp := Value.ref.inj (beq_iff_eq.mp q)
    subst e
    unfold clsIn at hcD
    split at hcD
    · rename_i c' d' cd' sl' ho
      cases (X _ _ ho).symm.trans htp
    · cases hcD
  ca := fun X I k => exClass T X I k
end
/-- an exception object of the class at C: with its dict or without one -/
def IsExo (H : Hp) (a C : Addr) : Prop := H a = some (exo a C none) ∨ ∃ (dd : Addr) (fs : List (Str × V)), H a = some (exo a C (some dd)) ∧ H dd = some (exd dd fs)
def rIsX (K : Frag) : List V → Hp → VK → Prop := fun xs H Q => ∃ (a C : Addr) (c : V) (u : Value) (b : Bool), xs = [.ref a, c] ∧ IsExo H a C ∧ ExcC K C ∧ ClsV c u ∧ kitOne K (.ref C) u = some b ∧ Q (.bl b) H
theorem call_isX {X : Cx} : CallR X (.builtin "isinstance") (rIsX X.K) := by
  intro pins s σ H xs us Q I r h
  obtain ⟨a, C, c, u, b, rfl, hx, T, kc, e, q⟩ := h
  obtain ⟨u1, u2, rfl, r1, r2⟩ := vals2 r
  cases (show u1 = Value.ref a from r1)
  have e2 := kc.eq r2
  subst e2
  obtain ⟨ox, od, J⟩ : ∃ ox od, InstAt s.heap a ox C od := by
    rcases hx with ea | ⟨dd, fs, ea, ed⟩
    · obtain ⟨t1, ho⟩ := exo_at I.hok ea
      exact ⟨_, none, ho, rfl, rfl, trivial⟩
    · obtain ⟨t1, ho⟩ := exo_at I.hok ea
      obtain ⟨mA, hns1, _⟩ := exd_at I.hok ed
      obtain ⟨od, hod, _⟩ := lookIn_ns hns1
      exact ⟨_, some od, ho, rfl, rfl, hod⟩
  exact kia_one (exKit T) I.kIn J e (fun z => nomatch z) fun tk => ⟨.bl b, H, I.tok tk, rfl, q⟩
end My

namespace My
open PySem L2 PySem.Spec PyProof.Rows PySem.W
/-! ### what the written part says of an exception class -/
structure ExF (K : Frag) (C : Addr) (mro : List Value) (newId : String) : Prop where
  look : ∃ (nm qn : Str) (bs sb : List Value) (ns : Addr) (sn : List Str) (ab : Bool) (co : Option Bool) (dd : Option Addr) (k0 k1 k2 k3 k5 : Option Value), K.lookup C = some ⟨.type "type", dd, .cls ⟨nm, bs, mro, ns, qn, true, sn, sb, ab, co, false⟩, #[k0, k1, k2, k3, some (.builtin newId), k5]⟩
  sa : findIn K (.ref C) "__setattr__" = some (some (.builtin "object.__setattr__"))
  kp : keepIn K (.ref C) = true
  ga : findIn K (.ref C) "__getattribute__" = some (some (.builtin "BaseException.__getattribute__"))
  gg : findIn K (.ref C) "__getattr__" = some none
  ca : findIn K (.ref C) "__class__" = some (some (.builtin "object.__class__"))
  ty : typeIn K (.ref C) = some (.type "type")
section
variable {K : Frag} {C D : Addr} {m m' : List Value} {n n' : String}
theorem ExF.cls (x : ExF K C m n) : ∃ cd, clsIn K C = some cd ∧ cd.mro = m ∧ cd.hasDict = true := by
  obtain ⟨nm, qn, bs, sb, ns, sn, ab, co, dd, k0, k1, k2, k3, k5, e⟩ := x.look
  exact ⟨_, by unfold clsIn; rw [e], rfl, rfl⟩
theorem ExF.sub (x : ExF K C m n) (h : m.isEmpty = false) (v : Value) : subIn K (.ref C) v = some (m.contains v) := by
  obtain ⟨cd, e, rfl, _⟩ := x.cls
  show mroIn K C v = _
  unfold mroIn
  rw [e, Option.bind_some, if_neg (by rw [h]; exact Bool.false_ne_true)]
theorem ExF.hd (x : ExF K C m n) : hasDictIn K C = true := by
  obtain ⟨cd, e, _, h⟩ := x.cls
  unfold hasDictIn
  rw [e]
  exact h
/-- an own class over a built-in one -/
structure Ups (C : Addr) (m bm : List Value) : Prop where
  head : ∃ r, m = .ref C :: r ∧ excTail bm r = true
  base : m.contains (.type "BaseException") = true
  obj : m.contains (.type "object") = true
theorem ups (C G : Addr) (b : String) : Ups C (.ref C :: .ref G :: .type b :: [.type "Exception", .type "BaseException", .type "object"]) (.type b :: [.type "Exception", .type "BaseException", .type "object"]) := by
  refine ⟨⟨_, rfl, ?_⟩, ?_, ?_⟩
  · show (Value.type b :: [.type "Exception", .type "BaseException", .type "object"] == _) = true
    exact beq_self_eq_true _
  · simp
  · simp
theorem ups0 (C : Addr) (b : String) : Ups C (.ref C :: .type b :: [.type "Exception", .type "BaseException", .type "object"]) (.type b :: [.type "Exception", .type "BaseException", .type "object"]) := by
  refine ⟨⟨_, rfl, ?_⟩, ?_, ?_⟩
  · show (Value.type b :: [.type "Exception", .type "BaseException", .type "object"] == _) = true
    exact beq_self_eq_true _
  · simp
  · simp
theorem Ups.ne {bm : List Value} (u : Ups C m bm) : m.isEmpty = false := by
  obtain ⟨r, rfl, _⟩ := u.head
  rfl
theorem ExF.oex {bm : List Value} {B ii : String} (x : ExF K C m n) (u : Ups C m bm) (FB : ExcBaseFacts B n ii bm) (SF : StoreFacts B bm "object.__setattr__" "object") : OexG K C := by
  obtain ⟨r, rfl, ht⟩ := u.head
  refine ⟨⟨B, n, ii, bm, FB, SF, ?_, ?_⟩, x.hd, x.sa, x.kp⟩
  · obtain ⟨nm, qn, bs, sb, ns, sn, ab, co, dd, k0, k1, k2, k3, k5, e⟩ := x.look
    unfold excInitIn
    rw [e]
    simp [ht]
  · obtain ⟨cd, e, hm, _⟩ := x.cls
    unfold excOver
    rw [e]
    show (match cd.mro with | .ref C' :: bm' => C' == C && excTail bm bm' | _ => false) = true
    rw [hm]
    simp [ht]
theorem ExF.xf {bm : List Value} (x : ExF K C m n) (u : Ups C m bm) : XfC K C := ⟨x.ga, x.gg, by rw [x.sub u.ne, u.base], x.hd⟩
theorem ExF.exc {bm : List Value} (x : ExF K C m n) (u : Ups C m bm) (h1 : specialIn K (.builtin "object.__class__") "__get__" = some (some (.builtin "getset_descriptor.__get__"))) (h2 : takesIn K (.builtin "object.__class__") = some true) : ExcC K C :=
  ⟨x.ga, x.gg, by rw [x.sub u.ne, u.base], x.hd, x.ca, h1, h2, (x.sub u.ne _).trans (by rw [u.obj])⟩
theorem ExF.kit {bm : List Value} (x : ExF K C m n) (u : Ups C m bm) (y : ExF K D m' n') : kitOne K (.ref C) (.ref D) = some (m.contains (.ref D)) := by
  unfold kitOne
  obtain ⟨r, hm, _⟩ := u.head
  by_cases h : C = D
  · subst h
    rw [if_pos (beq_self_eq_true _), hm]
    simp
  · rw [if_neg (by simpa using h)]
    unfold kitCls
    obtain ⟨cd, e, _, _⟩ := y.cls
    show (if ((clsIn K D).isSome && typeIn K (.ref D) == some (.type "type")) = true then subIn K (.ref C) (.ref D) else none) = _
    rw [e, y.ty, if_pos (by simp), x.sub u.ne]
theorem ExF.kitT {bm : List Value} {T : String} (x : ExF K C m n) (u : Ups C m bm) (h : kitMeta T = true) : kitOne K (.ref C) (.type T) = some (m.contains (.type T)) := by
  unfold kitOne
  rw [if_neg (by simp)]
  show (if kitMeta T = true then subIn K (.ref C) (.type T) else none) = _
  rw [if_pos h, x.sub u.ne]
end
end My

namespace My
open PySem L2 PySem.Spec PyProof.Rows
section
variable {X : Cx} {pins : List (Addr × Obj)} {σ : L2.St} {H : Hp} {s : Shared}
/-! ### new lists, none of them where sys.modules stands -/
def tLstN (t : TA) : TE := fun σ H Q => t σ H fun xs H1 => xs.length ≤ sizeLine ∧ ∀ p, H1 p = none → p ≠ sysModules → Q (.ref p) (L2.upd H1 p (.lst xs))
theorem pe_lstN {es : List Expr} {t : TA} {pos : Pos} (h : PA X es t) : PE X (.List es pos) (tLstN t) := by
  constructor
  intro pins s σ H Q I hq
  refine wpAny_List_spliced (thn (h.run pos pins s σ H _ I hq) fun us s1 y => ?_)
  obtain ⟨xs, H1, I1, r, z, q⟩ := y
  refine ⟨by rw [← r.length]; exact z, ?_⟩
  have hf : H1 s1.heap.objs.size = none := I1.hok.fresh (Nat.le_refl _)
  exact ⟨.ref s1.heap.objs.size, L2.upd H1 s1.heap.objs.size (.lst xs), I1.laid (t' := s1.toks) (fun b u e => Heap.get?_push_of_some _ e) (Nat.le_refl _) ⟨z, us, 0, r, Heap.get?_push_size _ rfl⟩, rfl, q _ hf (Nat.ne_of_gt I1.big)⟩
def rSlN (K : PySem.W.Frag) : V → Option Int → Option Int → Hp → VK → Prop := fun x lo hi H Q => ∃ a xs, x = .ref a ∧ SqL K H a xs ∧ ∀ p, H p = none → p ≠ sysModules → Q (.ref p) (L2.upd H p (.lst (cutV xs lo hi)))
theorem sl_listN : SlR X (rSlN X.K) := by
  intro pins s σ H x v vl vu lo hi sl Q I rx hs pl pu h
  obtain ⟨a, xs, rfl, hx, q⟩ := h
  cases (show v = Value.ref a from rx)
  obtain ⟨its, r, ht, hz⟩ := I.list hx
  have hlen := r.length
  refine ⟨"list", _, slot_list_getitem.lookup, ht.isList.typeIs, ?_⟩
  refine wpAny_getItem_list_slice ht.isList hs pl pu .none (by simp) ?_ (by rw [List.size_toArray] <;> omega)
  rw [slicePick_cut, ← hlen]
  have new : ObjOk X.prog X.w (L2.upd H s.heap.objs.size (.lst (cutV xs lo hi))) (s.heap.push { cls := .type "list", data := .seq ((its.drop (HT.sIx xs.length 0 lo)).take (HT.sIx xs.length xs.length hi - HT.sIx xs.length 0 lo)).toArray }) s.heap.objs.size (.lst (cutV xs lo hi)) :=
    ⟨Nat.le_trans (cutV_length xs lo hi) hz, _, 0, (r.drop (HT.sIx xs.length 0 lo)).take (HT.sIx xs.length xs.length hi - HT.sIx xs.length 0 lo), Heap.get?_push_size _ rfl⟩
  exact ⟨.ref s.heap.objs.size, _, I.laid (t' := s.toks) (fun b ob q => Heap.get?_push_of_some _ q) (Nat.le_refl _) new, rfl, q _ (I.hok.fresh (Nat.le_refl _)) (Nat.ne_of_gt I.big)⟩
/-! ### data with a dict of one entry in it -/
mutual
inductive Dq (H : Hp) : V → PyData → Prop
  | non : Dq H .non .none
  | bl (b : Bool) : Dq H (.bl b) (.bool b)
  | int (i : Int) : Dq H (.int i) (.int i)
  | str (x : Str) : Dq H (.str x) (.str x)
  | lst {a : Addr} {xs : List V} {ds : List PyData} (h : H a = some (.lst xs)) (n : a ≠ sysModules) (r : DqAll H xs ds) : Dq H (.ref a) (.list ds)
  | tup {a : Addr} {xs : List V} {ds : List PyData} (h : H a = some (.tup xs)) (r : DqAll H xs ds) : Dq H (.ref a) (.tuple ds)
  | dct {a : Addr} {x : Str} {i : Int} (h : H a = some (.dK [(.inr x, .int i)])) : Dq H (.ref a) (.dict [(.str x, .int i)])
inductive DqAll (H : Hp) : List V → List PyData → Prop
  | nil : DqAll H [] []
  | cons {x : V} {xs : List V} {d : PyData} {ds : List PyData} (h : Dq H x d) (r : DqAll H xs ds) : DqAll H (x :: xs) (d :: ds)
end
mutual
theorem Dq.same {H H' : Hp} (s : Same H H') : ∀ {v : V} {d : PyData}, Dq H v d → Dq H' v d
  | _, _, .non => .non
  | _, _, .bl b => .bl b
  | _, _, .int i => .int i
  | _, _, .str x => .str x
  | _, _, .lst h n r => .lst (s _ _ h) n (DqAll.same s r)
  | _, _, .tup h r => .tup (s _ _ h) (DqAll.same s r)
  | _, _, .dct h => .dct (s _ _ h)
theorem DqAll.same {H H' : Hp} (s : Same H H') : ∀ {vs : List V} {ds : List PyData}, DqAll H vs ds → DqAll H' vs ds
  | _, _, .nil => .nil
  | _, _, .cons h r => .cons (Dq.same s h) (DqAll.same s r)
end
theorem dctReads {a : Addr} {x : Str} {i : Int} (I : Inv X pins σ H s) (h : H a = some (.dK [(.inr x, .int i)])) : ∃ as, Reads s.heap (.ref a) (.dict [(.str x, .int i)]) as ∧ sysModules ∉ as := by
  obtain ⟨_, hd, vs, kv, o, es, ep, ho, hx, hdt, hk, hp, _⟩ := dk_of I.hok h
  have na : a ≠ sysModules := by simpa using hd
  cases kv with
  | @cons _ p _ ps hkv rest =>
    cases rest
    obtain ⟨k', u⟩ := p
    obtain ⟨ek, ru⟩ := hkv
    obtain ⟨t, rfl⟩ := (show ∃ t, u = Value.int i t from ru)
    dsimp only at ek
    subst ek
    cases he : es.toList with
    | nil =>
      rw [he] at hp
      cases hp
    | cons e1 er =>
      rw [he] at hp
      cases hp with
      | cons h1 h2 h3 =>
        cases h3
        obtain ⟨t2, hk2⟩ : ∃ t2, e1.key = .str x t2 := by
          have h1' : keyIs (Sum.inr x) e1.key = true := h1
          rcases keyIs_shape h1' with ⟨j, t2, z, _⟩ | ⟨y, t2, z, q⟩
          · cases z
          · cases z
            exact ⟨t2, q⟩
        have h2' : e1.val = Value.int i t := h2
        refine ⟨_, Reads.dict ho hx.1 hdt (kvs := [(.str x, .int i)]) (by rw [he]; simp only [List.map_cons, List.map_nil]; rw [hk2]; exact ReadsAll.cons (Reads.str x t2) ReadsAll.nil) (by rw [he]; simp only [List.map_cons, List.map_nil]; rw [h2']; exact ReadsAll.cons (Reads.int i t) ReadsAll.nil), ?_⟩
        simp
        exact na.symm
mutual
theorem Dq.reads (I : Inv X pins σ H s) : ∀ (d : PyData) (v : V) (u : Value), Dq H v d → L2.RelV v u → ∃ as, Reads s.heap u d as ∧ sysModules ∉ as
  | .none, _, _, h, r => by
    cases h
    cases r
    exact ⟨_, Reads.none, by simp⟩
  | .bool b, _, _, h, r => by
    cases h
    cases r
    exact ⟨_, Reads.bool b, by simp⟩
  | .int i, _, _, h, r => by
    cases h
    obtain ⟨t, rfl⟩ := r
    exact ⟨_, Reads.int i t, by simp⟩
  | .str x, _, _, h, r => by
    cases h
    obtain ⟨t, rfl⟩ := r
    exact ⟨_, Reads.str x t, by simp⟩
  | .list ds, _, _, h, r => by
    cases h with
    | lst hs n ha =>
      cases r
      obtain ⟨_, its, m, rv, ho⟩ := I.hok _ _ hs
      obtain ⟨as, hr, hn⟩ := DqAll.reads I ds _ its ha rv
      exact ⟨_, Reads.list ho rfl rfl hr, by
        rw [List.mem_cons, not_or]
        exact ⟨n.symm, hn⟩⟩
  | .tuple ds, _, _, h, r => by
    cases h with
    | tup hs ha =>
      cases r
      obtain ⟨_, its, rv, o, ho, hc, m, hd⟩ := I.hok _ _ hs
      obtain ⟨as, hr, hn⟩ := DqAll.reads I ds _ its ha rv
      exact ⟨_, Reads.tuple ho hc hd hr, hn⟩
  | .dict kvs, _, _, h, r => by
    cases h with
    | dct hs =>
      cases r
      exact dctReads I hs
theorem DqAll.reads (I : Inv X pins σ H s) : ∀ (ds : List PyData) (vs : List V) (us : List Value), DqAll H vs ds → Vals vs us → ∃ as, ReadsAll s.heap us ds as ∧ sysModules ∉ as
  | [], _, _, h, r => by
    cases h
    cases r
    exact ⟨_, ReadsAll.nil, by simp⟩
  | d :: ds, _, _, h, r => by
    cases h with
    | cons h1 h2 =>
      cases r with
      | cons r1 r2 =>
        obtain ⟨as, q1, n1⟩ := Dq.reads I d _ _ h1 r1
        obtain ⟨bs, q2, n2⟩ := DqAll.reads I ds _ _ h2 r2
        exact ⟨_, ReadsAll.cons q1 q2, by
          rw [List.mem_append, not_or]
          exact ⟨n1, n2⟩⟩
end
end
section
variable {X : Cx} {k : Nat}
theorem call_reprQ (hr : RoomG k X.A) : CallR X (.builtin "repr") (fun xs H Q => ∃ y d, xs = [y] ∧ Dq H y d ∧ d.depth ≤ 64 ∧ d.showable = true ∧ d.shown.length ≤ sizeLine ∧ Q (.str d.shown) H) := by
  intro pins s σ H xs us Q I r h
  obtain ⟨y, d, rfl, hd, hdp, hw, hz, q⟩ := h
  obtain ⟨u, rfl, ru⟩ := vals1 r
  obtain ⟨as, rd, nm⟩ := Dq.reads I d y u hd ru
  have hA : X.A.units + (d.depth + 1) < cLine := by
    have := hr.r.un
    omega
  have fin : ∀ {t : Tok} {s' : Shared}, Inv X pins σ H s' → EP X pins σ Q (.str d.shown t) s' := fun J => ⟨.str d.shown, H, J, ⟨_, rfl⟩, q⟩
  cases rd with
  | none => exact PySem.P.repr_of_none (fin (I.tok _))
  | bool b => exact PySem.P.repr_of_bool (fin (I.tok _))
  | int i t => exact PySem.P.repr_of_int (of_decide_eq_true hw) (fin (I.tok _))
  | str z t => exact PySem.P.repr_of_str (fin (I.tok _)) hz
  | list h1 h2 h3 h4 => exact PySem.repr_of_reads' (.list h1 h2 h3 h4) hw (fun _ => nm) hr.g hA (fun _ _ e => e) (fun h' t tk hk => fin (I.kept hk)) hz
  | tuple h1 h2 h3 h4 => exact PySem.repr_of_reads' (.tuple h1 h2 h3 h4) hw (fun _ => nm) hr.g hA (fun _ _ e => e) (fun h' t tk hk => fin (I.kept hk)) hz
  | dict h1 h2 h3 h4 h5 => exact PySem.repr_of_reads' (.dict h1 h2 h3 h4 h5) hw (fun _ => nm) hr.g hA (fun _ _ e => e) (fun h' t tk hk => fin (I.kept hk)) hz
end
section
variable {σ : L2.St} {H : Hp} {D : Ends} {Q : VK} {K : PySem.W.Frag} {C : Addr} {sp : Sp} {f : Str} {l : Nat} {gV : List V → List V → List V} {to te : TE} {ta tk : TA}
theorem s_ostG (h : te σ H fun y H1 => to σ H1 fun x H2 => ∃ a C : Addr, x = .ref a ∧ OexG K C ∧ NoAttr K C f ∧
  ((H2 a = some (exo a C none) ∧ ∀ dx, H2 dx = none → dx ≠ a → D.nx σ (L2.upd (L2.upd H2 dx (exd dx [(f, y)])) a (exo a C (some dx)))) ∨
    ∃ (dx : Addr) (fs : List (Str × V)), H2 a = some (exo a C (some dx)) ∧ H2 dx = some (exd dx fs) ∧ fs.length ≤ 900 ∧ D.nx σ (L2.upd H2 dx (exd dx ((f, y) :: fs))))) : tOstG K f to te D σ H := h
theorem s_mkE (h : ta σ H fun vs H1 => vs.length ≤ 1000 ∧ ∀ a, H1 a = none → sp (.ref a :: vs) (L2.upd H1 a (exo a C none)) (fun v H2 => v = .non ∧ Q (.ref a) H2) E0) : tMkE C sp ta σ H Q := h
theorem s_mkEK (h : tk σ H fun zs H1 => zs.length = l ∧ ∀ a, H1 a = none → sp (gV [.ref a] zs) (L2.upd H1 a (exo a C none)) (fun v H2 => v = .non ∧ Q (.ref a) H2) E0) : tMkEK C l sp gV tk σ H Q := h
theorem s_xf (h : te σ H fun x H1 => ∃ (a C dd : Addr) (fs : List (Str × V)) (v : V), x = .ref a ∧ XfC K C ∧ NoAttr K C f ∧ H1 a = some (exo a C (some dd)) ∧ H1 dd = some (exd dd fs) ∧ fs.lookup f = some v ∧ Q v H1) : tXfO K f te σ H Q := h
theorem s_lstN (h : ta σ H fun xs H1 => xs.length ≤ sizeLine ∧ ∀ p, H1 p = none → p ≠ sysModules → Q (.ref p) (L2.upd H1 p (.lst xs))) : tLstN ta σ H Q := h
end
end My

namespace My
open PySem L2 PySem.Spec PyProof.Rows
/-! ### dicts from texts to ints -/
def dk (d : List (Str × Int)) : List (Key × V) := d.map fun p => (.inr p.1, .int p.2)
def look : List (Str × Int) → Str → Option Int
  | [], _ => none
  | p :: r, k => if p.1 = k then some p.2 else look r k
theorem valV_dk (d : List (Str × Int)) (k : Str) : valV (dk d) (.inr k) = (look d k).map V.int := by
  induction d with
  | nil => rfl
  | cons p r ih =>
    unfold look
    by_cases h : p.1 = k
    · rw [if_pos h]
      exact valV_pos (congrArg Sum.inr h)
    · rw [if_neg h]
      exact (valV_neg (fun z => h (Sum.inr.inj z))).trans ih
theorem dk_length (d : List (Str × Int)) : (dk d).length = d.length := List.length_map ..
/-- all of d is in e -/
def subD (d e : List (Str × Int)) : Bool := d.all fun p => decide (look e p.1 = some p.2)
section
variable {X : Cx} {pins : List (Addr × Obj)} {σ : L2.St} {H : Hp} {s : Shared}
theorem hits_dk {A : Around} {e : List (Str × Int)} {vb : List (Key × Value)} (rb : KV (dk e) vb) : ∀ {d : List (Str × Int)} {va : List (Key × Value)}, KV (dk d) va → PySem.W.KeqHits A s vb va (subD d e) := by
  intro d
  induction d with
  | nil =>
    intro va ra
    cases ra
    exact .nil
  | cons p r ih =>
    intro va ra
    cases ra with
    | @cons _ q _ qs h t =>
      obtain ⟨h1, h2⟩ := h
      obtain ⟨k, v⟩ := q
      obtain ⟨tk, h3⟩ := (show ∃ tk, v = Value.int p.2 tk from h2)
      have h4 : (Sum.inr p.1 : Key) = k := h1
      clear h1 h2
      subst h4
      subst h3
      have rr := rb.val (Sum.inr p.1)
      rw [valV_dk] at rr
      cases hl : look e p.1 with
      | none =>
        rw [hl] at rr
        have e0 : subD (p :: r) e = false := by
          unfold subD
          rw [List.all_cons, hl]
          rfl
        rw [e0]
        refine .miss ?_
        cases hv : valueAt vb (Sum.inr p.1) with
        | none => rfl
        | some y =>
          rw [hv] at rr
          exact rr.elim
      | some i =>
        rw [hl] at rr
        obtain ⟨y, hy, ry⟩ := rr.some_of
        obtain ⟨tk2, rz⟩ := (show ∃ tk, y = Value.int i tk from ry)
        clear ry
        subst rz
        have e1 : subD (p :: r) e = ((p.2 == i) && subD r e) := by
          unfold subD
          rw [List.all_cons, hl]
          congr 1
          by_cases z : p.2 = i
          · rw [z]
            simp
          · rw [decide_eq_false (fun q => z (Option.some.inj q).symm)]
            exact (beq_false_of_ne z).symm
        rw [e1]
        refine .hit hy ?_ (ih t)
        have q := PySem.W.keq_flat (A := A) (s := s) (v := .int p.2 tk) (y := .int i tk2) (d := .int p.2) (e := .int i) (fun h => .int _ _) (fun h => .int _ _)
        rw [show PyData.eqv (.int p.2) (.int i) = (p.2 == i) by simp [PyData.eqv]] at q
        exact q
def eqD (d e : List (Str × Int)) : Bool := d.length == e.length && subD d e
/-- a == b, both dicts from texts to ints -/
def rEqDD (g : Bool → Bool) : R2 := fun x y H Q => ∃ a b d e, x = .ref a ∧ y = .ref b ∧ H a = some (.dK (dk d)) ∧ H b = some (.dK (dk e)) ∧ Q (.bl (g (eqD d e))) H
theorem op_eqDD (hu : X.A.units + 1 < cLine) : OpR X (compareOp .Eq) (rEqDD id) := by
  intro pins s σ H x y v u Q I rx ry h
  obtain ⟨a, b, d, e, rfl, rfl, ea, eb, q⟩ := h
  cases (show v = Value.ref a from rx)
  cases (show u = Value.ref b from ry)
  obtain ⟨_, ya, va, ra, da⟩ := dk_of I.hok ea
  obtain ⟨_, yb, vb, rb, db⟩ := dk_of I.hok eb
  refine PySem.W.keq_eq (r := subD d e) ya yb da db (by omega) (fun _ => hits_dk rb ra) (fin_bl I q ?_)
  unfold eqD
  rw [← ra.length, ← rb.length, dk_length, dk_length]
  rfl
theorem op_neDD (hu : X.A.units + 1 < cLine) : OpR X (compareOp .NotEq) (rEqDD (!·)) := by
  intro pins s σ H x y v u Q I rx ry h
  obtain ⟨a, b, d, e, rfl, rfl, ea, eb, q⟩ := h
  cases (show v = Value.ref a from rx)
  cases (show u = Value.ref b from ry)
  obtain ⟨_, ya, va, ra, da⟩ := dk_of I.hok ea
  obtain ⟨_, yb, vb, rb, db⟩ := dk_of I.hok eb
  refine PySem.W.keq_ne (r := subD d e) ya yb da db (by omega) (fun _ => hits_dk rb ra) (fin_bl I q ?_)
  unfold eqD
  rw [← ra.length, ← rb.length, dk_length, dk_length]
/-! ### the text of such a dict -/
def dP (d : List (Str × Int)) : PyData := .dict (d.map fun p => (.str p.1, .int p.2))
theorem pairs_reads {h : Heap} {P : Program} {w : World} : ∀ {d : List (Str × Int)} {va : List (Key × Value)} {es : List DictEntry}, KV (dk d) va → Pairs (mixKind P w) es va →
    ReadsAll h (es.map (·.key)) ((d.map fun p => ((PyData.str p.1, PyData.int p.2) : PyData × PyData)).map (·.1)) [] ∧ ReadsAll h (es.map (·.val)) ((d.map fun p => ((PyData.str p.1, PyData.int p.2) : PyData × PyData)).map (·.2)) [] := by
  intro d
  induction d with
  | nil =>
    intro va es ra pr
    cases ra
    cases pr
    exact ⟨.nil, .nil⟩
  | cons p r ih =>
    intro va es ra pr
    cases ra with
    | @cons _ q _ qs h1 t =>
      obtain ⟨h1, h2⟩ := h1
      obtain ⟨k, v⟩ := q
      obtain ⟨tk, h3⟩ := (show ∃ tk, v = Value.int p.2 tk from h2)
      have h4 : (Sum.inr p.1 : Key) = k := h1
      clear h1 h2
      subst h4
      subst h3
      cases pr with
      | @cons e1 _ er _ k1 k2 k3 =>
        obtain ⟨i1, i2⟩ := ih t k3
        have k1' : keyIs (Sum.inr p.1) e1.key = true := k1
        obtain ⟨t2, hk2⟩ : ∃ t2, e1.key = .str p.1 t2 := by
          rcases keyIs_shape k1' with ⟨j, t2, z, _⟩ | ⟨y, t2, z, q⟩
          · cases z
          · cases z
            exact ⟨t2, q⟩
        have k2' : e1.val = Value.int p.2 tk := k2
        refine ⟨?_, ?_⟩
        · rw [List.map_cons, hk2]
          exact ReadsAll.cons (Reads.str _ _) i1
        · rw [List.map_cons, k2']
          exact ReadsAll.cons (Reads.int _ _) i2
theorem dk_reads {a : Addr} {d : List (Str × Int)} (I : Inv X pins σ H s) (h : H a = some (.dK (dk d))) : ∃ as, Reads s.heap (.ref a) (dP d) as ∧ sysModules ∉ as := by
  obtain ⟨_, hd, vs, kv, o, es, ep, ho, hx, hdt, hk, hp, _⟩ := dk_of I.hok h
  have na : a ≠ sysModules := by simpa using hd
  obtain ⟨r1, r2⟩ := pairs_reads (h := s.heap) kv hp
  refine ⟨_, Reads.dict ho hx.1 hdt r1 r2, ?_⟩
  simp
  exact na.symm
end
section
variable {X : Cx} {k : Nat} {e : Expr} {te : TE} {pos : Pos}
/-- {x!r}, x a dict from texts to ints -/
def tFmtRD (te : TE) : TE := fun σ H Q => te σ H fun x H1 => ∃ a d, x = .ref a ∧ H1 a = some (.dK (dk d)) ∧ (dP d).showable = true ∧ (dP d).shown.length ≤ sizeLine ∧ Q (.str (dP d).shown) H1
theorem pe_fmtRD (hr : RoomG k X.A) (he : PE X e te) : PE X (.FormattedValue e 114 none pos) (tFmtRD te) := by
  constructor
  intro pins s σ H Q I h
  refine wpAny_FormattedValue_repr (thn (he.run pins s σ H _ I h) ?_)
  rintro v s1 ⟨x, H1, I1, rx, a, d, rfl, ea, hw, hz, q⟩
  cases (show v = Value.ref a from rx)
  obtain ⟨as, rd, nm⟩ := dk_reads I1 ea
  have hdep : (dP d).depth ≤ 1 := by
    unfold dP
    simp only [PyData.depth]
    have : ∀ d : List (Str × Int), PyData.depthKv (d.map fun p => (PyData.str p.1, PyData.int p.2)) = 0 := by
      intro d
      induction d with
      | nil => simp [PyData.depthKv]
      | cons p r ih => simp [PyData.depthKv, PyData.depth, ih]
    rw [this]
    exact Nat.le_refl _
  have hA : X.A.units + (dP d).depth < cLine := by
    have := hr.r.un
    omega
  refine pyReprObj_of_reads rd hw (fun _ => nm) hr.g hA (fun _ _ e => e) (fun h' u tk hk => ?_) hz
  exact wpAny_formatField_str ⟨.str (dP d).shown, H1, I1.kept (t' := tk) hk, ⟨_, rfl⟩, q⟩ ⟨.str (dP d).shown, H1, (I1.kept (t' := tk) hk).tok _, ⟨_, rfl⟩, q⟩ hz
end
end My

namespace My
open PySem L2 PySem.Spec PyProof.Rows Sem
section
variable {prog : Program} {w : World} {A : Around} {E : Value → Shared → Prop} {s : Shared}
theorem wpAny_putDict {d : Addr} {kvs : List (Key × Value)} {k : Key} {key v : Value} {Q : Unit → Shared → Prop} (hkey : (mixKind prog w).is k key = true) (hm : s.heap.DictOf (mixKind prog w) d kvs)
    (hQ : ∀ h', h'.DictOf (mixKind prog w) d (stored kvs k v) → Heap.SameBut d s.heap h' → Q () { s with heap := h' }) (hsz : kvs.length ≤ sizeLine) :
    wpAny (model prog w) A (dictPut d ((mixKind prog w).hash k) key v) Q E s := by
  obtain ⟨o, es, ep, ho, hc, hd, hk, hp, hn⟩ := hm
  have hes : es.size ≤ sizeLine := by
    have e1 := hp.length
    have e2 : es.toList.length = es.size := by simp
    omega
  have hidx : (es.findIdx? fun e => (mixKind prog w).is k e.key) = kvs.findIdx? fun kv => decide (kv.1 = k) := by
    rw [← hp.findIdx k]
    obtain ⟨l⟩ := es
    simp
  unfold dictPut
  refine wpAny_bind (wpAny_dictFind_of hkey ho hd hk ?_)
  cases hi : es.findIdx? fun e => (mixKind prog w).is k e.key with
  | some i =>
    have hany := any_of_findIdx_some (hidx ▸ hi)
    refine wpAny_updateDict ho hd (hQ _ ⟨_, _, ep, Heap.get?_update_self _ ho (Obj.isFreed_of_dict (Obj.data_mapDict hd _)), hc.mapDict _, Obj.data_mapDict hd _, hk.modify _ _, ?_, ?_⟩ (Heap.SameBut.update ..))
    · have hl : (es.toList.findIdx? fun e => (mixKind prog w).is k e.key) = some i := by
        rw [← hi]
        obtain ⟨l⟩ := es
        simp
      have := hp.modify hn hl v
      rw [stored, if_pos hany]
      obtain ⟨l⟩ := es
      simpa using this
    · rw [stored, if_pos hany, keys_map_store]
      exact hn
  | none =>
    have hnot : k ∉ kvs.map (·.1) := not_mem_of_findIdx_none (hidx ▸ hi)
    have hany : ¬ (kvs.any fun kv => decide (kv.1 = k)) = true := by
      intro z
      obtain ⟨kv, hkv, he⟩ := List.any_eq_true.mp z
      exact hnot (List.mem_map.mpr ⟨kv, hkv, of_decide_eq_true he⟩)
    refine wpAny_updateDictKeys (hz := hes) ho hd (hQ _ ⟨_, _, ep + 1, Heap.get?_update_self _ ho (Obj.isFreed_of_dict (Obj.data_mapDictKeys hd _)), hc.mapDictKeys _, Obj.data_mapDictKeys hd _, hk.push hkey _, ?_, ?_⟩ (Heap.SameBut.update ..))
    · have := hp.append hkey ((mixKind prog w).hash k) v
      rw [stored, if_neg hany]
      obtain ⟨l⟩ := es
      simpa using this
    · rw [stored, if_neg hany, List.map_append, List.nodup_append]
      refine ⟨hn, by simp, fun a ha b hb => ?_⟩
      simp only [List.map_cons, List.map_nil, List.mem_singleton] at hb
      rw [hb]
      exact fun e => hnot (e ▸ ha)
theorem loop_none {es : Array DictEntry} (hk : KeysOf (mixKind prog w) es) : ∀ e ∈ es.toList, ∀ a : Addr, e.key ≠ .ref a := by
  intro e he a z
  obtain ⟨k, h1, _⟩ := hk e (by simpa using he)
  have h1' : keyIs k e.key = true := h1
  rcases keyIs_shape h1' with ⟨j, t2, z1, q⟩ | ⟨y, t2, z1, q⟩
  · rw [z] at q
    cases q
  · rw [z] at q
    cases q
theorem wpAny_mergeDD {d o : Addr} {kvs more : List (Key × Value)} {Q : Unit → Shared → Prop} (hdo : d ≠ o) (hoS : (o == sysModules) = false) (hd : s.heap.DictOf (mixKind prog w) d kvs) (ho : s.heap.DictOf (mixKind prog w) o more)
    (hQ : ∀ h', h'.DictOf (mixKind prog w) d (merged kvs more) → Heap.SameBut d s.heap h' → Q () { s with heap := h' }) (hsz : kvs.length + more.length ≤ sizeLine) :
    wpAny (model prog w) A (mergeMapping d (.ref o) false) Q E s := by
  obtain ⟨od, esd, epd, hod, hcd, hdd, hkd, hpd, hnd⟩ := id hd
  obtain ⟨oo, eso, epo, hoo, hco, hdo', hko, hpo, hno⟩ := id ho
  have hlen : more.length = eso.size := by
    rw [← hpo.length]
    simp
  have loop : wpAny (model prog w) A (do
      let l ← dictEntries o
      let epoch ← dictEpoch o
      forIn (List.range l.size) PUnit.unit fun i (_ : PUnit) => (do
          let l' ← dictEntries o
          match l'[i]? with
            | some e => do
              holding [e.key, e.val] (dictPut d e.hash e.key e.val)
              let ep' ← dictEpoch o
              if (ep' != epoch) = true then do
                  (PySem.unsupported "dict.changed-during-merge" : Sem PUnit)
                  Pure.pure (ForInStep.yield PUnit.unit)
                else Pure.pure (ForInStep.yield PUnit.unit)
            | _ => do
              (PySem.unsupported "dict.changed-during-merge" : Sem PUnit)
              Pure.pure (ForInStep.yield PUnit.unit) : Sem (ForInStep PUnit))
      Pure.pure ()) Q E s := by
    refine wpAny_bind (wpAny_dictEntries hoo hdo' (wpAny_bind (wpAny_dictEpoch hoo hdo' (wpAny_bind ?_))))
    rw [List.range_eq_range']
    refine wpAny_forIn_list _ (fun rest _ s' => ∃ h' i, s' = { s with heap := h' } ∧ rest = List.range' i (eso.size - i) ∧ i ≤ eso.size ∧ h'.DictOf (mixKind prog w) d (merged kvs (more.take i)) ∧ h'.get? o = some oo ∧ Heap.SameBut d s.heap h') _ ?_ ?_ _ _
      ⟨s.heap, 0, rfl, by simp, Nat.zero_le _, by simpa [merged] using hd, hoo, Heap.SameBut.refl _ _⟩
    · rintro x rest b s' ⟨h', i, rfl, hr, hi, hd', hoo', hs'⟩
      have hlt : i < eso.size := by
        rcases Nat.lt_or_ge i eso.size with h | h
        · exact h
        · rw [Nat.sub_eq_zero_of_le h] at hr
          simp at hr
      have e1 : eso.size - i = (eso.size - (i + 1)) + 1 := by omega
      rw [e1, List.range'_succ] at hr
      injection hr with hx hrest
      subst hx
      obtain ⟨kv, hkv⟩ : ∃ kv, more[x]? = some kv := ⟨more[x]'(by rw [hlen]; exact hlt), List.getElem?_eq_getElem _⟩
      obtain ⟨k, v⟩ := kv
      obtain ⟨hkey, hval⟩ := hpo.get? (e := eso[x]) (by simp [hlt]) hkv
      obtain ⟨k', hkey', hhash⟩ := hko eso[x] (Array.getElem_mem hlt)
      have ek : k' = k := (mixKind prog w).inj _ _ _ hkey' hkey
      subst ek
      refine wpAny_bind (wpAny_dictEntries hoo' hdo' ?_)
      rw [Array.getElem?_eq_getElem hlt]
      show wpAny _ _ (holding [eso[x].key, eso[x].val] (dictPut d eso[x].hash eso[x].key eso[x].val) >>= _) _ _ _
      rw [hhash, hval]
      have hmx : (merged kvs (more.take x)).length ≤ sizeLine := by
        have l1 := merged_length_le kvs (more.take x)
        have l2 : (more.take x).length ≤ more.length := by
          rw [List.length_take]
          omega
        omega
      refine wpAny_bind (wpAny_holding (wpAny_putDict hkey hd' (fun h2 hd2 hs2 => ?_) hmx))
      have hoo2 : h2.get? o = some oo := (hs2.2 o (Ne.symm hdo)).trans hoo'
      refine wpAny_bind (wpAny_dictEpoch hoo2 hdo' ?_)
      rw [if_neg (by simp)]
      exact wpAny_pure ⟨h2, x + 1, rfl, hrest, hlt, by rw [merged_take_succ kvs more x (k', v) hkv]; exact hd2, hoo2, hs'.trans hs2⟩
    · rintro b s' ⟨h', i, rfl, hr, hi, hd', hoo', hs'⟩
      have hin : i = eso.size := by
        rcases Nat.lt_or_ge i eso.size with h | h
        · have e1 : eso.size - i = (eso.size - (i + 1)) + 1 := by omega
          rw [e1, List.range'_succ] at hr
          exact nomatch hr
        · exact Nat.le_antisymm hi h
      rw [hin, ← hlen, List.take_length] at hd'
      exact wpAny_pure (hQ h' hd' hs')
  unfold mergeMapping
  refine wpAny_bind (wpAny_isInstance (T := "dict") ho.typeIs PySem.F.sub_dict_dict ?_)
  rw [if_pos rfl]
  refine wpAny_bind (wpAny_specialOf ho.typeIs PySem.F.slot_dict_iter.lookup (wpAny_bind (wpAny_pure ?_)))
  simp only [beq_self_eq_true]
  rw [if_neg (by rw [hoS]; exact Bool.false_ne_true)]
  refine wpAny_bind (wpAny_dictEntries hod hdd ?_)
  split
  · refine wpAny_bind (wpAny_dictEntries hoo hdo' (wpAny_bind ?_))
    have nr := loop_none hko
    refine wpAny_forIn_array' _ (fun l _ s' => s' = s ∧ ∀ e ∈ l, ∀ a : Addr, e.key ≠ .ref a) _ (fun e rest b s1 hI => ?_) (fun b s1 hI => ?_) _ _ ⟨rfl, nr⟩
    · obtain ⟨rfl, hI⟩ := hI
      have ne := hI e List.mem_cons_self
      cases hk : e.key with
      | ref a => exact absurd hk (ne a)
      | _ =>
        dsimp only
        exact wpAny_pure ⟨rfl, fun e' h' => hI e' (List.mem_cons_of_mem _ h')⟩
    · obtain ⟨rfl, _⟩ := hI
      exact loop
  · exact loop
end
end My

namespace My
open PySem L2 PySem.Spec PyProof.Rows Sem
/-- {**d, k: v}, keys ints and texts -/
def tSplat (td tk tv : TE) : TE := fun σ H Q => ∀ p, H p = none → td σ (L2.upd H p (.dK [])) fun x H1 => ∃ (a : Addr) (kvs : List (Key × V)), x = .ref a ∧ a ≠ p ∧ H1 p = some (.dK []) ∧ Rd H1 a (.dK kvs) ∧
  ∀ q, q ≠ p → (L2.upd H1 p (.dK (mergeK [] kvs))) q = none → tk σ (L2.upd (L2.upd H1 p (.dK (mergeK [] kvs))) q (.dK [])) fun y H2 => tv σ H2 fun z H3 => ∃ (k : Key) (ms : List (Key × V)), y = kV k ∧ H3 q = some (.dK []) ∧ H3 p = some (.dK ms) ∧ ms.length < sizeLine ∧
    Q (.ref p) (L2.upd (L2.upd H3 q (.dK [(k, z)])) p (.dK (mergeK ms [(k, z)])))
section
variable {X : Cx} {d k v : Expr} {td tk tv : TE} {pos : Pos}
theorem pe_splat (hd : PE X d td) (hk : PE X k tk) (hv : PE X v tv) : PE X (.Dict [none, some k] [d, v] pos) (tSplat td tk tv) := by
  constructor
  intro pins s σ H Q I h
  rw [arm_eval_Dict]
  refine wpAny_bind (wpAny_standAt ?_)
  have e1 : (evalEachOpt [none, some k] X.env).zip ((evalEach [d, v] X.env).map fun v => do let x ← v; standAt pos; Pure.pure x) = [(none, (do let x ← eval d X.env; standAt pos; Pure.pure x)), (some (eval k X.env), (do let x ← eval v X.env; standAt pos; Pure.pure x))] := by
    rfl
  rw [e1]
  unfold dictDisplay
  simp only [List.forIn_cons, List.forIn_nil, List.isEmpty_nil, if_true]
  have hn := I.hok.fresh (Nat.le_refl s.heap.objs.size)
  have I1 := I.laid (a := s.heap.objs.size) (o := .dK []) (h' := s.heap.push { cls := .type "dict", data := .dict #[] }) (t' := s.toks) (fun _ _ q => Heap.get?_push_of_some _ q) (Nat.le_refl _) (dk_empty s.heap I.big)
  refine wpAny_bind (wpAny_bind (wpAny_bind (wpAny_bind (wpAny_pure ?_))))
  refine wpAny_pure ?_
  dsimp only
  refine wpAny_bind (wpAny_alloc ?_)
  refine wpAny_bind (wpAny_holding (wpAny_bind (thn (hd.run pins _ σ _ _ I1 (h _ hn)) ?_)))
  rintro u s2 ⟨x, H1, I2, rx, a, kvs, rfl, nap, hp, ha, q⟩
  cases (show u = Value.ref a from rx)
  refine wpAny_bind (wpAny_standAt (wpAny_pure ?_))
  obtain ⟨zl, ya, va, ra, da⟩ := dk_rd I2.hok ha
  obtain ⟨_, yp, vp, rp, dp⟩ := dk_of I2.hok hp
  cases rp
  have hl := ra.length
  refine wpAny_bind (wpAny_onRaise (wpAny_tryCatch (wpAny_onRaise (wpAny_holding (wpAny_mergeDD (Ne.symm nap) ya dp da (fun h3 d3 s3 => ?_) (by simp; omega))))))
  have lm := length_mergeK kvs []
  rw [List.length_nil] at lm
  have he3 : ∃ z, h3.get? s.heap.objs.size = some z := let ⟨z, _, _, hz, _⟩ := d3; ⟨z, hz⟩
  have I3 := d_write (t' := s2.toks) I2 (by rw [hp]; exact True.intro) s3 he3 (dk_new (by omega) yp (ra.merge .nil) d3)
  have big3 := I3.big
  have pl : s.heap.objs.size < h3.objs.size := by
    obtain ⟨z, hz⟩ := he3
    exact Heap.lt_size hz
  have n4 := I3.hok.fresh (Nat.le_refl h3.objs.size)
  have I4 := I3.laid (a := h3.objs.size) (o := .dK []) (h' := h3.push { cls := .type "dict", data := .dict #[] }) (t' := s2.toks) (fun _ _ q => Heap.get?_push_of_some _ q) (Nat.le_refl _) (dk_empty h3 I3.big)
  have q' := q h3.objs.size (Nat.ne_of_gt pl) n4
  refine wpAny_pure ?_
  dsimp only
  rw [if_neg (by simp)]
  refine wpAny_bind (wpAny_pure ?_)
  dsimp only
  refine wpAny_pure ?_
  rw [if_neg (by simp)]
  dsimp only
  refine wpAny_bind (wpAny_bind (wpAny_holding (wpAny_subDict (knd := mixKind X.prog X.w) (by simp) ?_)))
  refine evalPairs_cons (thn (hk.run pins _ σ _ _ I4 q') ?_)
  rintro yv s5 ⟨y, H5, I5, ry, q5⟩
  refine wpAny_bind (thn (hv.run pins s5 σ H5 _ I5 q5) ?_)
  rintro zv s6 ⟨z, H6, I6, rz, ky, ms, rfl, eq, ep, lms, q6⟩
  refine wpAny_bind (wpAny_standAt (wpAny_pure (evalPairs_nil ?_)))
  obtain ⟨_, yq, vq, rq, dq⟩ := dk_of I6.hok eq
  cases rq
  refine ⟨[(ky, zv)], ⟨kV_is ry, rfl, True.intro⟩, dq, fun h7 d7 s7 => ?_⟩
  have he7 : ∃ z, h7.get? h3.objs.size = some z := let ⟨z, _, _, hz, _⟩ := d7; ⟨z, hz⟩
  have k1 : KV [(ky, z)] [(ky, zv)] := .cons ⟨rfl, rz⟩ .nil
  have I7 := d_write (t' := s6.toks + 1) I6 (by rw [eq]; exact True.intro) s7 he7 (dk_new (by rw [sizeLine_eq]; show 1 ≤ 16777216; decide) yq (k1.merge .nil) d7)
  have ep7 : (L2.upd H6 h3.objs.size (.dK (mergeK [] [(ky, z)]))) s.heap.objs.size = some (.dK ms) := (upd_ne (Nat.ne_of_lt pl)).trans ep
  obtain ⟨_, yp7, vp7, rp7, dp7⟩ := dk_of I7.hok ep7
  have lp7 := rp7.length
  refine wpAny_bind (wpAny_onRaise (wpAny_holding (wpAny_mergeDD (Nat.ne_of_lt pl) yq dp7 d7 (fun h8 d8 s8 => ?_) (by rw [← lp7]; show ms.length + 1 ≤ sizeLine; omega))))
  have he8 : ∃ z, h8.get? s.heap.objs.size = some z := let ⟨z, _, _, hz, _⟩ := d8; ⟨z, hz⟩
  have lm8 := length_mergeK [(ky, z)] ms
  have I8 := d_write (t' := s6.toks + 1) I7 (by rw [ep7]; exact True.intro) s8 he8 (dk_new (by rw [List.length_singleton] at lm8; omega) yp7 (k1.merge rp7) d8)
  refine wpAny_pure ?_
  dsimp only
  refine wpAny_pure ⟨.ref s.heap.objs.size, _, I8, rfl, ?_⟩
  exact q6
end
end My

namespace My
open PySem L2 PySem.Spec PyProof.Rows Sem
/-! ### a def with **kw: what it gathers -/
def kwK (ex : List (Str × Value)) : List (Key × Value) := ex.map fun x => (.inr x.1, x.2)
section
variable {prog : Program} {w : World} {A : Around} {E : Value → Shared → Prop} {d : Addr}
theorem nsSet_at {s : Shared} {es : List DictEntry} {n : Nat} {k : Str} {v : Value} {Q : Unit → Shared → Prop} (D : s.heap.get? d = some (PySem.W.dictOf es n)) (hs : ∀ e ∈ es, e.key.isStr k = false) (hr : ∀ e ∈ es, e.refKey = false)
    (h : ∀ h', h'.get? d = some (PySem.W.dictOf (es ++ [⟨PyData.keyHash w.params k, .str k s.toks, v⟩]) (n + 1)) → Heap.SameBut d s.heap h' → Q () { s with heap := h', toks := s.toks + 1 }) : wpAny (model prog w) A (nsSet d k v) Q E s := by
  have e1 : es.any (·.key.isStr k) = false := by
    rw [Bool.eq_false_iff]
    intro q
    obtain ⟨e, he, z⟩ := List.any_eq_true.mp q
    rw [hs e he] at z
    cases z
  have e2 : es.any (·.refKey) = false := by
    rw [Bool.eq_false_iff]
    intro q
    obtain ⟨e, he, z⟩ := List.any_eq_true.mp q
    rw [hr e he] at z
    cases z
  have put : Obj.putName k (PyData.keyHash w.params k) (.str k s.toks) v (PySem.W.dictOf es n) = PySem.W.dictOf (es ++ [⟨PyData.keyHash w.params k, .str k s.toks, v⟩]) (n + 1) := by
    rw [PySem.W.putName_dict, PySem.W.putL_new hs]
    show PySem.W.dictOf _ (if es.any (·.key.isStr k) then n else n + 1) = _
    rw [e1, if_neg Bool.false_ne_true]
  have c : aRefKeyMayBeTheName k es.toArray = false := by
    rw [aRefKeyMayBeTheName_at, ← Array.any_toList, ← Array.any_toList]
    show (!es.any (·.key.isStr k) && es.any (·.refKey)) = false
    rw [e2, Bool.and_false]
  unfold nsSet
  refine wpAny_bind (wpAny_bind (wpAny_askSetting (wpAny_pure (wpAny_bind (wpAny_mkText (wpAny_bind (wpAny_loadPart D ?_)))))))
  dsimp only
  rw [c]
  refine wpAny_updatePart D (h _ ?_ (Heap.SameBut.update ..))
  rw [← put]
  exact Heap.get?_update_self _ D ((congrArg Obj.isFreed put).trans rfl)
theorem fill_at {Q : PUnit → Shared → Prop} : ∀ (ex : List (Str × Value)) (s : Shared) (es : List DictEntry) (n : Nat), s.heap.get? d = some (PySem.W.dictOf es n) → (∀ e ∈ es, ∀ x ∈ ex, e.key.isStr x.1 = false) → (∀ e ∈ es, e.refKey = false) → (ex.map (·.1)).Nodup →
    (∀ h', h'.get? d = some (PySem.W.dictOf (es ++ PySem.W.kwEs w.params s.toks ex) (n + ex.length)) → Heap.SameBut d s.heap h' → Q ⟨⟩ { s with heap := h', toks := s.toks + ex.length }) →
    wpAny (model prog w) A (forIn ex PUnit.unit fun x _ => (nsSet d x.1 x.2 >>= fun _ => Pure.pure (ForInStep.yield PUnit.unit))) Q E s := by
  intro ex
  induction ex with
  | nil =>
    intro s es n D _ _ _ h
    rw [List.forIn_nil]
    refine wpAny_pure (h s.heap ?_ (Heap.SameBut.refl _ _))
    show s.heap.get? d = some (PySem.W.dictOf (es ++ []) (n + 0))
    rw [List.append_nil]
    exact D
  | cons x r ih =>
    intro s es n D h1 h2 h3 h
    rw [List.map_cons, List.nodup_cons] at h3
    rw [List.forIn_cons]
    refine wpAny_bind (wpAny_bind (nsSet_at D (fun e he => h1 e he x List.mem_cons_self) h2 fun h' D' s' => wpAny_pure ?_))
    refine ih { s with heap := h', toks := s.toks + 1 } _ _ D' (fun e he y hy => ?_) (fun e he => ?_) h3.2 fun h5 D5 s5 => ?_
    · rcases List.mem_append.mp he with z | z
      · exact h1 e z y (List.mem_cons_of_mem _ hy)
      · rw [List.mem_singleton.mp z]
        show (x.1 == y.1) = false
        exact beq_false_of_ne fun q => h3.1 (List.mem_map.mpr ⟨y, hy, q.symm⟩)
    · rcases List.mem_append.mp he with z | z
      · exact h2 e z
      · rw [List.mem_singleton.mp z]
        rfl
    · have q := h h5 (by
        rw [D5, List.append_assoc]
        show _ = some (PySem.W.dictOf _ (n + (r.length + 1)))
        rw [show n + 1 + r.length = n + (r.length + 1) by omega]
        rfl) (s'.trans s5)
      have e : s.toks + 1 + r.length = s.toks + (r.length + 1) := by omega
      show Q _ { s with heap := h5, toks := s.toks + 1 + r.length }
      rw [e]
      exact q
theorem kwEs_mix : ∀ (ex : List (Str × Value)) (t : Tok), Pairs (mixKind prog w) (PySem.W.kwEs w.params t ex) (kwK ex)
  | [], _ => Pairs.nil
  | x :: r, t => Pairs.cons (kV_is (P := prog) (w := w) (k := .inr x.1) ⟨t, rfl⟩) rfl (kwEs_mix r (t + 1))
theorem kw_dict {h : Heap} {ex : List (Str × Value)} {t : Tok} {n : Nat} (e : h.get? d = some (PySem.W.dictOf (PySem.W.kwEs w.params t ex) n)) (nd : (ex.map (·.1)).Nodup) : h.DictOf (mixKind prog w) d (kwK ex) := by
  refine ⟨_, _, n, e, ⟨rfl, rfl, rfl⟩, rfl, fun e he => ?_, by simpa using kwEs_mix ex t, ?_⟩
  · obtain ⟨k, u, hk, hh⟩ := PySem.W.kwEs_key ex t e (List.mem_toArray.mp he)
    refine ⟨.inr k, ?_, ?_⟩
    · rw [hk]
      exact kV_is (P := prog) (w := w) (k := .inr k) ⟨u, rfl⟩
    · exact hh.trans rfl
  · unfold kwK
    rw [List.map_map]
    have e2 : ((fun x : Key × Value => x.1) ∘ fun x : Str × Value => ((Sum.inr x.1, x.2) : Key × Value)) = (Sum.inr : Str → Key) ∘ fun x : Str × Value => x.1 := rfl
    rw [e2, ← List.map_map]
    exact List.Pairwise.map _ (fun a b (h : a ≠ b) q => h (Sum.inr.inj q)) nd
end
section
variable {prog : Program} {w : World} {A : Around} {E : Value → Shared → Prop}
theorem gather (kw : List (Str × Value)) (g : Str × Value → List (Str × Value) × List (Str × Value) → Sem (ForInStep (List (Str × Value) × List (Str × Value)))) (hg : ∀ x e, g x ([], e) = Pure.pure (.yield ([], e ++ [x]))) :
    ∀ e : List (Str × Value), forIn kw (([], e) : List (Str × Value) × List (Str × Value)) g = Pure.pure ([], e ++ kw) := by
  induction kw with
  | nil =>
    intro e
    rw [List.forIn_nil, List.append_nil]
  | cons x r ih =>
    intro e
    rw [List.forIn_cons, hg, pure_bind]
    show forIn r ([], e ++ [x]) g = _
    rw [ih, List.append_assoc]
    rfl
theorem bind_kw {fd : FuncData} {kw : List (Str × Value)} {p : Arg} {s : Shared} {Q : List (Str × Value) → Shared → Prop} (h1 : fd.params = { posonlyargs := [], args := [], vararg := none, kwonlyargs := [], kw_defaults := [], kwarg := some p, defaults := [] }) (h2 : fd.defaults = .none) (nd : (kw.map (·.1)).Nodup) (hz : kw.length ≤ 1000)
    (h : ∀ h' tk, h'.DictOf (mixKind prog w) s.heap.objs.size (kwK kw) → (∀ b o, s.heap.get? b = some o → h'.get? b = some o) → Q [(p.arg, .ref s.heap.objs.size)] { s with heap := h', toks := tk }) :
    wpAny (model prog w) A (bindArgs fd ⟨[], kw⟩) Q E s := by
  unfold bindArgs
  rw [h1, h2]
  simp only [List.map_nil, List.append_nil, List.length_nil, List.zip_nil_left, List.contains_nil, Bool.false_or, Option.isSome_some, if_true, Bool.false_eq_true, if_false]
  rw [gather kw _ (fun x e => rfl) [], pure_bind, List.nil_append]
  have e0 : (seqItems? Value.none : Sem (Option (Array Value))) = Pure.pure none := rfl
  rw [e0, pure_bind]
  simp only [Option.getD_none, List.drop_nil, List.take_nil, List.filter_nil, List.isEmpty_nil, List.length_nil, List.zip_nil_left, List.forIn_nil, pure_bind, Bool.not_true, Bool.false_eq_true, if_false, List.filterMap_nil, List.nil_append]
  rw [if_neg (by decide), if_neg (by rw [sizeLine_eq]; omega)]
  refine wpAny_bind (wpAny_alloc (wpAny_bind ?_))
  have D0 : (s.heap.push { cls := Value.type "dict", data := Data.dict #[] }).get? s.heap.objs.size = some (PySem.W.dictOf [] 0) := Heap.get?_push_size _ rfl
  refine fill_at kw { s with heap := s.heap.push { cls := Value.type "dict", data := Data.dict #[] } } [] 0 D0 (fun e he => nomatch he) (fun e he => nomatch he) nd fun h' D' s' => wpAny_pure ?_
  rw [List.nil_append] at D'
  refine h h' (s.toks + kw.length) (kw_dict D' nd) fun b o e => ?_
  have nb : b ≠ s.heap.objs.size := Nat.ne_of_lt (Heap.lt_size e)
  exact (s'.2 b nb).trans (Heap.get?_push_of_some _ e)
/-! ### C.m(k = v, ..), m a staticmethod with **kw alone -/
end
section
variable {X : Cx} {pins : List (Addr × Obj)} {σ : L2.St} {H : Hp} {s : Shared} {C p f : Addr} {m : Str} {mc : Value} {k : Nat}
/-- C.m is a staticmethod: its record at p, its def at f -/
structure StaM (K : PySem.W.Frag) (C : Addr) (m : Str) (f : Addr) : Prop where
  ex : ∃ (mc : Value) (p : Addr) (rest : List Value), PySem.W.readsIn K C mc = true ∧ PySem.W.specialIn K (.ref C) "__getattribute__" = some (some (.builtin "type.__getattribute__")) ∧
    PySem.W.findCls K (.ref C) mc m = some (.get (.builtin "staticmethod.__get__") (.ref p) .none (.ref C)) ∧ PySem.W.recIn K p "staticmethod" = some (.ref f :: rest)
  kp : PySem.W.keepIn K (.ref f) = true
theorem getsta {pl : Sem Bool} {A : Around} {E : Value → Shared → Prop} {Q : Value × List Value → Shared → Prop} (I : Inv X pins σ H s) (r : StaM X.K C m f) (h : ∀ s', Inv X pins σ H s' → Q (.ref f, []) s') : wpAny (model X.prog X.w) A (getMethod (.ref C) m pl) Q E s := by
  obtain ⟨mc, p, rest, r1, r2, r3, r4⟩ := r.ex
  refine PySem.W.method_cls I.kIn r2 (PySem.W.cls_bind I.kIn r1 r3 (wpAny_call (PySem.W.sm_get (s := { s with toks := s.toks + 1 }) I.kIn r4 (PySem.W.handed_on rfl ?_))))
  exact h _ (I.tok _)
/-- the promise of a def whose one parameter is **kw: the pairs handed in -/
def keyV (ks : List Str) (zs : List V) : List (Key × V) := (ks.zip zs).map fun x => (.inr x.1, x.2)
theorem kv_zip : ∀ {ks : List Str} {zs : List V} {us : List Value}, Vals zs us → KV (keyV ks zs) (kwK (ks.zip us))
  | [], _, _, _ => by
    show KV ([] : List (Key × V)) ([] : List (Key × Value))
    exact .nil
  | _ :: _, _, _, .nil => by
    show KV ([] : List (Key × V)) ([] : List (Key × Value))
    exact .nil
  | k :: ks, _, _, .cons r t => .cons ⟨rfl, r⟩ (kv_zip t)
end
end My

namespace My
open PySem L2 PySem.Spec PyProof.Rows Sem
theorem pe_globE {X : Cx} {x : Str} {v : V} {pos : Pos} (hg : Gl X x) (h : ∃ u, X.mg x = some u ∧ RelV v u) (hdb : (x == ("__debug__" : Str)) = false := by decide) : PE X (.Name x pos) (tC v) := by
  obtain ⟨u, h1, h2⟩ := h
  exact pe_glob hg h1 h2 hdb
section
variable {X : Cx} {pins : List (Addr × Obj)} {σ : L2.St} {H : Hp} {s : Shared} {C f : Addr} {fd : FuncData} {m x qual : Str} {k : Nat} {st : Stmt} {N : List Str} {p : Arg} {ks : List Str}
theorem zip_keys : ∀ {ks : List Str} {us : List Value}, us.length = ks.length → (ks.zip us).map (·.1) = ks
  | [], _, _ => rfl
  | k :: ks, [], h => by simp at h
  | k :: ks, u :: us, h => by
    show k :: (ks.zip us).map (·.1) = _
    rw [zip_keys (by simpa using h)]
/-- the promise of such a def: where its dict will stand, the heap with it -/
abbrev SpK := List V → Hp → VK → Prop
theorem go_kw {zs : List V} {us : List Value} {Q : VK} (F : FunD X.K x qual (defArgs st) (defBody st) (defScope st) [] [] f fd) (S : FnScope N [p.arg] (defScope st)) (hp : defArgs st = { posonlyargs := [], args := [], vararg := none, kwonlyargs := [], kw_defaults := [], kwarg := some p, defaults := [] })
    (nd : ks.Nodup) (hz : ks.length ≤ 1000) (hr : RoomG (k + 1) X.A) (I : Inv X pins σ H s) (rz : Vals zs us) (hl : zs.length = ks.length)
    (hb : ∀ (cdv : Value) (s1 : Shared) (d : Addr), H d = none → RoomG k (X.A.deeper (envOfC qual (defScope st) s1.heap.objs.size f cdv)) → ∃ t, PSs (cxOf CX0 X.prog X.w X.K X.mg X.base N qual (defScope st) f cdv X.A X.stack s1 (L2.upd H d (.dK (keyV ks zs))) E0) (defBody st) t ∧
      t { nx := fun _ H' => Q .non H', rt := Q } (L2.start N [.ref d]) (L2.upd H d (.dK (keyV ks zs)))) :
    wpAny (model X.prog X.w) X.A (call (.ref f) [] (ks.zip us)) (EP X pins σ Q) X.xe s := by
  obtain ⟨oc, od, dV, kV, doc, pm, an, cdv, ct, osl, rfl, lk, hcd, hD, _⟩ := F.ex
  have dV0 : dV = .none := by
    rcases hD with ⟨_, z⟩ | ⟨z, _⟩
    · exact z
    · exact absurd rfl z
  subst dV0
  have hlu : us.length = ks.length := rz.length.symm.trans hl
  have ndz : ((ks.zip us).map (·.1)).Nodup := by
    rw [zip_keys hlu]
    exact nd
  have lz : (ks.zip us).length ≤ 1000 := by
    rw [List.length_zip]
    omega
  refine wpAny_call (codeAny_mono (R := fun r s' => match r with | .ok (.ret u) => EP X pins σ Q u s' | _ => False) ?_ fun r s' hq => ?_)
  · refine codeAny_call_function hr.r.depth (I.kIn _ _ lk) rfl S.co S.gen rfl (PySem.W.codeRec_of I.kIn hcd) (bind_kw (by exact hp) rfl ndz lz fun h' tk hd hk => ?_)
    have nH := I.hok.fresh (Nat.le_refl s.heap.objs.size)
    have rel : KV (keyV ks zs) (kwK (ks.zip us)) := kv_zip rz
    have zl : (keyV ks zs).length ≤ sizeLine := by
      unfold keyV
      rw [List.length_map, List.length_zip, sizeLine_eq]
      omega
    have I1 := I.laid (a := s.heap.objs.size) (t' := tk) hk (Nat.le_refl _) (o := .dK (keyV ks zs)) ⟨zl, beq_eq_false_iff_ne.mpr (Ne.symm (Nat.ne_of_lt I.big)), _, rel, hd⟩
    have e0 := I1.env0
    refine wpAny_newFunctionEnv_cells S.kind ?_ fun env he s1 xx => ?_
    · rintro ⟨n, v⟩ hy
      have hn : n = p.arg := (show n = p.arg ∧ v = Value.ref s.heap.objs.size by simpa using hy).1
      subst hn
      cases S.par _ (List.mem_singleton.mpr rfl) with
      | inl q => exact Or.inl q
      | inr q => exact Or.inr ⟨q, PySem.W.cellsFrom_some _ _ _ (Or.inl q)⟩
    · subst he
      refine ⟨(I1.nolimit).keeps xx.toInCall.keep, codeAny_func ?_⟩
      obtain ⟨t, ht, hq⟩ := hb cdv { s with heap := h', toks := tk } s.heap.objs.size nH ⟨hr.r.deeper _, hr.g⟩
      have I0 := inv_start (CX := CX0) (P := X.prog) (E := E0) (ps := [p.arg]) (us := [.ref s.heap.objs.size]) (vs := [.ref s.heap.objs.size]) S hr.r.hd e0 rfl (.cons rfl .nil) xx
      refine wpAny_mono (ht.run [] s1 (L2.start N [.ref s.heap.objs.size]) _ _ I0 hq) ?_ (fun _ _ z => ?_)
      · intro fl s' hs
        have fin : ∀ {u : Value} {v : V} {H' : Hp} {σ' : L2.St}, Inv (cxOf CX0 X.prog X.w X.K X.mg X.base N qual (defScope st) f cdv X.A X.stack { s with heap := h', toks := tk } (L2.upd H s.heap.objs.size (.dK (keyV ks zs))) E0) [] σ' H' s' → RelV v u → Q v H' → EP X pins σ Q u s' := fun {u v H' σ'} J rv q => I1.after ⟨v, H', J.os, J.bare, J.base, J.hok, rv, q⟩
        cases fl with
        | ret u => obtain ⟨v, σ', H', J, rv, q⟩ := hs; exact fin J rv q
        | next => obtain ⟨σ', H', J, q⟩ := hs; exact fin (v := V.non) J rfl q
        | brk => exact hs.elim fun _ z => z.elim fun _ y => y.2.elim
        | cont => exact hs.elim fun _ z => z.elim fun _ y => y.2.elim
      · exact z
  · cases r with
    | error e => exact (show False from hq).elim
    | ok fl => cases fl with
      | ret u => exact hq
      | next => exact (show False from hq).elim
      | brk => exact (show False from hq).elim
      | cont => exact (show False from hq).elim
/-- C.m(k = v, ..) -/
def tStaK (l : Nat) (sp : SpK) (tk : TA) : TE := fun σ H Q => tk σ H fun zs H1 => zs.length = l ∧ sp zs H1 Q
/-- a staticmethod with **kw by its class's name -/
structure StaK (P : Program) (w : World) (K : PySem.W.Frag) (mg : Str → Option Value) (base : Heap) (y : Str) (C : Addr) (m : Str) (k : Nat) (ks : List Str) (sp : SpK) : Prop where
  ex : ∃ (f : Addr) (fd : FuncData) (qual : Str) (st : Stmt) (N : List Str) (p : Arg), mg y = some (.ref C) ∧ StaM K C m f ∧ FunD K m qual (defArgs st) (defBody st) (defScope st) [] [] f fd ∧ FnScope N [p.arg] (defScope st) ∧
    defArgs st = { posonlyargs := [], args := [], vararg := none, kwonlyargs := [], kw_defaults := [], kwarg := some p, defaults := [] } ∧ ks.Nodup ∧ ks.length ≤ 1000 ∧
    ∀ (cdv : Value) (A : Around) (outer : List Env) (s1 : Shared) (H : Hp) (zs : List V) (Q : VK) (d : Addr), zs.length = ks.length → H d = none → sp zs H Q → RoomG k (A.deeper (envOfC qual (defScope st) s1.heap.objs.size f cdv)) →
      ∃ t, PSs (cxOf CX0 P w K mg base N qual (defScope st) f cdv A outer s1 (L2.upd H d (.dK (keyV ks zs))) E0) (defBody st) t ∧ t { nx := fun _ H' => Q .non H', rt := Q } (L2.start N [.ref d]) (L2.upd H d (.dK (keyV ks zs)))
theorem pe_staK {y : Str} {sp : SpK} {tk : TA} {kws : List Keyword} {p1 pos apos : Pos} {pl : Sem Bool} (D : StaK X.prog X.w X.K X.mg X.base y C m k ks sp) (hr : RoomG (k + 1) X.A) (hg : Gl X y) (hkw : PK X kws tk)
    (hall : (backToKw pos (keywordEach kws X.env)).all (·.1.isSome) = true := by rfl) (hks : (backToKw pos (keywordEach kws X.env)).filterMap (·.1) = ks := by rfl)
    (hpl : ((backTo pos (starEach [] X.env)).any (fun q => q.1) || (backToKw pos (keywordEach kws X.env)).any (fun q => q.1.isNone)) = false := by rfl)
    (h3 : eval (.Call (.Attribute (.Name y p1) m apos) [] kws pos) X.env = (do
      let v ← eval (.Name y p1) X.env
      standAt apos.atName
      let (g, fst) ← holding [v] (getMethod v m pl)
      callWith pos g fst (backTo pos (starEach [] X.env)) (backToKw pos (keywordEach kws X.env))) := by rfl) (hdb : (y == ("__debug__" : Str)) = false := by decide) : PE X (.Call (.Attribute (.Name y p1) m apos) [] kws pos) (tStaK ks.length sp tk) := by
  obtain ⟨f, fd, qual, st, N, p, hm, hS, F, S, hp, nd, hz, hb⟩ := D.ex
  constructor
  intro pins s σ H Q I h
  refine PySem.W.methodCall_KW (pl := pl) (ld_glob I hg hm ?_ hdb) h3
  refine getsta I hS fun s1 I1 => ?_
  refine PySem.W.callWith_KW0 (first := []) (h₀ := X.base) I1.ok.mod.kin hS.kp hall ?_ hpl
  refine thn (hkw.run pos pins s1 σ H _ I1 h) fun ws s2 ⟨zs, H2, I2, rz, l2, q2⟩ => ⟨I2.kIn, ?_⟩
  rw [hks]
  exact go_kw F S hp nd hz hr I2 rz l2 fun cdv s3 d nd' hr' => hb cdv X.A X.stack s3 H2 zs Q d l2 nd' q2 hr'
end
end My

namespace My
open PySem L2 PySem.Spec PyProof.Rows PySem.W
/-! ### an end by one run of the top -/
theorem walkGE {l : OpenLaw} {n k : Nat} {q : Program} {loose : List Str} {XP : (Str → Option Value) → Heap → Prop} {YP : World → Heap → Prop} {d : DefRec} {x : Str} (hn : l.most = some n) (hn2 : n ≤ sizeLine) (hdf : d.params.defaults = []) (hr : RoomG k callerA)
    (F : ∀ (w : World) (mg : Str → Option Value) (fa : Addr) (h : Heap), YP w h → h.Ns mainGlobals mg → mg d.name = some (.ref fa) → ∃ (K : Frag) (fd : FuncData) (sp : Sp), K.In h ∧ (∀ (s : Shared) (u : Value), BindsTo s fd ⟨[u], []⟩ [(x, u)]) ∧
      (∀ (H : Hp) (a : Addr) (ns : List Int), ns.length ≤ n → Only H → SqL K H a (ns.map V.int) → sp [.ref a] H (fun v _ => v = .bl true) E0) ∧ ∀ base : Heap, K.In base → base.Ns mainGlobals mg → FnG l.prog w K mg base CX0 k fa fd [x] sp) :
    WalkO q loose XP YP l.row.toRowW d [] (fun f vs => PySem.call f vs) := by
  refine Att.attach_call hn hdf ?_
  intro w s₀ s₁ mg mb fa o pm cd doc a vs ns G Y ho hd hcd hmg hobj hints hlen hg
  obtain ⟨K, fd, sp, KX, hb, hsp, hF⟩ := F w mg fa _ Y G.T.g hmg
  exact lawG KX G.T.g G.T.b G.T.builtins G.T.nolimit hg hobj hints (Nat.le_trans hlen hn2) hr hF hb fun H h1 h2 => hsp H a ns hlen h1 h2
/-! ### the facts of an exception class as one test -/
theorem exfB_ok {K : Frag} {C : Addr} {mro : List Value} {newId : String} (h : exfB K C mro newId = true) : ∃ (nm qn : Str) (bs sb : List Value) (ns : Addr) (sn : List Str) (ab : Bool) (co : Option Bool) (dd : Option Addr) (k0 k1 k2 k3 k5 : Option Value),
    K.lookup C = some ⟨.type "type", dd, .cls ⟨nm, bs, mro, ns, qn, true, sn, sb, ab, co, false⟩, #[k0, k1, k2, k3, some (.builtin newId), k5]⟩ := by
  unfold exfB at h
  split at h
  · rename_i c dd cd sl e
    simp only [Bool.and_eq_true, decide_eq_true_eq, Bool.not_eq_true'] at h
    obtain ⟨h1, h2, h3, h4, h5, h6⟩ := h
    obtain ⟨nm, bs, mr, ns, qn, hd, sn, sb, ab, co, hl⟩ := cd
    obtain ⟨l⟩ := sl
    dsimp only at h1 h2 h3 h4 h5 h6
    subst h1
    subst h2
    subst h3
    subst h4
    match l, h5, h6 with
    | [a0, a1, a2, a3, a4, a5], _, h6 =>
      have e4 : a4 = some (.builtin newId) := Option.some.inj h6
      subst e4
      exact ⟨nm, qn, bs, sb, ns, sn, ab, co, dd, a0, a1, a2, a3, a5, e⟩
  · cases h
theorem excB_ok {K : Frag} {C : Addr} {mro : List Value} {newId : String} (h : excB K C mro newId = true) : ExF K C mro newId := by
  unfold excB eqO at h
  simp only [Bool.and_eq_true, decide_eq_true_eq] at h
  obtain ⟨h1, h2, h3, h4, h5, h6, h7⟩ := h
  exact ⟨exfB_ok h1, h2, h3, h4, h5, h6, h7⟩
theorem iniB_ok {K : Frag} {C : Addr} (h : iniB K C = true) : findIn K (.ref C) "__init__" = some (some (.ref (He.ma K C "__init__"))) ∧ isFn K (.ref (He.ma K C "__init__")) = true := by
  unfold iniB eqO at h
  simp only [Bool.and_eq_true, decide_eq_true_eq] at h
  exact h
/-- tests one behind the other, each found again by its place -/
theorem all_at {ts : List Bool} (h : (ts.all id) = true) (i : Nat) {b : Bool} (e : ts[i]? = some b) : b = true := by
  exact List.all_eq_true.mp h b (List.mem_of_getElem? e)
end My

namespace My
open PySem L2 PySem.Spec PyProof.Rows PySem.W
/-! ### defs that stand elsewhere: a staticmethod's, a property's -/
theorem funA {K : Frag} {a : Addr} {d : He.DefD} (e : fnA K a = d.val) (c : okA K a d = true) : ∃ fd, FunD K d.name d.qual d.params d.body d.scope (d.dvs K) (d.kws K) a fd := by
  obtain ⟨kp, c2⟩ := He.ba c
  unfold fnA at e
  cases q : K.lookup a with
  | none =>
    rw [q] at c2
    cases c2
  | some o =>
    obtain ⟨oc, od, dt, osl⟩ := o
    rw [q] at c2 e
    cases dt with
    | func fd =>
      obtain ⟨n1, n2, n3, n4, n5, n6, n7, n8, n9, n10, n11, n12, n13, n14, n15⟩ := fd
      have e2 : (some (n1, n2, n3, n4, n5, n6, n7, n15) : He.FnW) = some (d.name, d.qual, d.params, .stmts d.body, d.scope, mainGlobals, [], builtinsNs) := e
      simp only [Option.some.injEq, Prod.mk.injEq] at e2
      obtain ⟨h1, h2, h3, h4, h5, h6, h7, h8⟩ := e2
      subst h1 h2 h3 h4 h5 h6 h7 h8
      obtain ⟨k1, k2⟩ := He.ba (show (codeIn K n13 d.qual && (He.dflB K n8 (d.dvs K) && He.kwdB K n9 (d.kws K))) = true from c2)
      obtain ⟨k3, k4⟩ := He.ba k2
      exact ⟨_, ⟨oc, od, n8, n9, n10, n11, n12, n13, n14, osl, rfl, q, k1, He.dflB_ok k3, He.kwdB_ok k4⟩, kp⟩
    | _ => cases c2
section
variable {fa : List He.Fa} {fn : List He.DefD} {ad : List AtD} {ex : Frag → Bool} {K : Frag}
theorem SaysY.d (c : SaysY fa fn ad ex K) : He.SaysD fa fn K := congrArg (fun z : AlY => z.1) c
theorem SaysY.more (c : SaysY fa fn ad ex K) : ex K = true ∧ (ad.all fun d => okA K (d.1 K) d.2) = true := He.ba (congrArg (fun z : AlY => z.2.1) c)
theorem SaysY.at_ (c : SaysY fa fn ad ex K) (i : Nat) {d : AtD} (h : ad[i]? = some d) : ∃ fd, FunD K d.2.name d.2.qual d.2.params d.2.body d.2.scope (d.2.dvs K) (d.2.kws K) (d.1 K) fd := by
  have e : (ad.map fun d => fnA K (d.1 K)) = ad.map fun d => d.2.val := congrArg (fun z : AlY => z.2.2) c
  have e2 := congrArg (fun l => l[i]?) e
  simp only [List.getElem?_map, h, Option.map_some, Option.some.injEq] at e2
  exact funA e2 (List.all_eq_true.mp c.more.2 d (List.mem_of_getElem? h))
end
/-! ### staticmethods -/
theorem staB_ok {K : Frag} {C : Addr} {m : Str} (h : staB K C m = true) : StaM K C m (staF K C m) := by
  obtain ⟨h1, h2⟩ := He.ba h
  obtain ⟨h3, h4⟩ := He.ba h2
  have h5 : specialIn K (.ref C) "__getattribute__" = some (some (.builtin "type.__getattribute__")) := of_decide_eq_true h3
  have key : ∀ g p o t, findCls K (.ref C) (.type "type") m = some (.get g (.ref p) o t) → StaM K C m (staF K C m) := by
    intro g p o t e
    have ep : staP K C m = p := by
      unfold staP
      rw [e]
    rw [e] at h4
    obtain ⟨k1, k2⟩ := He.ba (show (decide (g = .builtin "staticmethod.__get__") && _) = true from h4)
    obtain ⟨k3, k4⟩ := He.ba k2
    obtain ⟨k5, k6⟩ := He.ba k4
    have g1 := of_decide_eq_true k1
    have g2 := of_decide_eq_true k3
    have g3 := of_decide_eq_true k5
    subst g1
    subst g2
    subst g3
    rw [ep] at k6
    split at k6
    · rename_i f rest er
      have ef : staF K C m = f := by
        unfold staF
        rw [ep, er]
      rw [ef]
      rw [ef] at k6
      exact ⟨⟨_, p, rest, h1, h5, e, er⟩, k6⟩
    · cases k6
  revert h4
  split
  · rename_i g p o t e
    intro _
    exact key g p o t e
  · intro z
    cases z
theorem int_okE {K : Frag} {h : Heap} {mg : Str → Option Value} (X : K.In h) (G : h.Ns mainGlobals mg) {x : Str} {i : Int} (c : (He.Fa.int x i).ok K = true) : ∃ u, mg x = some u ∧ RelV (.int i) u := by
  obtain ⟨t, e⟩ := He.int_ok X G c
  exact ⟨_, e, ⟨t, rfl⟩⟩
theorem str_okE {K : Frag} {h : Heap} {mg : Str → Option Value} (X : K.In h) (G : h.Ns mainGlobals mg) {x z : Str} (c : (He.Fa.str x z).ok K = true) : ∃ u, mg x = some u ∧ RelV (.str z) u := by
  obtain ⟨t, e⟩ := He.str_ok X G c
  exact ⟨_, e, ⟨t, rfl⟩⟩
/-- an own object's class, as isinstance sees it -/
theorem ins_ok {K : Frag} {C : Addr} (k : Cls K C) (ha : findIn K (.ref C) "__class__" = some (some (.builtin "object.__class__"))) (hn : specialIn K (.builtin "object.__class__") "__get__" = some (some (.builtin "getset_descriptor.__get__"))) (ht : takesIn K (.builtin "object.__class__") = some true)
    (hm : mroIn K C (.type "object") = some true) : ∀ {H : Hp} {a dx : Addr} {fs : List (Str × V)}, H a = some (.ins C dx fs) → TyOf K H (.ref a) (.ref C) := fun e => .ins e k ha hn ht hm
end My

namespace My
open PySem L2 PySem.Spec PyProof.Rows PySem.W
/-! ### displays over a dict's keys, over texts -/
theorem dc_it {J : It} {n : Nat} {G : Hp → Prop} {Y : Nat → Hp → V → Hp → Prop} (w : Walk J n G Y) {g : TG} {tt : TT} {tk tv : TE} {vs : List Nat} {σ : L2.St} {H1 : Hp} {D : Addr} {Qd : Hp → Prop} (Pv : Nat → Hp → Prop) (h0 : Pv 0 (L2.upd H1 D (.dK []))) (hG : ∀ i H, i ≤ n → Pv i H → G H)
    (hs : ∀ i x H H', i < n → Pv i H → Y i H x H' → g x (wipe σ vs) H' fun σ2 H2 => wipe σ2 vs = wipe σ vs ∧ tt σ2 H2 fun b H3 =>
      if b = true then tk σ2 H3 fun y H4 => tv σ2 H4 fun z H5 => ∃ kvs k, y = kV k ∧ H5 D = some (.dK kvs) ∧ kvs.length < sizeLine ∧ Pv (i + 1) (L2.upd H5 D (.dK (putK kvs k z))) else Pv (i + 1) H3) (hd : ∀ H, Pv n H → Qd H) :
    ∃ W : Nat → Nat → Hp → Prop, (∃ m, W 0 m (L2.upd H1 D (.dK []))) ∧ ∀ i m H, W i m H →
      (J.stop i H ∧ Qd H) ∨ (J.go i H ∧ ∃ Nx : Hp → Prop, (∀ H', Nx H' → ∃ m', m' < m ∧ W (i + 1) m' H') ∧ ∀ x H', J.yld i H x H' → g x (wipe σ vs) H' fun σ2 H2 => wipe σ2 vs = wipe σ vs ∧ tt σ2 H2 fun b H3 =>
        if b = true then tk σ2 H3 fun y H4 => tv σ2 H4 fun z H5 => ∃ kvs k, y = kV k ∧ H5 D = some (.dK kvs) ∧ kvs.length < sizeLine ∧ Nx (L2.upd H5 D (.dK (putK kvs k z))) else Nx H3) := by
  refine ⟨fun i m H => m = n - i ∧ (i ≤ n ∧ Pv i H), ⟨n, ⟨by simp, Nat.zero_le _, h0⟩⟩, fun i m H hW => ?_⟩
  obtain ⟨rfl, hi, p⟩ := hW
  have q := hG i H hi p
  rcases Nat.lt_or_ge i n with hlt | hge
  · exact .inr ⟨w.goes i H hlt q, Pv (i + 1), fun H' p' => ⟨n - (i + 1), by omega, ⟨rfl, hlt, p'⟩⟩, fun x H' y => hs i x H H' hlt p (w.yields i H x H' hlt q y)⟩
  · obtain rfl : i = n := Nat.le_antisymm hi hge
    exact .inl ⟨w.stops H q, hd H p⟩
theorem putK_new {κ : Type} [DecidableEq κ] {kvs : List (κ × V)} {k : κ} {v : V} (h : ∀ p ∈ kvs, p.1 ≠ k) : putK kvs k v = kvs ++ [(k, v)] := by
  unfold putK
  rw [if_neg]
  intro z
  obtain ⟨p, hp, e⟩ := List.any_eq_true.mp z
  exact h p hp (of_decide_eq_true e)
theorem dk_append (a b : List (Str × Int)) : dk (a ++ b) = dk a ++ dk b := List.map_append
theorem dk_at {d : List (Str × Int)} {i : Nat} {k : Key} {v : V} (h : (dk d)[i]? = some (k, v)) : ∃ p, d[i]? = some p ∧ k = .inr p.1 := by
  unfold dk at h
  rw [List.getElem?_map] at h
  cases e : d[i]? with
  | none => rw [e] at h; cases h
  | some p =>
    rw [e] at h
    have h2 := Option.some.inj h
    exact ⟨p, rfl, (congrArg Prod.fst h2).symm⟩
/-- one more, at its end, in the dict of the first i -/
theorem putK_dk {d : List (Str × Int)} {i : Nat} {p : Str × Int} (nd : (d.map (·.1)).Nodup) (h : d[i]? = some p) : putK (dk (d.take i)) (.inr p.1) (.int p.2) = dk (d.take (i + 1)) := by
  rw [putK_new]
  · rw [List.take_add_one, h, dk_append]
    rfl
  · intro q hq e
    obtain ⟨r, hr, rfl⟩ := List.mem_map.mp hq
    have e2 : r.1 = p.1 := Sum.inr.inj e
    obtain ⟨j, hj, ej⟩ := List.getElem_of_mem hr
    rw [List.length_take] at hj
    obtain ⟨hi, ei⟩ := List.getElem?_eq_some_iff.mp h
    have hj2 : j < d.length := by omega
    rw [List.getElem_take] at ej
    have hne := (List.nodup_iff_pairwise_ne.mp nd)
    have := List.pairwise_iff_getElem.mp hne j i (by simpa using hj2) (by simpa using hi) (by omega)
    simp only [List.getElem_map] at this
    rw [ej, ei] at this
    exact this e2
section
variable {K : PySem.W.Frag} {d : List (Str × Int)} {q : Addr} {g : TG} {te tk tv td : TE} {vs : List Nat} {σ : L2.St} {H : Hp} {Q : VK}
/-- [e for k in d]: Rel by the list's place, the turn, the value -/
theorem lock_lcR (Rel : Addr → Nat → V → Hp → Prop) (hq : H q = some (.dK (dk d))) (hl : d.length < 1000)
    (hm : ∀ D i v H1 H2, (∀ x o, x ≠ q → x ≠ D → H1 x = some o → H2 x = some o) → Rel D i v H1 → Rel D i v H2)
    (ht : ∀ (H' : Hp) (R : VK), (∀ x, x ≠ q → H' x = H x) → R (.ref q) H' → td σ H' R)
    (hs : ∀ (od : Obj) (D : Addr) (i : Nat) (p : Str × Int) (H' : Hp) (R : VK) (F : Hp → Prop), d[i]? = some p → H D = none → D ≠ q → H' q = some (.frz od (.dK (dk d))) → (∀ x o, x ≠ q → H x = some o → H' x = some o) → H' D ≠ none →
      (∀ v H5, L2.Same H' H5 → Rel D i v H5 → R v H5) → g (.str p.1) (wipe σ vs) H' fun σ2 H2 => wipe σ2 vs = wipe σ vs ∧ tYes σ2 H2 fun b H3 => if b = true then te σ2 H3 R else F H3)
    (hQ : ∀ D H' xs, H D = none → L2.Same H H' → H' D = some (.lst xs) → xs.length = d.length → (∀ i v, xs[i]? = some v → Rel D i v H') → Q (.ref D) H') : tLockE (tLc (iKeys td) g tYes te vs) σ H Q := by
  refine ⟨q, _, hq, True.intro, fun od => ?_⟩
  refine s_lc ?_
  refine ht _ _ (fun x e => upd_ne e) ?_
  refine ⟨q, od, rfl, .inl ⟨_, upd_same, fun D nD => ?_⟩⟩
  have hDq : D ≠ q := fun e => by
    rw [e, upd_same] at nD
    cases nD
  have nD0 : H D = none := by
    rw [upd_ne hDq] at nD
    exact nD
  refine L2.lc_it walk_keys (fun i H' => H' q = some (.frz od (.dK (dk d))) ∧ (∀ x o, x ≠ q → H x = some o → H' x = some o) ∧ ∃ xs, H' D = some (.lst xs) ∧ xs.length = i ∧ ∀ j v, xs[j]? = some v → Rel D j v H') ?_ (fun _ _ _ h => h.1) ?_ ?_
  · refine ⟨(upd_ne hDq.symm).trans upd_same, fun x o hx e => ?_, [], upd_same, rfl, fun j v e => by cases e⟩
    have hxD : x ≠ D := fun z => by
      rw [z, nD0] at e
      cases e
    exact (upd_ne hxD).trans ((upd_ne hx).trans e)
  · rintro i x H1 H2 hi ⟨h1, h2, xs, hD, hlen, hr⟩ ⟨rfl, k, v, hk, rfl⟩
    obtain ⟨p, hp, rfl⟩ := dk_at hk
    refine hs od D i p H2 _ _ hp nD0 hDq h1 h2 (by rw [hD]; simp) (fun y H5 s5 r5 => ⟨xs, s5 _ _ hD, ?_, ?_⟩)
    · rw [dk_length] at hi
      rw [sizeLine_eq]
      omega
    · have up : ∀ x o, x ≠ q → x ≠ D → H5 x = some o → (L2.upd H5 D (.lst (xs ++ [y]))) x = some o := fun x o _ hx e => (upd_ne hx).trans e
      refine ⟨(upd_ne hDq.symm).trans (s5 _ _ h1), fun x o hx e => ?_, _, upd_same, by rw [List.length_append, hlen]; rfl, fun j z ez => ?_⟩
      · have hxD : x ≠ D := fun z => by
          rw [z, nD0] at e
          cases e
        exact (upd_ne hxD).trans (s5 _ _ (h2 x o hx e))
      · rcases Nat.lt_or_ge j xs.length with hj | hj
        · rw [List.getElem?_append_left hj] at ez
          exact hm D j z _ _ up (hm D j z _ _ (fun x o _ _ e => s5 x o e) (hr j z ez))
        · rw [List.getElem?_append_right hj] at ez
          have ej : j = i := by
            rcases Nat.eq_or_lt_of_le hj with e | e
            · omega
            · rw [List.getElem?_eq_none (by simp; omega)] at ez
              cases ez
          subst ej
          rw [hlen, Nat.sub_self] at ez
          have e2 : y = z := Option.some.inj ez
          subst e2
          exact hm D j y _ _ up r5
  · rintro H1 ⟨h1, h2, xs, hD, hlen, hr⟩
    refine ⟨h1, hQ D _ xs nD0 (fun x o e => ?_) ((upd_ne hDq).trans hD) (hlen.trans (dk_length d)) fun i v e => hm D i v _ _ (fun x o hx _ e => (upd_ne hx).trans e) (hr i v e)⟩
    by_cases hx : x = q
    · subst hx
      rw [upd_same, ← hq]
      exact e
    · exact (upd_ne hx).trans (h2 x o hx e)
/-- .. whose values are no new things -/
theorem lock_lc (f : Str × Int → V) (hq : H q = some (.dK (dk d))) (hl : d.length < 1000)
    (ht : ∀ (H' : Hp) (R : VK), (∀ x, x ≠ q → H' x = H x) → R (.ref q) H' → td σ H' R)
    (hs : ∀ (od : Obj) (D : Addr) (i : Nat) (p : Str × Int) (H' : Hp) (R : VK) (F : Hp → Prop), d[i]? = some p → H D = none → D ≠ q → H' q = some (.frz od (.dK (dk d))) → (∀ x o, x ≠ q → H x = some o → H' x = some o) → H' D ≠ none →
      (∀ H5, L2.Same H' H5 → R (f p) H5) → g (.str p.1) (wipe σ vs) H' fun σ2 H2 => wipe σ2 vs = wipe σ vs ∧ tYes σ2 H2 fun b H3 => if b = true then te σ2 H3 R else F H3)
    (hQ : ∀ D H', H D = none → L2.Same H H' → H' D = some (.lst (d.map f)) → Q (.ref D) H') : tLockE (tLc (iKeys td) g tYes te vs) σ H Q := by
  refine lock_lcR (fun _ i v _ => d[i]?.map f = some v) hq hl (fun _ _ _ _ _ _ h => h) ht (fun od D i p H' R F h1 h2 h3 h4 h5 h6 h7 => hs od D i p H' R F h1 h2 h3 h4 h5 h6 fun H5 s5 => h7 _ H5 s5 (by rw [h1]; rfl)) fun D H' xs h1 h2 h3 h4 h5 => hQ D H' h1 h2 ?_
  rw [h3]
  congr 2
  refine List.ext_getElem (by rw [h4, List.length_map]) fun i hi hj => ?_
  have := h5 i xs[i] (List.getElem?_eq_getElem hi)
  rw [List.getElem?_eq_getElem (by rw [← h4]; exact hi)] at this
  rw [List.getElem_map]
  exact (Option.some.inj this).symm
/-- {k: e for k in d} -/
theorem lock_dc (f : Str × Int → Int) (hq : H q = some (.dK (dk d))) (hl : d.length < 1000) (nd : (d.map (·.1)).Nodup)
    (ht : ∀ (H' : Hp) (R : VK), (∀ x, x ≠ q → H' x = H x) → R (.ref q) H' → td σ H' R)
    (hs : ∀ (od : Obj) (D : Addr) (i : Nat) (p : Str × Int) (H' : Hp) (R : V → V → Hp → Prop) (F : Hp → Prop), d[i]? = some p → H D = none → D ≠ q → H' q = some (.frz od (.dK (dk d))) → (∀ x o, x ≠ q → H x = some o → H' x = some o) → H' D ≠ none →
      (∀ H5, L2.Same H' H5 → R (.str p.1) (.int (f p)) H5) → g (.str p.1) (wipe σ vs) H' fun σ2 H2 => wipe σ2 vs = wipe σ vs ∧ tYes σ2 H2 fun b H3 => if b = true then tk σ2 H3 fun y H4 => tv σ2 H4 fun z H5 => R y z H5 else F H3)
    (hQ : ∀ D H', H D = none → L2.Same H H' → H' D = some (.dK (dk (d.map fun p => (p.1, f p)))) → Q (.ref D) H') : tLockE (tDc (iKeys td) g tYes tk tv vs) σ H Q := by
  refine ⟨q, _, hq, True.intro, fun od => ?_⟩
  refine ht _ _ (fun x e => upd_ne e) ?_
  refine ⟨q, od, rfl, .inl ⟨_, upd_same, fun D nD => ?_⟩⟩
  have hDq : D ≠ q := fun e => by
    rw [e, upd_same] at nD
    cases nD
  have nD0 : H D = none := by
    rw [upd_ne hDq] at nD
    exact nD
  have nd2 : ((d.map fun p => (p.1, f p)).map (·.1)).Nodup := by
    rw [List.map_map]
    exact nd
  refine dc_it walk_keys (fun i H' => H' q = some (.frz od (.dK (dk d))) ∧ (∀ x o, x ≠ q → H x = some o → H' x = some o) ∧ H' D = some (.dK (dk ((d.map fun p => (p.1, f p)).take i)))) ?_ (fun _ _ _ h => h.1) ?_ ?_
  · refine ⟨(upd_ne hDq.symm).trans upd_same, fun x o hx e => ?_, upd_same⟩
    have hxD : x ≠ D := fun z => by
      rw [z, nD0] at e
      cases e
    exact (upd_ne hxD).trans ((upd_ne hx).trans e)
  · rintro i x H1 H2 hi ⟨h1, h2, hD⟩ ⟨rfl, k, v, hk, rfl⟩
    obtain ⟨p, hp, rfl⟩ := dk_at hk
    refine hs od D i p H2 (fun y z H5 => ∃ kvs k, y = kV k ∧ H5 D = some (.dK kvs) ∧ kvs.length < sizeLine ∧ _) _ hp nD0 hDq h1 h2 (by rw [hD]; simp) (fun H5 s5 => ⟨_, .inr p.1, rfl, s5 _ _ hD, ?_, ?_⟩)
    · rw [dk_length, List.length_take, List.length_map, sizeLine_eq]
      omega
    · rw [putK_dk (p := (p.1, f p)) nd2 (by rw [List.getElem?_map, hp]; rfl)]
      refine ⟨(upd_ne hDq.symm).trans (s5 _ _ h1), fun x o hx e => ?_, upd_same⟩
      have hxD : x ≠ D := fun z => by
        rw [z, nD0] at e
        cases e
      exact (upd_ne hxD).trans (s5 _ _ (h2 x o hx e))
  · rintro H1 ⟨h1, h2, hD⟩
    rw [dk_length, List.take_of_length_le (by rw [List.length_map]; exact Nat.le_refl _)] at hD
    refine ⟨h1, hQ D _ nD0 (fun x o e => ?_) ((upd_ne hDq).trans hD)⟩
    by_cases hx : x = q
    · subst hx
      rw [upd_same, ← hq]
      exact e
    · exact (upd_ne hx).trans (h2 x o hx e)
theorem s_tdc {wi : TI} {tt : TT} (h : wi σ H fun J H1 => ∀ D, H1 D = none → ∃ W : Nat → Nat → Hp → Prop, (∃ m, W 0 m (L2.upd H1 D (.dK []))) ∧ ∀ i m H, W i m H →
  (J.stop i H ∧ Q (.ref D) H) ∨ (J.go i H ∧ ∃ Nx : Hp → Prop, (∀ H', Nx H' → ∃ m', m' < m ∧ W (i + 1) m' H') ∧ ∀ x H', J.yld i H x H' → g x (wipe σ vs) H' fun σ2 H2 => wipe σ2 vs = wipe σ vs ∧ tt σ2 H2 fun b H3 =>
    if b = true then tk σ2 H3 fun y H4 => tv σ2 H4 fun z H5 => ∃ kvs k, y = kV k ∧ H5 D = some (.dK kvs) ∧ kvs.length < sizeLine ∧ Nx (L2.upd H5 D (.dK (putK kvs k z))) else Nx H3)) : tDc wi g tt tk tv vs σ H Q := h
/-- {y: e for y in ys}, ys texts of which Cond holds -/
theorem list_dc {ta : TE} (Cond : List Str → Prop) (f : Str → Int) (hc : ∀ ys, Cond ys → ys.length < 1000 ∧ ys.Nodup)
    (ht : ∀ R : VK, (∀ ys p H', Cond ys → SqL K H' p (ys.map V.str) → L2.Same H H' → R (.ref p) H') → ta σ H R)
    (hs : ∀ (ys : List Str) (D : Addr) (i : Nat) (y : Str) (H' : Hp) (R : V → V → Hp → Prop) (F : Hp → Prop), Cond ys → ys[i]? = some y → H D = none → L2.Same H H' → H' D ≠ none →
      (∀ H5, L2.Same H' H5 → R (.str y) (.int (f y)) H5) → g (.str y) (wipe σ vs) H' fun σ2 H2 => wipe σ2 vs = wipe σ vs ∧ tYes σ2 H2 fun b H3 => if b = true then tk σ2 H3 fun y H4 => tv σ2 H4 fun z H5 => R y z H5 else F H3)
    (hQ : ∀ ys D H', Cond ys → H D = none → L2.Same H H' → H' D = some (.dK (dk (ys.map fun y => (y, f y)))) → Q (.ref D) H') : tDc (iList K ta) g tYes tk tv vs σ H Q := by
  refine ht _ fun ys p H0 cy e0 s0 => ?_
  obtain ⟨hl, nd⟩ := hc ys cy
  refine ⟨p, rfl, ⟨_, e0⟩, fun D nD => ?_⟩
  have nD0 : H D = none := L2.Same.free s0 nD
  have nd2 : ((ys.map fun y => (y, f y)).map (·.1)).Nodup := by
    rw [List.map_map]
    exact (List.map_id'' (fun _ => rfl) ys).symm ▸ nd
  refine dc_it (walk_list (xs := ys.map V.str)) (fun i H' => L2.Same H0 H' ∧ H' D = some (.dK (dk ((ys.map fun y => (y, f y)).take i)))) ⟨My.Same.new nD, upd_same⟩ (fun _ _ _ h => L2.Same.seq h.1 e0) ?_ ?_
  · rintro i x H1 H2 hi ⟨h2, hD⟩ ⟨rfl, hx⟩
    rw [List.getElem?_map] at hx
    cases ey : ys[i]? with
    | none => rw [ey] at hx; cases hx
    | some y =>
      rw [ey] at hx
      cases hx
      refine hs ys D i y H2 (fun y z H5 => ∃ kvs k, y = kV k ∧ H5 D = some (.dK kvs) ∧ kvs.length < sizeLine ∧ _) _ cy ey nD0 (My.Same.tr s0 h2) (by rw [hD]; simp) (fun H5 s5 => ⟨_, .inr y, rfl, s5 _ _ hD, ?_, ?_⟩)
      · rw [dk_length, List.length_take, List.length_map, sizeLine_eq]
        omega
      · rw [putK_dk (p := (y, f y)) nd2 (by rw [List.getElem?_map, ey]; rfl)]
        exact ⟨My.Same.at_ nD (My.Same.tr h2 s5), upd_same⟩
  · rintro H1 ⟨h2, hD⟩
    rw [List.length_map, List.take_of_length_le (by rw [List.length_map]; exact Nat.le_refl _)] at hD
    exact hQ ys D _ cy nD0 (My.Same.tr s0 h2) hD
/-- [e for x in xs], xs at a -/
theorem list_lcW {a D : Addr} {xs : List V} {H1 : Hp} {Qd : Hp → Prop} (Rel : Nat → V → Hp → Prop) (e0 : SqL K H1 a xs) (nD : H1 D = none) (hl : xs.length < 1000)
    (hm : ∀ i v H H', (∀ x o, x ≠ D → H x = some o → H' x = some o) → Rel i v H → Rel i v H')
    (hs : ∀ (i : Nat) (x : V) (H' : Hp) (R : VK) (F : Hp → Prop), xs[i]? = some x → L2.Same H1 H' → H' D ≠ none → (∀ v H5, L2.Same H' H5 → Rel i v H5 → R v H5) →
      g x (wipe σ vs) H' fun σ2 H2 => wipe σ2 vs = wipe σ vs ∧ tYes σ2 H2 fun b H3 => if b = true then te σ2 H3 R else F H3)
    (hQ : ∀ H' zs, L2.Same H1 H' → H' D = some (.lst zs) → zs.length = xs.length → (∀ i v, zs[i]? = some v → Rel i v H') → Qd H') :
    ∃ W : Nat → Nat → Hp → Prop, (∃ m, W 0 m (L2.upd H1 D (.lst []))) ∧ ∀ i m H, W i m H →
      ((Itl K a).stop i H ∧ Qd H) ∨ ((Itl K a).go i H ∧ ∃ Nx : Hp → Prop, (∀ H', Nx H' → ∃ m', m' < m ∧ W (i + 1) m' H') ∧ ∀ x H', (Itl K a).yld i H x H' → g x (wipe σ vs) H' fun σ2 H2 => wipe σ2 vs = wipe σ vs ∧ tYes σ2 H2 fun b H3 =>
        if b = true then te σ2 H3 fun y H4 => ∃ acc, H4 D = some (.lst acc) ∧ acc.length < sizeLine ∧ Nx (L2.upd H4 D (.lst (acc ++ [y]))) else Nx H3) := by
  refine L2.lc_it (walk_list (xs := xs)) (fun i H' => L2.Same H1 H' ∧ ∃ zs, H' D = some (.lst zs) ∧ zs.length = i ∧ ∀ j v, zs[j]? = some v → Rel j v H') ⟨My.Same.new nD, [], upd_same, rfl, fun j v e => by cases e⟩ (fun _ _ _ h => L2.Same.seq h.1 e0) ?_ ?_
  · rintro i x H0 H2 hi ⟨h2, zs, hD, hlen, hr⟩ ⟨rfl, hx⟩
    refine hs i x H2 _ _ hx h2 (by rw [hD]; simp) (fun y H5 s5 r5 => ⟨zs, s5 _ _ hD, ?_, ?_⟩)
    · rw [sizeLine_eq]
      omega
    · have up : ∀ x o, x ≠ D → H5 x = some o → (L2.upd H5 D (.lst (zs ++ [y]))) x = some o := fun x o hx e => (upd_ne hx).trans e
      refine ⟨My.Same.at_ nD (My.Same.tr h2 s5), _, upd_same, by rw [List.length_append, hlen]; rfl, fun j z ez => ?_⟩
      rcases Nat.lt_or_ge j zs.length with hj | hj
      · rw [List.getElem?_append_left hj] at ez
        exact hm j z _ _ up (hm j z _ _ (fun x o _ e => s5 x o e) (hr j z ez))
      · rw [List.getElem?_append_right hj] at ez
        have ej : j = i := by
          rcases Nat.eq_or_lt_of_le hj with e | e
          · omega
          · rw [List.getElem?_eq_none (by simp; omega)] at ez
            cases ez
        subst ej
        rw [hlen, Nat.sub_self] at ez
        have e2 : y = z := Option.some.inj ez
        subst e2
        exact hm j y _ _ up r5
  · rintro H0 ⟨h2, zs, hD, hlen, hr⟩
    exact hQ H0 zs h2 hD hlen hr
/-- .. whose values are no new things -/
theorem list_lcF {a D : Addr} {xs : List V} {H1 : Hp} {Qd : Hp → Prop} (f : Nat → V) (e0 : SqL K H1 a xs) (nD : H1 D = none) (hl : xs.length < 1000)
    (hs : ∀ (i : Nat) (x : V) (H' : Hp) (R : VK) (F : Hp → Prop), xs[i]? = some x → L2.Same H1 H' → H' D ≠ none → (∀ H5, L2.Same H' H5 → R (f i) H5) →
      g x (wipe σ vs) H' fun σ2 H2 => wipe σ2 vs = wipe σ vs ∧ tYes σ2 H2 fun b H3 => if b = true then te σ2 H3 R else F H3)
    (hQ : ∀ H', L2.Same H1 H' → H' D = some (.lst ((List.range xs.length).map f)) → Qd H') :
    ∃ W : Nat → Nat → Hp → Prop, (∃ m, W 0 m (L2.upd H1 D (.lst []))) ∧ ∀ i m H, W i m H →
      ((Itl K a).stop i H ∧ Qd H) ∨ ((Itl K a).go i H ∧ ∃ Nx : Hp → Prop, (∀ H', Nx H' → ∃ m', m' < m ∧ W (i + 1) m' H') ∧ ∀ x H', (Itl K a).yld i H x H' → g x (wipe σ vs) H' fun σ2 H2 => wipe σ2 vs = wipe σ vs ∧ tYes σ2 H2 fun b H3 =>
        if b = true then te σ2 H3 fun y H4 => ∃ acc, H4 D = some (.lst acc) ∧ acc.length < sizeLine ∧ Nx (L2.upd H4 D (.lst (acc ++ [y]))) else Nx H3) := by
  refine list_lcW (fun i v _ => f i = v) e0 nD hl (fun _ _ _ _ _ h => h) (fun i x H' R F h1 h2 h3 h7 => hs i x H' R F h1 h2 h3 fun H5 s5 => h7 _ H5 s5 rfl) (fun H' zs h2 h3 h4 h5 => hQ H' h2 ?_)
  rw [h3]
  congr 2
  refine List.ext_getElem (by simp [h4]) fun i hi hj => ?_
  have := h5 i zs[i] (List.getElem?_eq_getElem hi)
  rw [List.getElem_map, List.getElem_range]
  exact this.symm
theorem s_tdget {td ty : TE} (h : td σ H fun x H1 => ty σ H1 fun y H2 => ∃ a v, x = .ref a ∧ DGet H2 a y (some v) ∧ Q v H2) : tDGet td ty σ H Q := h
theorem s_tdin {td ty : TE} (h : ty σ H fun y H1 => td σ H1 fun x H2 => ∃ a o, x = .ref a ∧ DGet H2 a y o ∧ Q (.bl o.isSome) H2) : tDIn ty td σ H Q := h
theorem s_din {P : V → Prop} {a : Addr} {k : Str} (h : Rd H a (.dK (dk d))) (q : P (.bl (look d k).isSome)) : ∃ b o, V.ref a = .ref b ∧ DGet H b (.str k) o ∧ P (.bl o.isSome) :=
  ⟨a, (look d k).map V.int, rfl, .inl ⟨_, .inr k, h, rfl, by rw [valV_dk]⟩, by rw [Option.isSome_map]; exact q⟩
theorem s_dget {P : V → Prop} {a : Addr} {k : Str} {i : Int} (h : Rd H a (.dK (dk d))) (e : look d k = some i) (q : P (.int i)) : ∃ b v, V.ref a = .ref b ∧ DGet H b (.str k) (some v) ∧ P v :=
  ⟨a, .int i, rfl, .inl ⟨_, .inr k, h, rfl, by rw [valV_dk, e]; rfl⟩, q⟩
end
/-! ### an own class's methods behind * and [] -/
section
variable {K : PySem.W.Frag} {C : Addr} {m q : Str} {params : Arguments} {body : List Stmt} {scope : Scope} {dvs : List V}
theorem hasM (e : ∃ (f : Addr) (fd : FuncData), Meth K C m f ∧ FunD K m q params body scope dvs [] f fd) : ∃ g : Addr, PySem.W.findIn K (.ref C) m = some (some (.ref g)) := by
  obtain ⟨f, fd, h, F⟩ := e
  exact ⟨f, h.at_⟩
theorem gi_of (e : ∃ (f : Addr) (fd : FuncData), Meth K C m f ∧ FunD K m q params body scope dvs [] f fd) : ∀ f, PySem.W.findIn K (.ref C) m = some (some (.ref f)) → PySem.W.fnIn K f = true := by
  obtain ⟨f, fd, h, F⟩ := e
  intro g hg
  rw [h.at_] at hg
  cases hg
  obtain ⟨oc, od, dV, kV, doc, pm, an, cdv, ct, osl, rfl, lk, _⟩ := F.ex
  unfold PySem.W.fnIn
  rw [lk]
end
section
variable {X : Cx} {C : Addr} {k : Nat} {ps : List Str} {dvs : List V} {sp : Sp}
theorem op_mulT (hm : ∃ g : Addr, PySem.W.findIn X.K (.ref C) "__rmul__" = some (some (.ref g))) (D : Mtn X.prog X.w X.K X.mg X.base C "__mul__" k ps dvs sp) (hc : PySem.W.selfFirst X.K C = true)
    (h1 : PySem.W.findIn X.K (.type "int") "__mul__" = some (some (.builtin "int.__mul__"))) (h2 : PySem.W.findIn X.K (.type "int") "__rmul__" = some (some (.builtin "int.__rmul__"))) (h3 : PySem.W.subIn X.K (.type "int") (.ref C) = some false) (hr : RoomG k X.A) :
    OpR X (binaryOp .Mult) (fun x y H Q => ∃ a dx fs, x = .ref a ∧ H a = some (.ins C dx fs) ∧ (∃ i, y = .int i) ∧ sp (.ref a :: y :: dvs) H Q E0) := by
  obtain ⟨g, hg⟩ := hm
  refine op_ownT (T := "int") D rfl hc hr hg (.inr ⟨g, rfl⟩) h1 h2 h3 fun y u r e => ?_
  obtain ⟨i, rfl⟩ := e
  obtain ⟨t, rfl⟩ := (show ∃ t, u = Value.int i t from r)
  rfl
end
end My

namespace My
open PySem L2 PySem.Spec PyProof.Rows
/-! ### rules within a comprehension: repr -/
def rReprD (K : PySem.W.Frag) : List V → Hp → VK → Prop := fun xs H Q => ∃ y d, xs = [y] ∧ Dp K H y d ∧ SeqAt.shaped d = true ∧ d.showable = true ∧ d.hasDict = false ∧ d.shown.length ≤ sizeLine ∧ Q (.str d.shown) H
theorem call_reprDK {X : Cx} {K : PySem.W.Frag} {k : Nat} (h : X.K = K) (hr : RoomG k X.A) : CallR X (.builtin "repr") (rReprD K) := by
  subst h
  exact call_reprD hr
theorem pg_tupK {X : Cx} {K : PySem.W.Frag} {es : List Expr} {k : Nat} {t : TGs} {n : Nat} {pos : Pos} (hK : X.K = K) (hc : X.calm = true) (h : PGs X es t)
    (hn : (assignEach es X.env).length = n := by rfl) (hst : (assignEach es X.env).findIdx? (·.1) = none := by rfl) : PG X (.Tuple es k pos) (gTup K n t) := by
  subst hK
  exact pg_tup hc h hn hst
end My

namespace My
open PySem L2 PySem.Spec PyProof.Rows PySem.W
/-! ### str(o) by an own __str__ -/
section
variable {X : Cx} {j k : Nat} {f C : Addr} {fd : FuncData} {ps : List Str} {sp : Sp} {dvs : List V} {ds : List Value} {m : Str} {pins : List (Addr × Obj)} {σ : L2.St} {H : Hp} {s : Shared}
theorem call_strO (D : Mtn X.prog X.w X.K X.mg X.base C "__str__" k ps dvs sp) (hr : RoomG (k + 2) X.A) :
    CallR X (.type "str") (fun xs H Q => ∃ a dx fs, xs = [.ref a] ∧ H a = some (.ins C dx fs) ∧ sp (.ref a :: dvs) H (fun v H' => ∃ y : Str, v = .str y ∧ Q (.str y) H') E0) := by
  obtain ⟨f, fd, ds, c, hm, F, hb, hd⟩ := D.ex
  intro pins s σ H xs us Q I r h
  obtain ⟨a, dx, fs, rfl, ea, q⟩ := h
  rw [Vals.ref1 r]
  obtain ⟨ox, od, J⟩ := insAt I ea
  have hu : X.A.in1.in1.units < cLine := by
    have := hr.in1.in1.units
    omega
  refine kso_call hu I.kIn J hm.at_ hm.fn (wpAny_mono (goIn (us := [.ref a]) (vs := [.ref a]) F hr.in1.in1 I.env0.in1.in1 hb hd I (.cons rfl .nil) q) (fun w s1 hw => ?_) fun _ _ z => z)
  obtain ⟨t, H1, I1, rt, y, rfl, q1⟩ := hw
  obtain ⟨tk, rfl⟩ := (show ∃ t, w = Value.str y t from rt)
  exact ⟨.str y, H1, I1, ⟨_, rfl⟩, q1⟩
end
/-! ### an own exception made and raised -/
/-- C(e, ..), C's own __init__ keeping sp, to be raised -/
def tRaE (C : Addr) (sp : Sp) (ta : TA) : L2.St → Hp → XK → Prop := fun σ H Q => ta σ H fun vs H1 => vs.length ≤ 1000 ∧ ∀ a, H1 a = none → sp (.ref a :: vs) (L2.upd H1 a (exo a C none))
  (fun v H2 => v = .non ∧ ∃ (d : Addr) (fs : List (Str × V)), H2 a = some (exo a C (some d)) ∧ H2 d = some (exd d fs) ∧ H1 d = none ∧ Q (.ref C) (some d) (L2.upd (L2.del H2 a) d (.xd fs))) E0
theorem ExF.raises {X : Cx} {C : Addr} {m bm : List Value} {n : String} (x : ExF X.K C m n) (u : Ups C m bm) : Raises X (.ref C) := by
  refine raises_own ?_ x.ty
  rw [x.sub u.ne, u.base]
section
variable {X : Cx} {k : Nat} {C : Addr} {x : Str} {ps : List Str} {sp : Sp} {e : Expr} {es : List Expr} {ta : TA} {p pos : Pos}
theorem pmk_E (R : Raises X (.ref C)) (D : Exn X.prog X.w X.K X.mg X.base x C k ps sp) (hr : RoomG (k + 1) X.A) (hg : Gl X x) (ha : PA X (e :: es) ta)
    (h1 : (x == ("__debug__" : Str)) = false := by decide) (h2 : starEach (e :: es) X.env = (false, eval e X.env) :: starEach es X.env := by rfl) (h3 : (backTo pos (starEach es X.env)).any (fun q => q.1) = false := by rfl) :
    PMk X (.Call (.Name x p) (e :: es) [] pos) (tRaE C sp ta) := by
  obtain ⟨f, fd, T, iC, fC, F, hm, hb⟩ := D.ex
  obtain ⟨B, ni, ii, bmB, FB, SF, ini, ov⟩ := T.base
  intro pins s σ H Q I h
  refine wpAny_Call_Name_kw (ld_glob I hg hm ?_ h1)
  refine callWith_K (h₀ := X.base) I.ok.mod.kin T.kp (thn (ha.run pos pins s σ H _ I h) fun us s1 z => ?_) h2 h3
  obtain ⟨vs, H1, I1, r1, hz, q1⟩ := z
  refine ⟨I1.kIn, ?_⟩
  show wpAny _ _ (call (.ref C) us) _ _ _
  obtain ⟨hp, g, dr, tk, os⟩ := s1
  obtain ⟨nm, N, qn, bs, bm, hdct, sn, sub, ab, col, dd, k0, k1, k2, k3, k5, hC, hT⟩ := excInit_of I1.kIn ini
  have hsz : hp.objs.size ≤ hp.objs.size + 1 := Nat.le_succ _
  have hn : H1 (hp.objs.size + 1) = none := I1.hok.fresh hsz
  have hq := q1 (hp.objs.size + 1) hn
  have kk : ∀ b o, hp.get? b = some o → ((hp.push (kdv_tup us)).push (HandSPX.excO C hp.objs.size)).get? b = some o := fun b o z => Heap.get?_push_of_some _ (Heap.get?_push_of_some _ z)
  have hget : ((hp.push (kdv_tup us)).push (HandSPX.excO C hp.objs.size)).get? (hp.objs.size + 1) = some (HandSPX.excO C hp.objs.size) := by heap_get
  have I2 : Inv X pins σ (L2.upd H1 (hp.objs.size + 1) (exo (hp.objs.size + 1) C none)) ⟨(hp.push (kdv_tup us)).push (HandSPX.excO C hp.objs.size), g, dr, tk, os⟩ := I1.laid (t' := tk) kk hsz (exo_ok hget)
  have r2 : Vals (V.ref (hp.objs.size + 1) :: vs) (Value.ref (hp.objs.size + 1) :: us) := .cons rfl r1
  have hl : (Value.ref (hp.objs.size + 1) :: us ++ []).length = ps.length := by
    have z := r2.length
    rw [F.len _ _ _ _ hq] at z
    rw [List.append_nil]
    exact z.symm
  have hus : us.length ≤ sizeLine := by
    rw [← r1.length, sizeLine_eq]
    omega
  have bd := hb _ (Value.ref (hp.objs.size + 1) :: us) I2.kIn hl
  rw [List.append_nil] at bd
  have hr2 : RoomG k (X.A.under (.builtin "type.__call__" ⟨.ref C :: us, []⟩)) := ⟨hr.r.make C us [], hr.g⟩
  refine wpAny_call (HandSPX.call_own FB hT hC (looks_findIn I1.kIn iC) (fun self => bind_fn I1.kIn self (beq_iff_eq.mp fC)) hus
    (codeAny_mono (F.go _ X.stack _ _ ⟨Value.ref (hp.objs.size + 1) :: us, []⟩ _ _ _ E0 hr2 (I2.env0.make C us []) bd r2 hq) fun r s' hq' => ?_))
  cases r with
  | error er => exact (show False from hq').elim
  | ok fl => cases fl with
    | ret u =>
      obtain ⟨v, H2, os2, bare2, un2, hok2, rv, ev, d, fs, ea, ed, hd1, q2⟩ := hq'
      subst ev
      obtain ⟨h2, g2, d2, t2, os'⟩ := s'
      exact ⟨rv, mk_end R I1 hsz kk un2 hok2 os2 bare2 ea ed hd1 q2⟩
    | next => exact (show False from hq').elim
    | brk => exact (show False from hq').elim
    | cont => exact (show False from hq').elim
end
/-! ### calls of defs that may raise -/
section
variable {X : Cx} {CX : CXT} {j k : Nat} {f C : Addr} {fd : FuncData} {ps : List Str} {sp : Sp} {dvs : List V} {ds : List Value} {x m : Str} {p pos apos : Pos} {e o : Expr} {es : List Expr} {ta : TE} {t : TA} {W : WX}
/-- as goG, for a def that may raise: what it lets out is taken -/
theorem goX {pins : List (Addr × Obj)} {σ : L2.St} {H : Hp} {s : Shared} {Q : VK} {us : List Value} {vs : List V} (F : FnG X.prog X.w X.K X.mg X.base (L2.CX X.prog X.w) k f fd ps sp) (tk : Takes X W) (hr : RoomG k X.A) (hb : Binds X.K fd ps ds) (hd : Vals dvs ds)
    (I : Inv X pins σ H s) (r : Vals vs us) (h : sp (vs ++ dvs) H Q (WE W σ)) : wpAny (model X.prog X.w) X.A (call (.ref f) us) (EP X pins σ Q) X.xe s := by
  have r2 := r.append hd
  have hl : (us ++ ds).length = ps.length := r2.length.symm.trans (F.len _ _ _ _ h)
  refine wpAny_call (codeAny_mono (F.go X.A X.stack s H ⟨us, []⟩ (us ++ ds) _ Q (WE W σ) hr I.env0 (hb s us I.kIn hl) r2 h) ?_)
  intro r s' hq
  cases r with
  | error er => exact passAt tk σ pins H s er s' I hq
  | ok fl => cases fl with
    | ret u => exact I.after hq
    | next => exact (show False from hq).elim
    | brk => exact (show False from hq).elim
    | cont => exact (show False from hq).elim
structure DnX (P : Program) (w : World) (K : PySem.W.Frag) (mg : Str → Option Value) (base : Heap) (x : Str) (k : Nat) (ps : List Str) (dvs : List V) (sp : Sp) : Prop where
  ex : ∃ (f : Addr) (fd : FuncData) (ds : List Value), FnG P w K mg base (L2.CX P w) k f fd ps sp ∧ mg x = some (.ref f) ∧ PySem.W.keepIn K (.ref f) = true ∧ Binds K fd ps ds ∧ Vals dvs ds
def tCallX (sp : Sp) (dvs : List V) (W : WX) (t : TA) : TE := fun σ H Q => t σ H fun vs H1 => sp (vs ++ dvs) H1 Q (WE W σ)
theorem pe_callX (D : DnX X.prog X.w X.K X.mg X.base x k ps dvs sp) (tk : Takes X W) (hr : RoomG k X.A) (hg : Gl X x) (ha : PA X (e :: es) t) (hdb : (x == ("__debug__" : Str)) = false := by decide)
    (h1 : starEach (e :: es) X.env = (false, eval e X.env) :: starEach es X.env := by rfl) (h2 : (backTo pos (starEach es X.env)).any (·.1) = false := by rfl) : PE X (.Call (.Name x p) (e :: es) [] pos) (tCallX sp dvs W t) := by
  obtain ⟨f, fd, ds, F, hm, hk, hb, hd⟩ := D.ex
  constructor
  intro pins s σ H Q I h
  exact wpAny_Call_Name_kw (ld_glob I hg hm (PySem.W.callWith_K (h₀ := X.base) I.ok.mod.kin hk (thn (ha.run pos pins s σ H _ I h) fun us s1 ⟨vs, H1, I1, r, q⟩ => ⟨I1.kIn, goX F tk hr hb hd I1 r q⟩) h1 h2) hdb)
/-- a staticmethod by its class's name, of given parameters -/
structure StaX (P : Program) (w : World) (K : PySem.W.Frag) (mg : Str → Option Value) (base : Heap) (y : Str) (C : Addr) (m : Str) (k : Nat) (ps : List Str) (sp : Sp) : Prop where
  ex : ∃ (f : Addr) (fd : FuncData), mg y = some (.ref C) ∧ StaM K C m f ∧ FnG P w K mg base (L2.CX P w) k f fd ps sp ∧ Binds K fd ps []
theorem pe_staX {y : Str} {p1 : Pos} {pl : Sem Bool} (D : StaX X.prog X.w X.K X.mg X.base y C m k ps sp) (tk : Takes X W) (hr : RoomG k X.A) (hg : Gl X y) (ha : PA X (e :: es) t)
    (h1 : starEach (e :: es) X.env = (false, eval e X.env) :: starEach es X.env := by rfl) (h2 : (backTo pos (starEach es X.env)).any (·.1) = false := by rfl)
    (h3 : eval (.Call (.Attribute (.Name y p1) m apos) (e :: es) [] pos) X.env = (do
      let v ← eval (.Name y p1) X.env
      standAt apos.atName
      let (g, fst) ← holding [v] (getMethod v m pl)
      callWith pos g fst (backTo pos (starEach (e :: es) X.env)) (backToKw pos (keywordEach [] X.env))) := by rfl) (hdb : (y == ("__debug__" : Str)) = false := by decide) :
    PE X (.Call (.Attribute (.Name y p1) m apos) (e :: es) [] pos) (tCallX sp [] W t) := by
  obtain ⟨f, fd, hm, hS, F, hb⟩ := D.ex
  constructor
  intro pins s σ H Q I h
  refine PySem.W.methodCall_KW (pl := pl) (ld_glob I hg hm ?_ hdb) h3
  refine getsta I hS fun s1 I1 => ?_
  exact callWith_K (first := []) (h₀ := X.base) I1.ok.mod.kin hS.kp (thn (ha.run pos pins s1 σ H _ I1 h) fun us s2 ⟨vs, H2, I2, r, q2⟩ => ⟨I2.kIn, goX F tk hr hb .nil I2 r q2⟩) h1 h2
/-- .. with keywords alone -/
structure StaXk (P : Program) (w : World) (K : PySem.W.Frag) (mg : Str → Option Value) (base : Heap) (y : Str) (C : Addr) (m : Str) (k : Nat) (ks : List Str) (gV : List V → List V → List V) (sp : Sp) : Prop where
  ex : ∃ (f : Addr) (fd : FuncData) (ps : List Str) (g : List Value → List Value → List Value), mg y = some (.ref C) ∧ StaM K C m f ∧ FnG P w K mg base (L2.CX P w) k f fd ps sp ∧ KBn K fd ps 0 ks g gV
def tStaXk (l : Nat) (sp : Sp) (gV : List V → List V → List V) (W : WX) (tk : TA) : TE := fun σ H Q => tk σ H fun zs H1 => zs.length = l ∧ sp (gV [] zs) H1 Q (WE W σ)
theorem pe_staXk {y : Str} {ks : List Str} {gV : List V → List V → List V} {tq : TA} {kws : List Keyword} {p1 : Pos} {pl : Sem Bool} (D : StaXk X.prog X.w X.K X.mg X.base y C m k ks gV sp) (tk : Takes X W) (hr : RoomG k X.A) (hg : Gl X y) (hkw : PK X kws tq)
    (hall : (backToKw pos (keywordEach kws X.env)).all (·.1.isSome) = true := by rfl) (hks : (backToKw pos (keywordEach kws X.env)).filterMap (·.1) = ks := by rfl)
    (hpl : ((backTo pos (starEach [] X.env)).any (fun q => q.1) || (backToKw pos (keywordEach kws X.env)).any (fun q => q.1.isNone)) = false := by rfl)
    (h3 : eval (.Call (.Attribute (.Name y p1) m apos) [] kws pos) X.env = (do
      let v ← eval (.Name y p1) X.env
      standAt apos.atName
      let (g, fst) ← holding [v] (getMethod v m pl)
      callWith pos g fst (backTo pos (starEach [] X.env)) (backToKw pos (keywordEach kws X.env))) := by rfl) (hdb : (y == ("__debug__" : Str)) = false := by decide) :
    PE X (.Call (.Attribute (.Name y p1) m apos) [] kws pos) (tStaXk ks.length sp gV W tq) := by
  obtain ⟨f, fd, ps, g, hm, hS, F, hb⟩ := D.ex
  constructor
  intro pins s σ H Q I h
  refine PySem.W.methodCall_KW (pl := pl) (ld_glob I hg hm ?_ hdb) h3
  refine getsta I hS fun s1 I1 => ?_
  refine PySem.W.callWith_KW0 (first := []) (h₀ := X.base) I1.ok.mod.kin hS.kp hall ?_ hpl
  refine thn (hkw.run pos pins s1 σ H _ I1 h) fun ws s2 ⟨zs, H2, I2, rz, l2, q2⟩ => ⟨I2.kIn, ?_⟩
  rw [hks]
  refine wpAny_call (codeAny_mono (F.go X.A X.stack s2 H2 ⟨[], ks.zip ws⟩ (g [] ws) (gV [] zs) Q (WE W σ) hr I2.env0 (hb.to s2 [] ws I2.kIn rfl (rz.length.symm.trans l2)) (hb.rel .nil rz) q2) fun r s' hq => ?_)
  cases r with
  | error er => exact passAt tk σ pins H2 s2 er s' I2 hq
  | ok fl => cases fl with
    | ret u => exact I2.after hq
    | next => exact (show False from hq).elim
    | brk => exact (show False from hq).elim
    | cont => exact (show False from hq).elim
end
/-! ### within an except suite: isinstance of what is caught, texts of leaves -/
def rIsS (K : PySem.W.Frag) (cls : Value) (d : Option Addr) (a : Addr) : List V → Hp → VK → Prop := fun xs H Q => ∃ D : Addr, cls = .ref D ∧ L2.ExcC K D ∧ (∀ dd, d = some dd → ∃ fs, H dd = some (.xd fs)) ∧ rIsE K D a xs H Q
theorem call_isS {X : Cx} {a : Addr} {cls : Value} {oe : Obj} {d : Option Addr} {pn : List (Addr × Obj)} (hz : Zc cls d oe) (hf : ∃ vs, oe.data = .fields vs) :
    CallR (X.suite a ((a, oe) :: pn)) (.builtin "isinstance") (rIsS X.K cls d a) := by
  intro pins s σ H xs us Q I r h
  obtain ⟨D, ecls, C, hdd, c, cv, b, rfl, hcv, e, q⟩ := h
  subst ecls
  cases r with
  | cons rx rr =>
    cases rr with
    | cons rt rr =>
      cases rr
      cases rx
      have ec := hcv _ rt
      subst ec
      obtain ⟨hget, _⟩ := I.pin (a, oe) (List.mem_append.mpr (.inl List.mem_cons_self))
      obtain ⟨vs, hv⟩ := hf
      have J : ∃ od, PySem.W.InstAt s.heap a oe D od := by
        obtain ⟨oc, oda, odt, osl⟩ := oe
        obtain ⟨h1, h2⟩ := hz
        dsimp only at h1 h2 hv
        subst h1 h2 hv
        cases oda with
        | none => exact ⟨none, hget, rfl, rfl, trivial⟩
        | some dd =>
          obtain ⟨fs, hx⟩ := hdd dd rfl
          have hx2 : ObjOk X.prog X.w H s.heap dd (.xd fs) := I.hok dd _ hx
          obtain ⟨mA, hns, hr⟩ := hx2
          obtain ⟨od, ho, hl⟩ := lookIn_ns hns
          exact ⟨some od, hget, rfl, rfl, ho⟩
      obtain ⟨od, J⟩ := J
      exact PySem.W.kia_one (exKit C) I.kIn J e (fun z => nomatch z) fun tk => ⟨.bl b, H, I.kept (t' := tk) fun _ _ z => z, rfl, q⟩
/-- the text of an int or a bool -/
def rReprL : List V → Hp → VK → Prop := fun xs H Q => (∃ i : Int, xs = [.int i] ∧ i.natAbs.log2 < 1920 ∧ Q (.str (PyData.shown (.int i))) H) ∨ ∃ b : Bool, xs = [.bl b] ∧ Q (.str (PyData.shown (.bool b))) H
theorem call_reprL {X : Cx} : CallR X (.builtin "repr") rReprL := by
  intro pins s σ H xs us Q I r h
  rcases h with ⟨i, rfl, hz, q⟩ | ⟨b, rfl, q⟩
  · obtain ⟨u, rfl, ru⟩ := vals1 r
    obtain ⟨t, rfl⟩ := (show ∃ t, u = Value.int i t from ru)
    exact PySem.P.repr_of_int hz ⟨.str _, H, I.tok _, ⟨_, rfl⟩, q⟩
  · obtain ⟨u, rfl, ru⟩ := vals1 r
    obtain rfl : u = Value.bool b := ru
    exact PySem.P.repr_of_bool ⟨.str _, H, I.tok _, ⟨_, rfl⟩, q⟩

/-! ### properties: the record's address, its getter -/
theorem prB_ok {K : PySem.W.Frag} {c m : Str} (h : prB K c m = true) : PropOf K (He.ga K c) m (prP K c m) (prA K c m) := by
  obtain ⟨h1, h2⟩ := He.ba h
  obtain ⟨h3, h4⟩ := He.ba h2
  obtain ⟨h5, h6⟩ := He.ba h4
  refine ⟨of_decide_eq_true h1, of_decide_eq_true h3, of_decide_eq_true h5, ?_⟩
  unfold prA
  split at h6
  · rename_i g rest e
    rw [e]
    exact ⟨rest, rfl⟩
  · cases h6
/-! ### an exception with one field, raised -/
def spE1 (C : Addr) (n : Str) : Sp := fun vs H Q _ => ∃ (a : Addr) (y : V), vs = [.ref a, y] ∧ H a = some (exo a C none) ∧ ∀ d, H d = none → d ≠ a → Q .non (L2.upd (L2.upd H d (exd d [(n, y)])) a (exo a C (some d)))
def spE2 (C : Addr) (n m : Str) : Sp := fun vs H Q _ => ∃ (a : Addr) (y z : V), vs = [.ref a, y, z] ∧ H a = some (exo a C none) ∧ ∀ d, H d = none → d ≠ a → Q .non (L2.upd (L2.upd (L2.upd H d (exd d [(n, y)])) a (exo a C (some d))) d (exd d [(m, z), (n, y)]))
theorem s_raE {C : Addr} {sp : Sp} {ta : TA} {σ : L2.St} {H : Hp} {Q : XK} (h : ta σ H fun vs H1 => vs.length ≤ 1000 ∧ ∀ a, H1 a = none → sp (.ref a :: vs) (L2.upd H1 a (exo a C none))
  (fun v H2 => v = .non ∧ ∃ (d : Addr) (fs : List (Str × V)), H2 a = some (exo a C (some d)) ∧ H2 d = some (exd d fs) ∧ H1 d = none ∧ Q (.ref C) (some d) (L2.upd (L2.del H2 a) d (.xd fs))) E0) : tRaE C sp ta σ H Q := h
theorem raise1 {C : Addr} {n : Str} {H : Hp} {v : V} {Q : XK} (q : ∀ d H', L2.Same H H' → H d = none → H' d = some (.xd [(n, v)]) → Q (.ref C) (some d) H') :
    [v].length ≤ 1000 ∧ ∀ a, H a = none → spE1 C n (.ref a :: [v]) (L2.upd H a (exo a C none))
      (fun w H2 => w = .non ∧ ∃ (d : Addr) (fs : List (Str × V)), H2 a = some (exo a C (some d)) ∧ H2 d = some (exd d fs) ∧ H d = none ∧ Q (.ref C) (some d) (L2.upd (L2.del H2 a) d (.xd fs))) E0 := by
  refine ⟨by simp, fun a na => ⟨a, v, rfl, upd_same, fun d nd ne => ⟨rfl, d, [(n, v)], upd_same, (upd_ne ne).trans upd_same, ?_, ?_⟩⟩⟩
  · rw [upd_ne ne] at nd
    exact nd
  · rw [upd_ne ne] at nd
    refine q d _ (fun c o e => ?_) nd upd_same
    have h1 := ne_of_none e nd
    have h2 := ne_of_none e na
    rw [upd_ne h1, L2.del_ne h2, upd_ne h2, upd_ne h1, upd_ne h2]
    exact e
theorem s_callX {sp : Sp} {dvs : List V} {W : WX} {t : TA} {σ : L2.St} {H : Hp} {Q : VK} (h : t σ H fun vs H1 => sp (vs ++ dvs) H1 Q (WE W σ)) : tCallX sp dvs W t σ H Q := h
theorem s_staXk {l : Nat} {sp : Sp} {gV : List V → List V → List V} {W : WX} {tk : TA} {σ : L2.St} {H : Hp} {Q : VK} (h : tk σ H fun zs H1 => zs.length = l ∧ sp (gV [] zs) H1 Q (WE W σ)) : tStaXk l sp gV W tk σ H Q := h
/-! ### comparisons of own objects, by K's own name -/
section
variable {X : Cx} {K : PySem.W.Frag} {k : Nat} {C : Addr} {ps : List Str} {sp : Sp} {dvs : List V}
theorem or_eqOK (h : X.K = K) (D : Mtn X.prog X.w X.K X.mg X.base C "__eq__" k ps dvs sp) (hr : RoomG k X.A) : OpR X (compareOp .Eq) (fun x y H Q => ∃ (a dx : Addr) (fs : List (Str × V)) (t : Value), x = .ref a ∧ H a = some (.ins C dx fs) ∧ TyX K H y t ∧ PySem.W.notFirst K C t = true ∧ sp (.ref a :: y :: dvs) H Q E0) := by
  subst h
  exact or_eqO D hr
theorem or_neOK (h : X.K = K) (D : Mtn X.prog X.w X.K X.mg X.base C "__eq__" k ps dvs sp) (hne : PySem.W.findIn X.K (.ref C) "__ne__" = some (some (.builtin "object.__ne__"))) (hob : PySem.W.mroIn X.K C (.type "object") = some true) (hr : RoomG (k + 1) X.A) :
    OpR X (compareOp .NotEq) (fun x y H Q => ∃ (a dx : Addr) (fs : List (Str × V)) (t : Value), x = .ref a ∧ H a = some (.ins C dx fs) ∧ TyX K H y t ∧ PySem.W.notFirst K C t = true ∧ sp (.ref a :: y :: dvs) H (fun v H' => ∃ b, v = .bl b ∧ Q (.bl (!b)) H') E0) := by
  subst h
  exact or_neO D hne hob hr
end
end My

namespace My
open PySem PySem.Calls PyProof.Rows Builtin PySem.W
/-! ### the text of an own object within the text of a list, a tuple, a dict: pyReprUnder of an instance with an own __repr__ -/
section
variable {prog : Program} {w : World} {A : Around} {E : Value → Shared → Prop} {s : Shared} {K : PySem.W.Frag} {x C L f : Addr} {h₀ : Heap} {m : Str → Option Value} {ox : Obj} {od : Option Obj} {base : Nat}
theorem ifBoundBy_K {M : Model} {name : Str} {last : Value → List Value → Sem Value} {Q : Option Value → Shared → Prop} (X : K.In s.heap) (I : InstAt s.heap x ox C od) (hs : findIn K (.ref C) name = some (some (.ref f))) (hf : isFn K (.ref f) = true)
    (h : wpAny M A (last (.ref f) [.ref x]) (fun v => Q (some v)) E s) : wpAny M A (callSpecialIfBoundBy? last (.ref x) name) Q E s := by
  simp only [callSpecialIfBoundBy?, bindSpecialIfBound?]
  refine wpAny_holding (wpAny_bind (wpAny_bind (wpAny_bind (I.type.here ((looks_findIn X hs).here ?_)))))
  refine wpAny_bind (wpAny_askSetting (wpAny_ite ?_))
  have fin : wpAny M A (last (.ref f) [.ref x] >>= fun v => pure (some v)) Q E s := wpAny_bind (wpAny_mono h (fun v s' h' => wpAny_pure h') fun _ _ h' => h')
  split
  · exact wpAny_bind ((bind_fn X _ (beq_iff_eq.mp hf)).here (wpAny_pure (by exact fin)))
  · exact wpAny_tryCatch (wpAny_bind ((bind_fn X _ (beq_iff_eq.mp hf)).here (wpAny_pure (by exact fin))))
theorem reprUnder_K {Q : Str → Shared → Prop} (hb : base ≤ sizeLine) (hu : A.units < cLine) (F : Fr h₀ L s.heap m) (X₀ : K.In h₀) (I : InstAt s.heap x ox C od) (hs : findIn K (.ref C) "__repr__" = some (some (.ref f))) (hf : isFn K (.ref f) = true)
    (h : wpAny (model prog w) A (call (.ref f) [.ref x]) (fun v s' => ∃ y u, v = .str y u ∧ Q y s') E s) : wpAny (model prog w) A (pyReprUnder base (.ref x)) Q E s := by
  refine wpAny_pyReprUnder_ref hb ?_
  unfold pyReprObjUnder pyReprObjBy
  refine wpAny_bind (wpAny_cRoomFor hu ?_)
  refine wpAny_bind (wpAny_bind (I.type.here ((looks_findIn (X₀.keeps F.keep) hs).here ?_)))
  show wpAny _ _ (if (some (Value.ref f)).isNone = true then _ else _) _ _ _
  rw [if_neg (by simp)]
  refine wpAny_bind (ifBoundBy_K (X₀.keeps F.keep) I hs hf ?_)
  show wpAny _ _ (call (.ref f) ([.ref x] ++ [])) _ _ _
  refine wpAny_mono h (fun r s' hr => ?_) fun _ _ z => z
  obtain ⟨y, u, rfl, q⟩ := hr
  refine wpAny_bind (wpAny_isInstance (T := "str") (b := true) rfl isSubtype_str_str ?_)
  exact wpAny_pure ⟨y, u, rfl, q⟩
end
/-! ### the loop of list.__repr__ over items of any kind -/
section
open L2 Builtin.List
variable {X : Cx} {A A1 : Around}
/-- under A the text of v is t: all that stands is kept -/
def Shows (X : Cx) (A : Around) (H0 : Hp) (v : V) (t : Str) : Prop :=
  ∀ (base : Nat) (pins : List (Addr × Obj)) (σ : L2.St) (H : Hp) (s : Shared) (u : Value) (E : Value → Shared → Prop) (Q : Str → Shared → Prop), base + t.length ≤ sizeLine → Same H0 H → Inv X pins σ H s → RelV v u →
    (∀ H' s', Same H H' → Inv X pins σ H' s' → Q t s') → wpAny (model X.prog X.w) A (pyReprUnder base u) Q E s
theorem vals_strs_of : ∀ {ts : List Str} {us : List Value}, Vals (ts.map V.str) us → ∃ done : List (Str × Tok), us = strValues done ∧ done.map (·.1) = ts
  | [], _, .nil => ⟨[], rfl, rfl⟩
  | t :: ts, _, .cons r v => by
    obtain ⟨done, rfl, e⟩ := vals_strs_of v
    obtain ⟨k, rfl⟩ := (show ∃ k, _ = Value.str t k from r)
    exact ⟨(t, k) :: done, rfl, by rw [List.map_cons, e]⟩
theorem loopI {pins : List (Addr × Obj)} {σ : L2.St} {H0 : Hp} {a P : Addr} {xs : List V} {ts : List Str} {R : Result → Shared → Prop} (ha : H0 a = some (.lst xs)) (hP : H0 P = none) (hlen : ts.length = xs.length)
    (hT : ∀ (args : Args) (i : Nat) (v : V), xs[i]? = some v → ∃ t, ts[i]? = some t ∧ Shows X (A.under (.builtin "list.__repr__.loop" args)) H0 v t)
    (hsz : (listText ts).length ≤ sizeLine)
    (hR : ∀ H' s' u, Same H0 H' → Inv X pins σ H' s' → R (.ok (.ret (.str (listText ts) u))) s') :
    ∀ (k i : Nat) (H : Hp) (s : Shared), xs.length - i = k → i ≤ xs.length → Inv X pins σ H s → Same H0 H → H P = some (.lst ((ts.take i).map V.str)) →
      codeAny (model X.prog X.w) A (.builtin "list.__repr__.loop" ⟨[.ref a, rawInt i, .ref P, rawInt ((piled (ts.take i) : Nat) : Int)], []⟩) R s := by
  have hX : (listText ts).length = (textFrom 0 "[" ts).length + 1 := by
    show (textFrom 0 "[" ts ++ "]").length = _
    rw [strLen_append]; rfl
  have hL := textFrom_len ts 0 "["
  have hsz2 : ∀ t ∈ ts, t.length ≤ sizeLine := fun t ht => by
    have h2 := hL.2.1 t ht
    omega
  have hp3 := piled_le_listText ts
  intro k
  induction k with
  | zero =>
    intro i H s hk hi I S eP
    have hin : i = xs.length := by omega
    obtain ⟨its, n, r, hg, _⟩ := I.lst (S _ _ ha)
    obtain ⟨jts, m, rj, hgP, _⟩ := I.lst eP
    obtain ⟨done, rfl, hdone⟩ := vals_strs_of rj
    refine codeAny_builtin PySem.F.entry_list_repr_loop ?_
    show wpAny _ _ (Builtin.«list.__repr__.loop» ⟨[.ref a, .int i 0, .ref P, .int ((piled (ts.take i) : Nat) : Int) 0], []⟩) _ _ s
    rw [repr_loop_tree]
    refine wpAny_bind (wpAny_listItems hg rfl ?_)
    have hnone : its.toArray[(i : Int).toNat]? = none := by
      have := r.length
      simp [hin, this]
    simp only [hnone]
    unfold reprEnd
    refine wpAny_bind (wpAny_listItems hgP rfl ?_)
    rw [repr_fold]
    refine wpAny_bind (wpAny_pure ?_)
    have hall : done.map (·.1) = ts := by rw [hdone, hin, ← hlen, List.take_length]
    rw [hall]
    refine wpAny_bind (wpAny_mkStr (wpAny_pure ?_) hsz)
    exact hR H _ _ S (I.tok _)
  | succ k ih =>
    intro i H s hk hi I S eP
    have hlt : i < xs.length := by omega
    obtain ⟨t, ht, hrep⟩ := hT ⟨[.ref a, rawInt i, .ref P, rawInt ((piled (ts.take i) : Nat) : Int)], []⟩ i xs[i] (by simp [hlt])
    have hp1 := piled_take_succ ht
    have hp2 := piled_take_le ts (i + 1)
    obtain ⟨its, n, r, hg, _⟩ := I.lst (S _ _ ha)
    obtain ⟨u, hu, ru⟩ := r.get (show xs[i]? = some xs[i] by simp [hlt])
    refine codeAny_builtin PySem.F.entry_list_repr_loop ?_
    show wpAny _ _ (Builtin.«list.__repr__.loop» ⟨[.ref a, .int i 0, .ref P, .int ((piled (ts.take i) : Nat) : Int) 0], []⟩) _ _ s
    rw [repr_loop_tree]
    refine wpAny_bind (wpAny_listItems hg rfl ?_)
    have hsome : its.toArray[(i : Int).toNat]? = some u := by simpa using hu
    simp only [hsome]
    rw [Int.toNat_natCast]
    refine wpAny_bind (wpAny_holding (hrep (piled (ts.take i) + 1) pins σ H s u _ _ (by omega) S I ru fun H1 s1 S1 I1 => ?_))
    refine wpAny_bind (wpAny_mkStr ?_ (hsz2 t (List.mem_of_getElem? ht)))
    refine wpAny_bind ?_
    show wpAny _ _ (updateSeq P _) _ _ _
    have I1' := I1.tok (s1.toks + 1)
    obtain ⟨jts, m, rj, hgP, zP⟩ := I1'.lst (S1 _ _ eP)
    obtain ⟨done, rfl, hdone⟩ := vals_strs_of rj
    have hasz : (strValues done).toArray.size ≤ sizeLine := by
      have := rj.length
      rw [List.size_toArray, ← this]
      exact zP
    refine wpAny_updateSeq hgP rfl (wpAny_pure ⟨PySem.F.quiet_list_repr_loop _, ?_⟩) hasz
    have e1 : ((i : Int) + 1) = ((i + 1 : Nat) : Int) := by omega
    have e2 : piled (ts.take i) + (t.length + 2) = piled (ts.take (i + 1)) := by omega
    rw [e1, e2]
    refine ih (i + 1) (L2.upd H1 P (.lst ((ts.take (i + 1)).map V.str))) _ (by omega) hlt ?_ ?_ L2.upd_same
    · refine I1'.lstUpd (its' := strValues (done ++ [(t, s1.toks)])) (n' := if ((strValues done).toArray.push (.str t s1.toks)).size == (strValues done).toArray.size then m else m + 1) (S1 _ _ eP) hgP ?_ ?_ ?_ _
      · have ep : (strValues (done ++ [(t, s1.toks)])).toArray = (strValues done).toArray.push (.str t s1.toks) := by simp [strValues]
        rw [ep]
        rfl
      · rw [show ts.take (i + 1) = (done ++ [(t, s1.toks)]).map (·.1) from by rw [List.map_append, hdone, List.take_add_one, ht]; rfl]
        exact vals_strs _
      · rw [List.length_map, List.length_take]
        have := hL.1
        have z : (textFrom 0 "[" ts).length ≤ sizeLine := by omega
        rw [if_neg (Nat.lt_irrefl 0)] at this
        omega
    · exact My.Same.at_ hP (S.trans S1)
theorem list_reprI {pins : List (Addr × Obj)} {σ : L2.St} {H : Hp} {s : Shared} {a : Addr} {xs : List V} {ts : List Str} {E : Value → Shared → Prop} {Q : Value → Shared → Prop} (hg : A.guards = some []) (ha : H a = some (.lst xs)) (hne : xs ≠ []) (hlen : ts.length = xs.length)
    (hT : ∀ (args : Args) (i : Nat) (v : V), xs[i]? = some v → ∃ t, ts[i]? = some t ∧ Shows X (A.under (.builtin "list.__repr__.loop" args)) H v t)
    (hsz : (listText ts).length ≤ sizeLine) (I : Inv X pins σ H s)
    (hQ : ∀ H' s' u, Same H H' → Inv X pins σ H' s' → Q (.str (listText ts) u) s') : wpAny (model X.prog X.w) A (call (.builtin "list.__repr__") [.ref a]) Q E s := by
  obtain ⟨its, n, r, hget, _⟩ := I.lst ha
  have hl := r.length
  cases its with
  | nil =>
    cases xs with
    | nil => exact absurd rfl hne
    | cons _ _ => cases hl
  | cons x l =>
  refine wpAny_call (codeAny_call_builtin PySem.F.slot_list_repr.plain PySem.F.entry_list_repr (PySem.F.slot_list_repr.check _ _ _ _ _ _ _ _ ⟨_, hget, rfl⟩ (PySem.F.args_list_repr_1 _) ?_))
  refine wpAny_list_repr_head (A := A.in1) hg (fun v rest kw hm => nomatch hm) hget rfl ?_
  refine wpAny_bind (m := newList []) (wpAny_newObj_type ?_)
  refine wpAny_pure ⟨PySem.F.quiet_list_repr_loop _, ?_⟩
  have hP : H s.heap.objs.size = none := I.hok.fresh (Nat.le_refl _)
  refine loopI (X := X) (pins := pins) (σ := σ) (H0 := H) (P := s.heap.objs.size) ha hP hlen hT hsz ?_ _ 0 (L2.upd H s.heap.objs.size (.lst [])) _ rfl (Nat.zero_le _) ?_ (My.Same.new hP) L2.upd_same
  · intro H' s' u S J
    exact hQ H' s' u S J
  · exact I.laid (t' := s.toks) (fun b u q => Heap.get?_push_of_some _ q) (Nat.le_refl _) ⟨Nat.zero_le _, [], _, .nil, Heap.get?_push_size _ rfl⟩
/-- the text of an own object, by its own __repr__ -/
theorem Shows.own {H0 : Hp} {a C : Addr} {dx : Addr} {fs : List (Str × V)} {t : Str} {k : Nat} {f : Addr} {fd : FuncData} {ps : List Str} {sp : Sp} {dvs : List V} {ds : List Value} (c : Cls X.K C) (hm : Meth X.K C "__repr__" f)
    (F : FnOk X.prog X.w X.K X.mg X.base CX0 k f fd ps sp) (hb : Binds X.K fd ps ds) (hd : Vals dvs ds) (hr : Room k A) (hA : A.frames = X.A.frames) (ea : H0 a = some (.ins C dx fs))
    (h : ∀ H, Same H0 H → ∀ Q : VK, (∀ H', Same H H' → Q (.str t) H') → sp (.ref a :: dvs) H Q E0) : Shows X A H0 (.ref a) t := by
  intro base pins σ H s u E Q hb0 S I ru hQ
  obtain rfl : u = Value.ref a := ru
  have ea1 := S _ _ ea
  obtain ⟨ox, od, J⟩ := insAt I ea1
  obtain ⟨mf, fr⟩ := I.fr
  have q := h H S (fun v H' => v = .str t ∧ Same H H') fun H' s' => ⟨rfl, s'⟩
  refine reprUnder_K (by omega) hr.units0 fr I.mod.kin J hm.at_ hm.fn ?_
  have hl : ([Value.ref a] ++ ds).length = ps.length := by
    have z := F.len _ _ _ _ q
    have y := hd.length
    simp only [List.length_cons, List.length_append, List.length_nil] at z ⊢
    omega
  have ev : Env0 X.prog X.w X.K X.mg X.base A X.stack s H := ⟨hA.trans I.env0.frames, I.env0.mod, I.env0.bs, I.env0.bsz, I.env0.funs, I.env0.frf, I.env0.hok, I.env0.bare⟩
  refine wpAny_call (codeAny_mono (F.run A X.stack s H ⟨[.ref a], []⟩ (.ref a :: ds) (.ref a :: dvs) _ E0 hr ev (hb _ [.ref a] I.kIn hl) (.cons rfl hd) q) ?_)
  intro r s' hq
  cases r with
  | error er => exact (show False from hq).elim
  | ok fl => cases fl with
    | ret u =>
      obtain ⟨v, H', I3, rv, rfl, s3⟩ := I.after hq
      obtain ⟨tk, rfl⟩ := (show ∃ k, _ = Value.str t k from rv)
      exact ⟨t, tk, rfl, hQ H' _ s3 I3⟩
    | next => exact (show False from hq).elim
    | brk => exact (show False from hq).elim
    | cont => exact (show False from hq).elim
theorem Shows.int {H0 : Hp} {i : Int} (h : i.natAbs.log2 < 1920) : Shows X A H0 (.int i) (toString i) := by
  intro base pins σ H s u E Q hb S I ru hQ
  obtain ⟨k, rfl⟩ := (show ∃ k, u = Value.int i k from ru)
  exact ReprIs.int k h base hb A E s Q fun tk => hQ H _ (L2.Same.refl _) (I.tok tk)
theorem Shows.bl {H0 : Hp} {b : Bool} : Shows X A H0 (.bl b) (if b then "True" else "False") := by
  intro base pins σ H s u E Q hb S I ru hQ
  obtain rfl : u = Value.bool b := ru
  exact ReprIs.bool b base hb A E s Q fun tk => hQ H _ (L2.Same.refl _) (I.tok tk)
theorem Shows.non {H0 : Hp} : Shows X A H0 .non "None" := by
  intro base pins σ H s u E Q hb S I ru hQ
  obtain rfl : u = Value.none := ru
  exact ReprIs.none base hb A E s Q fun tk => hQ H _ (L2.Same.refl _) (I.tok tk)
theorem Shows.str {H0 : Hp} {x : Str} (h : (reprText x).length ≤ sizeLine) : Shows X A H0 (.str x) (reprText x) := by
  intro base pins σ H s u E Q hb S I ru hQ
  obtain ⟨k, rfl⟩ := (show ∃ k, u = Value.str x k from ru)
  exact ReprIs.str x k h base hb A E s Q fun tk => hQ H _ (L2.Same.refl _) (I.tok tk)
/-- the around of an item's text within repr(a list) -/
def inLst (A : Around) (args : Args) : Around := A.in1.under (.builtin "list.__repr__.loop" args)
def rReprV (X : Cx) : List V → Hp → VK → Prop := fun xs H Q => ∃ (a : Addr) (vs : List V) (ts : List Str), xs = [.ref a] ∧ H a = some (.lst vs) ∧ vs ≠ [] ∧ ts.length = vs.length ∧
  (∀ (args : Args) (i : Nat) (v : V), vs[i]? = some v → ∃ t, ts[i]? = some t ∧ Shows X (inLst X.A args) H v t) ∧ (listText ts).length ≤ sizeLine ∧ ∀ H', Same H H' → Q (.str (listText ts)) H'
theorem call_reprV {k : Nat} (hr : RoomG (k + 1) X.A) : CallR X (.builtin "repr") (rReprV X) := by
  intro pins s σ H xs us Q I r h
  obtain ⟨a, vs, ts, rfl, ea, hne, hlen, hT, hsz, q⟩ := h
  rw [Vals.ref1 r]
  have hu : X.A.in1.units < cLine := by
    have := hr.in1.units
    omega
  obtain ⟨its, n, rv, hget, _⟩ := I.lst ea
  have hTy : s.TypeIs (.ref a) "list" := ⟨_, hget, rfl⟩
  refine Calls.call_function_entry PySem.F.kind_repr PySem.F.plain_repr PySem.F.entry_repr (PySem.F.args_repr1 _) ?_
  unfold Builtin.«repr»
  refine wpAny_bind (m := oneArg "repr" _) (wpAny_pure ?_)
  refine wpAny_bind (wpAny_cRoomFor hu ?_)
  refine wpAny_bind (wpAny_specialOf (name := Str.ofString "__repr__") hTy PySem.F.slot_list_repr.lookup ?_)
  refine wpAny_bind (m := callSpecialIfBound? (.ref a) (Str.ofString "__repr__")) (wpAny_callSpecialIfBound?_slot (name := Str.ofString "__repr__") hTy PySem.F.slot_list_repr
    (list_reprI (pins := pins) (σ := σ) (H := H) (A := X.A.in1) hr.in1.g ea hne hlen hT hsz I (fun H' s' u S J => ?_)))
  refine wpAny_bind (wpAny_isInstance (T := "str") (b := true) rfl isSubtype_str_str ?_)
  exact wpAny_pure ⟨_, rfl, .str (listText ts), H', J, ⟨_, rfl⟩, q H' S⟩
theorem lst_depth {A : Around} {args : Args} : (A.under (.builtin "list.__repr__.loop" args)).depth ≤ A.depth + 1 := by
  first | exact Nat.le_refl _ | exact Nat.le_succ _ | (simp [Around.under, Code.weight, Code.isCreation, Code.isGuard, Code.isCaller, Code.frames, Code.isFrame, guardIds])
theorem lst_frames {A : Around} {args : Args} : (inLst A args).frames = A.frames := by
  first | rfl | (simp [inLst, Around.in1, Around.under, Code.envs, Code.isFrame, pushEnvs])
theorem Room.lst {k : Nat} {A : Around} (r : Room (k + 2) A) (args : Args) : Room k (inLst A args) := by
  have r1 := r.in1
  refine ⟨r1.hd, ?_, ?_⟩
  · have := r1.dp
    have := lst_depth (A := A.in1) (args := args)
    show (A.in1.under _).depth + 3 * k + 5 < _
    omega
  · have := r1.un
    show (A.in1.under _).units + 16 * k + 200 < _
    rw [units_under_list_loop]
    omega
/-- a method whose def asks no quiet around -/
structure MtO (P : Program) (w : World) (K : PySem.W.Frag) (mg : Str → Option Value) (base : Heap) (C : Addr) (m : Str) (k : Nat) (ps : List Str) (dvs : List V) (sp : Sp) : Prop where
  ex : ∃ (f : Addr) (fd : FuncData) (ds : List Value), Cls K C ∧ Meth K C m f ∧ FnOk P w K mg base CX0 k f fd ps sp ∧ Binds K fd ps ds ∧ Vals dvs ds
inductive Leaf : V → Str → Prop
  | int {i : Int} (h : i.natAbs.log2 < 1920) : Leaf (.int i) (toString i)
  | bl {b : Bool} : Leaf (.bl b) (if b then "True" else "False")
  | non : Leaf .non "None"
  | str {x : Str} (h : (reprText x).length ≤ sizeLine) : Leaf (.str x) (reprText x)
/-- repr of a list of leaves and own objects of C -/
def rReprW (C : Addr) (sp : Sp) (dvs : List V) : List V → Hp → VK → Prop := fun xs H Q => ∃ (a : Addr) (vs : List V) (ts : List Str), xs = [.ref a] ∧ H a = some (.lst vs) ∧ vs ≠ [] ∧ ts.length = vs.length ∧
  (∀ (i : Nat) (v : V), vs[i]? = some v → ∃ t, ts[i]? = some t ∧ (Leaf v t ∨ ∃ (b dx : Addr) (fs : List (Str × V)), v = .ref b ∧ H b = some (.ins C dx fs) ∧ ∀ H1, Same H H1 → ∀ Q1 : VK, (∀ H2, Same H1 H2 → Q1 (.str t) H2) → sp (.ref b :: dvs) H1 Q1 E0)) ∧
  (listText ts).length ≤ sizeLine ∧ ∀ H', Same H H' → Q (.str (listText ts)) H'
theorem call_reprW {k : Nat} {C : Addr} {ps : List Str} {dvs : List V} {sp : Sp} (D : MtO X.prog X.w X.K X.mg X.base C "__repr__" k ps dvs sp) (hr : RoomG (k + 3) X.A) : CallR X (.builtin "repr") (rReprW C sp dvs) := by
  obtain ⟨f, fd, ds, c, hm, F, hb, hd⟩ := D.ex
  intro pins s σ H xs us Q I r h
  obtain ⟨a, vs, ts, rfl, ea, hne, hlen, hT, hsz, q⟩ := h
  refine call_reprV (k := k + 2) hr pins s σ H _ us Q I r ⟨a, vs, ts, rfl, ea, hne, hlen, fun args i v hv => ?_, hsz, q⟩
  obtain ⟨t, ht, z⟩ := hT i v hv
  refine ⟨t, ht, ?_⟩
  rcases z with z | ⟨b, dx, fs, rfl, eb, z⟩
  · cases z with
    | int h => exact .int h
    | bl => exact .bl
    | non => exact .non
    | str h => exact .str h
  · exact .own c hm F hb hd (My.Room.lst (hr.r.mono (by omega : k + 2 ≤ k + 3)) args) lst_frames eb z
end
end My

namespace My
open PySem PySem.Spec PyProof.Rows L2 LamX PySem.W
/-! ### a lambda without parameters handed to an own def; nothing is being shown -/
/-- the local i, the lambda f, is called: tl is what the lambda's body reads -/
def tAct (W : WX) (i : Nat) (f c' : Addr) (q : Str) (tl : XK → Hp → VK → Prop) : TE := fun σ H Q => σ[i]? = some (some (.ref f)) ∧ H c' = some (CodeO c' q) ∧ tl (WE W σ) H Q
section
variable {X : Cx} {pins : List (Addr × Obj)} {σ : L2.St} {H : Hp} {s : Shared}
abbrev heldCx (X : Cx) (Ng : List Str) (x : Str) (sg : Scope) (g : Addr) (cdg : Value) (s : Shared) (H : Hp) : Cx := cxOf CX0 X.prog X.w X.K X.mg X.base Ng x sg g cdg X.A X.stack s H E0
theorem pe_actG {Ng : List Str} {x a : Str} {sg : Scope} {g f c' : Addr} {cdg pm ctv : Value} {params : Arguments} {body : Expr} {scope : Scope} {k i : Nat} {pn : List (Addr × Obj)} {xe : Value → Shared → Prop} {W : WX} {t : XK → TE} {p1 p2 : Pos}
    (I : Inv X pins σ H s) (L : LamS X.env.scope scope)
    (hf : s.heap.get? f = some (kla_obj "<lambda>" (X.env.qual ++ "<lambda>") params body scope (cloFrom X.env.cells scope.names []) pm c' ctv)) (nf : H f = none) (nr : f ∉ frs X.stack)
    (bnd : bindArgs (kla_fn "<lambda>" (X.env.qual ++ "<lambda>") params body scope (cloFrom X.env.cells scope.names []) pm (.ref c') ctv) ⟨[], []⟩ = pure [])
    (tk : Takes ((heldCx X Ng x sg g cdg s H).tr pn xe) W) (hr : RoomG (k + 1) (X.A.deeper (envOfC x sg s.heap.objs.size g cdg)))
    (hbody : ∀ (A : Around) (outer : List Env) (s : Shared) (H : Hp) (E : XK), RoomG k (A.deeper (lamEnv X scope s.heap.objs.size f c')) → PE (lamCx X A outer s H E scope f c') body (t E))
    (hN : Ng[i]? = some a) (hv : Vis sg a) (h1 : (a == ("__debug__" : Str)) = false := by decide) (h2 : (a == ("__classdict__" : Str)) = false := by decide) :
    PE ((heldCx X Ng x sg g cdg s H).tr pn xe) (.Call (.Name a p1) [] [] p2) (tAct W i f c' (X.env.qual ++ "<lambda>") fun E H' Q' => t E σ H' Q') := by
  constructor
  intro pinsZ sZ σZ HZ Q IZ ⟨hs, hc, ht⟩
  have var := (pe_var (pos := p1) (i := i) hN hv h1 h2).run pinsZ sZ σZ HZ (fun v H1 => v = .ref f ∧ H1 = HZ) IZ ⟨.ref f, hs, rfl, rfl⟩
  refine wpAny_Call_Name_kw (thn var ?_)
  rintro u s1 ⟨v, H1, I1, rv, rfl, rfl⟩
  obtain rfl : u = Value.ref f := rv
  have bs : Un (frs X.stack) [] H H1 s.heap s1.heap := I1.base
  have at_ := bs.keep f _ hf nf nr List.not_mem_nil
  obtain ⟨⟨oc, vs, tt, hoc, hd, hn⟩, _⟩ := I1.hok c' _ hc
  refine callWith_F0 ⟨_, _, _, _, at_⟩ (wpAny_call ?_)
  refine codeAny_mono (R := CR (L2.CX X.prog X.w) (envOfC x sg s.heap.objs.size g cdg :: X.stack) X.prog X.w H1 s1 Q (WE W σZ)) ?_ ?_
  · show codeAny (model X.prog X.w) (X.A.deeper (envOfC x sg s.heap.objs.size g cdg)) (.call (.ref f) ⟨[], []⟩) (CR (L2.CX X.prog X.w) (envOfC x sg s.heap.objs.size g cdg :: X.stack) X.prog X.w H1 s1 Q (WE W σZ)) s1
    refine kla_callFunE hr.r.depth at_ rfl L.co L.gen rfl ⟨c', oc, vs, tt, rfl, hoc, hd, hn⟩ ?_
    rw [bnd]
    refine wpAny_pure (wpAny_newFunctionEnv (fun y hy => (L.own y hy).2) (fun y hy => nomatch hy) (fun h₁ ns sb => ?_) L.kind)
    refine ⟨I1.nolimit.fresh _ sb, ?_⟩
    have keep : ∀ b o, s1.heap.get? b = some o → h₁.get? b = some o := fun b o z => sb.extBut b o (Nat.ne_of_lt (Heap.lt_size z)) (Heap.get?_push_of_some _ z)
    have J := lam_start2 (E := WE W σZ) (c' := c') (f := f) (tk := s1.toks + ([] : List (Str × Value)).length) I L I1.env0 hr.r.hd bs ns keep
    show codeAny _ _ (.expr body (lamEnv X scope s1.heap.objs.size f c')) _ _
    refine kla_codeExpr (wpAny_mono ((hbody _ _ s1 H1 _ ⟨hr.r.deeper _, hr.g⟩).run [] _ _ H1 Q J ht) ?_ fun _ _ z => z)
    rintro v s' ⟨y, H', J', ry, q⟩
    exact ⟨y, H', J'.os, J'.bare, J'.base, J'.hok, ry, q⟩
  · intro r s' hq
    cases r with
    | error er => exact passAt tk σZ pinsZ H1 s1 er s' I1 hq
    | ok fl => cases fl with
      | ret u => exact I1.after hq
      | next => exact (show False from hq).elim
      | brk => exact (show False from hq).elim
      | cont => exact (show False from hq).elim
end
/-- what the def x, its one parameter a, makes of a lambda's reading -/
def GivesG (P : Program) (w : World) (K : Frag) (mg : Str → Option Value) (base : Heap) (k : Nat) (N : List Str) (x a : Str) (sc : Scope) (g : Addr) (cd : Value) (bd : List Stmt) (TT : (XK → Hp → VK → Prop) → Hp → VK → Prop) : Prop :=
  ∀ (A : Around) (outer : List Env) (s : Shared) (H : Hp) (f c' : Addr) (q : Str) (Q : VK) (tl : XK → Hp → VK → Prop), RoomG k (A.deeper (envOfC x sc s.heap.objs.size g cd)) →
    (∀ (W : WX) (pn : List (Addr × Obj)) (xe : Value → Shared → Prop) (p1 p2 : Pos), Takes ((cxOf CX0 P w K mg base N x sc g cd A outer s H E0).tr pn xe) W →
      PE ((cxOf CX0 P w K mg base N x sc g cd A outer s H E0).tr pn xe) (.Call (.Name a p1) [] [] p2) (tAct W 0 f c' q tl)) →
    H c' = some (CodeO c' q) → TT tl H Q → ∃ t, PSs (cxOf CX0 P w K mg base N x sc g cd A outer s H E0) bd t ∧ t { nx := fun _ H' => Q .non H', rt := Q } (L2.start N [.ref f]) H
structure DnL (P : Program) (w : World) (K : Frag) (mg : Str → Option Value) (base : Heap) (x a : Str) (k : Nat) (TT : (XK → Hp → VK → Prop) → Hp → VK → Prop) : Prop where
  ex : ∃ (g : Addr) (fd : FuncData) (st : Stmt) (N : List Str), FunD K x x (defArgs st) (defBody st) (defScope st) [] [] g fd ∧ mg x = some (.ref g) ∧ Binds K fd [a] [] ∧ FnScope N [a] (defScope st) ∧ N[0]? = some a ∧ Vis (defScope st) a ∧ ∀ cd, GivesG P w K mg base k N x a (defScope st) g cd (defBody st) TT
def tLamG (T : List (Addr × Str)) (TT : (XK → Hp → VK → Prop) → Hp → VK → Prop) (t : XK → TE) : TE := fun σ H Q => Tabs T H ∧ ∀ H1, ExtN H H1 → Tabs T H1 → TT (fun E H' Q' => t E σ H' Q') H1 Q
theorem pe_lamcallG {X : Cx} {T : List (Addr × Str)} {TT : (XK → Hp → VK → Prop) → Hp → VK → Prop} {x a : Str} {c Pt : Addr} {k : Nat} {params : Arguments} {body : Expr} {scope : Scope} {t : XK → TE} {p lpos pos : Pos}
    (D : DnL X.prog X.w X.K X.mg X.base x a (k + 1) TT) (hg : Gl X x) (TB : TabB X.base X.mg c Pt) (hcode : X.env.code = .ref c) (hT : (Pt, X.env.qual ++ "<lambda>") ∈ T) (hu : ∀ p ∈ T, p.1 = Pt → p.2 = X.env.qual ++ "<lambda>")
    (hr : RoomG (k + 2) X.A) (L : LamS X.env.scope scope) (hdef : defaultsOf params X.env = ([], []))
    (bnd : ∀ (q : Str) (cl : List (Str × Addr)) (pm cv ctv : Value), bindArgs (kla_fn "<lambda>" q params body scope cl pm cv ctv) ⟨[], []⟩ = pure [])
    (hbody : ∀ (A : Around) (outer : List Env) (s : Shared) (H : Hp) (E : XK) (f c' : Addr), RoomG k (A.deeper (lamEnv X scope s.heap.objs.size f c')) → PE (lamCx X A outer s H E scope f c') body (t E))
    (h1 : (x == ("__debug__" : Str)) = false := by decide) (h2 : (a == ("__debug__" : Str)) = false := by decide) (h3 : (a == ("__classdict__" : Str)) = false := by decide) :
    PE X (.Call (.Name x p) [.Lambda params body scope lpos] [] pos) (tLamG T TT t) := by
  obtain ⟨g, fd, st, N, F, hm, hb, S, hN, hv, G⟩ := D.ex
  have kp := F.kp
  obtain ⟨oc, od, dV, kV, doc, pm, an, cdv, ct, osl, rfl, lk, hcd, _, _⟩ := F.ex
  constructor
  intro pins s σ H Q I ⟨tb, go⟩
  refine wpAny_Call_Name_kw (ld_glob I hg hm ?_ h1)
  refine callWith_K (h₀ := X.base) I.ok.mod.kin kp ?_ (by rfl) (by rfl)
  refine Calls.spliced_cons (lam_make2 I TB hcode hT hu tb hdef (L.has I.ok) ?_)
  intro f c' pm' ctv H1 s' I1 eN T1 hf nf nr hco
  refine Calls.spliced_nil ⟨I1.kIn, wpAny_call (codeAny_mono (R := CR CX0 X.stack X.prog X.w H1 s' Q E0) ?_ ?_)⟩
  · refine run_ofS (N := N) (ps := [a]) (us := [.ref f]) (vs := [.ref f]) lk hcd S hr.r I1.env0 (hb s' [.ref f] I1.kIn rfl) (.cons rfl .nil) rfl fun hr' => ?_
    refine G cdv X.A X.stack s' H1 f c' _ Q _ ⟨hr', hr.g⟩ (fun W pn xe p1 p2 tk => ?_) hco (go H1 eN T1)
    exact pe_actG (i := 0) I1 L hf nf nr (bnd _ _ _ _ _) tk ⟨hr', hr.g⟩ (fun A outer s H E hr2 => hbody A outer s H E f c' hr2) hN hv h2 h3
  · intro r s2 hq
    cases r with
    | error er => exact (show False from hq).elim
    | ok fl => cases fl with
      | ret u => exact I1.after hq
      | next => exact (show False from hq).elim
      | brk => exact (show False from hq).elim
      | cont => exact (show False from hq).elim
theorem code_of {K : Frag} {x qual : Str} {pa : Arguments} {bd : List Stmt} {sc : Scope} {dvs : List V} {kws : List (Str × V)} {f : Addr} {fd : FuncData} (F : FunD K x qual pa bd sc dvs kws f fd) : fd.code = .ref (tcC K f) := by
  obtain ⟨oc, od, dV, kV, doc, pm, an, cdv, ct, osl, rfl, lk, hcd, _, _⟩ := F.ex
  unfold tcC
  rw [lk]
  cases cdv with
  | ref c => rfl
  | _ => cases (show false = true from hcd)
/-- as fnG_body, the def's code object known -/
theorem fnG_bodyC {P : Program} {w : World} {K : Frag} {mg : Str → Option Value} {base : Heap} {CX : CXT} {k : Nat} {f : Addr} {fd : FuncData} {ps : List Str} {sp : Sp} {x qual : Str} {st : Stmt} {N : List Str} {dvs0 : List V} {kws0 : List (Str × V)} (F : FunD K x qual (defArgs st) (defBody st) (defScope st) dvs0 kws0 f fd) (S : FnScope N ps (defScope st)) (len : ∀ vs H Q E, sp vs H Q E → vs.length = ps.length)
    (hb : ∀ (A : Around) (outer : List Env) (s : Shared) (H : Hp) (vs : List V) (Q : VK) (E : XK), RoomG k (A.deeper (envOfC qual (defScope st) s.heap.objs.size f (.ref (tcC K f)))) → sp vs H Q E →
      ∃ t, PSs (cxOf CX P w K mg base N qual (defScope st) f (.ref (tcC K f)) A outer s H E) (defBody st) t ∧ t { nx := fun _ H' => Q .non H', rt := Q } (start N vs) H) :
    FnG P w K mg base CX (k + 1) f fd ps sp := by
  have e := code_of F
  obtain ⟨oc, od, dV, kV, doc, pm, an, cdv, ct, osl, rfl, lk, hcd, _, _⟩ := F.ex
  obtain rfl : cdv = .ref (tcC K f) := e
  constructor
  · exact len
  · intro A outer s H args us vs Q E hr e0 hbi r hsp
    have keeps0 : ∀ b o, base.get? b = some o → s.heap.get? b = some o := fun b o e => (e0.bs b o e).1
    have inK : K.In s.heap := e0.mod.kin.keeps keeps0
    refine codeAny_call_function hr.r.depth (inK _ _ lk) rfl S.co S.gen rfl (PySem.W.codeRec_of inK hcd) (hbi _ _ _ _ ?_)
    refine wpAny_newFunctionEnv_cells S.kind ?_ fun env he s1 x => ?_
    · intro ⟨n, v⟩ hy
      cases S.par n (List.of_mem_zip hy).1 with
      | inl q => exact Or.inl q
      | inr q => exact Or.inr ⟨q, PySem.W.cellsFrom_some _ _ _ (Or.inl q)⟩
    · subst he
      refine ⟨(e0.mod.nolimit.keeps keeps0).keeps x.toInCall.keep, codeAny_func ?_⟩
      obtain ⟨t, ht, hq⟩ := hb A outer s H vs Q E ⟨hr.r.deeper _, hr.g⟩ hsp
      have I0 := inv_start (CX := CX) (P := P) (E := E) S hr.r.hd e0 (len _ _ _ _ hsp) r x
      refine wpAny_mono (ht.run [] s1 (start N vs) H _ I0 hq) ?_ (fun _ _ z => z)
      intro fl s' hs
      cases fl with
      | ret u => obtain ⟨v, σ', H', J, rv, q⟩ := hs; exact ⟨v, H', J.os, J.bare, J.base, J.hok, rv, q⟩
      | next => obtain ⟨σ', H', J, q⟩ := hs; exact ⟨V.non, H', J.os, J.bare, J.base, J.hok, rfl, q⟩
      | brk => exact hs.elim fun _ z => z.elim fun _ y => y.2.elim
      | cont => exact hs.elim fun _ z => z.elim fun _ y => y.2.elim
/-- one table, one name -/
def TabN (T : List (Addr × Str)) : Prop := ∀ p ∈ T, ∀ q ∈ T, p.1 = q.1 → p.2 = q.2
theorem TabN.by {T : List (Addr × Str)} (h : (T.all fun p => T.all fun q => !(p.1 == q.1) || p.2 == q.2) = true) : TabN T := by
  intro p hp q hq e
  have z := List.all_eq_true.mp (List.all_eq_true.mp h p hp) q hq
  rw [e, beq_self_eq_true, Bool.not_true, Bool.false_or] at z
  exact beq_iff_eq.mp z
/-- all but the tables and r stay -/
def ExtB (r : Addr) (H H' : Hp) : Prop := ∀ b o, H b = some o → (∀ ps, o ≠ .tbl ps) → b ≠ r → H' b = some o
theorem ExtB.refl (r : Addr) (H : Hp) : ExtB r H H := fun _ _ h _ _ => h
theorem ExtB.trans {r : Addr} {H H1 H2 : Hp} (a : ExtB r H H1) (b : ExtB r H1 H2) : ExtB r H H2 := fun c o h n m => b c o (a c o h n m) n m
theorem ExtB.ofN {r : Addr} {H H' : Hp} (e : ExtN H H') : ExtB r H H' := fun b o h n _ => e b o h n
theorem ExtB.ofB {r : Addr} {H H' : Hp} (e : But r H H') : ExtB r H H' := fun b o h _ m => e b o h m
theorem ExtB.get {r b : Addr} {o : HO} {H H' : Hp} (x : ExtB r H H') (h : H b = some o) (m : b ≠ r) (n : ∀ ps, o ≠ .tbl ps) : H' b = some o := x b o h n m
theorem ExtN.get' {b : Addr} {o : HO} {H H' : Hp} (x : ExtN H H') (h : H b = some o) (n : ∀ ps, o ≠ .tbl ps) : H' b = some o := x b o h n
theorem ExtN.sm {H H' : Hp} (e : L2.Same H H') : ExtN H H' := fun b o h _ => e b o h
theorem Tabs.sm {T : List (Addr × Str)} {H H' : Hp} (t : Tabs T H) (e : L2.Same H H') : Tabs T H' := t.ext e
theorem Tabs.nilT {T : List (Addr × Str)} {H : Hp} (h : ∀ p ∈ T, H p.1 = some (.tbl #[])) : Tabs T H := fun p hp => .nil (h p hp)
/-- a change beside the tables -/
theorem Tabs.but {T : List (Addr × Str)} {r : Addr} {H H' : Hp} {o : HO} (t : Tabs T H) (e : But r H H') (hr : H r = some o) (h1 : ∀ ps, o ≠ .tbl ps) (h2 : ∀ c q, o ≠ CodeO c q) : Tabs T H' := by
  intro p hp
  obtain ⟨ps, a1, a2, a3⟩ := t p hp
  refine ⟨ps, e _ _ a1 (fun z => ?_), a2, fun pos cv hc => ?_⟩
  · rw [z, hr] at a1
    exact h1 ps (Option.some.inj a1)
  · obtain ⟨c, e1, e2⟩ := a3 pos cv hc
    refine ⟨c, e1, e _ _ e2 (fun z => ?_)⟩
    have e3 := (congrArg H z).symm.trans e2
    rw [hr] at e3
    exact h2 c _ (Option.some.inj e3)
theorem codeO_lst {xs : List V} (c : Addr) (q : Str) : HO.lst xs ≠ CodeO c q := fun z => by
  unfold CodeO at z
  cases z
end My

namespace My
open PySem PySem.Spec PyProof.Rows L2 LamX PySem.W
/-! ### the end of a row whose defs make lambdas: code objects and their tables -/
/-- a maker: its code object is p.1, its table p.2 -/
structure Maker (K : Frag) (h : Heap) (p : Addr × Addr) : Prop where
  tab : h.get? p.2 = some (tabObj #[])
  out : K.lookup p.2 = none
  hd : CodeHd h p.1 p.2
/-- the script and the tables, nothing else -/
structure OnlyT (cs : List (Addr × Addr)) (a : Addr) (H : Hp) : Prop where
  tb : ∀ p ∈ cs, H p.2 = some (.tbl #[])
  one : ∀ b u, H b = some u → (b = a ∧ ∃ o xs, u = .frz o (.lst xs)) ∨ ∃ p ∈ cs, p.2 = b
section
variable {P : Program} {w : World} {K : Frag} {mg mb : Str → Option Value} {k : Nat} {fa a : Addr} {fd : FuncData} {x : Str} {sp : Sp} {s : Shared} {vs : List Value} {ns : List Int} {cs : List (Addr × Addr)}
theorem lawT_from {H : Hp} (KX : K.In s.heap) (hns : s.heap.Ns mainGlobals mg) (hb : s.heap.Ns builtinsNs mb) (hbb : ∀ y : Str, y ≠ "__name__" → mb y = bootBuiltins y) (hlim : s.heap.NoLimit) (hg : s.gens = #[])
    (mk : ∀ p ∈ cs, Maker K s.heap p)
    (hbm : ∃ (bm : Addr) (ob : Obj), mg "__builtins__" = some (.ref bm) ∧ bm ≠ builtinsNs ∧ s.heap.get? bm = some ob ∧ ob.cls = .type "module" ∧ ob.dict = some builtinsNs ∧ ob.data = .plain)
    (ha : s.heap.get? a = some { cls := .type "list", data := .seq vs.toArray }) (hr : RoomG k callerA)
    (F : ∀ base : Heap, K.In base → base.Ns mainGlobals mg → (∀ p ∈ cs, TabB base mg p.1 p.2) → FnG P w K mg base CX0 k fa fd [x] sp) (bnd : ∀ (s : Shared) (u : Value), BindsTo s fd ⟨[u], []⟩ [(x, u)])
    (hsp : sp [.ref a] H (fun v _ => v = .bl true) E0) (only : OnlyT cs a H) (ok : HOk P w H s.heap) (nK : H a ≠ none → K.lookup a = none) :
    codeAny (model P w) callerA (.call (.ref fa) ⟨[.ref a], []⟩) (lawEnd s) s := by
  -- what is tracked is the script's list or a table
  have sort : ∀ {b : Addr} {o : Obj}, s.heap.get? b = some o → (∀ us n, o.data ≠ .seq us n) → o.data ≠ .fields #[] → H b = none := by
    intro b o e h1 h2
    refine Classical.byContradiction fun z => ?_
    obtain ⟨u, hu⟩ := Option.ne_none_iff_exists'.mp z
    rcases only.one b u hu with ⟨rfl, _⟩ | ⟨p, hp, rfl⟩
    · rw [ha] at e
      cases e
      exact h1 _ _ rfl
    · rw [(mk p hp).tab] at e
      cases e
      exact h2 rfl
  have dictN : ∀ {b : Addr} {o : Obj} {es : Array DictEntry} {ep : Nat}, s.heap.get? b = some o → o.data = .dict es ep → H b = none := fun e d =>
    sort e (fun us n z => by rw [d] at z; cases z) fun z => by rw [d] at z; cases z
  have nsB : ∀ {b : Addr} {m : Str → Option Value}, s.heap.Ns b m → (hidT s.heap H).Ns b m := by
    rintro b m ⟨o, es, ep, e, d, r⟩
    exact ⟨o, es, ep, hidT_get e (dictN e d), d, r⟩
  have inB : K.In (hidT s.heap H) := by
    intro b o e
    refine hidT_get (KX b o e) (Classical.byContradiction fun z => ?_)
    obtain ⟨u, hu⟩ := Option.ne_none_iff_exists'.mp z
    rcases only.one b u hu with ⟨rfl, _⟩ | ⟨p, hp, rfl⟩
    · rw [nK z] at e
      cases e
    · rw [(mk p hp).out] at e
      cases e
  obtain ⟨mc, l1, l2⟩ := hlim
  have md : Mod K mg (hidT s.heap H) := ⟨inB, nsB hns, ⟨mb, nsB hb, hbb⟩, mc, nsB l1, l2⟩
  have env : Env0 P w K mg (hidT s.heap H) callerA [] s H :=
    ⟨rfl, md, fun b o e => of_hidT e, Nat.le_of_eq (hidT_size _ _), trivial, fun b z => (List.not_mem_nil (show b ∈ ([] : List Addr) from z)).elim, ok, .of_eq hg⟩
  have TB : ∀ p ∈ cs, TabB (hidT s.heap H) mg p.1 p.2 := by
    intro p hp
    constructor
    · obtain ⟨o, us, file, tf, fl, tg, inF, tx, tt, e1, e2, e3, e4, r⟩ := (mk p hp).hd
      refine ⟨o, us, file, tf, fl, tg, inF, tx, tt, hidT_get e1 (sort e1 (fun us n z => ?_) fun z => ?_), e2, e3, e4, r⟩
      · rw [e3] at z
        cases z
      · rw [e3] at z
        cases z
        cases e4
    · obtain ⟨bm, ob, b1, b2, b3, b4, b5, b6⟩ := hbm
      have pl : ∀ {us n}, ob.data ≠ .seq us n := fun {us n} z => by rw [b6] at z; cases z
      have nf : ∀ {us}, ob.data ≠ .fields us := fun {us} z => by rw [b6] at z; cases z
      refine ⟨bm, ob, b1, b2, ?_, ?_, hidT_get b3 (sort b3 (fun _ _ => pl) nf), b4, b5, b6⟩
      · rintro rfl
        obtain ⟨o, es, ep, e, d, _⟩ := hns
        rw [e] at b3
        cases b3
        rw [d] at b6
        cases b6
      · rintro rfl
        rw [(mk p hp).tab] at b3
        cases b3
        cases b6
    · intro z
      obtain ⟨o, es, ep, e, d, _⟩ := hns
      rw [z, (mk p hp).tab] at e
      cases e
      cases d
  refine codeAny_mono ((F _ inB (nsB hns) TB).go callerA [] s H ⟨[.ref a], []⟩ [.ref a] [.ref a] _ _ hr env (bnd s (.ref a)) (.cons rfl .nil) hsp) ?_
  rintro (e | fl) s' h
  · exact (show False from h).elim
  · cases fl with
    | ret u =>
      obtain ⟨v, H', os, bare, un, ok', rv, (rfl : v = .bl true)⟩ := h
      obtain rfl : u = Value.bool true := rv
      -- each old object: kept, or a table that has grown
      have key : ∀ b o, s.heap.get? b = some o → s'.heap.get? b = some o ∨ ∃ p ∈ cs, p.2 = b ∧ o = tabObj #[] ∧ ∃ more, s'.heap.get? b = some (tabObj more) := by
        intro b o e
        cases q : H b with
        | none => exact .inl (un.keep b o e q (fun z => (List.not_mem_nil (show b ∈ ([] : List Addr) from z)).elim) (by simp))
        | some u =>
          rcases only.one b u q with ⟨rfl, ob, xs, rfl⟩ | ⟨p, hp, rfl⟩
          · have y1 := (ok b _ q).1
            have y2 := (ok' b _ (un.frzs b ob _ q)).1
            rw [e] at y1
            cases y1
            exact .inl y2
          · rw [(mk p hp).tab] at e
            obtain ⟨more, z⟩ := un.tbls p.2 #[] (only.tb p hp)
            exact .inr ⟨p, hp, rfl, (Option.some.inj e).symm, _, ok' p.2 _ z⟩
      refine ⟨rfl, ⟨fun b o e => ?_, fun b o e => ?_⟩, os, bare⟩
      · rcases key b o e with z | ⟨p, hp, rfl, rfl, more, z⟩
        · exact .inl z
        · exact .inr (.inl ⟨((mk p hp).hd.tab (mk p hp).tab).isCodeTable, rfl, #[], more, rfl, by rw [Array.empty_append]; exact z⟩)
      · rcases key b o e with z | ⟨p, hp, rfl, rfl, more, z⟩
        · exact ⟨o, z⟩
        · exact ⟨_, z⟩
    | next => exact (show False from h).elim
    | brk => exact (show False from h).elim
    | cont => exact (show False from h).elim
theorem lawT (KX : K.In s.heap) (hns : s.heap.Ns mainGlobals mg) (hb : s.heap.Ns builtinsNs mb) (hbb : ∀ y : Str, y ≠ "__name__" → mb y = bootBuiltins y) (hlim : s.heap.NoLimit) (hg : s.gens = #[])
    (mk : ∀ p ∈ cs, Maker K s.heap p)
    (hbm : ∃ (bm : Addr) (ob : Obj), mg "__builtins__" = some (.ref bm) ∧ bm ≠ builtinsNs ∧ s.heap.get? bm = some ob ∧ ob.cls = .type "module" ∧ ob.dict = some builtinsNs ∧ ob.data = .plain)
    (ha : s.heap.get? a = some { cls := .type "list", data := .seq vs.toArray }) (hi : IntsAre vs ns) (hl : ns.length ≤ sizeLine) (hr : RoomG k callerA)
    (F : ∀ base : Heap, K.In base → base.Ns mainGlobals mg → (∀ p ∈ cs, TabB base mg p.1 p.2) → FnG P w K mg base CX0 k fa fd [x] sp) (bnd : ∀ (s : Shared) (u : Value), BindsTo s fd ⟨[u], []⟩ [(x, u)])
    (hsp : ∀ H : Hp, (∀ p ∈ cs, H p.2 = some (.tbl #[])) → SqL K H a (ns.map V.int) → sp [.ref a] H (fun v _ => v = .bl true) E0) :
    codeAny (model P w) callerA (.call (.ref fa) ⟨[.ref a], []⟩) (lawEnd s) s := by
  have rv := vals_ints hi
  have inT : ∀ b, b ∈ cs.map (·.2) ↔ ∃ p ∈ cs, p.2 = b := fun b => List.mem_map
  let T : Hp := fun b => if b ∈ cs.map (·.2) then some (.tbl #[]) else none
  have T1 : ∀ b, b ∈ cs.map (·.2) → T b = some (.tbl #[]) := fun b h => if_pos h
  have T0 : ∀ b, b ∉ cs.map (·.2) → T b = none := fun b h => if_neg h
  have Tok : ∀ b u, T b = some u → (∃ p ∈ cs, p.2 = b) ∧ u = .tbl #[] := by
    intro b u z
    rcases Classical.em (b ∈ cs.map (·.2)) with h | h
    · rw [T1 b h] at z
      exact ⟨(inT b).mp h, (Option.some.inj z).symm⟩
    · rw [T0 b h] at z
      cases z
  have aT : a ∉ cs.map (·.2) := by
    intro z
    obtain ⟨p, hp, e⟩ := (inT a).mp z
    have e1 := (mk p hp).tab
    rw [e, ha] at e1
    cases e1
  cases hk : K.lookup a with
  | some o =>
    have e := (ha.symm.trans (KX a o hk))
    cases e
    have on : OnlyT cs a T := ⟨fun p hp => T1 _ ((inT _).mpr ⟨p, hp, rfl⟩), fun b u z => .inr (Tok b u z).1⟩
    refine lawT_from (H := T) KX hns hb hbb hlim hg mk hbm ha hr F bnd (hsp T on.tb ?_) on ?_ fun z => (z (T0 a aT)).elim
    · exact Or.inr ⟨_, vs.toArray, _, hk, rfl, rfl, rfl, by rw [List.size_toArray, hi.length]; exact hl, by simpa using rv⟩
    · intro b u z
      obtain ⟨⟨p, hp, rfl⟩, rfl⟩ := Tok b u z
      exact (mk p hp).tab
  | none =>
    let H1 : Hp := upd T a (.frz { cls := .type "list", data := .seq vs.toArray } (.lst (ns.map V.int)))
    have same : H1 a = some (.frz { cls := .type "list", data := .seq vs.toArray } (.lst (ns.map V.int))) := upd_same
    have els : ∀ b, b ≠ a → H1 b = T b := fun b n => upd_ne n
    have on : OnlyT cs a H1 := by
      constructor
      · intro p hp
        have hm := (inT p.2).mpr ⟨p, hp, rfl⟩
        rw [els p.2 (fun z => aT (z ▸ hm))]
        exact T1 _ hm
      · intro b u z
        rcases Classical.em (b = a) with e | n
        · subst e
          rw [same] at z
          exact .inl ⟨rfl, _, _, (Option.some.inj z).symm⟩
        · rw [els b n] at z
          exact .inr (Tok b u z).1
    refine lawT_from (H := H1) KX hns hb hbb hlim hg mk hbm ha hr F bnd (hsp H1 on.tb (Or.inl (Or.inr ⟨_, same⟩))) on ?_ fun _ => hk
    intro b u z
    rcases Classical.em (b = a) with e | n
    · subst e
      rw [same] at z
      cases z
      exact ⟨ha, by rw [List.length_map]; exact hl, vs, _, rv, ha⟩
    · rw [els b n] at z
      obtain ⟨⟨p, hp, rfl⟩, rfl⟩ := Tok b u z
      exact (mk p hp).tab
end
theorem walkGT {l : OpenLaw} {n k : Nat} {q : Program} {loose : List Str} {XP : (Str → Option Value) → Heap → Prop} {YP : World → Heap → Prop} {d : DefRec} {x : Str} (hn : l.most = some n) (hn2 : n ≤ sizeLine) (hdf : d.params.defaults = []) (hr : RoomG k callerA)
    (F : ∀ (w : World) (mg : Str → Option Value) (fa : Addr) (h : Heap), YP w h → h.Ns mainGlobals mg → mg d.name = some (.ref fa) → ∃ (K : Frag) (fd : FuncData) (sp : Sp) (cs : List (Addr × Addr)), K.In h ∧ (∀ p ∈ cs, Maker K h p) ∧ (∀ (s : Shared) (u : Value), BindsTo s fd ⟨[u], []⟩ [(x, u)]) ∧
      (∀ (H : Hp) (a : Addr) (ns : List Int), ns.length ≤ n → (∀ p ∈ cs, H p.2 = some (.tbl #[])) → SqL K H a (ns.map V.int) → sp [.ref a] H (fun v _ => v = .bl true) E0) ∧
      ∀ base : Heap, K.In base → base.Ns mainGlobals mg → (∀ p ∈ cs, TabB base mg p.1 p.2) → FnG l.prog w K mg base CX0 k fa fd [x] sp) :
    WalkO q loose XP YP l.row.toRowW d [] (fun f vs => PySem.call f vs) := by
  refine Att.attach_call hn hdf ?_
  intro w s₀ s₁ mg mb fa o pm cd doc a vs ns G Y ho hd hcd hmg hobj hints hlen hg
  obtain ⟨K, fd, sp, cs, KX, mk, hb, hsp, hF⟩ := F w mg fa _ Y G.T.g hmg
  exact lawT KX G.T.g G.T.b G.T.builtins G.T.nolimit hg mk G.T.bmain hobj hints (Nat.le_trans hlen hn2) hr hF hb fun H h1 h2 => hsp H a ns hlen h1 h2
/-! ### the run of the top tells K without the tables, and the tables -/
theorem isTabO_ok {o : Obj} (h : isTabO o = true) : o = tabObj #[] := by
  unfold isTabO at h
  split at h
  · rename_i us sl
    simp only [Bool.and_eq_true, beq_iff_eq] at h
    obtain ⟨⟨u⟩, ⟨v⟩⟩ := us, sl
    obtain ⟨h1, h2⟩ := h
    have e1 : u = [] := List.eq_nil_of_length_eq_zero h1
    have e2 : v = [] := List.eq_nil_of_length_eq_zero h2
    subst e1 e2
    rfl
  · cases h
theorem tabOkB_ok {T K : Frag} {h : Heap} {a : Addr} (TX : T.In h) (KX : K.In h) (z : tabOkB T K a = true) : Maker K h (tcC K a, tcP K a) := by
  unfold tabOkB at z
  simp only [Bool.and_eq_true, Option.isNone_iff_eq_none] at z
  obtain ⟨z1, z2, z3⟩ := z
  refine ⟨?_, z2, codeHd_of_K KX z1⟩
  split at z3
  · rename_i o e
    rw [← isTabO_ok z3]
    exact TX _ _ e
  · cases z3
end My

namespace My
open PySem L2 PySem.Spec PyProof.Rows
/-! ### data with dicts of text keys in it -/
section
variable {X : Cx} {pins : List (Addr × Obj)} {σ : L2.St} {H : Hp} {s : Shared}
mutual
inductive Dz (H : Hp) : V → PyData → Prop
  | non : Dz H .non .none
  | bl (b : Bool) : Dz H (.bl b) (.bool b)
  | int (i : Int) : Dz H (.int i) (.int i)
  | str (x : Str) : Dz H (.str x) (.str x)
  | lst {a : Addr} {xs : List V} {ds : List PyData} (h : H a = some (.lst xs)) (n : a ≠ sysModules) (r : DzAll H xs ds) : Dz H (.ref a) (.list ds)
  | tup {a : Addr} {xs : List V} {ds : List PyData} (h : H a = some (.tup xs)) (r : DzAll H xs ds) : Dz H (.ref a) (.tuple ds)
  | dct {a : Addr} {kvs : List (Key × V)} {ds : List (PyData × PyData)} (h : H a = some (.dK kvs)) (r : DzKs H kvs ds) : Dz H (.ref a) (.dict ds)
inductive DzAll (H : Hp) : List V → List PyData → Prop
  | nil : DzAll H [] []
  | cons {x : V} {xs : List V} {d : PyData} {ds : List PyData} (h : Dz H x d) (r : DzAll H xs ds) : DzAll H (x :: xs) (d :: ds)
inductive DzKs (H : Hp) : List (Key × V) → List (PyData × PyData) → Prop
  | nil : DzKs H [] []
  | cons {x : Str} {v : V} {d : PyData} {kvs : List (Key × V)} {ds : List (PyData × PyData)} (h : Dz H v d) (r : DzKs H kvs ds) : DzKs H ((.inr x, v) :: kvs) ((.str x, d) :: ds)
end
mutual
theorem Dz.same {H H' : Hp} (s : L2.Same H H') : ∀ {v : V} {d : PyData}, Dz H v d → Dz H' v d
  | _, _, .non => .non
  | _, _, .bl b => .bl b
  | _, _, .int i => .int i
  | _, _, .str x => .str x
  | _, _, .lst h n r => .lst (s _ _ h) n (DzAll.same s r)
  | _, _, .tup h r => .tup (s _ _ h) (DzAll.same s r)
  | _, _, .dct h r => .dct (s _ _ h) (DzKs.same s r)
theorem DzAll.same {H H' : Hp} (s : L2.Same H H') : ∀ {vs : List V} {ds : List PyData}, DzAll H vs ds → DzAll H' vs ds
  | _, _, .nil => .nil
  | _, _, .cons h r => .cons (Dz.same s h) (DzAll.same s r)
theorem DzKs.same {H H' : Hp} (s : L2.Same H H') : ∀ {vs : List (Key × V)} {ds : List (PyData × PyData)}, DzKs H vs ds → DzKs H' vs ds
  | _, _, .nil => .nil
  | _, _, .cons h r => .cons (Dz.same s h) (DzKs.same s r)
end
mutual
/-- all but r and the tables stay, and r's part in the data is none -/
theorem Dz.on {H H' : Hp} (s : ∀ b o, H b = some o → (∀ xs, o = .lst xs → ∃ ds, DzAll H xs ds) → (∀ ps, o ≠ .tbl ps) → H' b = some o) : ∀ {v : V} {d : PyData}, Dz H v d → Dz H' v d
  | _, _, .non => .non
  | _, _, .bl b => .bl b
  | _, _, .int i => .int i
  | _, _, .str x => .str x
  | _, _, .lst h n r => .lst (s _ _ h (fun xs e => by cases e; exact ⟨_, r⟩) (fun ps z => nomatch z)) n (DzAll.on s r)
  | _, _, .tup h r => .tup (s _ _ h (fun xs e => nomatch e) (fun ps z => nomatch z)) (DzAll.on s r)
  | _, _, .dct h r => .dct (s _ _ h (fun xs e => nomatch e) (fun ps z => nomatch z)) (DzKs.on s r)
theorem DzAll.on {H H' : Hp} (s : ∀ b o, H b = some o → (∀ xs, o = .lst xs → ∃ ds, DzAll H xs ds) → (∀ ps, o ≠ .tbl ps) → H' b = some o) : ∀ {vs : List V} {ds : List PyData}, DzAll H vs ds → DzAll H' vs ds
  | _, _, .nil => .nil
  | _, _, .cons h r => .cons (Dz.on s h) (DzAll.on s r)
theorem DzKs.on {H H' : Hp} (s : ∀ b o, H b = some o → (∀ xs, o = .lst xs → ∃ ds, DzAll H xs ds) → (∀ ps, o ≠ .tbl ps) → H' b = some o) : ∀ {vs : List (Key × V)} {ds : List (PyData × PyData)}, DzKs H vs ds → DzKs H' vs ds
  | _, _, .nil => .nil
  | _, _, .cons h r => .cons (Dz.on s h) (DzKs.on s r)
end
theorem keyStr {x : Str} {k : Value} (h : keyIs (Sum.inr x) k = true) : ∃ t, k = .str x t := by
  rcases keyIs_shape h with ⟨j, t2, z, _⟩ | ⟨y, t2, z, q⟩
  · cases z
  · cases z
    exact ⟨t2, q⟩
mutual
theorem Dz.reads (I : Inv X pins σ H s) : ∀ (d : PyData) (v : V) (u : Value), Dz H v d → L2.RelV v u → ∃ as, Reads s.heap u d as ∧ sysModules ∉ as
  | .none, _, _, h, r => by
    cases h
    cases r
    exact ⟨_, Reads.none, by simp⟩
  | .bool b, _, _, h, r => by
    cases h
    cases r
    exact ⟨_, Reads.bool b, by simp⟩
  | .int i, _, _, h, r => by
    cases h
    obtain ⟨t, rfl⟩ := r
    exact ⟨_, Reads.int i t, by simp⟩
  | .str x, _, _, h, r => by
    cases h
    obtain ⟨t, rfl⟩ := r
    exact ⟨_, Reads.str x t, by simp⟩
  | .list ds, _, _, h, r => by
    cases h with
    | lst hs n ha =>
      cases r
      obtain ⟨_, its, m, rv, ho⟩ := I.hok _ _ hs
      obtain ⟨as, hr, hn⟩ := DzAll.reads I ds _ its ha rv
      exact ⟨_, Reads.list ho rfl rfl hr, by
        rw [List.mem_cons, not_or]
        exact ⟨n.symm, hn⟩⟩
  | .tuple ds, _, _, h, r => by
    cases h with
    | tup hs ha =>
      cases r
      obtain ⟨_, its, rv, o, ho, hc, m, hd⟩ := I.hok _ _ hs
      obtain ⟨as, hr, hn⟩ := DzAll.reads I ds _ its ha rv
      exact ⟨_, Reads.tuple ho hc hd hr, hn⟩
  | .dict ds, _, _, h, r => by
    cases h with
    | @dct a kvs _ hs hk =>
      cases r
      obtain ⟨_, hd, vs, kv, o, es, ep, ho, hx, hdt, hkk, hp, _⟩ := dk_of I.hok hs
      have na : a ≠ sysModules := by simpa using hd
      obtain ⟨as, bs, h1, h2, n1, n2⟩ := DzKs.reads I ds kvs vs es.toList hk kv hp
      refine ⟨_, Reads.dict ho hx.1 hdt h1 h2, ?_⟩
      rw [List.mem_append, List.mem_cons, not_or, not_or]
      exact ⟨⟨na.symm, n1⟩, n2⟩
theorem DzAll.reads (I : Inv X pins σ H s) : ∀ (ds : List PyData) (vs : List V) (us : List Value), DzAll H vs ds → Vals vs us → ∃ as, ReadsAll s.heap us ds as ∧ sysModules ∉ as
  | [], _, _, h, r => by
    cases h
    cases r
    exact ⟨_, ReadsAll.nil, by simp⟩
  | d :: ds, _, _, h, r => by
    cases h with
    | cons h1 h2 =>
      cases r with
      | cons r1 r2 =>
        obtain ⟨as, q1, n1⟩ := Dz.reads I d _ _ h1 r1
        obtain ⟨bs, q2, n2⟩ := DzAll.reads I ds _ _ h2 r2
        exact ⟨_, ReadsAll.cons q1 q2, by
          rw [List.mem_append, not_or]
          exact ⟨n1, n2⟩⟩
theorem DzKs.reads (I : Inv X pins σ H s) : ∀ (ds : List (PyData × PyData)) (kvs : List (Key × V)) (vs : List (Key × Value)) (es : List DictEntry), DzKs H kvs ds → KV kvs vs → Pairs (mixKind X.prog X.w) es vs →
    ∃ as bs, ReadsAll s.heap (es.map (·.key)) (ds.map (·.1)) as ∧ ReadsAll s.heap (es.map (·.val)) (ds.map (·.2)) bs ∧ sysModules ∉ as ∧ sysModules ∉ bs
  | [], _, _, _, h, kv, p => by
    cases h
    cases kv
    cases p
    exact ⟨_, _, ReadsAll.nil, ReadsAll.nil, by simp, by simp⟩
  | (k, d) :: ds, _, _, _, h, kv, p => by
    cases h with
    | cons h1 h2 =>
      cases kv with
      | cons q1 q2 =>
        cases p with
        | cons p1 p2 p3 =>
          obtain ⟨e1, e2⟩ := q1
          dsimp only at e1 e2
          rw [← e1] at p1
          obtain ⟨t, ek⟩ := keyStr p1
          rw [← p2] at e2
          obtain ⟨as, r1, n1⟩ := Dz.reads I d _ _ h1 e2
          obtain ⟨as2, bs2, r2, r3, n2, n3⟩ := DzKs.reads I ds _ _ _ h2 q2 p3
          refine ⟨[] ++ as2, as ++ bs2, ?_, ReadsAll.cons r1 r3, by simpa using n2, ?_⟩
          · simp only [List.map_cons]
            rw [ek]
            exact ReadsAll.cons (Reads.str _ t) r2
          · rw [List.mem_append, not_or]
            exact ⟨n1, n3⟩
end
/-- repr of data, calm or not -/
def rReprZ : List V → Hp → VK → Prop := fun xs H Q => ∃ y d, xs = [y] ∧ Dz H y d ∧ d.depth ≤ 64 ∧ d.showable = true ∧ d.shown.length ≤ sizeLine ∧ Q (.str d.shown) H
theorem call_reprZ (hu : X.A.units + 200 < cLine) (hg : X.A.guards = some []) : CallR X (.builtin "repr") rReprZ := by
  intro pins s σ H xs us Q I r h
  obtain ⟨y, d, rfl, hd, hdp, hw, hz, q⟩ := h
  obtain ⟨u, rfl, ru⟩ := vals1 r
  obtain ⟨as, rd, nm⟩ := Dz.reads I d y u hd ru
  have hA : X.A.units + (d.depth + 1) < cLine := by omega
  have fin : ∀ {t : Tok} {s' : Shared}, Inv X pins σ H s' → EP X pins σ Q (.str d.shown t) s' := fun J => ⟨.str d.shown, H, J, ⟨_, rfl⟩, q⟩
  cases rd with
  | none => exact PySem.P.repr_of_none (fin (I.tok _))
  | bool b => exact PySem.P.repr_of_bool (fin (I.tok _))
  | int i t => exact PySem.P.repr_of_int (of_decide_eq_true hw) (fin (I.tok _))
  | str z t => exact PySem.P.repr_of_str (fin (I.tok _)) hz
  | list h1 h2 h3 h4 => exact PySem.repr_of_reads' (.list h1 h2 h3 h4) hw (fun _ => nm) hg hA (fun _ _ e => e) (fun h' t tk hk => fin (I.kept hk)) hz
  | tuple h1 h2 h3 h4 => exact PySem.repr_of_reads' (.tuple h1 h2 h3 h4) hw (fun _ => nm) hg hA (fun _ _ e => e) (fun h' t tk hk => fin (I.kept hk)) hz
  | dict h1 h2 h3 h4 h5 => exact PySem.repr_of_reads' (.dict h1 h2 h3 h4 h5) hw (fun _ => nm) hg hA (fun _ _ e => e) (fun h' t tk hk => fin (I.kept hk)) hz
/-- one of two rules -/
theorem call_or {f : Value} {r1 r2 : List V → Hp → VK → Prop} (h1 : CallR X f r1) (h2 : CallR X f r2) : CallR X f (fun xs H Q => r1 xs H Q ∨ r2 xs H Q) := by
  intro pins s σ H xs us Q I r h
  rcases h with h | h
  · exact h1 pins s σ H xs us Q I r h
  · exact h2 pins s σ H xs us Q I r h
end
/-! ### defs called where an exception is handled; nothing is raised there -/
section
open L2H
/-- the def at f keeps the promise sp, whether an exception is handled or not; p: an object that is pinned -/
structure FnN (P : Program) (w : World) (K : PySem.W.Frag) (mg : Str → Option Value) (base : Heap) (CX : CXT) (k : Nat) (f : Addr) (fd : FuncData) (ps : List Str) (sp : Sp) : Prop where
  len : ∀ vs H Q E, sp vs H Q E → vs.length = ps.length
  run : ∀ (A : Around) (outer : List Env) (s : Shared) (H : Hp) (args : Args) (us : List Value) (vs : List V) (Q : VK) (E : XK) (p : Addr × Obj), RoomH k A → PinOk outer H s p → Env0 P w K mg base A outer s H → BindsTo s fd args (ps.zip us) → Vals vs us → sp vs H Q E →
    codeAny (model P w) A (.call (.ref f) args) (CR CX outer P w H s Q E) s
theorem fnN_body {P : Program} {w : World} {K : PySem.W.Frag} {mg : Str → Option Value} {base : Heap} {CX : CXT} {k : Nat} {f : Addr} {fd : FuncData} {ps : List Str} {sp : Sp} {x qual : Str} {st : Stmt} {N : List Str} {dvs0 : List V} {kws0 : List (Str × V)} (F : FunD K x qual (defArgs st) (defBody st) (defScope st) dvs0 kws0 f fd) (S : FnScope N ps (defScope st)) (len : ∀ vs H Q E, sp vs H Q E → vs.length = ps.length)
    (hb : ∀ (cdv : Value) (A : Around) (outer : List Env) (s : Shared) (H : Hp) (vs : List V) (Q : VK) (E : XK) (p : Addr × Obj), RoomH k (A.deeper (envOfC qual (defScope st) s.heap.objs.size f cdv)) → sp vs H Q E →
      ∃ t, PSs (cxH CX P w K mg base N qual (defScope st) f cdv A outer s H E p) (defBody st) t ∧ t { nx := fun _ H' => Q .non H', rt := Q } (L2.start N vs) H) :
    FnN P w K mg base CX (k + 1) f fd ps sp := by
  obtain ⟨oc, od, dV, kV, doc, pm, an, cdv, ct, osl, rfl, lk, hcd, _, _⟩ := F.ex
  refine ⟨len, ?_⟩
  intro A outer s H args us vs Q E p hr pin e0 hbi r hsp
  have keeps0 : ∀ b o, base.get? b = some o → s.heap.get? b = some o := fun b o e => (e0.bs b o e).1
  have inK : K.In s.heap := e0.mod.kin.keeps keeps0
  refine codeAny_call_function hr.depth (inK _ _ lk) rfl S.co S.gen rfl (PySem.W.codeRec_of inK hcd) (hbi _ _ _ _ ?_)
  refine wpAny_newFunctionEnv_cells S.kind ?_ fun env he s1 x => ?_
  · intro ⟨n, v⟩ hy
    cases S.par n (List.of_mem_zip hy).1 with
    | inl q => exact Or.inl q
    | inr q => exact Or.inr ⟨q, PySem.W.cellsFrom_some _ _ _ (Or.inl q)⟩
  · subst he
    refine ⟨(e0.mod.nolimit.keeps keeps0).keeps x.toInCall.keep, codeAny_func ?_⟩
    obtain ⟨t, ht, hq⟩ := hb cdv A outer s H vs Q E p (hr.deeper _) hsp
    have I0 := inv_startH (CX := CX) (P := P) (E := E) S pin e0 (len _ _ _ _ hsp) r x
    refine wpAny_mono (ht.run [] s1 (L2.start N vs) H _ I0 hq) ?_ (fun _ _ z => z)
    intro fl s' hs
    cases fl with
    | ret u => obtain ⟨v, σ', H', J, rv, q⟩ := hs; exact ⟨v, H', J.os, J.bare, J.base, J.hok, rv, q⟩
    | next => obtain ⟨σ', H', J, q⟩ := hs; exact ⟨V.non, H', J.os, J.bare, J.base, J.hok, rfl, q⟩
    | brk => exact hs.elim fun _ z => z.elim fun _ y => y.2.elim
    | cont => exact hs.elim fun _ z => z.elim fun _ y => y.2.elim
variable {X : Cx} {A : Around}
theorem Shows.ownH {H0 : Hp} {a C : Addr} {dx : Addr} {fs : List (Str × V)} {t : Str} {k : Nat} {f : Addr} {fd : FuncData} {ps : List Str} {sp : Sp} {p : Addr × Obj} (c : Cls X.K C) (hm : Meth X.K C "__repr__" f)
    (F : FnN X.prog X.w X.K X.mg X.base CX0 k f fd ps sp) (hb : Binds X.K fd ps []) (hr : RoomH k A) (hp : p ∈ X.pn) (hA : A.frames = X.A.frames) (ea : H0 a = some (.ins C dx fs))
    (h : ∀ H, L2.Same H0 H → ∀ Q : VK, (∀ H', L2.Same H H' → Q (.str t) H') → sp [.ref a] H Q E0) : Shows X A H0 (.ref a) t := by
  intro base pins σ H s u E Q hb0 S I ru hQ
  obtain rfl : u = Value.ref a := ru
  have ea1 := S _ _ ea
  obtain ⟨ox, od, J⟩ := insAt I ea1
  obtain ⟨mf, fr⟩ := I.fr
  have q := h H S (fun v H' => v = .str t ∧ L2.Same H H') fun H' s' => ⟨rfl, s'⟩
  have hu0 : A.units < cLine := by
    have := hr.un
    omega
  refine reprUnder_K (by omega) hu0 fr I.mod.kin J hm.at_ hm.fn ?_
  have hl : ([Value.ref a] : List Value).length = ps.length := F.len _ _ _ _ q
  have ev : Env0 X.prog X.w X.K X.mg X.base A X.stack s H := ⟨hA.trans I.env0.frames, I.env0.mod, I.env0.bs, I.env0.bsz, I.env0.funs, I.env0.frf, I.env0.hok, I.env0.bare⟩
  have P1 := I.pin p (List.mem_append_left _ hp)
  have pin : PinOk X.stack H s p := ⟨P1.1, P1.2.1, fun hm => (List.mem_cons.mp (I.stkSub p.1 hm)).elim P1.2.2.1 P1.2.2.2.1, P1.2.2.2.2⟩
  have bd := hb s [.ref a] I.kIn (by rw [List.append_nil]; exact hl)
  rw [List.append_nil] at bd
  refine wpAny_call (codeAny_mono (F.run A X.stack s H ⟨[.ref a], []⟩ [.ref a] [.ref a] _ E0 p hr pin ev bd (.cons rfl .nil) q) ?_)
  intro r s' hq
  cases r with
  | error er => exact (show False from hq).elim
  | ok fl => cases fl with
    | ret u =>
      obtain ⟨v, H', I3, rv, rfl, s3⟩ := I.after hq
      obtain ⟨tk, rfl⟩ := (show ∃ k, _ = Value.str t k from rv)
      exact ⟨t, tk, rfl, hQ H' _ s3 I3⟩
    | next => exact (show False from hq).elim
    | brk => exact (show False from hq).elim
    | cont => exact (show False from hq).elim
theorem call_reprV' (hu : X.A.in1.units < cLine) (hg : X.A.guards = some []) : CallR X (.builtin "repr") (rReprV X) := by
  intro pins s σ H xs us Q I r h
  obtain ⟨a, vs, ts, rfl, ea, hne, hlen, hT, hsz, q⟩ := h
  rw [Vals.ref1 r]
  obtain ⟨its, n, rv, hget, _⟩ := I.lst ea
  have hTy : s.TypeIs (.ref a) "list" := ⟨_, hget, rfl⟩
  refine Calls.call_function_entry PySem.F.kind_repr PySem.F.plain_repr PySem.F.entry_repr (PySem.F.args_repr1 _) ?_
  unfold Builtin.«repr»
  refine wpAny_bind (m := oneArg "repr" _) (wpAny_pure (wpAny_bind (wpAny_cRoomFor hu ?_)))
  refine wpAny_bind (wpAny_specialOf (name := Str.ofString "__repr__") hTy PySem.F.slot_list_repr.lookup ?_)
  refine wpAny_bind (m := callSpecialIfBound? (.ref a) (Str.ofString "__repr__")) (wpAny_callSpecialIfBound?_slot (name := Str.ofString "__repr__") hTy PySem.F.slot_list_repr
    (list_reprI (pins := pins) (σ := σ) (H := H) (A := X.A.in1) hg ea hne hlen hT hsz I (fun H' s' u S J => ?_)))
  exact wpAny_bind (wpAny_isInstance (T := "str") (b := true) rfl isSubtype_str_str (wpAny_pure ⟨_, rfl, .str (listText ts), H', J, ⟨_, rfl⟩, q H' S⟩))
/-- own objects of given classes, each with its own __repr__'s promise -/
abbrev OwnL := List (Addr × Sp)
/-- repr of a list of leaves and own objects of the classes L -/
def rReprM (L : OwnL) : List V → Hp → VK → Prop := fun xs H Q => ∃ (a : Addr) (vs : List V) (ts : List Str), xs = [.ref a] ∧ H a = some (.lst vs) ∧ vs ≠ [] ∧ ts.length = vs.length ∧
  (∀ (i : Nat) (v : V), vs[i]? = some v → ∃ t, ts[i]? = some t ∧ (Leaf v t ∨ ∃ (p : Addr × Sp) (b dx : Addr) (fs : List (Str × V)), p ∈ L ∧ v = .ref b ∧ H b = some (.ins p.1 dx fs) ∧ ∀ H1, L2.Same H H1 → ∀ Q1 : VK, (∀ H2, L2.Same H1 H2 → Q1 (.str t) H2) → p.2 [.ref b] H1 Q1 E0)) ∧
  (listText ts).length ≤ sizeLine ∧ ∀ H', L2.Same H H' → Q (.str (listText ts)) H'
theorem Leaf.shows {H : Hp} {v : V} {t : Str} (z : Leaf v t) : Shows X A H v t := by
  cases z with
  | int h => exact .int h
  | bl => exact .bl
  | non => exact .non
  | str h => exact .str h
theorem call_reprM {k : Nat} {L : OwnL} (D : ∀ p ∈ L, MtO X.prog X.w X.K X.mg X.base p.1 "__repr__" k ["self"] [] p.2) (hr : RoomG (k + 3) X.A) : CallR X (.builtin "repr") (rReprM L) := by
  intro pins s σ H xs us Q I r h
  obtain ⟨a, vs, ts, rfl, ea, hne, hlen, hT, hsz, q⟩ := h
  have hu : X.A.in1.units < cLine := by
    have := hr.r.in1.un
    omega
  refine call_reprV' hu hr.g pins s σ H _ us Q I r ⟨a, vs, ts, rfl, ea, hne, hlen, fun args i v hv => ?_, hsz, q⟩
  obtain ⟨t, ht, z⟩ := hT i v hv
  refine ⟨t, ht, ?_⟩
  rcases z with z | ⟨p, b, dx, fs, hp, rfl, eb, z⟩
  · exact z.shows
  · obtain ⟨f, fd, ds, c, hm, F, hb, hd⟩ := (D p hp).ex
    cases hd
    exact .own c hm F hb .nil (My.Room.lst (hr.r.mono (by omega : k + 2 ≤ k + 3)) args) lst_frames eb z
/-- a method that may be called where an exception is handled -/
structure MtH (P : Program) (w : World) (K : PySem.W.Frag) (mg : Str → Option Value) (base : Heap) (C : Addr) (m : Str) (k : Nat) (ps : List Str) (sp : Sp) : Prop where
  ex : ∃ (f : Addr) (fd : FuncData), Cls K C ∧ Meth K C m f ∧ FnN P w K mg base CX0 k f fd ps sp ∧ Binds K fd ps []
theorem roomH_lst {k : Nat} {A : Around} (r : RoomH (k + 2) A) (args : Args) : RoomH k (inLst A args) := by
  refine ⟨?_, ?_⟩
  · have := r.dp
    have := lst_depth (A := A.in1) (args := args)
    show (A.in1.under _).depth + 3 * k + 5 < _
    have e : A.in1.depth = A.depth := rfl
    omega
  · have := r.un
    show (A.in1.under _).units + 16 * k + 200 < _
    rw [units_under_list_loop]
    have e : A.in1.units = A.units + 1 := rfl
    omega
theorem call_reprMH {k : Nat} {L : OwnL} (D : ∀ p ∈ L, MtH X.prog X.w X.K X.mg X.base p.1 "__repr__" k ["self"] p.2) (hr : RoomH (k + 3) X.A) (hg : X.A.guards = some []) (hc : ∃ p, p ∈ X.pn) : CallR X (.builtin "repr") (rReprM L) := by
  obtain ⟨pn, hpn⟩ := hc
  intro pins s σ H xs us Q I r h
  obtain ⟨a, vs, ts, rfl, ea, hne, hlen, hT, hsz, q⟩ := h
  have hu : X.A.in1.units < cLine := by
    have := hr.un
    have e : X.A.in1.units = X.A.units + 1 := rfl
    omega
  refine call_reprV' hu hg pins s σ H _ us Q I r ⟨a, vs, ts, rfl, ea, hne, hlen, fun args i v hv => ?_, hsz, q⟩
  obtain ⟨t, ht, z⟩ := hT i v hv
  refine ⟨t, ht, ?_⟩
  rcases z with z | ⟨p, b, dx, fs, hp, rfl, eb, z⟩
  · exact z.shows
  · obtain ⟨f, fd, c, hm, F, hb⟩ := (D p hp).ex
    refine .ownH (p := pn) c hm F hb (roomH_lst (hr.mono (by omega : k + 2 ≤ k + 3)) args) hpn lst_frames eb z
theorem fnO_body {P : Program} {w : World} {K : PySem.W.Frag} {mg : Str → Option Value} {base : Heap} {CX : CXT} {k : Nat} {f : Addr} {fd : FuncData} {ps : List Str} {sp : Sp} {x qual : Str} {st : Stmt} {N : List Str} {dvs0 : List V} {kws0 : List (Str × V)} (F : FunD K x qual (defArgs st) (defBody st) (defScope st) dvs0 kws0 f fd) (S : FnScope N ps (defScope st)) (len : ∀ vs H Q E, sp vs H Q E → vs.length = ps.length)
    (hb : ∀ (cdv : Value) (A : Around) (outer : List Env) (s : Shared) (H : Hp) (vs : List V) (Q : VK) (E : XK), Room k (A.deeper (envOfC qual (defScope st) s.heap.objs.size f cdv)) → sp vs H Q E →
      ∃ t, PSs (cxOf CX P w K mg base N qual (defScope st) f cdv A outer s H E) (defBody st) t ∧ t { nx := fun _ H' => Q .non H', rt := Q } (L2.start N vs) H) :
    FnOk P w K mg base CX (k + 1) f fd ps sp := by
  obtain ⟨oc, od, dV, kV, doc, pm, an, cdv, ct, osl, rfl, lk, hcd, _, _⟩ := F.ex
  exact fn_of lk hcd S len fun A outer s H vs Q E h1 h2 => hb cdv A outer s H vs Q E h1 h2
end
/-! ### a def that may raise, used where it does not -/
theorem FnG.calm {P : Program} {w : World} {K : PySem.W.Frag} {mg : Str → Option Value} {base : Heap} {k : Nat} {f : Addr} {fd : FuncData} {ps : List Str} {sp : Sp} (F : FnG P w K mg base (L2.CX P w) k f fd ps sp) : FnG P w K mg base CX0 k f fd ps (fun vs H Q _ => sp vs H Q E0) := by
  refine ⟨fun vs H Q E h => F.len vs H Q E0 h, fun A outer s H args us vs Q E hr e0 hb r h => ?_⟩
  refine codeAny_mono (F.go A outer s H args us vs Q E0 hr e0 hb r h) fun r s' hq => ?_
  cases r with
  | error er =>
    obtain ⟨_, _, _, _, _, _, _, _, _, _, _, _, z⟩ := (show L2.CX P w outer H s E0 er s' from hq)
    exact z.elim
  | ok fl => cases fl with
    | ret u => exact hq
    | next => exact (show False from hq).elim
    | brk => exact (show False from hq).elim
    | cont => exact (show False from hq).elim
end My

namespace My
open PySem L2 PySem.Spec PyProof.Rows PySem.W
/-! ### own operators beside operands of other kinds -/
section
variable {prog : Program} {w : World} {A : Around} {E : Value → Shared → Prop} {s : Shared} {K : Frag} {x C f : Addr} {od : Option Obj} {nm : String}
/-- the left one's own method is asked, and answers -/
theorem bin_walk {op : Operator} {a b ta tb : Value} {right : Bool} {Q : Value → Shared → Prop} (hi : op.info.2 = nm)
    (one : wpAny (model prog w) A (tryMethod a (PySem.dunder nm) b) (fun r s' => ∃ v, r = some v ∧ Q v s') E s)
    (M1 : Looks (model prog w) s.heap (typeOf a) ta) (M2 : Looks (model prog w) s.heap (typeOf b) tb) (ne : (ta == tb) = false)
    (M3 : Looks (model prog w) s.heap (fillsNumberSlot ta nm) true) (M4 : Looks (model prog w) s.heap (fillsNumberSlot tb nm) right)
    (M5 : right = true → Looks (model prog w) s.heap (isSubtype tb ta) false ∧ Looks (model prog w) s.heap (numberSlotInPython ta nm) true ∧ (∃ p, Looks (model prog w) s.heap (numberSlotInPython tb nm) p) ∧ ∃ ro, Looks (model prog w) s.heap (typeLookup tb (dunderR nm)) ro) :
    wpAny (model prog w) A (binaryOp op a b) Q E s := by
  rcases e : op.info with ⟨sym, nm'⟩
  rw [e] at hi
  dsimp only at hi
  subst hi
  obtain ⟨hh, g, d, tt, os⟩ := s
  dsimp only at M1 M2 M3 M4 M5
  simp only [binaryOp, e]
  refine wpAny_holding (wpAny_bind ?_)
  unfold binaryOp1
  refine wpAny_bind (M1.at (wpAny_bind (M2.at (wpAny_bind (M3.at ?_)))))
  simp only [ne, Bool.false_eq_true, if_false]
  cases right with
  | false =>
    clear M5
    ksp_lk
    refine wpAny_mono one (fun r s' z => ?_) fun _ _ z => z
    obtain ⟨v, rfl, q⟩ := z
    ksp_lk
    exact q
  | true =>
    obtain ⟨N1, N2, ⟨p, N3⟩, ro, N4⟩ := M5 rfl
    clear M5
    cases p with
    | false =>
      ksp_lk
      refine wpAny_mono one (fun r s' z => ?_) fun _ _ z => z
      obtain ⟨v, rfl, q⟩ := z
      ksp_lk
      exact q
    | true =>
      ksp_lk
      refine wpAny_mono one (fun r s' z => ?_) fun _ _ z => z
      obtain ⟨v, rfl, q⟩ := z
      ksp_lk
      exact q
/-- the left one is of a built-in type and declines, or has no such method; the right one's own reflected method is asked, and answers -/
theorem rbin_walk {op : Operator} {a b tb : Value} {T : String} {left : Bool} {Q : Value → Shared → Prop} (hi : op.info.2 = nm)
    (two : wpAny (model prog w) A (tryMethod b (dunderR nm) a) (fun r s' => ∃ v, r = some v ∧ Q v s') E s)
    (M1 : Looks (model prog w) s.heap (typeOf a) (.type T)) (M2 : Looks (model prog w) s.heap (typeOf b) tb) (ne : (Value.type T == tb) = false)
    (M3 : Looks (model prog w) s.heap (fillsNumberSlot (.type T) nm) left) (M4 : Looks (model prog w) s.heap (fillsNumberSlot tb nm) true)
    (M5 : left = true → Looks (model prog w) s.heap (isSubtype tb (.type T)) false ∧ wpAny (model prog w) A (tryMethod a (PySem.dunder nm) b) (fun r s' => r = none ∧ s' = s) E s) :
    wpAny (model prog w) A (binaryOp op a b) Q E s := by
  rcases e : op.info with ⟨sym, nm'⟩
  rw [e] at hi
  dsimp only at hi
  subst hi
  simp only [binaryOp, e]
  refine wpAny_holding (wpAny_bind ?_)
  unfold binaryOp1
  refine wpAny_bind (M1.here (wpAny_bind (M2.here (wpAny_bind (M3.here ?_)))))
  simp only [ne, Bool.false_eq_true, if_false]
  have py : numberSlotInPython (.type T) nm' = Pure.pure false := rfl
  cases left with
  | false =>
    refine wpAny_bind (M4.here ?_)
    simp only [Bool.false_and, Bool.false_eq_true, if_false, pure_bind, Bool.not_false, Bool.and_true, if_true]
    refine wpAny_bind (wpAny_mono two (fun r s' z => ?_) fun _ _ z => z)
    obtain ⟨v, rfl, q⟩ := z
    exact wpAny_bind (wpAny_rule (wpAny_pure (wpAny_pure q)))
  | true =>
    obtain ⟨N1, N2⟩ := M5 rfl
    refine wpAny_bind (M4.here ?_)
    simp only [Bool.and_self, if_true]
    refine wpAny_bind (N1.here ?_)
    simp only [Bool.false_eq_true, if_false, pure_bind, Bool.not_false, Bool.and_true, if_true, Bool.and_self, py]
    refine wpAny_bind (wpAny_mono N2 (fun r s' z => ?_) fun _ _ z => z)
    obtain ⟨rfl, rfl⟩ := z
    dsimp only
    refine wpAny_bind (wpAny_mono two (fun r s' z => ?_) fun _ _ z => z)
    obtain ⟨v, rfl, q⟩ := z
    exact wpAny_bind (wpAny_rule (wpAny_pure (wpAny_pure q)))
theorem fills_none {M : Model} {h : Heap} {D : Addr} {cd : ClassData} (X : K.In h) (hc : clsIn K D = some cd) (hm : cd.mro = [.ref D, .type "object"]) (h1 : findIn K (.ref D) (PySem.dunder nm) = some none) (h2 : findIn K (.ref D) (dunderR nm) = some none)
    (h3 : findIn K (.type "object") (PySem.dunder nm) = some none) (h4 : findIn K (.type "object") (dunderR nm) = some none) : Looks M h (fillsNumberSlot (.ref D) nm) false := by
  intro A Q E s k q
  unfold fillsNumberSlot
  refine wpAny_bind ((looks_clsIn X hc).andThen (f := fun cd => pure cd.mro) .now A _ E s k ?_)
  rw [hm, List.anyM_cons]
  refine wpAny_bind ?_
  show wpAny M A (List.anyM _ [PySem.dunder nm, dunderR nm]) _ _ _
  rw [List.anyM_cons]
  refine wpAny_bind (wpAny_bind (looks_findIn X h1 A _ E s k ?_))
  refine wpAny_pure ?_
  simp only [Bool.false_eq_true, if_false]
  rw [List.anyM_cons]
  refine wpAny_bind (wpAny_bind (looks_findIn X h2 A _ E s k ?_))
  refine wpAny_pure ?_
  simp only [Bool.false_eq_true, if_false]
  rw [List.anyM_nil]
  refine wpAny_pure ?_
  rw [List.anyM_cons]
  refine wpAny_bind ?_
  refine wpAny_bind (looks_findIn X h3 A _ E s k (wpAny_bind (looks_findIn X h4 A _ E s k ?_)))
  refine wpAny_pure ?_
  simp only [Option.isSome_none, Bool.false_and, Bool.or_self, Bool.false_eq_true, if_false]
  rw [List.anyM_nil]
  exact wpAny_pure q
end
/-! ### values of many kinds -/
/-- v's type is t, one of the built-in ones or of the own classes L -/
structure AnyV (K : Frag) (L : List Addr) (H : Hp) (v : V) (t : Value) : Prop where
  ty : TyX K H v t
  mem : t ∈ aTys L
theorem isi_any {K : Frag} {L : List Addr} {H : Hp} {v : V} {t u : Value} (hk : kitsB K L = true) (a : AnyV K L H v t) (hu : u ∈ aTys L) : kitOne K t u = some (subT t u) :=
  beq_iff_eq.mp (List.all_eq_true.mp (List.all_eq_true.mp hk t a.mem) u hu)
theorem s_isiA {K : Frag} {L : List Addr} {H : Hp} {Q : VK} {v c : V} {t u : Value} (hk : kitsB K L = true) (a : AnyV K L H v t) (hc : ClsV c u) (hu : u ∈ aTys L) (q : Q (.bl (subT t u)) H) : rIsi K [v, c] H Q :=
  ⟨_, _, _, _, _, rfl, hc, a.ty, isi_any hk a hu, q⟩
theorem b_mem {L : List Addr} {t : Value} (h : t ∈ bTys) : t ∈ aTys L := List.mem_append_left _ h
theorem o_mem {L : List Addr} {C : Addr} (h : C ∈ L) : Value.ref C ∈ aTys L := List.mem_append_right _ (List.mem_map_of_mem h)
section
variable {K : Frag} {L : List Addr} {H : Hp}
theorem AnyV.non : AnyV K L H .non (.type "NoneType") := ⟨.base .non, b_mem (by decide +kernel)⟩
theorem AnyV.bl (b : Bool) : AnyV K L H (.bl b) (.type "bool") := ⟨.base (.bl b), b_mem (by decide +kernel)⟩
theorem AnyV.int (i : Int) : AnyV K L H (.int i) (.type "int") := ⟨.base (.int i), b_mem (by decide +kernel)⟩
theorem AnyV.str (x : Str) : AnyV K L H (.str x) (.type "str") := ⟨.base (.str x), b_mem (by decide +kernel)⟩
theorem AnyV.lst {a : Addr} {xs : List V} (e : H a = some (.lst xs)) : AnyV K L H (.ref a) (.type "list") := ⟨.base (.lst e), b_mem (by decide +kernel)⟩
theorem AnyV.tup {a : Addr} {xs : List V} (e : H a = some (.tup xs)) : AnyV K L H (.ref a) (.type "tuple") := ⟨.base (.tup e), b_mem (by decide +kernel)⟩
theorem AnyV.dK {a : Addr} {kvs : List (Key × V)} (e : H a = some (.dK kvs)) : AnyV K L H (.ref a) (.type "dict") := ⟨.base (.dK e), b_mem (by decide +kernel)⟩
theorem AnyV.own {a C dx : Addr} {fs : List (Str × V)} (ty : ∀ {H : Hp} {a dx : Addr} {fs : List (Str × V)}, H a = some (.ins C dx fs) → TyOf K H (.ref a) (.ref C)) (h : C ∈ L) (e : H a = some (.ins C dx fs)) : AnyV K L H (.ref a) (.ref C) := ⟨.base (ty e), o_mem h⟩
end
/-- an int, not a bool -/
def isI : V → Bool
  | .int _ => true
  | _ => false
def isCnt : V → Bool
  | .int i => decide (0 ≤ i)
  | _ => false
theorem AnyV.isI {K : Frag} {L : List Addr} {H : Hp} {v : V} {t : Value} (a : AnyV K L H v t) : (subT t (.type "int") && !subT t (.type "bool")) = My.isI v := by
  have h := a.mem
  have no : ∀ T ∈ ([.type "NoneType", .type "bool", .type "str", .type "tuple", .type "list", .type "dict"] : List Value), (subT T (.type "int") && !subT T (.type "bool")) = false := by decide +kernel
  have yes : (subT (.type "int") (.type "int") && !subT (.type "int") (.type "bool")) = true := by decide +kernel
  cases a.ty with
  | base b =>
    cases b with
    | ins e => rfl
    | int i => exact yes
    | flt x => exact absurd (List.mem_append.mp h) (fun z => by rcases z with z | z <;> simp [bTys] at z)
    | _ => exact no _ (by decide +kernel)
  | byt b => exact absurd (List.mem_append.mp h) (fun z => by rcases z with z | z <;> simp [bTys] at z)
  | set e => exact absurd (List.mem_append.mp h) (fun z => by rcases z with z | z <;> simp [bTys] at z)
  | _ => exact no _ (by decide +kernel)
theorem AnyV.int_of {K : Frag} {L : List Addr} {H : Hp} {v : V} {t : Value} (a : AnyV K L H v t) (h : subT t (.type "int") = true) : (∃ i, v = .int i) ∨ ∃ b, v = .bl b := by
  cases a.ty with
  | base b =>
    cases b with
    | int i => exact .inl ⟨i, rfl⟩
    | bl b => exact .inr ⟨b, rfl⟩
    | ins e => cases (show false = true from h)
    | _ => exact absurd h (by decide +kernel)
  | _ => exact absurd h (by decide +kernel)
theorem AnyV.on {K : Frag} {L : List Addr} {H H' : Hp} {v : V} {t : Value} (a : AnyV K L H v t) (s : ∀ b o, H b = some o → (∀ ps, o ≠ .tbl ps) → H' b = some o) : AnyV K L H' v t := by
  refine ⟨?_, a.mem⟩
  cases a.ty with
  | base b =>
    cases b with
    | non => exact .base .non
    | bl b => exact .base (.bl b)
    | int i => exact .base (.int i)
    | str x => exact .base (.str x)
    | flt x => exact .base (.flt x)
    | lst e => exact .base (.lst (s _ _ e (fun _ z => nomatch z)))
    | frz e => exact .base (.frz (s _ _ e (fun _ z => nomatch z)))
    | tup e => exact .base (.tup (s _ _ e (fun _ z => nomatch z)))
    | dK e => exact .base (.dK (s _ _ e (fun _ z => nomatch z)))
    | dT e => exact .base (.dT (s _ _ e (fun _ z => nomatch z)))
    | ins e cl ha hn htk hm => exact .base (.ins (s _ _ e (fun _ z => nomatch z)) cl ha hn htk hm)
  | byt b => exact .byt b
  | set e => exact .set (s _ _ e (fun _ z => nomatch z))
  | kList e c => exact .kList e c
  | kTuple e c => exact .kTuple e c
  | kDict e c => exact .kDict e c
  | fTuple e => exact .fTuple (s _ _ e (fun _ z => nomatch z))
  | fDict e => exact .fDict (s _ _ e (fun _ z => nomatch z))
theorem AnyV.sm {K : Frag} {L : List Addr} {H H' : Hp} {v : V} {t : Value} (a : AnyV K L H v t) (s : L2.Same H H') : AnyV K L H' v t := a.on fun b o e _ => s b o e
theorem AnyV.ex {K : Frag} {L : List Addr} {H H' : Hp} {v : V} {t : Value} (a : AnyV K L H v t) (s : LamX.ExtN H H') : AnyV K L H' v t := a.on s
/-! ### methods, constructors and operators that may raise -/
theorem fnAt_ok {K : Frag} {D : Addr} {x : Str} (h : fnAt K D x = true) : ∃ g : Addr, findIn K (.ref D) x = some (some (.ref g)) := by
  unfold fnAt at h
  split at h
  · exact ⟨_, by assumption⟩
  · cases h
theorem op_anyK {prog : Program} {w : World} {A : Around} {E : Value → Shared → Prop} {s : Shared} {K : Frag} {x C f : Addr} {ox : Obj} {od : Option Obj} {h₀ : Heap} {L0 : Addr} {mf : Str → Option Value} {op : Operator} {nm : String} {L : List Addr} {b t : Value} {Q : Value → Shared → Prop}
    (F : Fr h₀ L0 s.heap mf) (X₀ : K.In h₀) (I : InstAt s.heap x ox C od) (hi : op.info.2 = nm) (ho : opsB K C nm L = true) (ht : t ∈ aTys L) (hb : Looks (model prog w) s.heap (typeOf b) t)
    (hs : findIn K (.ref C) (PySem.dunder nm) = some (some (.ref f))) (hf : isFn K (.ref f) = true)
    (h : wpAny (model prog w) A (call (.ref f) [.ref x, b]) (PySem.W.CmpBack Q) E s) : wpAny (model prog w) A (binaryOp op (.ref x) b) Q E s := by
  have XK := X₀.keeps F.keep
  unfold opsB at ho
  simp only [Bool.and_eq_true] at ho
  obtain ⟨hc, hr, ha⟩ := ho
  have hr2 : ∃ rc, findIn K (.ref C) (dunderR nm) = some rc ∧ (rc = none ∨ ∃ g : Addr, rc = some (.ref g)) := by
    unfold reflB at hr
    rcases Bool.or_eq_true_iff.mp hr with z | z
    · exact ⟨none, beq_iff_eq.mp z, .inl rfl⟩
    · obtain ⟨g, e⟩ := fnAt_ok z
      exact ⟨_, e, .inr ⟨g, rfl⟩⟩
  obtain ⟨rc, hr3, hp⟩ := hr2
  have one := ksp_try XK I hs hf h
  obtain ⟨cd, rest, hcd, hm⟩ := ksp_first hc
  have rb := List.all_eq_true.mp ha t ht
  have M3 := fills_K (M := model prog w) (nm := nm) XK hcd hm hs
  have N2 : Looks (model prog w) s.heap (numberSlotInPython (.ref C) nm) true := ksp_inPy XK hs hr3 hp
  cases t with
  | type T =>
    simp only [rightB, Bool.and_eq_true, Option.isSome_iff_exists, beq_iff_eq] at rb
    obtain ⟨⟨fo, h1⟩, ⟨ro, h2⟩, h3⟩ := rb
    exact bin_walk hi one I.type hb (Bool.eq_false_iff.mpr fun q => by cases beq_iff_eq.mp q) M3 (ksp_fillsT XK h1 h2) fun _ => ⟨looks_subIn XK h3, N2, ⟨false, Looks.of_pure rfl⟩, ro, looks_findIn XK h2⟩
  | ref D =>
    rcases Classical.em (D = C) with e | n
    · subst e
      subst hi
      exact binop_K F X₀ I hb hc hs hf h
    · have hne : ((Value.ref C : Value) == .ref D) = false := Bool.eq_false_iff.mpr fun q => n (by cases beq_iff_eq.mp q; rfl)
      have hn2 : (D == C) = false := Bool.eq_false_iff.mpr fun q => n (beq_iff_eq.mp q)
      simp only [rightB, hn2, Bool.false_or, Bool.and_eq_true, Bool.or_eq_true, beq_iff_eq] at rb
      rcases rb.2 with ⟨h1, h2, h3, h4, h5⟩ | ⟨h1, h2, h3, h4⟩
      · obtain ⟨cd2, e1, e2⟩ := any_some h3
        exact bin_walk hi one I.type hb hne M3 (fills_none XK e1 (beq_iff_eq.mp e2) h1 h2 h4 h5) fun z => nomatch z
      · obtain ⟨g1, e1⟩ := fnAt_ok h1
        obtain ⟨g2, e2⟩ := fnAt_ok h2
        obtain ⟨cd2, r2, e3, e4⟩ := ksp_first h3
        exact bin_walk hi one I.type hb hne M3 (fills_K XK e3 e4 e1) fun _ => ⟨looks_subIn XK h4, N2, ⟨true, ksp_inPy XK e1 e2 (.inr ⟨g2, rfl⟩)⟩, _, looks_findIn XK e2⟩
  | _ => cases rb
section
variable {X : Cx} {j k : Nat} {f C : Addr} {fd : FuncData} {ps : List Str} {sp : Sp} {dvs : List V} {ds : List Value} {x m : Str} {p pos apos : Pos} {e o a b : Expr} {es : List Expr} {ta tb : TE} {t : TA} {W : WX} {K : Frag} {L : List Addr}
structure MtX (P : Program) (w : World) (K : Frag) (mg : Str → Option Value) (base : Heap) (C : Addr) (m : Str) (k : Nat) (ps : List Str) (dvs : List V) (sp : Sp) : Prop where
  ex : ∃ (f : Addr) (fd : FuncData) (ds : List Value), Cls K C ∧ Meth K C m f ∧ FnG P w K mg base (L2.CX P w) k f fd ps sp ∧ Binds K fd ps ds ∧ Vals dvs ds
theorem MtX.calm {P : Program} {w : World} {mg : Str → Option Value} {base : Heap} (D : MtX P w K mg base C m k ps dvs sp) : Mtn P w K mg base C m k ps dvs (fun vs H Q _ => sp vs H Q E0) := by
  obtain ⟨f, fd, ds, c, hm, F, hb, hd⟩ := D.ex
  exact ⟨f, fd, ds, c, hm, F.calm, hb, hd⟩
structure MkX (P : Program) (w : World) (K : Frag) (mg : Str → Option Value) (base : Heap) (x : Str) (C : Addr) (k : Nat) (ps : List Str) (dvs : List V) (sp : Sp) : Prop where
  ex : ∃ (f : Addr) (fd : FuncData) (ds : List Value), Mk K C f ∧ FnG P w K mg base (L2.CX P w) k f fd ps sp ∧ mg x = some (.ref C) ∧ Binds K fd ps ds ∧ Vals dvs ds
theorem MkX.calm {P : Program} {w : World} {mg : Str → Option Value} {base : Heap} (D : MkX P w K mg base x C k ps dvs sp) : Mkn P w K mg base x C k ps dvs (fun vs H Q _ => sp vs H Q E0) := by
  obtain ⟨f, fd, ds, c, F, hm, hb, hd⟩ := D.ex
  exact ⟨f, fd, ds, c, F.calm, hm, hb, hd⟩
/-- a op b by a's own method, b of any kind -/
def tOpX (K : Frag) (L : List Addr) (C : Addr) (sp : Sp) (dvs : List V) (W : WX) (ta tb : TE) : TE := fun σ H Q => ta σ H fun x H1 => tb σ H1 fun y H2 => ∃ (a dx : Addr) (fs : List (Str × V)) (t : Value), x = .ref a ∧ H2 a = some (.ins C dx fs) ∧ AnyV K L H2 y t ∧ sp (.ref a :: y :: dvs) H2 Q (WE W σ)
theorem pe_opX {op : Operator} {nm : String} (hK : X.K = K) (D : MtX X.prog X.w X.K X.mg X.base C m k ps dvs sp) (tk : Takes X W) (hi : op.info.2 = nm) (hm : PySem.dunder nm = m) (ho : opsB K C nm L = true) (hr : RoomG k X.A) (ha : PE X a ta) (hb : PE X b tb) : PE X (.BinOp a op b pos) (tOpX K L C sp dvs W ta tb) := by
  subst hK
  subst hm
  obtain ⟨f, fd, ds, c, hmt, F, hbd, hd⟩ := D.ex
  constructor
  intro pins s σ H Q I h
  refine wpAny_BinOp (binT ha hb I h fun v u s2 x y H2 I2 rx ry q => ?_)
  obtain ⟨a, dx, fs, t, rfl, ea, ay, q⟩ := q
  obtain rfl : v = Value.ref a := rx
  obtain ⟨ox, od, J⟩ := insAt I2 ea
  obtain ⟨mf, fr⟩ := I2.fr
  obtain ⟨PH, Z, pH, _⟩ := kit_of I2 ry ay.ty
  exact op_anyK fr I2.mod.kin J hi ho ay.mem (Z.ty _ _ I2.kIn pH) hmt.at_ hmt.fn (wpAny_mono (goX (us := [.ref a, u]) (vs := [.ref a, y]) F tk hr hbd hd I2 (.cons rfl (.cons ry .nil)) q) (fun w s1 hw => back hw) fun _ _ z => z)
/-- the same where nothing is raised -/
def rBinA (K : Frag) (L : List Addr) (C : Addr) (sp : Sp) (dvs : List V) : R2 := fun x y H Q => ∃ (a dx : Addr) (fs : List (Str × V)) (t : Value), x = .ref a ∧ H a = some (.ins C dx fs) ∧ AnyV K L H y t ∧ sp (.ref a :: y :: dvs) H Q E0
theorem op_ownA {op : Operator} {nm : String} (hK : X.K = K) (D : Mtn X.prog X.w X.K X.mg X.base C m k ps dvs sp) (hi : op.info.2 = nm) (hm : PySem.dunder nm = m) (ho : opsB K C nm L = true) (hr : RoomG k X.A) : OpR X (binaryOp op) (rBinA K L C sp dvs) := by
  subst hK
  subst hm
  obtain ⟨f, fd, ds, c, hmt, F, hbd, hd⟩ := D.ex
  intro pins s σ H x y v u Q I rx ry h
  obtain ⟨a, dx, fs, t, rfl, ea, ay, q⟩ := h
  obtain rfl : v = Value.ref a := rx
  obtain ⟨ox, od, J⟩ := insAt I ea
  obtain ⟨mf, fr⟩ := I.fr
  obtain ⟨PH, Z, pH, _⟩ := kit_of I ry ay.ty
  exact op_anyK fr I.mod.kin J hi ho ay.mem (Z.ty _ _ I.kIn pH) hmt.at_ hmt.fn (wpAny_mono (goIn (us := [.ref a, u]) (vs := [.ref a, y]) F hr I.env0 hbd hd I (.cons rfl (.cons ry .nil)) q) (fun w s1 hw => back hw) fun _ _ z => z)
def tMethX (C : Addr) (m : Str) (sp : Sp) (dvs : List V) (W : WX) (ta : TE) (t : TA) : TE := fun σ H Q => ta σ H fun x H1 => ∃ a dx fs, x = .ref a ∧ H1 a = some (.ins C dx fs) ∧ fs.lookup m = none ∧ t σ H1 fun vs H2 => sp (x :: (vs ++ dvs)) H2 Q (WE W σ)
theorem pe_methX {pl : Sem Bool} (D : MtX X.prog X.w X.K X.mg X.base C m k ps dvs sp) (tk : Takes X W) (he : PE X o ta) (hr : RoomG k X.A) (ha : PA X (e :: es) t)
    (h1 : starEach (e :: es) X.env = (false, eval e X.env) :: starEach es X.env := by rfl) (h2 : (backTo pos (starEach es X.env)).any (·.1) = false := by rfl)
    (h3 : eval (.Call (.Attribute o m apos) (e :: es) [] pos) X.env = (do
      let v ← eval o X.env
      standAt apos.atName
      let (g, fst) ← holding [v] (getMethod v m pl)
      callWith pos g fst (backTo pos (starEach (e :: es) X.env)) (backToKw pos (keywordEach [] X.env))) := by rfl) : PE X (.Call (.Attribute o m apos) (e :: es) [] pos) (tMethX C m sp dvs W ta t) := by
  obtain ⟨f, fd, ds, c, hm, F, hb, hd⟩ := D.ex
  constructor
  intro pins s σ H Q I h
  refine PySem.W.methodCall_KW (pl := pl) (thn (he.run pins s σ H _ I h) ?_) h3
  rintro u s1 ⟨x, H1, I1, rx, a, dx, fs, rfl, ea, l, q⟩
  obtain rfl : u = Value.ref a := rx
  exact getmeth_ok I1 ea c hm l (PySem.W.callWith_K (first := [.ref a]) I1.kIn hm.kp (thn (ha.run pos pins s1 σ H1 _ I1 q) fun us s2 ⟨vs, H2, I2, r, q2⟩ => ⟨I2.kIn, goX (vs := .ref a :: vs) F tk hr hb hd I2 (.cons rfl r) q2⟩) h1 h2)
theorem goMakeX {pins : List (Addr × Obj)} {σ : L2.St} {H : Hp} {s : Shared} {Q : VK} {us : List Value} {vs : List V} (M : Mk X.K C f) (F : FnG X.prog X.w X.K X.mg X.base (L2.CX X.prog X.w) k f fd ps sp) (tk : Takes X W) (hr : RoomG (k + 1) X.A) (hb : Binds X.K fd ps ds) (hd : Vals dvs ds)
    (I : Inv X pins σ H s) (r : Vals vs us) (h : ∀ x dx, H x = none → H dx = none → dx ≠ x → sp (.ref x :: (vs ++ dvs)) (upd (upd H dx (.own x)) x (.ins C dx [])) (fun v H2 => v = .non ∧ Q (.ref x) H2) (WE W σ)) :
    wpAny (model X.prog X.w) X.A (call (.ref C) us) (EP X pins σ Q) X.xe s := by
  have nx : H (s.heap.objs.size + 1) = none := I.hok.fresh (Nat.le_succ _)
  have nd : H s.heap.objs.size = none := I.hok.fresh (Nat.le_refl _)
  have hq := h _ _ nx nd (Nat.ne_of_lt (Nat.lt_succ_self _))
  have J := Inv.made (C := C) I
  have r2 : Vals (V.ref (s.heap.objs.size + 1) :: (vs ++ dvs)) (Value.ref (s.heap.objs.size + 1) :: us ++ ds) := .cons rfl (r.append hd)
  have hl : (Value.ref (s.heap.objs.size + 1) :: us ++ ds).length = ps.length := r2.length.symm.trans (F.len _ _ _ _ hq)
  have hr2 : RoomG k (X.A.under (.builtin "type.__call__" ⟨.ref C :: us, []⟩)) := ⟨hr.r.make C us [], hr.g⟩
  refine wpAny_call (make_map (f := f) I.kIn M.makes M.init (beq_iff_eq.mp M.fn) (codeAny_mono
    (F.go _ X.stack _ _ ⟨Value.ref (s.heap.objs.size + 1) :: us, []⟩ _ _ _ _ hr2 (J.env0.make C us []) (hb _ (Value.ref (s.heap.objs.size + 1) :: us) J.kIn hl) r2 hq) ?_))
  intro r s' hq'
  cases r with
  | error e => exact passAt tk σ pins _ _ e s' J hq'
  | ok fl => cases fl with
    | ret u =>
      obtain ⟨v, H', I3, rv, ev, q3⟩ := J.after hq'
      subst ev
      exact ⟨rv, V.ref (s.heap.objs.size + 1), H', I3, rfl, q3⟩
    | next => exact (show False from hq').elim
    | brk => exact (show False from hq').elim
    | cont => exact (show False from hq').elim
def tMakeX (C : Addr) (sp : Sp) (dvs : List V) (W : WX) (t : TA) : TE := fun σ H Q => t σ H fun vs H1 => ∀ x dx, H1 x = none → H1 dx = none → dx ≠ x → sp (.ref x :: (vs ++ dvs)) (upd (upd H1 dx (.own x)) x (.ins C dx [])) (fun v H2 => v = .non ∧ Q (.ref x) H2) (WE W σ)
theorem pe_makeX (D : MkX X.prog X.w X.K X.mg X.base x C k ps dvs sp) (tk : Takes X W) (hr : RoomG (k + 1) X.A) (hg : Gl X x) (ha : PA X (e :: es) t) (hdb : (x == ("__debug__" : Str)) = false := by decide)
    (h1 : starEach (e :: es) X.env = (false, eval e X.env) :: starEach es X.env := by rfl) (h2 : (backTo pos (starEach es X.env)).any (·.1) = false := by rfl) : PE X (.Call (.Name x p) (e :: es) [] pos) (tMakeX C sp dvs W t) := by
  obtain ⟨f, fd, ds, M, F, hm, hb, hd⟩ := D.ex
  constructor
  intro pins s σ H Q I h
  exact wpAny_Call_Name_kw (ld_glob I hg hm (PySem.W.callWith_K (h₀ := X.base) I.ok.mod.kin M.kp (thn (ha.run pos pins s σ H _ I h) fun us s1 ⟨vs, H1, I1, r, q⟩ => ⟨I1.kIn, goMakeX M F tk hr hb hd I1 r q⟩) h1 h2) hdb)
end
/-! ### built-in left operands, own reflected methods -/
/-- a op b, a of a built-in kind, by b's own reflected method -/
def tReflX (K : Frag) (L : List Addr) (C : Addr) (sp : Sp) (dvs : List V) (W : WX) (ta tb : TE) : TE := fun σ H Q => ta σ H fun x H1 => tb σ H1 fun y H2 => ∃ (b dx : Addr) (fs : List (Str × V)) (t : Value), y = .ref b ∧ H2 b = some (.ins C dx fs) ∧ AnyV K L H2 x t ∧ t ∈ bTys ∧ sp (.ref b :: x :: dvs) H2 Q (WE W σ)
theorem tyx_bl {K : Frag} {H : Hp} {b : Bool} {t : Value} (h : TyX K H (.bl b) t) : t = .type "bool" := by
  cases h with
  | base h => cases h; rfl
theorem tyx_int {K : Frag} {H : Hp} {i : Int} {t : Value} (h : TyX K H (.int i) t) : t = .type "int" := by
  cases h with
  | base h => cases h; rfl
theorem rel_int {K : Frag} {L : List Addr} {H : Hp} {v : V} {u t : Value} (a : AnyV K L H v t) (r : L2.RelV v u) (e : t = .type "int") : ∃ i k, u = .int i k := by
  subst e
  rcases a.int_of (by decide +kernel) with ⟨i, rfl⟩ | ⟨b, rfl⟩
  · obtain ⟨k, rfl⟩ := (show ∃ k, u = Value.int i k from r)
    exact ⟨i, k, rfl⟩
  · exact absurd (tyx_bl a.ty) (by decide +kernel)
theorem rel_bool {K : Frag} {L : List Addr} {H : Hp} {v : V} {u t : Value} (a : AnyV K L H v t) (r : L2.RelV v u) (e : t = .type "bool") : ∃ b, u = .bool b := by
  subst e
  rcases a.int_of (by decide +kernel) with ⟨i, rfl⟩ | ⟨b, rfl⟩
  · exact absurd (tyx_int a.ty) (by decide +kernel)
  · exact ⟨b, r⟩
end My

namespace My
open PySem L2 PySem.Spec PyProof.Rows PySem.W
theorem bool_mul_ownA (i : Bool) (x C dx : Addr) : Meets (Builtin.«int.__mul__» ⟨[.bool i, .ref x], []⟩) (fun _ R s => s.heap.get? x = some (instObj C dx) ∧ R (.ok (.ret Value.notImplemented)) s) :=
  .of_wp fun prog w A R s h => by
    obtain ⟨hp, g, d, tk, os⟩ := s
    obtain ⟨hl, h⟩ := h
    unfold instObj at hl
    wp_walk
    exact ⟨_, rfl, h⟩
theorem noFill_mul {M : Model} {h : Heap} {K : Frag} (X : K.In h) {T : String} (hT : T ∈ ["NoneType", "str", "tuple", "list", "dict"]) : Looks M h (fillsNumberSlot (.type T) "mul") false := by
  have key : ∀ T ∈ ["NoneType", "str", "tuple", "list", "dict"], (match findIn [] (.type T) (PySem.dunder "mul"), findIn [] (.type T) (dunderR "mul") with
    | some fo, some ro => !((fo.isSome && !isSeqSlot fo) || (ro.isSome && !isSeqSlot ro))
    | _, _ => false) = true := by decide +kernel
  have z := key T hT
  split at z
  · rename_i fo ro h1 h2
    have q := ksp_fillsT (M := M) X (show findIn K (.type T) (PySem.dunder "mul") = some fo from h1) (show findIn K (.type T) (dunderR "mul") = some ro from h2)
    have e : ((fo.isSome && !isSeqSlot fo) || (ro.isSome && !isSeqSlot ro)) = false := (Bool.not_eq_true' _).mp z
    rw [e] at q
    exact q
  · cases z
theorem refl_mul {prog : Program} {w : World} {A : Around} {E : Value → Shared → Prop} {s : Shared} {K : Frag} {L : List Addr} {x C dx f : Addr} {od : Option Obj} {a t : Value} {Q : Value → Shared → Prop} {P : Heap → Prop} (XK : K.In s.heap) (I : InstAt s.heap x (instObj C dx) C od)
    (ho : reflOk K C "mul" = true) (Z : KitX K a t P) (pH : P s.heap) (ht : t ∈ bTys) (hr : findIn K (.ref C) (dunderR "mul") = some (some (.ref f))) (hf : isFn K (.ref f) = true)
    (hi : t = .type "int" → ∃ i k, a = .int i k) (hb : t = .type "bool" → ∃ b, a = .bool b)
    (h : wpAny (model prog w) A (call (.ref f) [.ref x, a]) (PySem.W.CmpBack Q) E s) : wpAny (model prog w) A (binaryOp .Mult a (.ref x)) Q E s := by
  unfold reflOk at ho
  simp only [Bool.and_eq_true, beq_iff_eq] at ho
  obtain ⟨h1, h2, h3, h4⟩ := ho
  obtain ⟨cd, rest, e1, e2⟩ := ksp_first h1
  obtain ⟨g, e3⟩ := fnAt_ok h2
  have two := ksp_try XK I hr hf h
  have M4 := fills_K (M := model prog w) (nm := "mul") XK e1 e2 e3
  have M1 : Looks (model prog w) s.heap (typeOf a) t := Z.ty _ _ XK pH
  have no : ∀ {T : String}, T ∈ ["NoneType", "str", "tuple", "list", "dict"] → t = .type T → wpAny (model prog w) A (binaryOp .Mult a (.ref x)) Q E s := fun {T} hT e => by
    subst e
    exact rbin_walk (left := false) rfl two M1 I.type (Bool.eq_false_iff.mpr fun q => by cases beq_iff_eq.mp q) (noFill_mul XK hT) M4 fun z => nomatch z
  simp only [bTys, List.mem_cons, List.not_mem_nil, or_false] at ht
  rcases ht with e | e | e | e | e | e | e
  · exact no (by decide) e
  · obtain ⟨b, rfl⟩ := hb e
    subst e
    refine rbin_walk (left := true) rfl two M1 I.type (Bool.eq_false_iff.mpr fun q => by cases beq_iff_eq.mp q) (Looks.of_pure F.fills_bool_mul) M4 fun _ => ⟨looks_subIn XK h4, ?_⟩
    have dec : wpAny (model prog w) A (call (.builtin "int.__mul__") [.bool b, .ref x]) (fun v s' => v = .notImplemented ∧ s' = s) E s :=
      call_meets F.slot_bool_mul rfl F.entry_int_mul (F.args_int_mul_2 _ _) (bool_mul_ownA b x C dx) ⟨I.at_, rfl, rfl⟩
    exact wpAny_tryMethod_declines (T := "bool") rfl F.slot_bool_mul (wpAny_mono dec (fun v s' z => ⟨z.1, rfl, z.2⟩) fun _ _ z => z)
  · obtain ⟨i, k, rfl⟩ := hi e
    subst e
    refine rbin_walk (left := true) rfl two M1 I.type (Bool.eq_false_iff.mpr fun q => by cases beq_iff_eq.mp q) (Looks.of_pure F.fills_int_mul) M4 fun _ => ⟨looks_subIn XK h3, ?_⟩
    have dec : wpAny (model prog w) A (call (.builtin "int.__mul__") [.int i k, .ref x]) (fun v s' => v = .notImplemented ∧ s' = s) E s :=
      call_meets F.slot_int_mul (typeIs_int s i k) F.entry_int_mul (F.args_int_mul_2 _ _) (int_mul_own i k x C dx) ⟨I.at_, rfl, rfl⟩
    exact wpAny_tryMethod_declines (typeIs_int s i k) F.slot_int_mul (wpAny_mono dec (fun v s' z => ⟨z.1, rfl, z.2⟩) fun _ _ z => z)
  · exact no (by decide) e
  · exact no (by decide) e
  · exact no (by decide) e
  · exact no (by decide) e
section
variable {X : Cx} {k : Nat} {C : Addr} {ps : List Str} {sp : Sp} {dvs : List V} {pos : Pos} {a b : Expr} {ta tb : TE} {W : WX} {K : Frag} {L : List Addr}
theorem pe_rmulX (hK : X.K = K) (D : MtX X.prog X.w X.K X.mg X.base C "__rmul__" k ps dvs sp) (tk : Takes X W) (ho : reflOk K C "mul" = true) (hr : RoomG k X.A) (ha : PE X a ta) (hb : PE X b tb) : PE X (.BinOp a .Mult b pos) (tReflX K L C sp dvs W ta tb) := by
  subst hK
  obtain ⟨f, fd, ds, c, hmt, F, hbd, hd⟩ := D.ex
  constructor
  intro pins s σ H Q I h
  refine wpAny_BinOp (binT ha hb I h fun v u s2 x y H2 I2 rx ry q => ?_)
  obtain ⟨b, dx, fs, t, rfl, eb, ax, tb, q⟩ := q
  obtain rfl : u = Value.ref b := ry
  obtain ⟨od, J⟩ := insAt' I2 eb
  obtain ⟨PH, Z, pH, _⟩ := kit_of I2 rx ax.ty
  exact refl_mul (L := L) I2.kIn J ho Z pH tb hmt.at_ hmt.fn (rel_int ax rx) (rel_bool ax rx) (wpAny_mono (goX (us := [.ref b, v]) (vs := [.ref b, x]) F tk hr hbd hd I2 (.cons rfl (.cons rx .nil)) q) (fun w s1 hw => back hw) fun _ _ z => z)
end
end My

namespace My
open PySem L2 PySem.Spec PyProof.Rows PySem.W
/-! ### lists of own objects, equal by an own __eq__ -/
theorem op_eqOL {X : Cx} {C : Addr} {k : Nat} {R : Addr → Addr → Hp → Prop} (D : MtO X.prog X.w X.K X.mg X.base C "__eq__" k ["self", "other"] [] (L2.spEq R)) (hR : ∀ a b H H', L2.Ext H H' → R a b H → R a b H') (hr : Room (k + 1) X.A) : OpR X (compareOp .Eq) (L2.rEqG (L2.DList (L2.DIns C R))) := by
  obtain ⟨f, fd, ds, c, hm, F, hb, hd⟩ := D.ex
  cases hd
  exact L2.op_eqG (L2.rcG_list (L2.mon_ins hR) (L2.eqG_ins F hm.at_ hm.fn hb (E := E0) fun _ _ _ _ _ _ _ z => z.elim)) hr
/-! ### texts of values -/
/-- data that is small enough to be told -/
structure SmD (d : PyData) : Prop where
  dp : d.depth ≤ 60
  sh : d.showable = true
  len : d.shown.length ≤ 100000
theorem shown_list (ds : List PyData) : (PyData.list ds).shown = listText (PyData.shownAll ds) := by simp only [PyData.shown]
theorem leaf_int {i : Int} (h : Sm 1900 i) : Leaf (.int i) (toString i) := .int (Nat.lt_of_lt_of_le h.log (by decide))
theorem textFrom_le : ∀ (ts : List Str) (k : Nat) (acc : Str), (textFrom k acc ts).length ≤ acc.length + piled ts
  | [], k, acc => Nat.le_refl _
  | t :: r, k, acc => by
    have h := textFrom_le r (k + 1) (acc ++ (if k > 0 then ", " else "" : String) ++ t)
    rw [strLen_append, strLen_append] at h
    have e : (Str.ofString (if k > 0 then ", " else "" : String)).length ≤ 2 := by
      split
      · exact Nat.le_refl 2
      · exact Nat.zero_le 2
    rw [piled_cons]
    show (textFrom (k + 1) _ r).length ≤ _
    omega
theorem listText_le (ts : List Str) : (listText ts).length ≤ piled ts + 2 := by
  have h := textFrom_le ts 0 "["
  have e : (Str.ofString "[").length = 1 := rfl
  have e2 : (Str.ofString "]").length = 1 := rfl
  unfold listText
  rw [strLen_append]
  omega
/-- a list of two: data, or an own object, and a bool -/
theorem list2 {H : Hp} {L : OwnL} {a : Addr} {v : V} {b : Bool} {t : Str} {Q : VK} (ea : H a = some (.lst [v, .bl b])) (na : a ≠ sysModules) (hl : t.length ≤ 100000)
    (hv : (∃ d, Dz H v d ∧ SmD d ∧ d.shown = t) ∨ ∃ (p : Addr × Sp) (b dx : Addr) (fs : List (Str × V)), p ∈ L ∧ v = .ref b ∧ H b = some (.ins p.1 dx fs) ∧ ∀ H1, L2.Same H H1 → ∀ Q1 : VK, (∀ H2, L2.Same H1 H2 → Q1 (.str t) H2) → p.2 [.ref b] H1 Q1 E0)
    (q : ∀ H', L2.Same H H' → Q (.str (listText [t, if b then "True" else "False"])) H') : rReprZ [.ref a] H Q ∨ rReprM L [.ref a] H Q := by
  have hz : (listText [t, if b then "True" else "False"]).length ≤ sizeLine := by
    have e := listText_le [t, if b then "True" else "False"]
    have e2 : piled [t, if b then ("True" : Str) else "False"] ≤ t.length + 9 := by
      rw [piled_cons, piled_cons, piled_nil]
      cases b
      · show t.length + 2 + (5 + 2 + 0) ≤ _
        omega
      · show t.length + 2 + (4 + 2 + 0) ≤ _
        omega
    rw [sizeLine_eq]
    omega
  rcases hv with ⟨d, hd, sm, e⟩ | ⟨p, o, dx, fs, hp, rfl, eo, z⟩
  · refine .inl ⟨_, .list [d, .bool b], rfl, .lst ea na (.cons hd (.cons (.bl b) .nil)), ?_, ?_, ?_, ?_⟩
    · have := sm.dp
      simp only [PyData.depth, PyData.depthAll]
      omega
    · have := sm.sh
      simp only [PyData.showable, PyData.showableAll, this, Bool.and_self]
    · rw [shown_list]
      simp only [PyData.shownAll, e]
      simp only [PyData.shown]
      exact hz
    · rw [shown_list]
      simp only [PyData.shownAll, e]
      simp only [PyData.shown]
      exact q H (L2.Same.refl H)
  · refine .inr ⟨a, [.ref o, .bl b], [t, if b then "True" else "False"], rfl, ea, by simp, rfl, fun i v hv => ?_, hz, q⟩
    match i, hv with
    | 0, hv =>
      cases hv
      exact ⟨t, rfl, .inr ⟨p, o, dx, fs, hp, rfl, eo, z⟩⟩
    | 1, hv =>
      cases hv
      exact ⟨_, rfl, .inl .bl⟩
    | n + 2, hv => simp at hv
section
variable {σ : L2.St} {H : Hp} {Q : VK} {K : Frag} {L : List Addr} {C : Addr} {m : Str} {sp : Sp} {dvs : List V} {W : WX} {ta tb : TE} {t : TA}
theorem s_opX (h : ta σ H fun x H1 => tb σ H1 fun y H2 => ∃ (a dx : Addr) (fs : List (Str × V)) (t : Value), x = .ref a ∧ H2 a = some (.ins C dx fs) ∧ AnyV K L H2 y t ∧ sp (.ref a :: y :: dvs) H2 Q (WE W σ)) : tOpX K L C sp dvs W ta tb σ H Q := h
theorem s_reflX (h : ta σ H fun x H1 => tb σ H1 fun y H2 => ∃ (b dx : Addr) (fs : List (Str × V)) (t : Value), y = .ref b ∧ H2 b = some (.ins C dx fs) ∧ AnyV K L H2 x t ∧ t ∈ bTys ∧ sp (.ref b :: x :: dvs) H2 Q (WE W σ)) : tReflX K L C sp dvs W ta tb σ H Q := h
theorem s_methX (h : ta σ H fun x H1 => ∃ a dx fs, x = .ref a ∧ H1 a = some (.ins C dx fs) ∧ fs.lookup m = none ∧ t σ H1 fun vs H2 => sp (x :: (vs ++ dvs)) H2 Q (WE W σ)) : tMethX C m sp dvs W ta t σ H Q := h
theorem s_makeX (h : t σ H fun vs H1 => ∀ x dx, H1 x = none → H1 dx = none → dx ≠ x → sp (.ref x :: (vs ++ dvs)) (upd (upd H1 dx (.own x)) x (.ins C dx [])) (fun v H2 => v = .non ∧ Q (.ref x) H2) (WE W σ)) : tMakeX C sp dvs W t σ H Q := h
end
/-! ### numbers as texts -/
def numT (i : Int) : Str := Str.ofString (toString i)
theorem numT_len {i : Int} (h0 : 0 ≤ i) (h : Sm 1900 i) : (numT i).length ≤ 600 := by
  obtain ⟨n, rfl⟩ : ∃ n : Nat, i = n := ⟨i.toNat, by omega⟩
  have e : (numT (n : Int)).length = (numT (n : Int)).cps.toList.length := by
    rw [Array.length_toList]
    rfl
  rw [e, show (numT (n : Int)).cps.toList = TL.numL n from TL.tl_num n]
  refine TL.numL_len (by decide) ?_
  have h2 : ((n : Int)).natAbs < 2 ^ 1900 := h
  rw [Int.natAbs_natCast] at h2
  exact Nat.lt_trans h2 (by decide +kernel)
theorem fit {n : Nat} (h : n ≤ 5000) : n ≤ sizeLine := by
  rw [sizeLine_eq]
  omega
end My

section
namespace My
open PySem L2
structure Md (K : PySem.W.Frag) (mg : Str → Option Value) (C_Many C_Ratio C_EachError C_InvalidMany L__law_odd_right : Addr) : Prop where
  tn : TabN (TLs K L__law_odd_right)
  b_isinstance : mg "isinstance" = none
  b_int : mg "int" = none
  b_bool : mg "bool" = none
  b_max : mg "max" = none
  b_min : mg "min" = none
  b_abs : mg "abs" = none
  b_divmod : mg "divmod" = none
  b_len : mg "len" = none
  b_range : mg "range" = none
  b_all : mg "all" = none
  b_repr : mg "repr" = none
  h_gcd : mg "gcd" = some (.builtin "math.gcd")
  f_is_integer : ∃ (f : Addr) (fd : FuncData), FunD K "is_integer" "is_integer" (defArgs st_is_integer) (defBody st_is_integer) (defScope st_is_integer) [] [] f fd ∧ mg "is_integer" = some (.ref f)
  f_is_count : ∃ (f : Addr) (fd : FuncData), FunD K "is_count" "is_count" (defArgs st_is_count) (defBody st_is_count) (defScope st_is_count) [] [] f fd ∧ mg "is_count" = some (.ref f)
  f__is_up_to : ∃ (f : Addr) (fd : FuncData), FunD K "_is_up_to" "_is_up_to" (defArgs st__is_up_to) (defBody st__is_up_to) (defScope st__is_up_to) [] [] f fd ∧ mg "_is_up_to" = some (.ref f)
  f__most_of_sum : ∃ (f : Addr) (fd : FuncData), FunD K "_most_of_sum" "_most_of_sum" (defArgs st__most_of_sum) (defBody st__most_of_sum) (defScope st__most_of_sum) [] [] f fd ∧ mg "_most_of_sum" = some (.ref f)
  f__most_of_product : ∃ (f : Addr) (fd : FuncData), FunD K "_most_of_product" "_most_of_product" (defArgs st__most_of_product) (defBody st__most_of_product) (defScope st__most_of_product) [] [] f fd ∧ mg "_most_of_product" = some (.ref f)
  f__law_rng : ∃ (f : Addr) (fd : FuncData), FunD K "_law_rng" "_law_rng" (defArgs st__law_rng) (defBody st__law_rng) (defScope st__law_rng) [] [] f fd ∧ mg "_law_rng" = some (.ref f)
  f__law_draw : ∃ (f : Addr) (fd : FuncData), FunD K "_law_draw" "_law_draw" (defArgs st__law_draw) (defBody st__law_draw) (defScope st__law_draw) [] [] f fd ∧ mg "_law_draw" = some (.ref f)
  f__law_choice : ∃ (f : Addr) (fd : FuncData), FunD K "_law_choice" "_law_choice" (defArgs st__law_choice) (defBody st__law_choice) (defScope st__law_choice) [] [] f fd ∧ mg "_law_choice" = some (.ref f)
  f__law_pair : ∃ (f : Addr) (fd : FuncData), FunD K "_law_pair" "_law_pair" (defArgs st__law_pair) (defBody st__law_pair) (defScope st__law_pair) [] [] f fd ∧ mg "_law_pair" = some (.ref f)
  f__law_far : ∃ (f : Addr) (fd : FuncData), FunD K "_law_far" "_law_far" (defArgs st__law_far) (defBody st__law_far) (defScope st__law_far) [] [] f fd ∧ mg "_law_far" = some (.ref f)
  f__law_made : ∃ (f : Addr) (fd : FuncData), FunD K "_law_made" "_law_made" (defArgs st__law_made) (defBody st__law_made) (defScope st__law_made) [] [] f fd ∧ mg "_law_made" = some (.ref f)
  f__law_row : ∃ (f : Addr) (fd : FuncData), FunD K "_law_row" "_law_row" (defArgs st__law_row) (defBody st__law_row) (defScope st__law_row) [] [] f fd ∧ mg "_law_row" = some (.ref f)
  f__law_numbers : ∃ (f : Addr) (fd : FuncData), FunD K "_law_numbers" "_law_numbers" (defArgs st__law_numbers) (defBody st__law_numbers) (defScope st__law_numbers) [] [] f fd ∧ mg "_law_numbers" = some (.ref f)
  f__law_spanned : ∃ (f : Addr) (fd : FuncData), FunD K "_law_spanned" "_law_spanned" (defArgs st__law_spanned) (defBody st__law_spanned) (defScope st__law_spanned) [] [] f fd ∧ mg "_law_spanned" = some (.ref f)
  f__law_bounds : ∃ (f : Addr) (fd : FuncData), FunD K "_law_bounds" "_law_bounds" (defArgs st__law_bounds) (defBody st__law_bounds) (defScope st__law_bounds) [] [] f fd ∧ mg "_law_bounds" = some (.ref f)
  f__law_refused : ∃ (f : Addr) (fd : FuncData), FunD K "_law_refused" "_law_refused" (defArgs st__law_refused) (defBody st__law_refused) (defScope st__law_refused) [] [] f fd ∧ mg "_law_refused" = some (.ref f)
  f__law_two_right : ∃ (f : Addr) (fd : FuncData), FunD K "_law_two_right" "_law_two_right" (defArgs st__law_two_right) (defBody st__law_two_right) (defScope st__law_two_right) [] [] f fd ∧ mg "_law_two_right" = some (.ref f)
  f__law_three_right : ∃ (f : Addr) (fd : FuncData), FunD K "_law_three_right" "_law_three_right" (defArgs st__law_three_right) (defBody st__law_three_right) (defScope st__law_three_right) [] [] f fd ∧ mg "_law_three_right" = some (.ref f)
  f__law_count_right : ∃ (f : Addr) (fd : FuncData), FunD K "_law_count_right" "_law_count_right" (defArgs st__law_count_right) (defBody st__law_count_right) (defScope st__law_count_right) [] [] f fd ∧ mg "_law_count_right" = some (.ref f)
  f__law_odd_right : ∃ (fd : FuncData), FunD K "_law_odd_right" "_law_odd_right" (defArgs st__law_odd_right) (defBody st__law_odd_right) (defScope st__law_odd_right) [] [] L__law_odd_right fd ∧ mg "_law_odd_right" = some (.ref L__law_odd_right)
  f__law_right : ∃ (f : Addr) (fd : FuncData), FunD K "_law_right" "_law_right" (defArgs st__law_right) (defBody st__law_right) (defScope st__law_right) [] [] f fd ∧ mg "_law_right" = some (.ref f)
  m_Many : mg "Many" = some (.ref C_Many)
  k_Many : Cls K C_Many
  i_Many : ∃ (f : Addr) (fd : FuncData), Mk K C_Many f ∧ FunD K "__init__" "Many.__init__" (defArgs st_Many___init__) (defBody st_Many___init__) (defScope st_Many___init__) [.non] [] f fd
  z_Many : ∀ {H : Hp} {a dx : Addr} {fs : List (Str × V)}, H a = some (.ins C_Many dx fs) → TyOf K H (.ref a) (.ref C_Many)
  n_Many__least : NoAttr K C_Many "_least"
  n_Many__most : NoAttr K C_Many "_most"
  n_Many__key : NoAttr K C_Many "_key"
  e_Many___add__ : ∃ (f : Addr) (fd : FuncData), Meth K C_Many "__add__" f ∧ FunD K "__add__" "Many.__add__" (defArgs st_Many___add__) (defBody st_Many___add__) (defScope st_Many___add__) [] [] f fd
  e_Many___mul__ : ∃ (f : Addr) (fd : FuncData), Meth K C_Many "__mul__" f ∧ FunD K "__mul__" "Many.__mul__" (defArgs st_Many___mul__) (defBody st_Many___mul__) (defScope st_Many___mul__) [] [] f fd
  e_Many___rmul__ : ∃ (f : Addr) (fd : FuncData), Meth K C_Many "__rmul__" f ∧ FunD K "__rmul__" "Many.__rmul__" (defArgs st_Many___rmul__) (defBody st_Many___rmul__) (defScope st_Many___rmul__) [] [] f fd
  e_Many___eq__ : ∃ (f : Addr) (fd : FuncData), Meth K C_Many "__eq__" f ∧ FunD K "__eq__" "Many.__eq__" (defArgs st_Many___eq__) (defBody st_Many___eq__) (defScope st_Many___eq__) [] [] f fd
  e_Many___repr__ : ∃ (f : Addr) (fd : FuncData), Meth K C_Many "__repr__" f ∧ FunD K "__repr__" "Many.__repr__" (defArgs st_Many___repr__) (defBody st_Many___repr__) (defScope st_Many___repr__) [] [] f fd
  p_Many_least : ∃ (p f : Addr) (fd : FuncData), PropOf K C_Many "least" p f ∧ FunD K "least" "Many.least" (defArgs st_Many_least) (defBody st_Many_least) (defScope st_Many_least) [] [] f fd
  p_Many_most : ∃ (p f : Addr) (fd : FuncData), PropOf K C_Many "most" p f ∧ FunD K "most" "Many.most" (defArgs st_Many_most) (defBody st_Many_most) (defScope st_Many_most) [] [] f fd
  m_Ratio : mg "Ratio" = some (.ref C_Ratio)
  k_Ratio : Cls K C_Ratio
  i_Ratio : ∃ (f : Addr) (fd : FuncData), Mk K C_Ratio f ∧ FunD K "__init__" "Ratio.__init__" (defArgs st_Ratio___init__) (defBody st_Ratio___init__) (defScope st_Ratio___init__) [.int 1] [] f fd
  z_Ratio : ∀ {H : Hp} {a dx : Addr} {fs : List (Str × V)}, H a = some (.ins C_Ratio dx fs) → TyOf K H (.ref a) (.ref C_Ratio)
  n_Ratio__top : NoAttr K C_Ratio "_top"
  n_Ratio__bottom : NoAttr K C_Ratio "_bottom"
  e_Ratio___repr__ : ∃ (f : Addr) (fd : FuncData), Meth K C_Ratio "__repr__" f ∧ FunD K "__repr__" "Ratio.__repr__" (defArgs st_Ratio___repr__) (defBody st_Ratio___repr__) (defScope st_Ratio___repr__) [] [] f fd
  ne_Many : PySem.W.findIn K (.ref C_Many) "__ne__" = some (some (.builtin "object.__ne__"))
  mo_Many : PySem.W.mroIn K C_Many (.type "object") = some true
  kk : kitsB K [C_Many, C_Ratio] = true
  ops_Many_add : opsB K C_Many "add" [C_Many, C_Ratio] = true
  ops_Many_mul : opsB K C_Many "mul" [C_Many, C_Ratio] = true
  ref_Many_mul : reflOk K C_Many "mul" = true
  cne : ¬ (C_Many = C_Ratio)
  nd_exc : [C_EachError, C_InvalidMany].Nodup
  hn_exc : PySem.W.specialIn K (.builtin "object.__class__") "__get__" = some (some (.builtin "getset_descriptor.__get__"))
  ht_exc : PySem.W.takesIn K (.builtin "object.__class__") = some true
  m_EachError : mg "EachError" = some (.ref C_EachError)
  x_EachError : ExF K C_EachError [.ref C_EachError, .type "ValueError", .type "Exception", .type "BaseException", .type "object"] "ValueError.__new__"
  q_EachError : PySem.W.excIn K C_EachError [.type "ValueError", .type "Exception", .type "BaseException", .type "object"] "ValueError.__new__" = true
  m_InvalidMany : mg "InvalidMany" = some (.ref C_InvalidMany)
  x_InvalidMany : ExF K C_InvalidMany [.ref C_InvalidMany, .ref C_EachError, .type "ValueError", .type "Exception", .type "BaseException", .type "object"] "ValueError.__new__"
  i_InvalidMany : ∃ (f : Addr) (fd : FuncData), PySem.W.findIn K (.ref C_InvalidMany) "__init__" = some (some (.ref f)) ∧ PySem.W.isFn K (.ref f) = true ∧ FunD K "__init__" "InvalidMany.__init__" (defArgs st_InvalidMany___init__) (defBody st_InvalidMany___init__) (defScope st_InvalidMany___init__) [] [] f fd
  n_InvalidMany_value : NoAttr K C_InvalidMany "value"
end My
open My L2 PySem
open My L2 PySem
local macro_rules | `(tactic| walk_at "as") => `(tactic| with_reducible assumption)
local macro_rules | `(tactic| walk_at "hp") => `(tactic| first
  | walk_at "as" | exact upd_same
  | (rw [upd_ne (by walk_at "ne")]; walk_at "hp")
  | (refine But.get (by walk_at "as") ?hp1 ?hp2; (case hp1 => walk_at "hp"); (case hp2 => walk_at "ne"))
  | (refine My.Same.get (by walk_at "as") ?hp1; (case hp1 => walk_at "hp")))
local macro_rules | `(tactic| walk_at "ne") => `(tactic| first
  | walk_at "as" | exact Ne.symm (by walk_at "as")
  | (refine' ne_of_none ?ne1 ?ne2; (case ne2 => walk_at "as"); (case ne1 => walk_at "hp"))
  | (refine' Ne.symm (ne_of_none ?ne1 ?ne2); (case ne2 => walk_at "as"); (case ne1 => walk_at "hp"))
  | exact ne_of (by walk_at "hp") (by walk_at "hp") (by intro z; cases z))
local macro_rules | `(tactic| walk_at "sd") => `(tactic| first
  | walk_at "as" | omega | decide | exact ⟨by omega, by omega⟩ | exact .inl ⟨by omega, by omega⟩ | exact .inr ⟨by omega, by omega⟩ | exact divp_wide (by walk_at "as") (by walk_at "as") | exact Sm.cmul (by walk_at "as") (by walk_at "as") | exact cmul_small (by omega) (by omega) (by omega) (by omega) | exact ⟨by omega, by decide⟩)
local macro_rules | `(tactic| walk_at "bt") => `(tactic| first
  | walk_at "as" | exact But.refl _ _ | exact Same.but (by walk_at "as")
  | (refine But.trans ?bt1 But.at; (case bt1 => walk_at "bt"))
  | (refine But.trans ?bt1 (But.new (by first | walk_at "as" | walk_at "hp")); (case bt1 => walk_at "bt"))
  | (refine But.trans ?bt1 (by walk_at "as"); (case bt1 => walk_at "bt"))
  | (refine But.trans ?bt1 (Same.but (by walk_at "as")); (case bt1 => walk_at "bt")))
local macro_rules | `(tactic| walk_at "sm") => `(tactic| first
  | walk_at "as" | exact My.Same.rfl' _
  | (refine' My.Same.at_ ?sm1 ?sm2; (case sm1 => walk_at "as"); (case sm2 => walk_at "sm"))
  | (refine' My.Same.tr ?sm1 (My.Same.new ?sm2); (case sm2 => walk_at "as"); (case sm1 => walk_at "sm"))
  | (refine' My.Same.tr ?sm1 ?sm2; (case sm2 => walk_at "as"); (case sm1 => walk_at "sm")))
local macro_rules | `(tactic| walk_at "sz") => `(tactic| first
  | assumption | exact lt_size (by rfl) | exact le_size (by rfl) | (rw [sizeLine_eq]; omega)
  | (rw [sizeLine_eq]; simp only [List.length_append, List.length_map, List.length_cons, List.length_nil]; omega))
local macro_rules | `(tactic| walk_at "few") => `(tactic| (repeat refine few_put ?_); exact few0)
local macro_rules | `(tactic| walk_at "rd1") => `(tactic| first
  | (with_reducible show tVar _ _ _ _); refine s_var rfl ?_
  | with_reducible refine s_c ?_ | with_reducible refine s_op ?_ | with_reducible refine s_un ?_
  | with_reducible refine s_cons ?_ | with_reducible refine s_nil ?_ | with_reducible refine s_cb ?_
  | with_reducible refine s_test ?_ | with_reducible refine s_B ?_ | with_reducible refine s_not ?_ | with_reducible refine s_and ?_ | with_reducible refine s_or ?_
  | with_reducible refine s_if ?_ | with_reducible refine s_notV ?_ | with_reducible refine s_andV ?_ | with_reducible refine s_orV ?_
  | with_reducible refine s_orT ?_ | with_reducible refine s_andT ?_ | with_reducible refine s_chain ?_
  | with_reducible refine s_isi_int ?_ | with_reducible refine s_isi_int_bool ?_ | with_reducible refine s_isi_str ?_
  | with_reducible refine iteT ?_ | with_reducible refine iteF ?_ | with_reducible refine iteNT ?_ | with_reducible refine iteNF ?_
  | with_reducible refine s_isN ?_ | with_reducible refine s_notN ?_
  | ((with_reducible refine' s_2setE ?g1 ?_); (case g1 => first | (dsimp only [List.set, L2.wipe, List.map, List.foldl]; done) | (dsimp only [List.set, L2.wipe, List.map, List.foldl]; rfl)))
  | with_reducible refine s_seq ?_ | with_reducible refine s_ifS ?_ | with_reducible refine s_asg ?_ | with_reducible refine s_ret ?_ | with_reducible refine s_drop ?_ | with_reducible refine s_next ?_
  | ((with_reducible refine' s_gnameE ?g1 ?_); (case g1 => first | (dsimp only [List.set, L2.wipe, List.map, List.foldl]; done) | (dsimp only [List.set, L2.wipe, List.map, List.foldl]; rfl)))
  | with_reducible refine s_gsub ?_ | with_reducible refine s_gcons ?_ | with_reducible refine s_gnil ?_
  | (with_reducible show gTup _ _ _ _ _ _ _); refine s_gtup (by walk_at "hp") rfl ?_
  | with_reducible refine s_eqI ?_ | with_reducible refine s_neI ?_ | with_reducible refine s_eqS ?_ | with_reducible refine s_neB ?_ | with_reducible refine s_eqB ?_ | with_reducible refine s_neSr ?_ | with_reducible refine s_neS ?_
  | with_reducible refine s_I0 ?_
  | (with_reducible show rI _ _ _ _ _ _); refine s_I (by walk_at "sd") ?_
  | (with_reducible show rIxL _ _ _ _ _); refine s_ixL (by walk_at "hp") rfl ?_
  | (with_reducible show rIxT _ _ _ _ _); refine s_ixT (by walk_at "hp") rfl ?_
  | (with_reducible show rSetL _ _ _ _ _); refine s_setL (by walk_at "hp") rfl ?_
  | with_reducible refine s_prop ?_
  | (with_reducible show _ ≤ sizeLine ∧ _); refine ⟨le_size (by rfl), ?_⟩
  | with_reducible refine ite_NN ?_ | with_reducible refine ite_IN ?_ | with_reducible refine ite_nNN ?_ | with_reducible refine ite_nIN ?_ | with_reducible refine ite_RN ?_ | with_reducible refine ite_nRN ?_
  | with_reducible refine s_sfld ?_
  | ((with_reducible refine' ⟨_, _, _, _, rfl, ?fp1, ?fp2, ?fp3, ?fp4, ?_⟩); (case fp1 => walk_at "hp"); (case fp2 => assumption); (case fp3 => assumption); (case fp4 => walk_at "few"))
  | with_reducible refine s_fldE ?_
  | ((with_reducible refine' ⟨_, _, _, _, _, rfl, ?fp1, ?fp2, ?fp3, ?fp4, ?_⟩); (case fp1 => walk_at "hp"); (case fp2 => assumption); (case fp3 => assumption); (case fp4 => rfl))
  | with_reducible refine s_bm ?_ | with_reducible refine s_bm0 ?_
  | ((with_reducible refine' s_tyL ?ty1 ?_); (case ty1 => walk_at "hp"))
  | ((with_reducible refine' s_append ?ap1 ?ap2 ?_); (case ap1 => walk_at "hp"); (case ap2 => walk_at "sz"))
  | ((with_reducible refine' s_extend ?ap1 ?ap2 ?ap3 ?_); (case ap1 => walk_at "hp"); (case ap2 => walk_at "hp"); (case ap3 => walk_at "sz"))
  | with_reducible refine s_for (fun _ _ => ?_) | with_reducible refine s_lc ?_ | with_reducible refine s_iList ?_ | with_reducible refine s_iTup ?_ | with_reducible refine s_iRng1 ?_ | with_reducible refine s_iRng2 ?_
  | with_reducible refine s_yes ?_ | with_reducible refine s_par ?_
  | with_reducible refine s_make ?_ | with_reducible refine s_meth ?_
  | with_reducible refine s_tup ?_ | with_reducible refine s_lst ?_ | with_reducible refine s_call ?_
  | with_reducible refine ⟨rfl, ?_⟩
  | with_reducible refine ⟨_, rfl, ?_⟩
  | ((with_reducible refine' ⟨_, _, rfl, ?sd1, ?_⟩); (case sd1 => walk_at "sd"))
  | with_reducible refine ⟨_, _, rfl, ?_⟩
  | with_reducible refine .inl ⟨_, rfl, ?_⟩
  | dsimp only [List.set]
  | walk_at "rdx"
  | (refine fun _ _ => ?_))
local macro_rules | `(tactic| walk_at "rd") => `(tactic| repeat (first
  | (with_reducible show tVar _ _ _ _); refine s_var rfl ?_
  | with_reducible refine s_c ?_ | with_reducible refine s_op ?_ | with_reducible refine s_un ?_
  | with_reducible refine s_cons ?_ | with_reducible refine s_nil ?_ | with_reducible refine s_cb ?_
  | with_reducible refine s_test ?_ | with_reducible refine s_B ?_ | with_reducible refine s_not ?_ | with_reducible refine s_and ?_ | with_reducible refine s_or ?_
  | with_reducible refine s_if ?_ | with_reducible refine s_notV ?_ | with_reducible refine s_andV ?_ | with_reducible refine s_orV ?_
  | with_reducible refine s_orT ?_ | with_reducible refine s_andT ?_ | with_reducible refine s_chain ?_
  | with_reducible refine s_isi_int ?_ | with_reducible refine s_isi_int_bool ?_ | with_reducible refine s_isi_str ?_
  | with_reducible refine iteT ?_ | with_reducible refine iteF ?_ | with_reducible refine iteNT ?_ | with_reducible refine iteNF ?_
  | with_reducible refine s_isN ?_ | with_reducible refine s_notN ?_
  | ((with_reducible refine' s_2setE ?g1 ?_); (case g1 => first | (dsimp only [List.set, L2.wipe, List.map, List.foldl]; done) | (dsimp only [List.set, L2.wipe, List.map, List.foldl]; rfl)))
  | with_reducible refine s_seq ?_ | with_reducible refine s_ifS ?_ | with_reducible refine s_asg ?_ | with_reducible refine s_ret ?_ | with_reducible refine s_drop ?_ | with_reducible refine s_next ?_
  | ((with_reducible refine' s_gnameE ?g1 ?_); (case g1 => first | (dsimp only [List.set, L2.wipe, List.map, List.foldl]; done) | (dsimp only [List.set, L2.wipe, List.map, List.foldl]; rfl)))
  | with_reducible refine s_gsub ?_ | with_reducible refine s_gcons ?_ | with_reducible refine s_gnil ?_
  | (with_reducible show gTup _ _ _ _ _ _ _); refine s_gtup (by walk_at "hp") rfl ?_
  | with_reducible refine s_eqI ?_ | with_reducible refine s_neI ?_ | with_reducible refine s_eqS ?_ | with_reducible refine s_neB ?_ | with_reducible refine s_eqB ?_ | with_reducible refine s_neSr ?_ | with_reducible refine s_neS ?_
  | with_reducible refine s_I0 ?_
  | (with_reducible show rI _ _ _ _ _ _); refine s_I (by walk_at "sd") ?_
  | (with_reducible show rIxL _ _ _ _ _); refine s_ixL (by walk_at "hp") rfl ?_
  | (with_reducible show rIxT _ _ _ _ _); refine s_ixT (by walk_at "hp") rfl ?_
  | (with_reducible show rSetL _ _ _ _ _); refine s_setL (by walk_at "hp") rfl ?_
  | with_reducible refine s_prop ?_
  | (with_reducible show _ ≤ sizeLine ∧ _); refine ⟨le_size (by rfl), ?_⟩
  | with_reducible refine ite_NN ?_ | with_reducible refine ite_IN ?_ | with_reducible refine ite_nNN ?_ | with_reducible refine ite_nIN ?_ | with_reducible refine ite_RN ?_ | with_reducible refine ite_nRN ?_
  | with_reducible refine s_sfld ?_
  | ((with_reducible refine' ⟨_, _, _, _, rfl, ?fp1, ?fp2, ?fp3, ?fp4, ?_⟩); (case fp1 => walk_at "hp"); (case fp2 => assumption); (case fp3 => assumption); (case fp4 => walk_at "few"))
  | with_reducible refine s_fldE ?_
  | ((with_reducible refine' ⟨_, _, _, _, _, rfl, ?fp1, ?fp2, ?fp3, ?fp4, ?_⟩); (case fp1 => walk_at "hp"); (case fp2 => assumption); (case fp3 => assumption); (case fp4 => rfl))
  | with_reducible refine s_bm ?_ | with_reducible refine s_bm0 ?_
  | ((with_reducible refine' s_tyL ?ty1 ?_); (case ty1 => walk_at "hp"))
  | ((with_reducible refine' s_append ?ap1 ?ap2 ?_); (case ap1 => walk_at "hp"); (case ap2 => walk_at "sz"))
  | ((with_reducible refine' s_extend ?ap1 ?ap2 ?ap3 ?_); (case ap1 => walk_at "hp"); (case ap2 => walk_at "hp"); (case ap3 => walk_at "sz"))
  | with_reducible refine s_for (fun _ _ => ?_) | with_reducible refine s_lc ?_ | with_reducible refine s_iList ?_ | with_reducible refine s_iTup ?_ | with_reducible refine s_iRng1 ?_ | with_reducible refine s_iRng2 ?_
  | with_reducible refine s_yes ?_ | with_reducible refine s_par ?_
  | with_reducible refine s_make ?_ | with_reducible refine s_meth ?_
  | with_reducible refine s_tup ?_ | with_reducible refine s_lst ?_ | with_reducible refine s_call ?_
  | with_reducible refine ⟨rfl, ?_⟩
  | with_reducible refine ⟨_, rfl, ?_⟩
  | ((with_reducible refine' ⟨_, _, rfl, ?sd1, ?_⟩); (case sd1 => walk_at "sd"))
  | with_reducible refine ⟨_, _, rfl, ?_⟩
  | with_reducible refine .inl ⟨_, rfl, ?_⟩
  | dsimp only [List.set]
  | walk_at "rdx"
  | (refine fun _ _ => ?_)))
end
section
open My L2 PySem
open My L2 PySem
local macro_rules | `(tactic| walk_at "as") => `(tactic| with_reducible assumption)
local macro_rules | `(tactic| walk_at "hp") => `(tactic| first
  | walk_at "as" | exact upd_same
  | (rw [upd_ne (by walk_at "ne")]; walk_at "hp")
  | (refine But.get (by walk_at "as") ?hp1 ?hp2; (case hp1 => walk_at "hp"); (case hp2 => walk_at "ne"))
  | (refine My.Same.get (by walk_at "as") ?hp1; (case hp1 => walk_at "hp")))
local macro_rules | `(tactic| walk_at "ne") => `(tactic| first
  | walk_at "as" | exact Ne.symm (by walk_at "as")
  | (refine' ne_of_none ?ne1 ?ne2; (case ne2 => walk_at "as"); (case ne1 => walk_at "hp"))
  | (refine' Ne.symm (ne_of_none ?ne1 ?ne2); (case ne2 => walk_at "as"); (case ne1 => walk_at "hp"))
  | exact ne_of (by walk_at "hp") (by walk_at "hp") (by intro z; cases z))
local macro_rules | `(tactic| walk_at "sd") => `(tactic| first
  | walk_at "as" | omega | decide | exact ⟨by omega, by omega⟩ | exact .inl ⟨by omega, by omega⟩ | exact .inr ⟨by omega, by omega⟩ | exact divp_wide (by walk_at "as") (by walk_at "as") | exact Sm.cmul (by walk_at "as") (by walk_at "as") | exact cmul_small (by omega) (by omega) (by omega) (by omega) | exact ⟨by omega, by decide⟩)
local macro_rules | `(tactic| walk_at "bt") => `(tactic| first
  | walk_at "as" | exact But.refl _ _ | exact Same.but (by walk_at "as")
  | (refine But.trans ?bt1 But.at; (case bt1 => walk_at "bt"))
  | (refine But.trans ?bt1 (But.new (by first | walk_at "as" | walk_at "hp")); (case bt1 => walk_at "bt"))
  | (refine But.trans ?bt1 (by walk_at "as"); (case bt1 => walk_at "bt"))
  | (refine But.trans ?bt1 (Same.but (by walk_at "as")); (case bt1 => walk_at "bt")))
local macro_rules | `(tactic| walk_at "sm") => `(tactic| first
  | walk_at "as" | exact My.Same.rfl' _
  | (refine' My.Same.at_ ?sm1 ?sm2; (case sm1 => walk_at "as"); (case sm2 => walk_at "sm"))
  | (refine' My.Same.tr ?sm1 (My.Same.new ?sm2); (case sm2 => walk_at "as"); (case sm1 => walk_at "sm"))
  | (refine' My.Same.tr ?sm1 ?sm2; (case sm2 => walk_at "as"); (case sm1 => walk_at "sm")))
local macro_rules | `(tactic| walk_at "sz") => `(tactic| first
  | assumption | exact lt_size (by rfl) | exact le_size (by rfl) | (rw [sizeLine_eq]; omega)
  | (rw [sizeLine_eq]; simp only [List.length_append, List.length_map, List.length_cons, List.length_nil]; omega))
local macro_rules | `(tactic| walk_at "few") => `(tactic| (repeat refine few_put ?_); exact few0)
local macro_rules | `(tactic| walk_at "rd1") => `(tactic| first
  | (with_reducible show tVar _ _ _ _); refine s_var rfl ?_
  | with_reducible refine s_c ?_ | with_reducible refine s_op ?_ | with_reducible refine s_un ?_
  | with_reducible refine s_cons ?_ | with_reducible refine s_nil ?_ | with_reducible refine s_cb ?_
  | with_reducible refine s_test ?_ | with_reducible refine s_B ?_ | with_reducible refine s_not ?_ | with_reducible refine s_and ?_ | with_reducible refine s_or ?_
  | with_reducible refine s_if ?_ | with_reducible refine s_notV ?_ | with_reducible refine s_andV ?_ | with_reducible refine s_orV ?_
  | with_reducible refine s_orT ?_ | with_reducible refine s_andT ?_ | with_reducible refine s_chain ?_
  | with_reducible refine s_isi_int ?_ | with_reducible refine s_isi_int_bool ?_ | with_reducible refine s_isi_str ?_
  | with_reducible refine iteT ?_ | with_reducible refine iteF ?_ | with_reducible refine iteNT ?_ | with_reducible refine iteNF ?_
  | with_reducible refine s_isN ?_ | with_reducible refine s_notN ?_
  | ((with_reducible refine' s_2setE ?g1 ?_); (case g1 => first | (dsimp only [List.set, L2.wipe, List.map, List.foldl]; done) | (dsimp only [List.set, L2.wipe, List.map, List.foldl]; rfl)))
  | with_reducible refine s_seq ?_ | with_reducible refine s_ifS ?_ | with_reducible refine s_asg ?_ | with_reducible refine s_ret ?_ | with_reducible refine s_drop ?_ | with_reducible refine s_next ?_
  | ((with_reducible refine' s_gnameE ?g1 ?_); (case g1 => first | (dsimp only [List.set, L2.wipe, List.map, List.foldl]; done) | (dsimp only [List.set, L2.wipe, List.map, List.foldl]; rfl)))
  | with_reducible refine s_gsub ?_ | with_reducible refine s_gcons ?_ | with_reducible refine s_gnil ?_
  | (with_reducible show gTup _ _ _ _ _ _ _); refine s_gtup (by walk_at "hp") rfl ?_
  | with_reducible refine s_eqI ?_ | with_reducible refine s_neI ?_ | with_reducible refine s_eqS ?_ | with_reducible refine s_neB ?_ | with_reducible refine s_eqB ?_ | with_reducible refine s_neSr ?_ | with_reducible refine s_neS ?_
  | with_reducible refine s_I0 ?_
  | (with_reducible show rI _ _ _ _ _ _); refine s_I (by walk_at "sd") ?_
  | (with_reducible show rIxL _ _ _ _ _); refine s_ixL (by walk_at "hp") rfl ?_
  | (with_reducible show rIxT _ _ _ _ _); refine s_ixT (by walk_at "hp") rfl ?_
  | (with_reducible show rSetL _ _ _ _ _); refine s_setL (by walk_at "hp") rfl ?_
  | with_reducible refine s_prop ?_
  | (with_reducible show _ ≤ sizeLine ∧ _); refine ⟨le_size (by rfl), ?_⟩
  | with_reducible refine ite_NN ?_ | with_reducible refine ite_IN ?_ | with_reducible refine ite_nNN ?_ | with_reducible refine ite_nIN ?_ | with_reducible refine ite_RN ?_ | with_reducible refine ite_nRN ?_
  | with_reducible refine s_sfld ?_
  | ((with_reducible refine' ⟨_, _, _, _, rfl, ?fp1, ?fp2, ?fp3, ?fp4, ?_⟩); (case fp1 => walk_at "hp"); (case fp2 => assumption); (case fp3 => assumption); (case fp4 => walk_at "few"))
  | with_reducible refine s_fldE ?_
  | ((with_reducible refine' ⟨_, _, _, _, _, rfl, ?fp1, ?fp2, ?fp3, ?fp4, ?_⟩); (case fp1 => walk_at "hp"); (case fp2 => assumption); (case fp3 => assumption); (case fp4 => rfl))
  | with_reducible refine s_bm ?_ | with_reducible refine s_bm0 ?_
  | ((with_reducible refine' s_tyL ?ty1 ?_); (case ty1 => walk_at "hp"))
  | ((with_reducible refine' s_append ?ap1 ?ap2 ?_); (case ap1 => walk_at "hp"); (case ap2 => walk_at "sz"))
  | ((with_reducible refine' s_extend ?ap1 ?ap2 ?ap3 ?_); (case ap1 => walk_at "hp"); (case ap2 => walk_at "hp"); (case ap3 => walk_at "sz"))
  | with_reducible refine s_for (fun _ _ => ?_) | with_reducible refine s_lc ?_ | with_reducible refine s_iList ?_ | with_reducible refine s_iTup ?_ | with_reducible refine s_iRng1 ?_ | with_reducible refine s_iRng2 ?_
  | with_reducible refine s_yes ?_ | with_reducible refine s_par ?_
  | with_reducible refine s_make ?_ | with_reducible refine s_meth ?_
  | with_reducible refine s_tup ?_ | with_reducible refine s_lst ?_ | with_reducible refine s_call ?_
  | with_reducible refine ⟨rfl, ?_⟩
  | with_reducible refine ⟨_, rfl, ?_⟩
  | ((with_reducible refine' ⟨_, _, rfl, ?sd1, ?_⟩); (case sd1 => walk_at "sd"))
  | with_reducible refine ⟨_, _, rfl, ?_⟩
  | with_reducible refine .inl ⟨_, rfl, ?_⟩
  | dsimp only [List.set]
  | walk_at "rdx"
  | (refine fun _ _ => ?_))
local macro_rules | `(tactic| walk_at "rd") => `(tactic| repeat (first
  | (with_reducible show tVar _ _ _ _); refine s_var rfl ?_
  | with_reducible refine s_c ?_ | with_reducible refine s_op ?_ | with_reducible refine s_un ?_
  | with_reducible refine s_cons ?_ | with_reducible refine s_nil ?_ | with_reducible refine s_cb ?_
  | with_reducible refine s_test ?_ | with_reducible refine s_B ?_ | with_reducible refine s_not ?_ | with_reducible refine s_and ?_ | with_reducible refine s_or ?_
  | with_reducible refine s_if ?_ | with_reducible refine s_notV ?_ | with_reducible refine s_andV ?_ | with_reducible refine s_orV ?_
  | with_reducible refine s_orT ?_ | with_reducible refine s_andT ?_ | with_reducible refine s_chain ?_
  | with_reducible refine s_isi_int ?_ | with_reducible refine s_isi_int_bool ?_ | with_reducible refine s_isi_str ?_
  | with_reducible refine iteT ?_ | with_reducible refine iteF ?_ | with_reducible refine iteNT ?_ | with_reducible refine iteNF ?_
  | with_reducible refine s_isN ?_ | with_reducible refine s_notN ?_
  | ((with_reducible refine' s_2setE ?g1 ?_); (case g1 => first | (dsimp only [List.set, L2.wipe, List.map, List.foldl]; done) | (dsimp only [List.set, L2.wipe, List.map, List.foldl]; rfl)))
  | with_reducible refine s_seq ?_ | with_reducible refine s_ifS ?_ | with_reducible refine s_asg ?_ | with_reducible refine s_ret ?_ | with_reducible refine s_drop ?_ | with_reducible refine s_next ?_
  | ((with_reducible refine' s_gnameE ?g1 ?_); (case g1 => first | (dsimp only [List.set, L2.wipe, List.map, List.foldl]; done) | (dsimp only [List.set, L2.wipe, List.map, List.foldl]; rfl)))
  | with_reducible refine s_gsub ?_ | with_reducible refine s_gcons ?_ | with_reducible refine s_gnil ?_
  | (with_reducible show gTup _ _ _ _ _ _ _); refine s_gtup (by walk_at "hp") rfl ?_
  | with_reducible refine s_eqI ?_ | with_reducible refine s_neI ?_ | with_reducible refine s_eqS ?_ | with_reducible refine s_neB ?_ | with_reducible refine s_eqB ?_ | with_reducible refine s_neSr ?_ | with_reducible refine s_neS ?_
  | with_reducible refine s_I0 ?_
  | (with_reducible show rI _ _ _ _ _ _); refine s_I (by walk_at "sd") ?_
  | (with_reducible show rIxL _ _ _ _ _); refine s_ixL (by walk_at "hp") rfl ?_
  | (with_reducible show rIxT _ _ _ _ _); refine s_ixT (by walk_at "hp") rfl ?_
  | (with_reducible show rSetL _ _ _ _ _); refine s_setL (by walk_at "hp") rfl ?_
  | with_reducible refine s_prop ?_
  | (with_reducible show _ ≤ sizeLine ∧ _); refine ⟨le_size (by rfl), ?_⟩
  | with_reducible refine ite_NN ?_ | with_reducible refine ite_IN ?_ | with_reducible refine ite_nNN ?_ | with_reducible refine ite_nIN ?_ | with_reducible refine ite_RN ?_ | with_reducible refine ite_nRN ?_
  | with_reducible refine s_sfld ?_
  | ((with_reducible refine' ⟨_, _, _, _, rfl, ?fp1, ?fp2, ?fp3, ?fp4, ?_⟩); (case fp1 => walk_at "hp"); (case fp2 => assumption); (case fp3 => assumption); (case fp4 => walk_at "few"))
  | with_reducible refine s_fldE ?_
  | ((with_reducible refine' ⟨_, _, _, _, _, rfl, ?fp1, ?fp2, ?fp3, ?fp4, ?_⟩); (case fp1 => walk_at "hp"); (case fp2 => assumption); (case fp3 => assumption); (case fp4 => rfl))
  | with_reducible refine s_bm ?_ | with_reducible refine s_bm0 ?_
  | ((with_reducible refine' s_tyL ?ty1 ?_); (case ty1 => walk_at "hp"))
  | ((with_reducible refine' s_append ?ap1 ?ap2 ?_); (case ap1 => walk_at "hp"); (case ap2 => walk_at "sz"))
  | ((with_reducible refine' s_extend ?ap1 ?ap2 ?ap3 ?_); (case ap1 => walk_at "hp"); (case ap2 => walk_at "hp"); (case ap3 => walk_at "sz"))
  | with_reducible refine s_for (fun _ _ => ?_) | with_reducible refine s_lc ?_ | with_reducible refine s_iList ?_ | with_reducible refine s_iTup ?_ | with_reducible refine s_iRng1 ?_ | with_reducible refine s_iRng2 ?_
  | with_reducible refine s_yes ?_ | with_reducible refine s_par ?_
  | with_reducible refine s_make ?_ | with_reducible refine s_meth ?_
  | with_reducible refine s_tup ?_ | with_reducible refine s_lst ?_ | with_reducible refine s_call ?_
  | with_reducible refine ⟨rfl, ?_⟩
  | with_reducible refine ⟨_, rfl, ?_⟩
  | ((with_reducible refine' ⟨_, _, rfl, ?sd1, ?_⟩); (case sd1 => walk_at "sd"))
  | with_reducible refine ⟨_, _, rfl, ?_⟩
  | with_reducible refine .inl ⟨_, rfl, ?_⟩
  | dsimp only [List.set]
  | walk_at "rdx"
  | (refine fun _ _ => ?_)))

namespace My
open PySem L2
section
variable {P : Program} {w : World} {K : PySem.W.Frag} {mg : Str → Option Value} {base : Heap} {C_Many C_Ratio C_EachError C_InvalidMany L__law_odd_right : Addr} (M : Md K mg C_Many C_Ratio C_EachError C_InvalidMany L__law_odd_right)
include M
local macro_rules | `(tactic| walk_at "rdx") => `(tactic| first | with_reducible refine s_ostG ?_ | with_reducible refine s_raE ?_ | with_reducible refine s_callX ?_)
omit M
abbrev OL (C_Many C_Ratio : Addr) : List Addr := [C_Many, C_Ratio]
def ManyAt (C : Addr) (H : Hp) (x : Addr) (lo : Int) (hi : Option Int) : Prop := ∃ dx k : Addr, H x = some (.ins C dx [("_least", .int lo), ("_most", optV hi), ("_key", .ref k)]) ∧ H k = some (.tup [.int lo, .bl (decide (hi = none)), .int (hi.getD 0)])
theorem ManyAt.same {C x : Addr} {H H' : Hp} {lo : Int} {hi : Option Int} (h : ManyAt C H x lo hi) (s : L2.Same H H') : ManyAt C H' x lo hi := by
  obtain ⟨dx, k, e, e2⟩ := h
  exact ⟨dx, k, s _ _ e, s _ _ e2⟩
theorem ManyAt.ex {C x : Addr} {H H' : Hp} {lo : Int} {hi : Option Int} (h : ManyAt C H x lo hi) (s : LamX.ExtN H H') : ManyAt C H' x lo hi := by
  obtain ⟨dx, k, e, e2⟩ := h
  exact ⟨dx, k, s _ _ e (fun _ z => nomatch z), s _ _ e2 (fun _ z => nomatch z)⟩
theorem many_fields (C dx : Addr) (a b c : V) : some (HO.ins C dx (putF "_key" c (putF "_most" b (putF "_least" a [])))) = some (HO.ins C dx [("_least", a), ("_most", b), ("_key", c)]) := by
  rw [putF_nil, putF_ne (by decide +kernel), putF_nil, putF_ne (by decide +kernel), putF_ne (by decide +kernel), putF_nil]
def spIsI (K : PySem.W.Frag) (L : List Addr) : Sp := fun vs H Q _ => ∃ (v : V) (t : Value), vs = [v] ∧ AnyV K L H v t ∧ Q (.bl (isI v)) H
def spIsC (K : PySem.W.Frag) (L : List Addr) : Sp := fun vs H Q _ => ∃ (v : V) (t : Value), vs = [v] ∧ AnyV K L H v t ∧ Q (.bl (isCnt v)) H
def spUpTo : Sp := fun vs H Q _ => ∃ (i : Int) (m : Option Int), vs = [.int i, optV m] ∧ (∀ h, m = some h → i ≤ h) ∧ Q (.bl true) H
def oadd (a b : Option Int) : Option Int := match a, b with
  | some x, some y => some (x + y)
  | _, _ => none
def omul (a b : Option Int) : Option Int := if a = some 0 ∨ b = some 0 then some 0 else match a, b with
  | some x, some y => some (x * y)
  | _, _ => none
def spOAdd : Sp := fun vs H Q _ => ∃ a b : Option Int, vs = [optV a, optV b] ∧ Q (optV (oadd a b)) H
def spOMul : Sp := fun vs H Q _ => ∃ a b : Option Int, vs = [optV a, optV b] ∧ (∀ x y, a = some x → b = some y → Sm 800 x ∧ Sm 800 y) ∧ Q (optV (omul a b)) H
theorem s_eqNI {i : Int} {H : Hp} {Q : VK} (q : Q (.bl false) H) : rEq (optV none) (.int i) H Q := by
  refine ⟨rfl, ?_⟩
  rw [show decide (optV none = V.int i) = false from rfl]
  exact q
theorem omul_some (x y : Int) : omul (some x) (some y) = some (x * y) := by
  unfold omul
  by_cases h : some x = some 0 ∨ some y = some 0
  · rw [if_pos h]
    rcases h with z | z
    · cases z
      rw [Int.zero_mul]
    · cases z
      rw [Int.mul_zero]
  · rw [if_neg h]
def spInit (C : Addr) : Sp := fun vs H Q _ => ∃ (x dx : Addr) (lo : Int) (hi : Option Int), vs = [.ref x, .int lo, optV hi] ∧ H x = some (.ins C dx []) ∧ 0 ≤ lo ∧ (∀ h, hi = some h → lo ≤ h) ∧ ∀ H', But x H H' → ManyAt C H' x lo hi → Q .non H'
def spLeast (C : Addr) : Sp := fun vs H Q _ => ∃ (x : Addr) (lo : Int) (hi : Option Int), vs = [.ref x] ∧ ManyAt C H x lo hi ∧ Q (.int lo) H
def spMost (C : Addr) : Sp := fun vs H Q _ => ∃ (x : Addr) (lo : Int) (hi : Option Int), vs = [.ref x] ∧ ManyAt C H x lo hi ∧ Q (optV hi) H
include M
theorem c_is_integer : Dn P w K mg base "is_integer" 1 ["value"] [] (spIsI K [C_Many, C_Ratio]) := by
  refine dnN M.f_is_integer (fun F => ?_) (fun _ _ _ _ _ _ us hl => match us, hl with | [_], _ => rfl)
  refine fnG_body F sc_is_integer (fun vs H Q E h => ?_) (fun cdv A outer s H vs Q E hr h => ?_)
  · obtain ⟨v, t, rfl, _⟩ := h
    rfl
  · obtain ⟨v, t, rfl, a, q⟩ := h
    have e := a.isI
    refine ⟨_, (pss_one (ps_ret (pe_and (pe_callB call_isi (by rfl) M.b_isinstance (by decide +kernel) (pa_cons (pv 0) (pa_cons (pe_bltn (v := .ty "int") (u := .type "int") (by rfl) M.b_int (by decide +kernel) rfl) pa_nil))) (pe_one (pe_not (pe_callB call_isi (by rfl) M.b_isinstance (by decide +kernel) (pa_cons (pv 0) (pa_cons (pe_bltn (v := .ty "bool") (u := .type "bool") (by rfl) M.b_bool (by decide +kernel) rfl) pa_nil)))))))), ?_⟩
    refine st_eq (σ := [some _]) rfl ?_
    walk_at "rd"
    refine s_isiA M.kk a (.ty "int") (b_mem (by decide +kernel)) ?_
    refine ⟨_, rfl, ?_⟩
    cases h1 : subT t (.type "int") with
    | false =>
      rw [h1] at e
      rw [if_neg Bool.false_ne_true]
      rw [← e] at q
      exact q
    | true =>
      rw [h1] at e
      rw [if_pos rfl]
      walk_at "rd"
      refine s_isiA M.kk a (.ty "bool") (b_mem (by decide +kernel)) ?_
      walk_at "rd"
      rw [Bool.true_and] at e
      rw [e]
      exact q
theorem c_is_count : Dn P w K mg base "is_count" 2 ["value"] [] (spIsC K [C_Many, C_Ratio]) := by
  refine dnN M.f_is_count (fun F => ?_) (fun _ _ _ _ _ _ us hl => match us, hl with | [_], _ => rfl)
  have c_is_integer := c_is_integer (P := P) (w := w) (base := base) M
  refine fnG_body F sc_is_count (fun vs H Q E h => ?_) (fun cdv A outer s H vs Q E hr h => ?_)
  · obtain ⟨v, t, rfl, _⟩ := h
    rfl
  · obtain ⟨v, t, rfl, a, q⟩ := h
    refine ⟨_, (pss_one (ps_ret (pe_and (pe_callD c_is_integer (hr.mono (by decide)) rfl (pa_cons (pv 0) pa_nil)) (pe_one (pe_cmpR op_ge (pv 0) pe_int (nomark _)))))), ?_⟩
    refine st_eq (σ := [some _]) rfl ?_
    walk_at "rd"
    refine ⟨v, t, rfl, a, ?_⟩
    refine ⟨_, rfl, ?_⟩
    cases v with
    | int i =>
      rw [show isI (V.int i) = true from rfl]
      refine iteT ?_
      walk_at "rd"
      exact q
    | _ => exact q
theorem c__is_up_to : Dn P w K mg base "_is_up_to" 1 ["number", "most"] [] spUpTo := by
  refine dnN M.f__is_up_to (fun F => ?_) (fun _ _ _ _ _ _ us hl => match us, hl with | [_, _], _ => rfl)
  refine fnG_body F sc__is_up_to (fun vs H Q E h => ?_) (fun cdv A outer s H vs Q E hr h => ?_)
  · obtain ⟨i, m, rfl, _⟩ := h
    rfl
  · obtain ⟨i, m, rfl, h0, q⟩ := h
    refine ⟨_, (pss_one (ps_ret (pe_or (pe_cmpR op_isN (pv 1) pe_non (nomark _)) (pe_one (pe_and (pe_cmpR op_notN (pv 0) pe_non (nomark _)) (pe_one (pe_cmpR op_le (pv 0) (pv 1) (nomark _)))))))), ?_⟩
    refine st_eq (σ := [some _, some _]) rfl ?_
    walk_at "rd"
    cases m with
    | none =>
      walk_at "rd"
      exact q
    | some m =>
      walk_at "rd"
      rw [decide_eq_true (h0 m rfl)]
      exact q
theorem c__most_of_sum : Dn P w K mg base "_most_of_sum" 1 ["one", "other"] [] spOAdd := by
  refine dnN M.f__most_of_sum (fun F => ?_) (fun _ _ _ _ _ _ us hl => match us, hl with | [_, _], _ => rfl)
  refine fnG_body F sc__most_of_sum (fun vs H Q E h => ?_) (fun cdv A outer s H vs Q E hr h => ?_)
  · obtain ⟨a, b, rfl, _⟩ := h
    rfl
  · obtain ⟨a, b, rfl, q⟩ := h
    refine ⟨_, (pss_cons (ps_if (PW.pt (pw_or (pt_cmpR op_isN (pv 0) pe_non (nomark _)) (pw_or1 (pt_cmpR op_isN (pv 1) pe_non (nomark _))))) (pss_one (ps_ret pe_non)) pss_nil) (pss_one (ps_ret (pe_op op_add (pv 0) (pv 1))))), ?_⟩
    refine st_eq (σ := [some _, some _]) rfl ?_
    cases a with
    | none =>
      walk_at "rd"
      exact q
    | some a =>
      cases b with
      | none =>
        walk_at "rd"
        exact q
      | some b =>
        walk_at "rd"
        exact q
theorem c__most_of_product : Dn P w K mg base "_most_of_product" 1 ["one", "other"] [] spOMul := by
  refine dnN M.f__most_of_product (fun F => ?_) (fun _ _ _ _ _ _ us hl => match us, hl with | [_, _], _ => rfl)
  refine fnG_body F sc__most_of_product (fun vs H Q E h => ?_) (fun cdv A outer s H vs Q E hr h => ?_)
  · obtain ⟨a, b, rfl, _⟩ := h
    rfl
  · obtain ⟨a, b, rfl, sm, q⟩ := h
    refine ⟨_, (pss_cons (ps_if (PW.pt (pw_or (pt_cmpR op_eq (pv 0) pe_int (nomark _)) (pw_or1 (pt_cmpR op_eq (pv 1) pe_int (nomark _))))) (pss_one (ps_ret pe_int)) pss_nil) (pss_cons (ps_if (PW.pt (pw_or (pt_cmpR op_isN (pv 0) pe_non (nomark _)) (pw_or1 (pt_cmpR op_isN (pv 1) pe_non (nomark _))))) (pss_one (ps_ret pe_non)) pss_nil) (pss_one (ps_ret (pe_op op_mulW (pv 0) (pv 1)))))), ?_⟩
    refine st_eq (σ := [some _, some _]) rfl ?_
    cases a with
    | none =>
      cases b with
      | none =>
        walk_at "rd"
        refine s_eqNI ⟨_, rfl, ?_⟩
        walk_at "rd"
        refine s_eqNI ⟨_, rfl, ?_⟩
        walk_at "rd"
        exact q
      | some b =>
        walk_at "rd"
        refine s_eqNI ⟨_, rfl, ?_⟩
        walk_at "rd"
        refine ite_d (fun hb => ?_) (fun hb => ?_)
        · walk_at "rd"
          subst hb
          exact q
        · walk_at "rd"
          have e : omul none (some b) = none := by
            unfold omul
            rw [if_neg (by simp [hb])]
          rw [e] at q
          exact q
    | some a =>
      cases b with
      | none =>
        walk_at "rd"
        refine ite_d (fun ha => ?_) (fun ha => ?_)
        · walk_at "rd"
          subst ha
          exact q
        · walk_at "rd"
          refine s_eqNI ⟨_, rfl, ?_⟩
          walk_at "rd"
          have e : omul (some a) none = none := by
            unfold omul
            rw [if_neg (by simp [ha])]
          rw [e] at q
          exact q
      | some b =>
        obtain ⟨sa, sb⟩ := sm a b rfl rfl
        rw [omul_some] at q
        walk_at "rd"
        refine ite_d (fun ha => ?_) (fun ha => ?_)
        · walk_at "rd"
          subst ha
          rw [Int.zero_mul] at q
          exact q
        · walk_at "rd"
          refine ite_d (fun hb => ?_) (fun hb => ?_)
          · walk_at "rd"
            subst hb
            rw [Int.mul_zero] at q
            exact q
          · walk_at "rd"
            exact q
end
end My
end
section
open My L2 PySem
open My L2 PySem
local macro_rules | `(tactic| walk_at "as") => `(tactic| with_reducible assumption)
local macro_rules | `(tactic| walk_at "hp") => `(tactic| first
  | walk_at "as" | exact upd_same
  | (rw [upd_ne (by walk_at "ne")]; walk_at "hp")
  | (refine But.get (by walk_at "as") ?hp1 ?hp2; (case hp1 => walk_at "hp"); (case hp2 => walk_at "ne"))
  | (refine My.Same.get (by walk_at "as") ?hp1; (case hp1 => walk_at "hp")))
local macro_rules | `(tactic| walk_at "ne") => `(tactic| first
  | walk_at "as" | exact Ne.symm (by walk_at "as")
  | (refine' ne_of_none ?ne1 ?ne2; (case ne2 => walk_at "as"); (case ne1 => walk_at "hp"))
  | (refine' Ne.symm (ne_of_none ?ne1 ?ne2); (case ne2 => walk_at "as"); (case ne1 => walk_at "hp"))
  | exact ne_of (by walk_at "hp") (by walk_at "hp") (by intro z; cases z))
local macro_rules | `(tactic| walk_at "sd") => `(tactic| first
  | walk_at "as" | omega | decide | exact ⟨by omega, by omega⟩ | exact .inl ⟨by omega, by omega⟩ | exact .inr ⟨by omega, by omega⟩ | exact divp_wide (by walk_at "as") (by walk_at "as") | exact Sm.cmul (by walk_at "as") (by walk_at "as") | exact cmul_small (by omega) (by omega) (by omega) (by omega) | exact ⟨by omega, by decide⟩)
local macro_rules | `(tactic| walk_at "bt") => `(tactic| first
  | walk_at "as" | exact But.refl _ _ | exact Same.but (by walk_at "as")
  | (refine But.trans ?bt1 But.at; (case bt1 => walk_at "bt"))
  | (refine But.trans ?bt1 (But.new (by first | walk_at "as" | walk_at "hp")); (case bt1 => walk_at "bt"))
  | (refine But.trans ?bt1 (by walk_at "as"); (case bt1 => walk_at "bt"))
  | (refine But.trans ?bt1 (Same.but (by walk_at "as")); (case bt1 => walk_at "bt")))
local macro_rules | `(tactic| walk_at "sm") => `(tactic| first
  | walk_at "as" | exact My.Same.rfl' _
  | (refine' My.Same.at_ ?sm1 ?sm2; (case sm1 => walk_at "as"); (case sm2 => walk_at "sm"))
  | (refine' My.Same.tr ?sm1 (My.Same.new ?sm2); (case sm2 => walk_at "as"); (case sm1 => walk_at "sm"))
  | (refine' My.Same.tr ?sm1 ?sm2; (case sm2 => walk_at "as"); (case sm1 => walk_at "sm")))
local macro_rules | `(tactic| walk_at "sz") => `(tactic| first
  | assumption | exact lt_size (by rfl) | exact le_size (by rfl) | (rw [sizeLine_eq]; omega)
  | (rw [sizeLine_eq]; simp only [List.length_append, List.length_map, List.length_cons, List.length_nil]; omega))
local macro_rules | `(tactic| walk_at "few") => `(tactic| (repeat refine few_put ?_); exact few0)
local macro_rules | `(tactic| walk_at "rd1") => `(tactic| first
  | (with_reducible show tVar _ _ _ _); refine s_var rfl ?_
  | with_reducible refine s_c ?_ | with_reducible refine s_op ?_ | with_reducible refine s_un ?_
  | with_reducible refine s_cons ?_ | with_reducible refine s_nil ?_ | with_reducible refine s_cb ?_
  | with_reducible refine s_test ?_ | with_reducible refine s_B ?_ | with_reducible refine s_not ?_ | with_reducible refine s_and ?_ | with_reducible refine s_or ?_
  | with_reducible refine s_if ?_ | with_reducible refine s_notV ?_ | with_reducible refine s_andV ?_ | with_reducible refine s_orV ?_
  | with_reducible refine s_orT ?_ | with_reducible refine s_andT ?_ | with_reducible refine s_chain ?_
  | with_reducible refine s_isi_int ?_ | with_reducible refine s_isi_int_bool ?_ | with_reducible refine s_isi_str ?_
  | with_reducible refine iteT ?_ | with_reducible refine iteF ?_ | with_reducible refine iteNT ?_ | with_reducible refine iteNF ?_
  | with_reducible refine s_isN ?_ | with_reducible refine s_notN ?_
  | ((with_reducible refine' s_2setE ?g1 ?_); (case g1 => first | (dsimp only [List.set, L2.wipe, List.map, List.foldl]; done) | (dsimp only [List.set, L2.wipe, List.map, List.foldl]; rfl)))
  | with_reducible refine s_seq ?_ | with_reducible refine s_ifS ?_ | with_reducible refine s_asg ?_ | with_reducible refine s_ret ?_ | with_reducible refine s_drop ?_ | with_reducible refine s_next ?_
  | ((with_reducible refine' s_gnameE ?g1 ?_); (case g1 => first | (dsimp only [List.set, L2.wipe, List.map, List.foldl]; done) | (dsimp only [List.set, L2.wipe, List.map, List.foldl]; rfl)))
  | with_reducible refine s_gsub ?_ | with_reducible refine s_gcons ?_ | with_reducible refine s_gnil ?_
  | (with_reducible show gTup _ _ _ _ _ _ _); refine s_gtup (by walk_at "hp") rfl ?_
  | with_reducible refine s_eqI ?_ | with_reducible refine s_neI ?_ | with_reducible refine s_eqS ?_ | with_reducible refine s_neB ?_ | with_reducible refine s_eqB ?_ | with_reducible refine s_neSr ?_ | with_reducible refine s_neS ?_
  | with_reducible refine s_I0 ?_
  | (with_reducible show rI _ _ _ _ _ _); refine s_I (by walk_at "sd") ?_
  | (with_reducible show rIxL _ _ _ _ _); refine s_ixL (by walk_at "hp") rfl ?_
  | (with_reducible show rIxT _ _ _ _ _); refine s_ixT (by walk_at "hp") rfl ?_
  | (with_reducible show rSetL _ _ _ _ _); refine s_setL (by walk_at "hp") rfl ?_
  | with_reducible refine s_prop ?_
  | (with_reducible show _ ≤ sizeLine ∧ _); refine ⟨le_size (by rfl), ?_⟩
  | with_reducible refine ite_NN ?_ | with_reducible refine ite_IN ?_ | with_reducible refine ite_nNN ?_ | with_reducible refine ite_nIN ?_ | with_reducible refine ite_RN ?_ | with_reducible refine ite_nRN ?_
  | with_reducible refine s_sfld ?_
  | ((with_reducible refine' ⟨_, _, _, _, rfl, ?fp1, ?fp2, ?fp3, ?fp4, ?_⟩); (case fp1 => walk_at "hp"); (case fp2 => assumption); (case fp3 => assumption); (case fp4 => walk_at "few"))
  | with_reducible refine s_fldE ?_
  | ((with_reducible refine' ⟨_, _, _, _, _, rfl, ?fp1, ?fp2, ?fp3, ?fp4, ?_⟩); (case fp1 => walk_at "hp"); (case fp2 => assumption); (case fp3 => assumption); (case fp4 => rfl))
  | with_reducible refine s_bm ?_ | with_reducible refine s_bm0 ?_
  | ((with_reducible refine' s_tyL ?ty1 ?_); (case ty1 => walk_at "hp"))
  | ((with_reducible refine' s_append ?ap1 ?ap2 ?_); (case ap1 => walk_at "hp"); (case ap2 => walk_at "sz"))
  | ((with_reducible refine' s_extend ?ap1 ?ap2 ?ap3 ?_); (case ap1 => walk_at "hp"); (case ap2 => walk_at "hp"); (case ap3 => walk_at "sz"))
  | with_reducible refine s_for (fun _ _ => ?_) | with_reducible refine s_lc ?_ | with_reducible refine s_iList ?_ | with_reducible refine s_iTup ?_ | with_reducible refine s_iRng1 ?_ | with_reducible refine s_iRng2 ?_
  | with_reducible refine s_yes ?_ | with_reducible refine s_par ?_
  | with_reducible refine s_make ?_ | with_reducible refine s_meth ?_
  | with_reducible refine s_tup ?_ | with_reducible refine s_lst ?_ | with_reducible refine s_call ?_
  | with_reducible refine ⟨rfl, ?_⟩
  | with_reducible refine ⟨_, rfl, ?_⟩
  | ((with_reducible refine' ⟨_, _, rfl, ?sd1, ?_⟩); (case sd1 => walk_at "sd"))
  | with_reducible refine ⟨_, _, rfl, ?_⟩
  | with_reducible refine .inl ⟨_, rfl, ?_⟩
  | dsimp only [List.set]
  | walk_at "rdx"
  | (refine fun _ _ => ?_))
local macro_rules | `(tactic| walk_at "rd") => `(tactic| repeat (first
  | (with_reducible show tVar _ _ _ _); refine s_var rfl ?_
  | with_reducible refine s_c ?_ | with_reducible refine s_op ?_ | with_reducible refine s_un ?_
  | with_reducible refine s_cons ?_ | with_reducible refine s_nil ?_ | with_reducible refine s_cb ?_
  | with_reducible refine s_test ?_ | with_reducible refine s_B ?_ | with_reducible refine s_not ?_ | with_reducible refine s_and ?_ | with_reducible refine s_or ?_
  | with_reducible refine s_if ?_ | with_reducible refine s_notV ?_ | with_reducible refine s_andV ?_ | with_reducible refine s_orV ?_
  | with_reducible refine s_orT ?_ | with_reducible refine s_andT ?_ | with_reducible refine s_chain ?_
  | with_reducible refine s_isi_int ?_ | with_reducible refine s_isi_int_bool ?_ | with_reducible refine s_isi_str ?_
  | with_reducible refine iteT ?_ | with_reducible refine iteF ?_ | with_reducible refine iteNT ?_ | with_reducible refine iteNF ?_
  | with_reducible refine s_isN ?_ | with_reducible refine s_notN ?_
  | ((with_reducible refine' s_2setE ?g1 ?_); (case g1 => first | (dsimp only [List.set, L2.wipe, List.map, List.foldl]; done) | (dsimp only [List.set, L2.wipe, List.map, List.foldl]; rfl)))
  | with_reducible refine s_seq ?_ | with_reducible refine s_ifS ?_ | with_reducible refine s_asg ?_ | with_reducible refine s_ret ?_ | with_reducible refine s_drop ?_ | with_reducible refine s_next ?_
  | ((with_reducible refine' s_gnameE ?g1 ?_); (case g1 => first | (dsimp only [List.set, L2.wipe, List.map, List.foldl]; done) | (dsimp only [List.set, L2.wipe, List.map, List.foldl]; rfl)))
  | with_reducible refine s_gsub ?_ | with_reducible refine s_gcons ?_ | with_reducible refine s_gnil ?_
  | (with_reducible show gTup _ _ _ _ _ _ _); refine s_gtup (by walk_at "hp") rfl ?_
  | with_reducible refine s_eqI ?_ | with_reducible refine s_neI ?_ | with_reducible refine s_eqS ?_ | with_reducible refine s_neB ?_ | with_reducible refine s_eqB ?_ | with_reducible refine s_neSr ?_ | with_reducible refine s_neS ?_
  | with_reducible refine s_I0 ?_
  | (with_reducible show rI _ _ _ _ _ _); refine s_I (by walk_at "sd") ?_
  | (with_reducible show rIxL _ _ _ _ _); refine s_ixL (by walk_at "hp") rfl ?_
  | (with_reducible show rIxT _ _ _ _ _); refine s_ixT (by walk_at "hp") rfl ?_
  | (with_reducible show rSetL _ _ _ _ _); refine s_setL (by walk_at "hp") rfl ?_
  | with_reducible refine s_prop ?_
  | (with_reducible show _ ≤ sizeLine ∧ _); refine ⟨le_size (by rfl), ?_⟩
  | with_reducible refine ite_NN ?_ | with_reducible refine ite_IN ?_ | with_reducible refine ite_nNN ?_ | with_reducible refine ite_nIN ?_ | with_reducible refine ite_RN ?_ | with_reducible refine ite_nRN ?_
  | with_reducible refine s_sfld ?_
  | ((with_reducible refine' ⟨_, _, _, _, rfl, ?fp1, ?fp2, ?fp3, ?fp4, ?_⟩); (case fp1 => walk_at "hp"); (case fp2 => assumption); (case fp3 => assumption); (case fp4 => walk_at "few"))
  | with_reducible refine s_fldE ?_
  | ((with_reducible refine' ⟨_, _, _, _, _, rfl, ?fp1, ?fp2, ?fp3, ?fp4, ?_⟩); (case fp1 => walk_at "hp"); (case fp2 => assumption); (case fp3 => assumption); (case fp4 => rfl))
  | with_reducible refine s_bm ?_ | with_reducible refine s_bm0 ?_
  | ((with_reducible refine' s_tyL ?ty1 ?_); (case ty1 => walk_at "hp"))
  | ((with_reducible refine' s_append ?ap1 ?ap2 ?_); (case ap1 => walk_at "hp"); (case ap2 => walk_at "sz"))
  | ((with_reducible refine' s_extend ?ap1 ?ap2 ?ap3 ?_); (case ap1 => walk_at "hp"); (case ap2 => walk_at "hp"); (case ap3 => walk_at "sz"))
  | with_reducible refine s_for (fun _ _ => ?_) | with_reducible refine s_lc ?_ | with_reducible refine s_iList ?_ | with_reducible refine s_iTup ?_ | with_reducible refine s_iRng1 ?_ | with_reducible refine s_iRng2 ?_
  | with_reducible refine s_yes ?_ | with_reducible refine s_par ?_
  | with_reducible refine s_make ?_ | with_reducible refine s_meth ?_
  | with_reducible refine s_tup ?_ | with_reducible refine s_lst ?_ | with_reducible refine s_call ?_
  | with_reducible refine ⟨rfl, ?_⟩
  | with_reducible refine ⟨_, rfl, ?_⟩
  | ((with_reducible refine' ⟨_, _, rfl, ?sd1, ?_⟩); (case sd1 => walk_at "sd"))
  | with_reducible refine ⟨_, _, rfl, ?_⟩
  | with_reducible refine .inl ⟨_, rfl, ?_⟩
  | dsimp only [List.set]
  | walk_at "rdx"
  | (refine fun _ _ => ?_)))

namespace My
open PySem L2
section
variable {P : Program} {w : World} {K : PySem.W.Frag} {mg : Str → Option Value} {base : Heap} {C_Many C_Ratio C_EachError C_InvalidMany L__law_odd_right : Addr} (M : Md K mg C_Many C_Ratio C_EachError C_InvalidMany L__law_odd_right)
include M
local macro_rules | `(tactic| walk_at "rdx") => `(tactic| first | with_reducible refine s_ostG ?_ | with_reducible refine s_raE ?_ | with_reducible refine s_callX ?_ | with_reducible refine s_opX ?_ | with_reducible refine s_reflX ?_)
omit M
/-- y is no Many -/
def spJoin (K : PySem.W.Frag) (L : List Addr) (C CM : Addr) (f : Int → Int → Int) (g : Option Int → Option Int → Option Int) (P : Int → Option Int → Int → Option Int → Prop) (W : V → Prop) : Sp := fun vs H Q E => ∃ (x : Addr) (y : V) (lo : Int) (hi : Option Int), vs = [.ref x, y] ∧ ManyAt C H x lo hi ∧ 0 ≤ lo ∧ (∀ h, hi = some h → lo ≤ h) ∧
  ((∃ (b : Addr) (lo2 : Int) (hi2 : Option Int), y = .ref b ∧ ManyAt C H b lo2 hi2 ∧ 0 ≤ lo2 ∧ (∀ h, hi2 = some h → lo2 ≤ h) ∧ P lo hi lo2 hi2 ∧ ∀ z H', L2.Same H H' → ManyAt C H' z (f lo lo2) (g hi hi2) → Q (.ref z) H') ∨
   ∃ t, AnyV K L H y t ∧ t ≠ .ref C ∧ W y ∧ ∀ dd H', L2.Same H H' → H' dd = some (.xd [("value", y)]) → E (.ref CM) (some dd) H')
/-- .. or a count is taken as the Many from it to it -/
def spMul (K : PySem.W.Frag) (L : List Addr) (C CM : Addr) : Sp := fun vs H Q E => spJoin K L C CM (· * ·) omul (fun lo hi lo2 hi2 => Sm 800 lo ∧ Sm 800 lo2 ∧ (∀ h, hi = some h → Sm 800 h) ∧ ∀ h, hi2 = some h → Sm 800 h) (fun y => isCnt y = false) vs H Q E ∨
  ∃ (x : Addr) (n lo : Int) (hi : Option Int), vs = [.ref x, .int n] ∧ ManyAt C H x lo hi ∧ 0 ≤ lo ∧ (∀ h, hi = some h → lo ≤ h) ∧ 0 ≤ n ∧ Sm 800 lo ∧ Sm 800 n ∧ (∀ h, hi = some h → Sm 800 h) ∧ ∀ z H', L2.Same H H' → ManyAt C H' z (lo * n) (omul hi (some n)) → Q (.ref z) H'
theorem subT_own {t : Value} {C : Addr} (h : t ≠ .ref C) : subT t (.ref C) = false := by
  unfold subT
  rw [show (t == Value.ref C) = false from Bool.eq_false_iff.mpr fun z => h (beq_iff_eq.mp z)]
  rw [show (Value.ref C == Value.type "int") = false from Bool.eq_false_iff.mpr fun z => by cases beq_iff_eq.mp z]
  rw [Bool.and_false]
  rfl
theorem oadd_le {a b : Option Int} {x y : Int} (ha : ∀ h, a = some h → x ≤ h) (hb : ∀ h, b = some h → y ≤ h) : ∀ h, oadd a b = some h → x + y ≤ h := by
  intro h e
  cases a with
  | none => cases e
  | some a =>
    cases b with
    | none => cases e
    | some b =>
      have e2 : a + b = h := Option.some.inj e
      have := ha a rfl
      have := hb b rfl
      omega
theorem omul_le {a b : Option Int} {x y : Int} (x0 : 0 ≤ x) (y0 : 0 ≤ y) (ha : ∀ h, a = some h → x ≤ h) (hb : ∀ h, b = some h → y ≤ h) : ∀ h, omul a b = some h → x * y ≤ h := by
  intro h e
  have zero : a = some 0 → x * y = 0 := fun z => by
    have := ha 0 z
    have : x = 0 := by omega
    rw [this, Int.zero_mul]
  have zero2 : b = some 0 → x * y = 0 := fun z => by
    have := hb 0 z
    have : y = 0 := by omega
    rw [this, Int.mul_zero]
  unfold omul at e
  by_cases c : a = some 0 ∨ b = some 0
  · rw [if_pos c] at e
    have e2 := Option.some.inj e
    rcases c with z | z
    · rw [zero z]
      omega
    · rw [zero2 z]
      omega
  · rw [if_neg c] at e
    cases a with
    | none => cases e
    | some a =>
      cases b with
      | none => cases e
      | some b =>
        have e2 : a * b = h := Option.some.inj e
        rw [← e2]
        exact Int.mul_le_mul (ha a rfl) (hb b rfl) y0 (Int.le_trans x0 (ha a rfl))
def spEqM (C : Addr) : Sp := fun vs H Q _ => ∃ (x y : Addr) (lo : Int) (hi : Option Int), vs = [.ref x, .ref y] ∧ ManyAt C H x lo hi ∧ ManyAt C H y lo hi ∧ Q (.bl true) H
def ReqM (C : Addr) (a b : Addr) (H : Hp) : Prop := ∃ (lo : Int) (hi : Option Int), ManyAt C H a lo hi ∧ ManyAt C H b lo hi
def mtx (lo : Int) : Option Int → Str
  | none => Str.empty ++ "Many(" ++ numT lo ++ ")"
  | some h => Str.empty ++ "Many(" ++ numT lo ++ ", " ++ numT h ++ ")"
def rtx (p q : Int) : Str := Str.empty ++ "Ratio(" ++ numT p ++ ", " ++ numT q ++ ")"
theorem lg1900 {i : Int} (h : Sm 1900 i) : i.natAbs.log2 < 1920 := Nat.lt_of_lt_of_le h.log (by decide)
theorem w_len {x : Str} {n : Nat} (h : x.length = n := by decide +kernel) : x.length = n := h
def spMRep (C : Addr) : Sp := fun vs H Q _ => ∃ (x : Addr) (lo : Int) (hi : Option Int), vs = [.ref x] ∧ ManyAt C H x lo hi ∧ 0 ≤ lo ∧ (∀ h, hi = some h → 0 ≤ h) ∧ Sm 1900 lo ∧ (∀ h, hi = some h → Sm 1900 h) ∧ ∀ H', L2.Same H H' → Q (.str (mtx lo hi)) H'
def RatioAt (C : Addr) (H : Hp) (x : Addr) (p q : Int) : Prop := ∃ dx : Addr, H x = some (.ins C dx [("_top", .int p), ("_bottom", .int q)])
def spRInit (C : Addr) : Sp := fun vs H Q _ => ∃ (x dx : Addr) (p q : Int), vs = [.ref x, .int p, .int q] ∧ H x = some (.ins C dx []) ∧ 0 ≤ p ∧ 1 ≤ q ∧ Nat.gcd p.natAbs q.natAbs = 1 ∧ Sm 900 p ∧ Sm 900 q ∧ ∀ H', But x H H' → RatioAt C H' x p q → Q .non H'
def spRRep (C : Addr) : Sp := fun vs H Q _ => ∃ (x : Addr) (p q : Int), vs = [.ref x] ∧ RatioAt C H x p q ∧ 0 ≤ p ∧ 0 ≤ q ∧ Sm 1900 p ∧ Sm 1900 q ∧ ∀ H', L2.Same H H' → Q (.str (rtx p q)) H'
include M
theorem ok_init {f : Addr} {fd : FuncData} (F : FunD K "__init__" "Many.__init__" (defArgs st_Many___init__) (defBody st_Many___init__) (defScope st_Many___init__) [.non] [] f fd) : FnG P w K mg base CX0 3 f fd ["self", "least", "most"] (spInit C_Many) := by
  have c_is_count := c_is_count (P := P) (w := w) (base := base) M
  have c__is_up_to := c__is_up_to (P := P) (w := w) (base := base) M
  refine fnG_body F sc_Many___init__ (fun vs H Q E h => ?_) (fun cdv A outer s H vs Q E hr h => ?_)
  · obtain ⟨x, dx, lo, hi, rfl, _⟩ := h
    rfl
  · obtain ⟨x, dx, lo, hi, rfl, hx, h0, h1, q⟩ := h
    refine ⟨_, (pss_cons (ps_if (pt_not (pt_val (pe_callD c_is_count (hr.mono (by decide)) rfl (pa_cons (pv 1) pa_nil)))) (pss_one ps_never) pss_nil) (pss_cons (ps_if (PW.pt (pw_and (pt_cmpR op_notN (pv 2) pe_non (nomark _)) (pw_and1 (pt_not (pt_val (pe_callD c_is_count (hr.mono (by decide)) rfl (pa_cons (pv 2) pa_nil))))))) (pss_one ps_never) pss_nil) (pss_cons (ps_if (pt_not (pt_val (pe_callD c__is_up_to (hr.mono (by decide)) rfl (pa_cons (pv 1) (pa_cons (pv 2) pa_nil))))) (pss_one ps_never) pss_nil) (pss_cons (ps_fld (pv 0) (pv 1) rfl) (pss_cons (ps_fld (pv 0) (pv 2) rfl) (pss_one (ps_fld (pv 0) (pe_tup (pa_cons (pv 1) (pa_cons (pe_cmpR op_isN (pv 2) pe_non (nomark _)) (pa_cons (pe_orT (pv 2) (pe_one pe_int)) pa_nil)))) rfl))))))), ?_⟩
    refine st_eq (σ := [some _, some _, some _]) rfl ?_
    walk_at "rd"
    refine ⟨_, _, rfl, AnyV.int lo, ?_⟩
    rw [show isCnt (V.int lo) = true from decide_eq_true h0]
    have kM := M.k_Many
    have n1 := M.n_Many__least
    have n2 := M.n_Many__most
    have n3 := M.n_Many__key
    cases hi with
    | none =>
      walk_at "rd"
      refine ⟨lo, none, rfl, h1, ?_⟩
      walk_at "rd"
      refine ⟨false, rfl, ?_⟩
      walk_at "rd"
      exact q _ (by walk_at "bt") ⟨dx, _, upd_same.trans (many_fields _ _ _ _ _), by walk_at "hp"⟩
    | some m =>
      have h2 := h1 m rfl
      have h3 : 0 ≤ m := by omega
      walk_at "rd"
      refine ⟨_, _, rfl, AnyV.int m, ?_⟩
      rw [show isCnt (V.int m) = true from decide_eq_true h3]
      walk_at "rd"
      refine ⟨lo, some m, rfl, h1, ?_⟩
      walk_at "rd"
      refine ⟨_, rfl, ?_⟩
      refine ite_b (fun e => ?_) (fun e => ?_)
      · walk_at "rd"
        exact q _ (by walk_at "bt") ⟨dx, _, upd_same.trans (many_fields _ _ _ _ _), by walk_at "hp"⟩
      · have : m = 0 := by simpa using e
        subst this
        walk_at "rd"
        exact q _ (by walk_at "bt") ⟨dx, _, upd_same.trans (many_fields _ _ _ _ _), by walk_at "hp"⟩
theorem c_Many_2 : Mkn P w K mg base "Many" C_Many 3 ["self", "least", "most"] [] (spInit C_Many) := by
  refine mkD (dvs := [.non]) 3 1 M.i_Many M.m_Many (fun F => ok_init M F) (by simp) rfl (fun _ _ _ _ _ _ _ us its h1 h2 => match us, its, h1, h2 with | [_, _, _], [_], _, _ => ⟨_, rfl, rfl⟩)
theorem c_Many_1 : Mkn P w K mg base "Many" C_Many 3 ["self", "least", "most"] [.non] (spInit C_Many) := by
  refine mkD (dvs := [.non]) 2 0 M.i_Many M.m_Many (fun F => ok_init M F) (by simp) rfl (fun _ _ _ _ _ _ _ us its h1 h2 => match us, its, h1, h2 with | [_, _], [_], _, _ => ⟨_, rfl, rfl⟩)
theorem c_Many_least : Prn P w K mg base C_Many "least" 1 ["self"] [] (spLeast C_Many) := by
  refine prN M.p_Many_least M.k_Many (fun F => ?_) (fun _ _ _ _ _ _ us hl => match us, hl with | [_], _ => rfl)
  refine fnG_body F sc_Many_least (fun vs H Q E h => ?_) (fun cdv A outer s H vs Q E hr h => ?_)
  · obtain ⟨x, lo, hi, rfl, _⟩ := h
    rfl
  · obtain ⟨x, lo, hi, rfl, ⟨dx, t, e, _⟩, q⟩ := h
    refine ⟨_, (pss_one (ps_ret (pe_fld (pv 0) rfl))), ?_⟩
    refine st_eq (σ := [some _]) rfl ?_
    have kM := M.k_Many
    have n1 := M.n_Many__least
    walk_at "rd"
    exact q
theorem c_Many_most : Prn P w K mg base C_Many "most" 1 ["self"] [] (spMost C_Many) := by
  refine prN M.p_Many_most M.k_Many (fun F => ?_) (fun _ _ _ _ _ _ us hl => match us, hl with | [_], _ => rfl)
  refine fnG_body F sc_Many_most (fun vs H Q E h => ?_) (fun cdv A outer s H vs Q E hr h => ?_)
  · obtain ⟨x, lo, hi, rfl, _⟩ := h
    rfl
  · obtain ⟨x, lo, hi, rfl, ⟨dx, t, e, _⟩, q⟩ := h
    refine ⟨_, (pss_one (ps_ret (pe_fld (pv 0) rfl))), ?_⟩
    refine st_eq (σ := [some _]) rfl ?_
    have kM := M.k_Many
    have n1 := M.n_Many__most
    walk_at "rd"
    exact q
theorem c_Many___eq__ : Mtn P w K mg base C_Many "__eq__" 1 ["self", "other"] [] (spEqM C_Many) := by
  refine mtN M.e_Many___eq__ M.k_Many (fun F => ?_) (fun _ _ _ _ _ _ us hl => match us, hl with | [_, _], _ => rfl)
  refine fnG_body F sc_Many___eq__ (fun vs H Q E h => ?_) (fun cdv A outer s H vs Q E hr h => ?_)
  · obtain ⟨x, y, lo, hi, rfl, _⟩ := h
    rfl
  · obtain ⟨x, y, lo, hi, rfl, ⟨dx, t, e, et⟩, ⟨dy, u, f, fu⟩, q⟩ := h
    refine ⟨_, (pss_one (ps_ret (pe_and (pe_callB call_isi (by rfl) M.b_isinstance (by decide +kernel) (pa_cons (pv 1) (pa_cons (pe_glob (v := .ref C_Many) rfl M.m_Many rfl) pa_nil))) (pe_one (pe_cmpR (op_eqD hr.units) (pe_fld (pv 0) rfl) (pe_fld (pv 1) rfl) (nomark _)))))), ?_⟩
    refine st_eq (σ := [some _, some _]) rfl ?_
    have kM := M.k_Many
    have n3 := M.n_Many__key
    walk_at "rd"
    refine s_isi_own (M.z_Many f) ?_
    walk_at "rd"
    refine ⟨.tuple [.int lo, .bool (decide (hi = none)), .int (hi.getD 0)], .tuple [.int lo, .bool (decide (hi = none)), .int (hi.getD 0)], .tup (SqT.of et) (.cons (.int _) (.cons (.bl _) (.cons (.int _) .nil))), .tup (SqT.of fu) (.cons (.int _) (.cons (.bl _) (.cons (.int _) .nil))), rfl, rfl, ?_⟩
    rw [show PyData.eqv (.tuple [.int lo, .bool (decide (hi = none)), .int (hi.getD 0)]) (.tuple [.int lo, .bool (decide (hi = none)), .int (hi.getD 0)]) = true from by simp [PyData.eqv, PyData.eqvAll]]
    exact q
/-- for lists of Manys -/
theorem d_Many___eq__ : MtO P w K mg base C_Many "__eq__" 1 ["self", "other"] [] (L2.spEq (ReqM C_Many)) := by
  obtain ⟨f, fd, hm, F⟩ := M.e_Many___eq__
  refine ⟨f, fd, [], M.k_Many, hm, ?_, F.bindsN (fun _ _ _ _ _ _ us hl => match us, hl with | [_, _], _ => rfl), .nil⟩
  refine fnO_body F sc_Many___eq__ (fun vs H Q E h => ?_) (fun cdv A outer s H vs Q E hr h => ?_)
  · obtain ⟨x, y, rfl, _⟩ := h
    rfl
  · obtain ⟨x, y, rfl, ⟨lo, hi, ⟨dx, t, e, et⟩, ⟨dy, u, f, fu⟩⟩, q⟩ := h
    refine ⟨_, (pss_one (ps_ret (pe_and (pe_callB call_isi (by rfl) M.b_isinstance (by decide +kernel) (pa_cons (pv 1) (pa_cons (pe_glob (v := .ref C_Many) rfl M.m_Many rfl) pa_nil))) (pe_one (pe_cmpR (op_eqD hr.units) (pe_fld (pv 0) rfl) (pe_fld (pv 1) rfl) (nomark _)))))), ?_⟩
    refine st_eq (σ := [some _, some _]) rfl ?_
    have kM := M.k_Many
    have n3 := M.n_Many__key
    walk_at "rd"
    refine s_isi_own (M.z_Many f) ?_
    walk_at "rd"
    refine ⟨.tuple [.int lo, .bool (decide (hi = none)), .int (hi.getD 0)], .tuple [.int lo, .bool (decide (hi = none)), .int (hi.getD 0)], .tup (SqT.of et) (.cons (.int _) (.cons (.bl _) (.cons (.int _) .nil))), .tup (SqT.of fu) (.cons (.int _) (.cons (.bl _) (.cons (.int _) .nil))), rfl, rfl, ?_⟩
    rw [show PyData.eqv (.tuple [.int lo, .bool (decide (hi = none)), .int (hi.getD 0)]) (.tuple [.int lo, .bool (decide (hi = none)), .int (hi.getD 0)]) = true from by simp [PyData.eqv, PyData.eqvAll]]
    exact q _ (L2.Same.refl _)
theorem ok_InvalidMany {f : Addr} {fd : FuncData} (F : FunD K "__init__" "InvalidMany.__init__" (defArgs st_InvalidMany___init__) (defBody st_InvalidMany___init__) (defScope st_InvalidMany___init__) [] [] f fd) : FnG P w K mg base CX0 1 f fd ["self", "value"] (spE1 C_InvalidMany "value") := by
  refine fnG_body F sc_InvalidMany___init__ (fun vs H Q E h => ?_) (fun cdv A outer s H vs Q E hr h => ?_)
  · obtain ⟨a, y, rfl, _⟩ := h
    rfl
  · obtain ⟨a, y, rfl, ha, q⟩ := h
    have T : OexG K C_InvalidMany := M.x_InvalidMany.oex (ups _ _ "ValueError") PySem.F.excBase_ValueError PySem.F.store_ValueError
    have n0 := M.n_InvalidMany_value
    refine ⟨_, (pss_one (ps_ostG (pv 0) (pv 1) rfl)), ?_⟩
    refine st_eq (σ := [some _, some _]) rfl ?_
    walk_at "rd"
    refine ⟨a, C_InvalidMany, rfl, T, n0, .inl ⟨ha, fun d nd ne => ?_⟩⟩
    exact q d nd ne
theorem c_InvalidMany : Exn P w K mg base "InvalidMany" C_InvalidMany 1 ["self", "value"] (spE1 C_InvalidMany "value") := by
  obtain ⟨f, fd, iC, fC, F⟩ := M.i_InvalidMany
  exact ⟨f, fd, M.x_InvalidMany.oex (ups _ _ "ValueError") PySem.F.excBase_ValueError PySem.F.store_ValueError, iC, fC, ok_InvalidMany M F, M.m_InvalidMany, F.bindsN fun _ _ _ _ _ _ us hl => match us, hl with | [_, _], _ => rfl⟩
theorem x_Many___add__ : MtX P w K mg base C_Many "__add__" 5 ["self", "other"] [] (spJoin K [C_Many, C_Ratio] C_Many C_InvalidMany (· + ·) oadd (fun _ _ _ _ => True) (fun _ => True)) := by
  obtain ⟨f, fd, hm, F⟩ := M.e_Many___add__
  refine ⟨f, fd, [], M.k_Many, hm, ?_, F.bindsN (fun _ _ _ _ _ _ us hl => match us, hl with | [_, _], _ => rfl), .nil⟩
  have c_InvalidMany := c_InvalidMany (P := P) (w := w) (base := base) M
  have c_Many_2 := c_Many_2 (P := P) (w := w) (base := base) M
  have c__most_of_sum := c__most_of_sum (P := P) (w := w) (base := base) M
  refine fnG_body F sc_Many___add__ (fun vs H Q E h => ?_) (fun cdv A outer s H vs Q E hr h => ?_)
  · obtain ⟨x, y, lo, hi, rfl, _⟩ := h
    rfl
  · obtain ⟨x, y, lo, hi, rfl, ⟨dx, t, e, et⟩, z0, z1, h⟩ := h
    refine ⟨_, (pss_cons (ps_if (pt_not (pt_val (pe_callB call_isi (by rfl) M.b_isinstance (by decide +kernel) (pa_cons (pv 1) (pa_cons (pe_glob (v := .ref C_Many) rfl M.m_Many rfl) pa_nil))))) (pss_one (ps_raise rfl (takes_of rfl rfl rfl rfl) (pmk_E (ExF.raises M.x_InvalidMany (ups _ _ "ValueError")) c_InvalidMany (hr.mono (by decide)) rfl (pa_cons (pv 1) pa_nil)))) pss_nil) (pss_one (ps_ret (pe_makeD c_Many_2 (hr.mono (by decide)) rfl (pa_cons (pe_op op_add (pe_fld (pv 0) rfl) (pe_fld (pv 1) rfl)) (pa_cons (pe_callD c__most_of_sum (hr.mono (by decide)) rfl (pa_cons (pe_fld (pv 0) rfl) (pa_cons (pe_fld (pv 1) rfl) pa_nil))) pa_nil)))))), ?_⟩
    refine st_eq (σ := [some _, some _]) rfl ?_
    have kM := M.k_Many
    have n1 := M.n_Many__least
    have n2 := M.n_Many__most
    walk_at "rd"
    rcases h with ⟨b, lo2, hi2, rfl, ⟨dy, u, f, fu⟩, y0, y1, _, q⟩ | ⟨ty, a, nt, nc, q⟩
    · refine s_isi_own (M.z_Many f) ?_
      walk_at "rd"
      refine ⟨hi, hi2, rfl, ?_⟩
      walk_at "rd"
      rename_i X DX nX nDX
      refine fun neX => ⟨X, DX, lo + lo2, oadd hi hi2, rfl, upd_same, Int.add_nonneg z0 y0, oadd_le z1 y1, fun H' b m => ⟨rfl, ?_⟩⟩
      exact q X H' (b.same (My.Same.at_ nX (My.Same.new nDX)) nX) m
    · refine s_isiA M.kk a (.own C_Many) (o_mem (by simp)) ?_
      rw [subT_own nt]
      walk_at "rd"
      exact raise1 fun d H' s1 _ hd => q d H' s1 hd
/-- for a Many, or what is no count -/
theorem x_Many___mul__0 : MtX P w K mg base C_Many "__mul__" 5 ["self", "other"] [] (spJoin K [C_Many, C_Ratio] C_Many C_InvalidMany (· * ·) omul (fun lo hi lo2 hi2 => Sm 800 lo ∧ Sm 800 lo2 ∧ (∀ h, hi = some h → Sm 800 h) ∧ ∀ h, hi2 = some h → Sm 800 h) (fun y => isCnt y = false)) := by
  obtain ⟨f, fd, hm, F⟩ := M.e_Many___mul__
  have x_Many___mul__ : MtX P w K mg base C_Many "__mul__" 1 ["self", "other"] [] (fun _ _ _ _ => False) := ⟨f, fd, [], M.k_Many, hm, ⟨fun _ _ _ _ z => z.elim, fun _ _ _ _ _ _ _ _ _ _ _ _ _ z => z.elim⟩, F.bindsN (fun _ _ _ _ _ _ us hl => match us, hl with | [_, _], _ => rfl), .nil⟩
  refine ⟨f, fd, [], M.k_Many, hm, ?_, F.bindsN (fun _ _ _ _ _ _ us hl => match us, hl with | [_, _], _ => rfl), .nil⟩
  have c_InvalidMany := c_InvalidMany (P := P) (w := w) (base := base) M
  have c_Many_2 := c_Many_2 (P := P) (w := w) (base := base) M
  have c_is_count := c_is_count (P := P) (w := w) (base := base) M
  have c__most_of_product := c__most_of_product (P := P) (w := w) (base := base) M
  refine fnG_body F sc_Many___mul__ (fun vs H Q E h => ?_) (fun cdv A outer s H vs Q E hr h => ?_)
  · obtain ⟨x, y, lo, hi, rfl, _⟩ := h
    rfl
  · obtain ⟨x, y, lo, hi, rfl, ⟨dx, t, e, et⟩, z0, z1, h⟩ := h
    refine ⟨_, (pss_cons (ps_if (pt_val (pe_callD c_is_count (hr.mono (by decide)) rfl (pa_cons (pv 1) pa_nil))) (pss_one (ps_ret (pe_opX (K := K) (L := [C_Many, C_Ratio]) rfl x_Many___mul__ (takes_of rfl rfl rfl rfl) rfl rfl M.ops_Many_mul (hr.mono (by decide)) (pv 0) (pe_makeD c_Many_2 (hr.mono (by decide)) rfl (pa_cons (pv 1) (pa_cons (pv 1) pa_nil)))))) pss_nil) (pss_cons (ps_if (pt_not (pt_val (pe_callB call_isi (by rfl) M.b_isinstance (by decide +kernel) (pa_cons (pv 1) (pa_cons (pe_glob (v := .ref C_Many) rfl M.m_Many rfl) pa_nil))))) (pss_one (ps_raise rfl (takes_of rfl rfl rfl rfl) (pmk_E (ExF.raises M.x_InvalidMany (ups _ _ "ValueError")) c_InvalidMany (hr.mono (by decide)) rfl (pa_cons (pv 1) pa_nil)))) pss_nil) (pss_one (ps_ret (pe_makeD c_Many_2 (hr.mono (by decide)) rfl (pa_cons (pe_op op_mulW (pe_fld (pv 0) rfl) (pe_fld (pv 1) rfl)) (pa_cons (pe_callD c__most_of_product (hr.mono (by decide)) rfl (pa_cons (pe_fld (pv 0) rfl) (pa_cons (pe_fld (pv 1) rfl) pa_nil))) pa_nil))))))), ?_⟩
    refine st_eq (σ := [some _, some _]) rfl ?_
    have kM := M.k_Many
    have n1 := M.n_Many__least
    have n2 := M.n_Many__most
    walk_at "rd"
    rcases h with ⟨b, lo2, hi2, rfl, ⟨dy, u, f, fu⟩, y0, y1, ⟨s1, s2, s3, s4⟩, q⟩ | ⟨ty, a, nt, nc, q⟩
    · refine ⟨_, _, rfl, AnyV.own M.z_Many (by simp) f, ?_⟩
      rw [show isCnt (V.ref b) = false from rfl]
      walk_at "rd"
      refine s_isi_own (M.z_Many f) ?_
      walk_at "rd"
      refine ⟨hi, hi2, rfl, fun x y hx hy => ⟨s3 x hx, s4 y hy⟩, ?_⟩
      walk_at "rd"
      rename_i X DX nX nDX
      refine fun neX => ⟨X, DX, lo * lo2, omul hi hi2, rfl, upd_same, Int.mul_nonneg z0 y0, omul_le z0 y0 z1 y1, fun H' b m => ⟨rfl, ?_⟩⟩
      exact q X H' (b.same (My.Same.at_ nX (My.Same.new nDX)) nX) m
    · refine ⟨_, _, rfl, a, ?_⟩
      rw [show isCnt _ = false from nc]
      walk_at "rd"
      refine s_isiA M.kk a (.own C_Many) (o_mem (by simp)) ?_
      rw [subT_own nt]
      walk_at "rd"
      exact raise1 fun d H' s1 _ hd => q d H' s1 hd
theorem x_Many___mul__ : MtX P w K mg base C_Many "__mul__" 7 ["self", "other"] [] (spMul K [C_Many, C_Ratio] C_Many C_InvalidMany) := by
  have x_Many___mul__ := x_Many___mul__0 (P := P) (w := w) (base := base) M
  obtain ⟨f, fd, hm, F⟩ := M.e_Many___mul__
  refine ⟨f, fd, [], M.k_Many, hm, ?_, F.bindsN (fun _ _ _ _ _ _ us hl => match us, hl with | [_, _], _ => rfl), .nil⟩
  have c_InvalidMany := c_InvalidMany (P := P) (w := w) (base := base) M
  have c_Many_2 := c_Many_2 (P := P) (w := w) (base := base) M
  have c_is_count := c_is_count (P := P) (w := w) (base := base) M
  have c__most_of_product := c__most_of_product (P := P) (w := w) (base := base) M
  refine fnG_body F sc_Many___mul__ (fun vs H Q E h => ?_) (fun cdv A outer s H vs Q E hr h => ?_)
  · rcases h with ⟨x, y, lo, hi, rfl, _⟩ | ⟨x, n, lo, hi, rfl, _⟩ <;> rfl
  · have kM := M.k_Many
    have n1 := M.n_Many__least
    have n2 := M.n_Many__most
    rcases h with ⟨x, y, lo, hi, rfl, ⟨dx, t, e, et⟩, z0, z1, h⟩ | ⟨x, n, lo, hi, rfl, mx, z0, z1, n0, s1, s2, s3, q⟩
    · refine ⟨_, (pss_cons (ps_if (pt_val (pe_callD c_is_count (hr.mono (by decide)) rfl (pa_cons (pv 1) pa_nil))) (pss_one (ps_ret (pe_opX (K := K) (L := [C_Many, C_Ratio]) rfl x_Many___mul__ (takes_of rfl rfl rfl rfl) rfl rfl M.ops_Many_mul (hr.mono (by decide)) (pv 0) (pe_makeD c_Many_2 (hr.mono (by decide)) rfl (pa_cons (pv 1) (pa_cons (pv 1) pa_nil)))))) pss_nil) (pss_cons (ps_if (pt_not (pt_val (pe_callB call_isi (by rfl) M.b_isinstance (by decide +kernel) (pa_cons (pv 1) (pa_cons (pe_glob (v := .ref C_Many) rfl M.m_Many rfl) pa_nil))))) (pss_one (ps_raise rfl (takes_of rfl rfl rfl rfl) (pmk_E (ExF.raises M.x_InvalidMany (ups _ _ "ValueError")) c_InvalidMany (hr.mono (by decide)) rfl (pa_cons (pv 1) pa_nil)))) pss_nil) (pss_one (ps_ret (pe_makeD c_Many_2 (hr.mono (by decide)) rfl (pa_cons (pe_op op_mulW (pe_fld (pv 0) rfl) (pe_fld (pv 1) rfl)) (pa_cons (pe_callD c__most_of_product (hr.mono (by decide)) rfl (pa_cons (pe_fld (pv 0) rfl) (pa_cons (pe_fld (pv 1) rfl) pa_nil))) pa_nil))))))), ?_⟩
      walk_at "rd"
      rcases h with ⟨b, lo2, hi2, rfl, ⟨dy, u, f, fu⟩, y0, y1, ⟨s1, s2, s3, s4⟩, q⟩ | ⟨ty, a, nt, nc, q⟩
      · refine ⟨_, _, rfl, AnyV.own M.z_Many (by simp) f, ?_⟩
        rw [show isCnt (V.ref b) = false from rfl]
        walk_at "rd"
        refine s_isi_own (M.z_Many f) ?_
        walk_at "rd"
        refine ⟨hi, hi2, rfl, fun x y hx hy => ⟨s3 x hx, s4 y hy⟩, ?_⟩
        walk_at "rd"
        rename_i X DX nX nDX
        refine fun neX => ⟨X, DX, lo * lo2, omul hi hi2, rfl, upd_same, Int.mul_nonneg z0 y0, omul_le z0 y0 z1 y1, fun H' b m => ⟨rfl, ?_⟩⟩
        exact q X H' (b.same (My.Same.at_ nX (My.Same.new nDX)) nX) m
      · refine ⟨_, _, rfl, a, ?_⟩
        rw [show isCnt _ = false from nc]
        walk_at "rd"
        refine s_isiA M.kk a (.own C_Many) (o_mem (by simp)) ?_
        rw [subT_own nt]
        walk_at "rd"
        exact raise1 fun d H' s1 _ hd => q d H' s1 hd
    · refine ⟨_, (pss_cons (ps_if (pt_val (pe_callD c_is_count (hr.mono (by decide)) rfl (pa_cons (pv 1) pa_nil))) (pss_one (ps_ret (pe_opX (K := K) (L := [C_Many, C_Ratio]) rfl x_Many___mul__ (takes_of rfl rfl rfl rfl) rfl rfl M.ops_Many_mul (hr.mono (by decide)) (pv 0) (pe_makeD c_Many_2 (hr.mono (by decide)) rfl (pa_cons (pv 1) (pa_cons (pv 1) pa_nil)))))) pss_nil) (pss_cons (ps_if (pt_not (pt_val (pe_callB call_isi (by rfl) M.b_isinstance (by decide +kernel) (pa_cons (pv 1) (pa_cons (pe_glob (v := .ref C_Many) rfl M.m_Many rfl) pa_nil))))) (pss_one (ps_raise rfl (takes_of rfl rfl rfl rfl) (pmk_E (ExF.raises M.x_InvalidMany (ups _ _ "ValueError")) c_InvalidMany (hr.mono (by decide)) rfl (pa_cons (pv 1) pa_nil)))) pss_nil) (pss_one (ps_ret (pe_makeD c_Many_2 (hr.mono (by decide)) rfl (pa_cons (pe_op op_mulW (pe_fld (pv 0) rfl) (pe_fld (pv 1) rfl)) (pa_cons (pe_callD c__most_of_product (hr.mono (by decide)) rfl (pa_cons (pe_fld (pv 0) rfl) (pa_cons (pe_fld (pv 1) rfl) pa_nil))) pa_nil))))))), ?_⟩
      walk_at "rd"
      refine ⟨_, _, rfl, AnyV.int n, ?_⟩
      rw [show isCnt (V.int n) = true from decide_eq_true n0]
      walk_at "rd"
      rename_i X DX nX nDX
      refine fun neX => ⟨X, DX, n, some n, rfl, upd_same, n0, (fun g e => by have := Option.some.inj e; omega), fun H' b m => ⟨rfl, ?_⟩⟩
      have s3' := b.same (My.Same.at_ nX (My.Same.new nDX)) nX
      obtain ⟨dx, t, e, et⟩ := id mx
      obtain ⟨dy, u, f, fu⟩ := id m
      refine ⟨x, dx, _, .ref C_Many, rfl, s3' _ _ e, AnyV.own M.z_Many (by simp) f, x, .ref X, lo, hi, rfl, mx.same s3', z0, z1, .inl ⟨X, n, some n, rfl, m, n0, (fun g e => by have := Option.some.inj e; omega), ⟨s1, s2, s3, fun h e => by cases e; exact s2⟩, fun z H2 s4 mz => ?_⟩⟩
      exact q z H2 (s3'.trans s4) mz
theorem x_Many___rmul__ : MtX P w K mg base C_Many "__rmul__" 8 ["self", "other"] [] (fun vs H Q E => ∃ (x : Addr) (y : V) (t : Value), vs = [.ref x, y] ∧ AnyV K [C_Many, C_Ratio] H y t ∧ spMul K [C_Many, C_Ratio] C_Many C_InvalidMany [.ref x, y] H Q E) := by
  have x_Many___mul__ := x_Many___mul__ (P := P) (w := w) (base := base) M
  obtain ⟨f, fd, hm, F⟩ := M.e_Many___rmul__
  refine ⟨f, fd, [], M.k_Many, hm, ?_, F.bindsN (fun _ _ _ _ _ _ us hl => match us, hl with | [_, _], _ => rfl), .nil⟩
  refine fnG_body F sc_Many___rmul__ (fun vs H Q E h => ?_) (fun cdv A outer s H vs Q E hr h => ?_)
  · obtain ⟨x, y, t, rfl, _⟩ := h
    rfl
  · obtain ⟨x, y, t, rfl, ay, h⟩ := h
    have key : ∃ lo hi, ManyAt C_Many H x lo hi := by
      rcases id h with ⟨x2, y2, lo, hi, e, mx, _⟩ | ⟨x2, n, lo, hi, e, mx, _⟩
      · cases e
        exact ⟨lo, hi, mx⟩
      · cases e
        exact ⟨lo, hi, mx⟩
    obtain ⟨lo, hi, dx, t2, e, et⟩ := key
    refine ⟨_, (pss_one (ps_ret (pe_opX (K := K) (L := [C_Many, C_Ratio]) rfl x_Many___mul__ (takes_of rfl rfl rfl rfl) rfl rfl M.ops_Many_mul (hr.mono (by decide)) (pv 0) (pv 1)))), ?_⟩
    refine st_eq (σ := [some _, some _]) rfl ?_
    walk_at "rd"
    exact ⟨x, dx, _, t, rfl, e, ay, h⟩
theorem d_Many___repr__ : MtO P w K mg base C_Many "__repr__" 1 ["self"] [] (spMRep C_Many) := by
  obtain ⟨f, fd, hm, F⟩ := M.e_Many___repr__
  refine ⟨f, fd, [], M.k_Many, hm, ?_, F.bindsN (fun _ _ _ _ _ _ us hl => match us, hl with | [_], _ => rfl), .nil⟩
  refine fnO_body F sc_Many___repr__ (fun vs H Q E h => ?_) (fun cdv A outer s H vs Q E hr h => ?_)
  · obtain ⟨x, lo, hi, rfl, _⟩ := h
    rfl
  · obtain ⟨x, lo, hi, rfl, ⟨dx, t, e, et⟩, z0, z1, s1, s2, q⟩ := h
    have kM := M.k_Many
    have n1 := M.n_Many__least
    have n2 := M.n_Many__most
    have l1 : (Str.ofString (toString lo)).length ≤ 600 := numT_len z0 s1
    have g1 : (Str.ofString "Many(").length = 5 := w_len
    have g2 : (Str.ofString ")").length = 1 := w_len
    have g3 : (Str.ofString ", ").length = 2 := w_len
    have g4 : Str.empty.length = 0 := rfl
    refine ⟨_, (pss_cons (ps_if (pt_cmpR op_isN (pe_fld (pv 0) rfl) pe_non (nomark _)) (pss_one (ps_ret (pe_joined (.cons pe_str (.cons (pe_fmt (pe_fld (pv 0) rfl)) (.cons pe_str .nil)))))) pss_nil) (pss_one (ps_ret (pe_joined (.cons pe_str (.cons (pe_fmt (pe_fld (pv 0) rfl)) (.cons pe_str (.cons (pe_fmt (pe_fld (pv 0) rfl)) (.cons pe_str .nil))))))))), ?_⟩
    refine st_eq (σ := [some _]) rfl ?_
    cases hi with
    | none =>
      have e : H x = some (.ins C_Many dx [("_least", .int lo), ("_most", .non), ("_key", .ref t)]) := e
      walk_at "rd"
      dsimp only [L2.tJs, L2.tFmt]
      with_reducible refine s_c ?_
      refine ⟨_, rfl, fit (by simp only [strLen_append]; omega), ?_⟩
      with_reducible refine s_fldE ?_
      with_reducible refine s_var rfl ?_
      refine ⟨x, C_Many, dx, _, _, rfl, e, kM, n1, rfl, .inr ⟨_, rfl, lg1900 s1, _, rfl, fit (by simp only [strLen_append]; omega), ?_⟩⟩
      with_reducible refine s_c ?_
      refine ⟨_, rfl, fit (by simp only [strLen_append]; omega), ?_⟩
      exact q H (L2.Same.refl H)
    | some m =>
      have e : H x = some (.ins C_Many dx [("_least", .int lo), ("_most", .int m), ("_key", .ref t)]) := e
      have l2 : (Str.ofString (toString m)).length ≤ 600 := numT_len (z1 m rfl) (s2 m rfl)
      walk_at "rd"
      dsimp only [L2.tJs, L2.tFmt]
      with_reducible refine s_c ?_
      refine ⟨_, rfl, fit (by simp only [strLen_append]; omega), ?_⟩
      with_reducible refine s_fldE ?_
      with_reducible refine s_var rfl ?_
      refine ⟨x, C_Many, dx, _, _, rfl, e, kM, n1, rfl, .inr ⟨_, rfl, lg1900 s1, _, rfl, fit (by simp only [strLen_append]; omega), ?_⟩⟩
      with_reducible refine s_c ?_
      refine ⟨_, rfl, fit (by simp only [strLen_append]; omega), ?_⟩
      with_reducible refine s_fldE ?_
      with_reducible refine s_var rfl ?_
      refine ⟨x, C_Many, dx, _, _, rfl, e, kM, n2, rfl, .inr ⟨_, rfl, lg1900 (s2 m rfl), _, rfl, fit (by simp only [strLen_append]; omega), ?_⟩⟩
      with_reducible refine s_c ?_
      refine ⟨_, rfl, fit (by simp only [strLen_append]; omega), ?_⟩
      exact q H (L2.Same.refl H)
theorem ok_rinit {f : Addr} {fd : FuncData} (F : FunD K "__init__" "Ratio.__init__" (defArgs st_Ratio___init__) (defBody st_Ratio___init__) (defScope st_Ratio___init__) [.int 1] [] f fd) : FnG P w K mg base CX0 3 f fd ["self", "top", "bottom"] (spRInit C_Ratio) := by
  have c_is_count := c_is_count (P := P) (w := w) (base := base) M
  have c_is_integer := c_is_integer (P := P) (w := w) (base := base) M
  refine fnG_body F sc_Ratio___init__ (fun vs H Q E h => ?_) (fun cdv A outer s H vs Q E hr h => ?_)
  · obtain ⟨x, dx, p, q, rfl, _⟩ := h
    rfl
  · obtain ⟨x, dx, p, b, rfl, hx, h0, h1, hg, s1, s2, q⟩ := h
    refine ⟨_, (pss_cons (ps_if (pt_not (pt_val (pe_callD c_is_count (hr.mono (by decide)) rfl (pa_cons (pv 1) pa_nil)))) (pss_one ps_never) pss_nil) (pss_cons (ps_if (PW.pt (pw_or (pt_not (pt_val (pe_callD c_is_integer (hr.mono (by decide)) rfl (pa_cons (pv 2) pa_nil)))) (pw_or1 (pt_cmpR op_lt (pv 2) pe_int (nomark _))))) (pss_one ps_never) pss_nil) (pss_cons (ps_set (i := 3) sc_Ratio___init__.nd rfl (.inl rfl) (pe_callBfun cr_gcd rfl M.h_gcd (pa_cons (pv 1) (pa_cons (pv 2) pa_nil)))) (pss_cons (ps_fld (pv 0) (pe_op op_fdivW (pv 1) (pv 3)) rfl) (pss_one (ps_fld (pv 0) (pe_op op_fdivW (pv 2) (pv 3)) rfl)))))), ?_⟩
    refine st_eq (σ := [some _, some _, some _, none]) rfl ?_
    walk_at "rd"
    refine ⟨_, _, rfl, AnyV.int p, ?_⟩
    rw [show isCnt (V.int p) = true from decide_eq_true h0]
    have kM := M.k_Ratio
    have n1 := M.n_Ratio__top
    have n2 := M.n_Ratio__bottom
    walk_at "rd"
    refine ⟨_, _, rfl, AnyV.int b, ?_⟩
    rw [show isI (V.int b) = true from rfl]
    walk_at "rd"
    rw [decide_eq_false (show ¬ b < 1 by omega)]
    walk_at "rd"
    refine ⟨p, b, rfl, ?_⟩
    rw [hg]
    walk_at "rd"
    refine q _ (by walk_at "bt") ⟨dx, ?_⟩
    rw [upd_same, putF_nil, putF_ne (by decide +kernel), putF_nil, show p / ((1 : Nat) : Int) = p from Int.ediv_one p, show b / ((1 : Nat) : Int) = b from Int.ediv_one b]
theorem c_Ratio_2 : Mkn P w K mg base "Ratio" C_Ratio 3 ["self", "top", "bottom"] [] (spRInit C_Ratio) := by
  refine mkD (dvs := [.int 1]) 3 1 M.i_Ratio M.m_Ratio (fun F => ok_rinit M F) (by simp) rfl (fun _ _ _ _ _ _ _ us its h1 h2 => match us, its, h1, h2 with | [_, _, _], [_], _, _ => ⟨_, rfl, rfl⟩)
theorem c_Ratio_1 : Mkn P w K mg base "Ratio" C_Ratio 3 ["self", "top", "bottom"] [.int 1] (spRInit C_Ratio) := by
  refine mkD (dvs := [.int 1]) 2 0 M.i_Ratio M.m_Ratio (fun F => ok_rinit M F) (by simp) rfl (fun _ _ _ _ _ _ _ us its h1 h2 => match us, its, h1, h2 with | [_, _], [_], _, _ => ⟨_, rfl, rfl⟩)
theorem d_Ratio___repr__ : MtO P w K mg base C_Ratio "__repr__" 1 ["self"] [] (spRRep C_Ratio) := by
  obtain ⟨f, fd, hm, F⟩ := M.e_Ratio___repr__
  refine ⟨f, fd, [], M.k_Ratio, hm, ?_, F.bindsN (fun _ _ _ _ _ _ us hl => match us, hl with | [_], _ => rfl), .nil⟩
  refine fnO_body F sc_Ratio___repr__ (fun vs H Q E h => ?_) (fun cdv A outer s H vs Q E hr h => ?_)
  · obtain ⟨x, a, b, rfl, _⟩ := h
    rfl
  · obtain ⟨x, a, b, rfl, ⟨dx, e⟩, z0, z1, s1, s2, q⟩ := h
    have kM := M.k_Ratio
    have n1 := M.n_Ratio__top
    have n2 := M.n_Ratio__bottom
    have l1 : (Str.ofString (toString a)).length ≤ 600 := numT_len z0 s1
    have l2 : (Str.ofString (toString b)).length ≤ 600 := numT_len z1 s2
    have g1 : (Str.ofString "Ratio(").length = 6 := w_len
    have g2 : (Str.ofString ")").length = 1 := w_len
    have g3 : (Str.ofString ", ").length = 2 := w_len
    have g4 : Str.empty.length = 0 := rfl
    refine ⟨_, (pss_one (ps_ret (pe_joined (.cons pe_str (.cons (pe_fmt (pe_fld (pv 0) rfl)) (.cons pe_str (.cons (pe_fmt (pe_fld (pv 0) rfl)) (.cons pe_str .nil)))))))), ?_⟩
    refine st_eq (σ := [some _]) rfl ?_
    walk_at "rd"
    dsimp only [L2.tJs, L2.tFmt]
    with_reducible refine s_c ?_
    refine ⟨_, rfl, fit (by simp only [strLen_append]; omega), ?_⟩
    with_reducible refine s_fldE ?_
    with_reducible refine s_var rfl ?_
    refine ⟨x, C_Ratio, dx, _, _, rfl, e, kM, n1, rfl, .inr ⟨_, rfl, lg1900 s1, _, rfl, fit (by simp only [strLen_append]; omega), ?_⟩⟩
    with_reducible refine s_c ?_
    refine ⟨_, rfl, fit (by simp only [strLen_append]; omega), ?_⟩
    with_reducible refine s_fldE ?_
    with_reducible refine s_var rfl ?_
    refine ⟨x, C_Ratio, dx, _, _, rfl, e, kM, n2, rfl, .inr ⟨_, rfl, lg1900 s2, _, rfl, fit (by simp only [strLen_append]; omega), ?_⟩⟩
    with_reducible refine s_c ?_
    refine ⟨_, rfl, fit (by simp only [strLen_append]; omega), ?_⟩
    exact q H (L2.Same.refl H)
/-- .. where an exception is handled -/
theorem h_Ratio___repr__ : MtH P w K mg base C_Ratio "__repr__" 1 ["self"] (spRRep C_Ratio) := by
  obtain ⟨f, fd, hm, F⟩ := M.e_Ratio___repr__
  refine ⟨f, fd, M.k_Ratio, hm, ?_, F.bindsN (fun _ _ _ _ _ _ us hl => match us, hl with | [_], _ => rfl)⟩
  refine fnN_body F sc_Ratio___repr__ (fun vs H Q E h => ?_) (fun cdv A outer s H vs Q E p hr h => ?_)
  · obtain ⟨x, a, b, rfl, _⟩ := h
    rfl
  · obtain ⟨x, a, b, rfl, ⟨dx, e⟩, z0, z1, s1, s2, q⟩ := h
    have kM := M.k_Ratio
    have n1 := M.n_Ratio__top
    have n2 := M.n_Ratio__bottom
    have l1 : (Str.ofString (toString a)).length ≤ 600 := numT_len z0 s1
    have l2 : (Str.ofString (toString b)).length ≤ 600 := numT_len z1 s2
    have g1 : (Str.ofString "Ratio(").length = 6 := w_len
    have g2 : (Str.ofString ")").length = 1 := w_len
    have g3 : (Str.ofString ", ").length = 2 := w_len
    have g4 : Str.empty.length = 0 := rfl
    refine ⟨_, (pss_one (ps_ret (pe_joined (.cons pe_str (.cons (pe_fmt (pe_fld (pv 0) rfl)) (.cons pe_str (.cons (pe_fmt (pe_fld (pv 0) rfl)) (.cons pe_str .nil)))))))), ?_⟩
    refine st_eq (σ := [some _]) rfl ?_
    walk_at "rd"
    dsimp only [L2.tJs, L2.tFmt]
    with_reducible refine s_c ?_
    refine ⟨_, rfl, fit (by simp only [strLen_append]; omega), ?_⟩
    with_reducible refine s_fldE ?_
    with_reducible refine s_var rfl ?_
    refine ⟨x, C_Ratio, dx, _, _, rfl, e, kM, n1, rfl, .inr ⟨_, rfl, lg1900 s1, _, rfl, fit (by simp only [strLen_append]; omega), ?_⟩⟩
    with_reducible refine s_c ?_
    refine ⟨_, rfl, fit (by simp only [strLen_append]; omega), ?_⟩
    with_reducible refine s_fldE ?_
    with_reducible refine s_var rfl ?_
    refine ⟨x, C_Ratio, dx, _, _, rfl, e, kM, n2, rfl, .inr ⟨_, rfl, lg1900 s2, _, rfl, fit (by simp only [strLen_append]; omega), ?_⟩⟩
    with_reducible refine s_c ?_
    refine ⟨_, rfl, fit (by simp only [strLen_append]; omega), ?_⟩
    exact q H (L2.Same.refl H)
end
end My
end
section
open My L2 PySem
open My L2 PySem
local macro_rules | `(tactic| walk_at "as") => `(tactic| with_reducible assumption)
local macro_rules | `(tactic| walk_at "hp") => `(tactic| first
  | walk_at "as" | exact upd_same
  | (rw [upd_ne (by walk_at "ne")]; walk_at "hp")
  | (refine But.get (by walk_at "as") ?hp1 ?hp2; (case hp1 => walk_at "hp"); (case hp2 => walk_at "ne"))
  | (refine My.Same.get (by walk_at "as") ?hp1; (case hp1 => walk_at "hp")))
local macro_rules | `(tactic| walk_at "ne") => `(tactic| first
  | walk_at "as" | exact Ne.symm (by walk_at "as")
  | (refine' ne_of_none ?ne1 ?ne2; (case ne2 => walk_at "as"); (case ne1 => walk_at "hp"))
  | (refine' Ne.symm (ne_of_none ?ne1 ?ne2); (case ne2 => walk_at "as"); (case ne1 => walk_at "hp"))
  | exact ne_of (by walk_at "hp") (by walk_at "hp") (by intro z; cases z))
local macro_rules | `(tactic| walk_at "sd") => `(tactic| first
  | walk_at "as" | omega | decide | exact ⟨by omega, by omega⟩ | exact .inl ⟨by omega, by omega⟩ | exact .inr ⟨by omega, by omega⟩ | exact divp_wide (by walk_at "as") (by walk_at "as") | exact Sm.cmul (by walk_at "as") (by walk_at "as") | exact cmul_small (by omega) (by omega) (by omega) (by omega) | exact ⟨by omega, by decide⟩)
local macro_rules | `(tactic| walk_at "bt") => `(tactic| first
  | walk_at "as" | exact But.refl _ _ | exact Same.but (by walk_at "as")
  | (refine But.trans ?bt1 But.at; (case bt1 => walk_at "bt"))
  | (refine But.trans ?bt1 (But.new (by first | walk_at "as" | walk_at "hp")); (case bt1 => walk_at "bt"))
  | (refine But.trans ?bt1 (by walk_at "as"); (case bt1 => walk_at "bt"))
  | (refine But.trans ?bt1 (Same.but (by walk_at "as")); (case bt1 => walk_at "bt")))
local macro_rules | `(tactic| walk_at "sm") => `(tactic| first
  | walk_at "as" | exact My.Same.rfl' _
  | (refine' My.Same.at_ ?sm1 ?sm2; (case sm1 => walk_at "as"); (case sm2 => walk_at "sm"))
  | (refine' My.Same.tr ?sm1 (My.Same.new ?sm2); (case sm2 => walk_at "as"); (case sm1 => walk_at "sm"))
  | (refine' My.Same.tr ?sm1 ?sm2; (case sm2 => walk_at "as"); (case sm1 => walk_at "sm")))
local macro_rules | `(tactic| walk_at "sz") => `(tactic| first
  | assumption | exact lt_size (by rfl) | exact le_size (by rfl) | (rw [sizeLine_eq]; omega)
  | (rw [sizeLine_eq]; simp only [List.length_append, List.length_map, List.length_cons, List.length_nil]; omega))
local macro_rules | `(tactic| walk_at "few") => `(tactic| (repeat refine few_put ?_); exact few0)
local macro_rules | `(tactic| walk_at "rd1") => `(tactic| first
  | (with_reducible show tVar _ _ _ _); refine s_var rfl ?_
  | with_reducible refine s_c ?_ | with_reducible refine s_op ?_ | with_reducible refine s_un ?_
  | with_reducible refine s_cons ?_ | with_reducible refine s_nil ?_ | with_reducible refine s_cb ?_
  | with_reducible refine s_test ?_ | with_reducible refine s_B ?_ | with_reducible refine s_not ?_ | with_reducible refine s_and ?_ | with_reducible refine s_or ?_
  | with_reducible refine s_if ?_ | with_reducible refine s_notV ?_ | with_reducible refine s_andV ?_ | with_reducible refine s_orV ?_
  | with_reducible refine s_orT ?_ | with_reducible refine s_andT ?_ | with_reducible refine s_chain ?_
  | with_reducible refine s_isi_int ?_ | with_reducible refine s_isi_int_bool ?_ | with_reducible refine s_isi_str ?_
  | with_reducible refine iteT ?_ | with_reducible refine iteF ?_ | with_reducible refine iteNT ?_ | with_reducible refine iteNF ?_
  | with_reducible refine s_isN ?_ | with_reducible refine s_notN ?_
  | ((with_reducible refine' s_2setE ?g1 ?_); (case g1 => first | (dsimp only [List.set, L2.wipe, List.map, List.foldl]; done) | (dsimp only [List.set, L2.wipe, List.map, List.foldl]; rfl)))
  | with_reducible refine s_seq ?_ | with_reducible refine s_ifS ?_ | with_reducible refine s_asg ?_ | with_reducible refine s_ret ?_ | with_reducible refine s_drop ?_ | with_reducible refine s_next ?_
  | ((with_reducible refine' s_gnameE ?g1 ?_); (case g1 => first | (dsimp only [List.set, L2.wipe, List.map, List.foldl]; done) | (dsimp only [List.set, L2.wipe, List.map, List.foldl]; rfl)))
  | with_reducible refine s_gsub ?_ | with_reducible refine s_gcons ?_ | with_reducible refine s_gnil ?_
  | (with_reducible show gTup _ _ _ _ _ _ _); refine s_gtup (by walk_at "hp") rfl ?_
  | with_reducible refine s_eqI ?_ | with_reducible refine s_neI ?_ | with_reducible refine s_eqS ?_ | with_reducible refine s_neB ?_ | with_reducible refine s_eqB ?_ | with_reducible refine s_neSr ?_ | with_reducible refine s_neS ?_
  | with_reducible refine s_I0 ?_
  | (with_reducible show rI _ _ _ _ _ _); refine s_I (by walk_at "sd") ?_
  | (with_reducible show rIxL _ _ _ _ _); refine s_ixL (by walk_at "hp") rfl ?_
  | (with_reducible show rIxT _ _ _ _ _); refine s_ixT (by walk_at "hp") rfl ?_
  | (with_reducible show rSetL _ _ _ _ _); refine s_setL (by walk_at "hp") rfl ?_
  | with_reducible refine s_prop ?_
  | (with_reducible show _ ≤ sizeLine ∧ _); refine ⟨le_size (by rfl), ?_⟩
  | with_reducible refine ite_NN ?_ | with_reducible refine ite_IN ?_ | with_reducible refine ite_nNN ?_ | with_reducible refine ite_nIN ?_ | with_reducible refine ite_RN ?_ | with_reducible refine ite_nRN ?_
  | with_reducible refine s_sfld ?_
  | ((with_reducible refine' ⟨_, _, _, _, rfl, ?fp1, ?fp2, ?fp3, ?fp4, ?_⟩); (case fp1 => walk_at "hp"); (case fp2 => assumption); (case fp3 => assumption); (case fp4 => walk_at "few"))
  | with_reducible refine s_fldE ?_
  | ((with_reducible refine' ⟨_, _, _, _, _, rfl, ?fp1, ?fp2, ?fp3, ?fp4, ?_⟩); (case fp1 => walk_at "hp"); (case fp2 => assumption); (case fp3 => assumption); (case fp4 => rfl))
  | with_reducible refine s_bm ?_ | with_reducible refine s_bm0 ?_
  | ((with_reducible refine' s_tyL ?ty1 ?_); (case ty1 => walk_at "hp"))
  | ((with_reducible refine' s_append ?ap1 ?ap2 ?_); (case ap1 => walk_at "hp"); (case ap2 => walk_at "sz"))
  | ((with_reducible refine' s_extend ?ap1 ?ap2 ?ap3 ?_); (case ap1 => walk_at "hp"); (case ap2 => walk_at "hp"); (case ap3 => walk_at "sz"))
  | with_reducible refine s_for (fun _ _ => ?_) | with_reducible refine s_lc ?_ | with_reducible refine s_iList ?_ | with_reducible refine s_iTup ?_ | with_reducible refine s_iRng1 ?_ | with_reducible refine s_iRng2 ?_
  | with_reducible refine s_yes ?_ | with_reducible refine s_par ?_
  | with_reducible refine s_make ?_ | with_reducible refine s_meth ?_
  | with_reducible refine s_tup ?_ | with_reducible refine s_lst ?_ | with_reducible refine s_call ?_
  | with_reducible refine ⟨rfl, ?_⟩
  | with_reducible refine ⟨_, rfl, ?_⟩
  | ((with_reducible refine' ⟨_, _, rfl, ?sd1, ?_⟩); (case sd1 => walk_at "sd"))
  | with_reducible refine ⟨_, _, rfl, ?_⟩
  | with_reducible refine .inl ⟨_, rfl, ?_⟩
  | dsimp only [List.set]
  | walk_at "rdx"
  | (refine fun _ _ => ?_))
local macro_rules | `(tactic| walk_at "rd") => `(tactic| repeat (first
  | (with_reducible show tVar _ _ _ _); refine s_var rfl ?_
  | with_reducible refine s_c ?_ | with_reducible refine s_op ?_ | with_reducible refine s_un ?_
  | with_reducible refine s_cons ?_ | with_reducible refine s_nil ?_ | with_reducible refine s_cb ?_
  | with_reducible refine s_test ?_ | with_reducible refine s_B ?_ | with_reducible refine s_not ?_ | with_reducible refine s_and ?_ | with_reducible refine s_or ?_
  | with_reducible refine s_if ?_ | with_reducible refine s_notV ?_ | with_reducible refine s_andV ?_ | with_reducible refine s_orV ?_
  | with_reducible refine s_orT ?_ | with_reducible refine s_andT ?_ | with_reducible refine s_chain ?_
  | with_reducible refine s_isi_int ?_ | with_reducible refine s_isi_int_bool ?_ | with_reducible refine s_isi_str ?_
  | with_reducible refine iteT ?_ | with_reducible refine iteF ?_ | with_reducible refine iteNT ?_ | with_reducible refine iteNF ?_
  | with_reducible refine s_isN ?_ | with_reducible refine s_notN ?_
  | ((with_reducible refine' s_2setE ?g1 ?_); (case g1 => first | (dsimp only [List.set, L2.wipe, List.map, List.foldl]; done) | (dsimp only [List.set, L2.wipe, List.map, List.foldl]; rfl)))
  | with_reducible refine s_seq ?_ | with_reducible refine s_ifS ?_ | with_reducible refine s_asg ?_ | with_reducible refine s_ret ?_ | with_reducible refine s_drop ?_ | with_reducible refine s_next ?_
  | ((with_reducible refine' s_gnameE ?g1 ?_); (case g1 => first | (dsimp only [List.set, L2.wipe, List.map, List.foldl]; done) | (dsimp only [List.set, L2.wipe, List.map, List.foldl]; rfl)))
  | with_reducible refine s_gsub ?_ | with_reducible refine s_gcons ?_ | with_reducible refine s_gnil ?_
  | (with_reducible show gTup _ _ _ _ _ _ _); refine s_gtup (by walk_at "hp") rfl ?_
  | with_reducible refine s_eqI ?_ | with_reducible refine s_neI ?_ | with_reducible refine s_eqS ?_ | with_reducible refine s_neB ?_ | with_reducible refine s_eqB ?_ | with_reducible refine s_neSr ?_ | with_reducible refine s_neS ?_
  | with_reducible refine s_I0 ?_
  | (with_reducible show rI _ _ _ _ _ _); refine s_I (by walk_at "sd") ?_
  | (with_reducible show rIxL _ _ _ _ _); refine s_ixL (by walk_at "hp") rfl ?_
  | (with_reducible show rIxT _ _ _ _ _); refine s_ixT (by walk_at "hp") rfl ?_
  | (with_reducible show rSetL _ _ _ _ _); refine s_setL (by walk_at "hp") rfl ?_
  | with_reducible refine s_prop ?_
  | (with_reducible show _ ≤ sizeLine ∧ _); refine ⟨le_size (by rfl), ?_⟩
  | with_reducible refine ite_NN ?_ | with_reducible refine ite_IN ?_ | with_reducible refine ite_nNN ?_ | with_reducible refine ite_nIN ?_ | with_reducible refine ite_RN ?_ | with_reducible refine ite_nRN ?_
  | with_reducible refine s_sfld ?_
  | ((with_reducible refine' ⟨_, _, _, _, rfl, ?fp1, ?fp2, ?fp3, ?fp4, ?_⟩); (case fp1 => walk_at "hp"); (case fp2 => assumption); (case fp3 => assumption); (case fp4 => walk_at "few"))
  | with_reducible refine s_fldE ?_
  | ((with_reducible refine' ⟨_, _, _, _, _, rfl, ?fp1, ?fp2, ?fp3, ?fp4, ?_⟩); (case fp1 => walk_at "hp"); (case fp2 => assumption); (case fp3 => assumption); (case fp4 => rfl))
  | with_reducible refine s_bm ?_ | with_reducible refine s_bm0 ?_
  | ((with_reducible refine' s_tyL ?ty1 ?_); (case ty1 => walk_at "hp"))
  | ((with_reducible refine' s_append ?ap1 ?ap2 ?_); (case ap1 => walk_at "hp"); (case ap2 => walk_at "sz"))
  | ((with_reducible refine' s_extend ?ap1 ?ap2 ?ap3 ?_); (case ap1 => walk_at "hp"); (case ap2 => walk_at "hp"); (case ap3 => walk_at "sz"))
  | with_reducible refine s_for (fun _ _ => ?_) | with_reducible refine s_lc ?_ | with_reducible refine s_iList ?_ | with_reducible refine s_iTup ?_ | with_reducible refine s_iRng1 ?_ | with_reducible refine s_iRng2 ?_
  | with_reducible refine s_yes ?_ | with_reducible refine s_par ?_
  | with_reducible refine s_make ?_ | with_reducible refine s_meth ?_
  | with_reducible refine s_tup ?_ | with_reducible refine s_lst ?_ | with_reducible refine s_call ?_
  | with_reducible refine ⟨rfl, ?_⟩
  | with_reducible refine ⟨_, rfl, ?_⟩
  | ((with_reducible refine' ⟨_, _, rfl, ?sd1, ?_⟩); (case sd1 => walk_at "sd"))
  | with_reducible refine ⟨_, _, rfl, ?_⟩
  | with_reducible refine .inl ⟨_, rfl, ?_⟩
  | dsimp only [List.set]
  | walk_at "rdx"
  | (refine fun _ _ => ?_)))

namespace My
open PySem L2
section
variable {P : Program} {w : World} {K : PySem.W.Frag} {mg : Str → Option Value} {base : Heap} {C_Many C_Ratio C_EachError C_InvalidMany L__law_odd_right : Addr} (M : Md K mg C_Many C_Ratio C_EachError C_InvalidMany L__law_odd_right)
include M
local macro_rules | `(tactic| walk_at "rdx") => `(tactic| first | with_reducible refine s_ostG ?_ | with_reducible refine s_raE ?_ | with_reducible refine s_callX ?_ | with_reducible refine s_opX ?_ | with_reducible refine s_reflX ?_)
omit M
def Pot (H : Hp) (r : Addr) : Prop := ∃ p q : Int, H r = some (.lst [.int p, .int q]) ∧ 0 ≤ p ∧ 0 ≤ q ∧ q < 2147483648
def spPotOf (K : PySem.W.Frag) : Sp := fun vs H Q _ => ∃ (a : Addr) (ns : List Int) (k : Int), vs = [.ref a, .int k] ∧ SqL K H a (ns.map V.int) ∧ 0 ≤ k ∧ k < 1000 ∧ ∀ r H', Same H H' → H r = none → Pot H' r → Q (.ref r) H'
def spDraw : Sp := fun vs H Q _ => ∃ (r : Addr) (n : Int), vs = [.ref r, .int n] ∧ Pot H r ∧ 0 < n ∧ n.natAbs.log2 < 9000 ∧ ∀ d H', But r H H' → Pot H' r → 0 ≤ d → d < n → Q (.int d) H'
include M
theorem c__law_rng : Dn P w K mg base "_law_rng" 1 ["_law_script", "_law_k"] [] (spPotOf K) := by
  refine dnN M.f__law_rng (fun F => ?_) (fun _ _ _ _ _ _ us hl => match us, hl with | [_, _], _ => rfl)
  refine fnG_body F sc__law_rng (fun vs H Q E h => ?_) (fun cdv A outer s H vs Q E hr h => ?_)
  · obtain ⟨a, ns, k, rfl, _⟩ := h
    rfl
  · obtain ⟨a, ns, k, rfl, hS, h0, h1, q⟩ := h
    refine ⟨_, (pss_cons (ps_set (i := 2) sc__law_rng.nd rfl (.inl rfl) (pe_ifExp (pt_cmpR op_lt (pv 1) (pe_callB call_len_seq (by rfl) M.b_len (by decide +kernel) (pa_cons (pv 0) pa_nil)) (nomark _)) (pe_ix ix_list (pv 0) (pv 1) (fun _ _ => rfl)) (pe_op op_add (pe_op op_mulW pe_int (pv 1)) pe_int))) (pss_one (ps_ret (pe_lst (pa_cons (pe_callB (call_max2 rfl) (by rfl) M.b_max (by decide +kernel) (pa_cons pe_int (pa_cons (pe_op op_sub (pe_callB call_abs (by rfl) M.b_abs (by decide +kernel) (pa_cons (pv 2) pa_nil)) (pe_op op_pow pe_int pe_int)) pa_nil))) (pa_cons (pe_op op_add (pe_op op_mod (pe_callTy call_int1 (by rfl) M.b_int (by decide +kernel) (pa_cons (pe_op op_add (pe_op op_add (pe_op op_mulW (pe_op op_mod (pe_callTy call_int1 (by rfl) M.b_int (by decide +kernel) (pa_cons (pe_callB call_abs (by rfl) M.b_abs (by decide +kernel) (pa_cons (pv 2) pa_nil)) pa_nil)) pe_int) pe_int) (pe_op op_mulW pe_int (pv 1))) pe_int) pa_nil)) pe_int) pe_int) pa_nil)))))), ?_⟩
    refine st_eq (σ := [some _, some _, none]) rfl ?_
    walk_at "rd"
    refine ⟨_, _, rfl, .inl hS, ?_⟩
    walk_at "rd"
    refine ite_d (fun hc => ?_) (fun hc => ?_)
    · obtain ⟨c, ec⟩ := atI_ints h0 hc
      walk_at "rd"
      refine ⟨_, _, _, _, rfl, rfl, hS, ec, ?_⟩
      walk_at "rd"
      refine q _ _ (Same.new (by assumption)) (by assumption) ⟨_, _, upd_same, ?_, ?_, ?_⟩
      · split <;> omega
      · omega
      · omega
    · walk_at "rd"
      refine q _ _ (Same.new (by assumption)) (by assumption) ⟨_, _, upd_same, ?_, ?_, ?_⟩
      · split <;> omega
      · omega
      · omega
theorem c__law_draw : Dn P w K mg base "_law_draw" 1 ["_law_rng_here", "_law_sides"] [] spDraw := by
  refine dnN M.f__law_draw (fun F => ?_) (fun _ _ _ _ _ _ us hl => match us, hl with | [_, _], _ => rfl)
  refine fnG_body F sc__law_draw (fun vs H Q E h => ?_) (fun cdv A outer s H vs Q E hr h => ?_)
  · obtain ⟨r, n, rfl, _⟩ := h
    rfl
  · obtain ⟨r, n, rfl, ⟨p, y, e, hp, hy, hz⟩, h0, h1, q⟩ := h
    refine ⟨_, (pss_cons (ps_if (pt_cmpR op_gt (pe_ix ix_list (pv 0) pe_int (fun _ _ => rfl)) pe_int (nomark _)) (pss_cons (ps_asg (pe_callB call_divmodW (by rfl) M.b_divmod (by decide +kernel) (pa_cons (pe_ix ix_list (pv 0) pe_int (fun _ _ => rfl)) (pa_cons (pv 1) pa_nil))) (pg_tup (by rfl) (pgs_cons (pg_sub (pv 0) pe_int set_list) (pgs_cons (pg_name (i := 2) sc__law_draw.nd rfl (.inl rfl)) pgs_nil)))) (pss_one (ps_ret (pv 2)))) pss_nil) (pss_cons (ps_asg (pe_op op_mod (pe_callTy call_int1 (by rfl) M.b_int (by decide +kernel) (pa_cons (pe_op op_add (pe_op op_mulW (pe_ix ix_list (pv 0) pe_int (fun _ _ => rfl)) pe_int) pe_int) pa_nil)) pe_int) (pg_sub (pv 0) pe_int set_list)) (pss_one (ps_ret (pe_op op_mod (pe_callTy call_int1 (by rfl) M.b_int (by decide +kernel) (pa_cons (pe_op op_fdivW (pe_op op_mod (pe_callTy call_int1 (by rfl) M.b_int (by decide +kernel) (pa_cons (pe_op op_mulW (pe_ix ix_list (pv 0) pe_int (fun _ _ => rfl)) (pe_ix ix_list (pv 0) pe_int (fun _ _ => rfl))) pa_nil)) pe_int) pe_int) pa_nil)) (pv 1)))))), ?_⟩
    refine st_eq (σ := [some _, some _, none]) rfl ?_
    walk_at "rd"
    refine ite_d (fun hc => ?_) (fun hc => ?_)
    · walk_at "rd"
      refine q _ _ ((But.new (by assumption)).trans But.at) ⟨_, _, upd_same, ?_, hy, hz⟩ (Int.emod_nonneg _ (by omega)) (Int.emod_lt_of_pos _ h0)
      exact Int.ediv_nonneg hp (by omega)
    · walk_at "rd"
      refine q _ _ But.at ⟨_, _, upd_same, hp, by omega, by omega⟩ (Int.emod_nonneg _ (by omega)) (Int.emod_lt_of_pos _ h0)
omit M
theorem Pot.up {H : Hp} {r p : Addr} {o : HO} (h : Pot H r) (n : H p = none) : Pot (upd H p o) r := by
  obtain ⟨x, y, e, h⟩ := h
  exact ⟨x, y, by rw [upd_ne (ne_of_none e n)]; exact e, h⟩
theorem Pot.ne {H : Hp} {r p : Addr} (h : Pot H r) (n : H p = none) : p ≠ r := by
  obtain ⟨x, y, e, h⟩ := h
  exact (ne_of_none e n).symm
theorem Pot.upn {H : Hp} {r p : Addr} {o : HO} (h : Pot H r) (n : p ≠ r) : Pot (L2.upd H p o) r := by
  obtain ⟨x, y, e, h⟩ := h
  exact ⟨x, y, by rw [upd_ne n.symm]; exact e, h⟩
theorem Pot.same {H H' : Hp} {r : Addr} (h : Pot H r) (s : L2.Same H H') : Pot H' r := by
  obtain ⟨x, y, e, h⟩ := h
  exact ⟨x, y, s _ _ e, h⟩
theorem But.upf {r a : Addr} {o : HO} {H H' : Hp} (b : But r H H') (n : H a = none) : But r H (L2.upd H' a o) := fun c u e n' => by
  rw [upd_ne (ne_of_none e n)]
  exact b c u e n'
theorem But.free {r a : Addr} {H H' : Hp} (b : But r H H') (h : H' a = none) (n : a ≠ r) : H a = none := by
  cases e : H a with
  | none => rfl
  | some o =>
    have := b a o e n
    rw [h] at this
    cases this
def spPick : Sp := fun vs H Q _ => ∃ (r l : Addr) (xs : List V), vs = [.ref r, .ref l] ∧ H l = some (.lst xs) ∧ l ≠ r ∧ 0 < xs.length ∧ xs.length < 100000 ∧ Pot H r ∧ ∀ v H', v ∈ xs → But r H H' → Pot H' r → Q v H'
include M
theorem c__law_choice : Dn P w K mg base "_law_choice" 2 ["_law_rng_here", "_law_some"] [] spPick := by
  have c__law_draw := c__law_draw (P := P) (w := w) (base := base) M
  refine dnN M.f__law_choice (fun F => ?_) (fun _ _ _ _ _ _ us hl => match us, hl with | [_, _], _ => rfl)
  refine fnG_body F sc__law_choice (fun vs H Q E h => ?_) (fun cdv A outer s H vs Q E hr h => ?_)
  · obtain ⟨r, l, xs, rfl, _⟩ := h
    rfl
  · obtain ⟨r, l, xs, rfl, hl, hn, h0, h1, hp, q⟩ := h
    refine ⟨_, (pss_one (ps_ret (pe_ix ix_list (pv 1) (pe_callD c__law_draw (hr.mono (by decide)) rfl (pa_cons (pv 0) (pa_cons (pe_callB call_len_seq (by rfl) M.b_len (by decide +kernel) (pa_cons (pv 1) pa_nil)) pa_nil))) (fun _ _ => rfl)))), ?_⟩
    refine st_eq (σ := [some _, some _]) rfl ?_
    walk_at "rd"
    refine ⟨_, _, rfl, .inl (SqL.of hl), ?_⟩
    walk_at "rd"
    refine ⟨r, _, rfl, hp, by omega, ?_, fun d H' hb hp' d0 d1 => ?_⟩
    · exact lg (sm62 (by omega) (by omega))
    · obtain ⟨j, rfl⟩ : ∃ j : Nat, d = j := ⟨d.toNat, by omega⟩
      have hj : j < xs.length := by omega
      walk_at "rd"
      refine s_ixL (v := xs[j]) (hb.get hl hn) (atI_nat (by simp [hj])) ?_
      exact q _ _ (List.getElem_mem hj) hb hp'
omit M
theorem But.upf' {r a : Addr} {o : HO} {H H' : Hp} (b : But r H H') (n : H' a = none) : But r H (L2.upd H' a o) := b.trans (But.new n)
def PairAt (H : Hp) (p : Addr) (lo : Int) (hi : Option Int) : Prop := H p = some (.tup [.int lo, optV hi])
theorem PairAt.same {H H' : Hp} {p : Addr} {lo : Int} {hi : Option Int} (h : PairAt H p lo hi) (s : L2.Same H H') : PairAt H' p lo hi := s _ _ h
/-- a near pair -/
def Near (lo : Int) (hi : Option Int) : Prop := 0 ≤ lo ∧ lo ≤ 3 ∧ ∀ h, hi = some h → lo ≤ h ∧ h ≤ 6
/-- any pair of the law -/
def Far (lo : Int) (hi : Option Int) : Prop := 0 ≤ lo ∧ lo ≤ 10 ^ 30 ∧ ∀ h, hi = some h → lo ≤ h ∧ h ≤ 10 ^ 30
theorem Near.far {lo : Int} {hi : Option Int} (h : Near lo hi) : Far lo hi := ⟨h.1, by have := h.2.1; omega, fun g e => ⟨(h.2.2 g e).1, by have := (h.2.2 g e).2; omega⟩⟩
def spPair : Sp := fun vs H Q _ => ∃ r : Addr, vs = [.ref r] ∧ Pot H r ∧ ∀ (p : Addr) (lo : Int) (hi : Option Int) H', Near lo hi → But r H H' → Pot H' r → PairAt H' p lo hi → Q (.ref p) H'
def spFar : Sp := fun vs H Q _ => ∃ r : Addr, vs = [.ref r] ∧ Pot H r ∧ ∀ (p : Addr) (lo : Int) (hi : Option Int) H', Far lo hi → But r H H' → Pot H' r → PairAt H' p lo hi → Q (.ref p) H'
def spMade (C : Addr) : Sp := fun vs H Q _ => ∃ (p : Addr) (lo : Int) (hi : Option Int), vs = [.ref p] ∧ PairAt H p lo hi ∧ Far lo hi ∧ ∀ x H', L2.Same H H' → ManyAt C H' x lo hi → Q (.ref x) H'
def spRow (C : Addr) : Sp := fun vs H Q _ => ∃ (x : Addr) (lo : Int) (hi : Option Int), vs = [.ref x] ∧ ManyAt C H x lo hi ∧ ∀ p H', L2.Same H H' → PairAt H' p lo hi → Q (.ref p) H'
include M
theorem c__law_pair : Dn P w K mg base "_law_pair" 3 ["_law_rng_here"] [] spPair := by
  have c__law_draw := c__law_draw (P := P) (w := w) (base := base) M
  refine dnN M.f__law_pair (fun F => ?_) (fun _ _ _ _ _ _ us hl => match us, hl with | [_], _ => rfl)
  refine fnG_body F sc__law_pair (fun vs H Q E h => ?_) (fun cdv A outer s H vs Q E hr h => ?_)
  · obtain ⟨r, rfl, _⟩ := h
    rfl
  · obtain ⟨r, rfl, hp, q⟩ := h
    refine ⟨_, (pss_cons (ps_par (i := 1) (j := 2) (by rfl) sc__law_pair.nd rfl rfl (by decide) rfl rfl (pa_cons (pe_callD c__law_draw (hr.mono (by decide)) rfl (pa_cons (pv 0) (pa_cons pe_int pa_nil))) (pa_cons (pe_callD c__law_draw (hr.mono (by decide)) rfl (pa_cons (pv 0) (pa_cons pe_int pa_nil))) pa_nil)) (by rfl)) (pss_cons (ps_if (pt_cmpR op_eq (pv 1) pe_int (nomark _)) (pss_one (ps_ret (pe_tup (pa_cons pe_int (pa_cons pe_int pa_nil))))) pss_nil) (pss_cons (ps_if (pt_cmpR op_lt (pv 1) pe_int (nomark _)) (pss_one (ps_ret (pe_tup (pa_cons (pv 2) (pa_cons pe_non pa_nil))))) pss_nil) (pss_one (ps_ret (pe_tup (pa_cons (pv 2) (pa_cons (pe_op op_add (pv 2) (pe_callD c__law_draw (hr.mono (by decide)) rfl (pa_cons (pv 0) (pa_cons pe_int pa_nil)))) pa_nil)))))))), ?_⟩
    refine st_eq (σ := [some _, none, none]) rfl ?_
    walk_at "rd"
    refine ⟨r, 8, rfl, hp, by decide, by decide, fun way H1 b1 p1 w0 w1 => ?_⟩
    walk_at "rd"
    refine ⟨r, 4, rfl, p1, by decide, by decide, fun low H2 b2 p2 l0 l1 => ?_⟩
    have b12 := b1.trans b2
    walk_at "rd"
    refine ite_d (fun hw => ?_) (fun hw => ?_)
    · walk_at "rd"
      rename_i T nT
      exact q T 0 (some 0) _ ⟨by decide, by decide, fun h e => by cases e; decide⟩ (b12.upf' nT) (p2.up nT) upd_same
    · walk_at "rd"
      refine ite_d (fun hw => ?_) (fun hw => ?_)
      · walk_at "rd"
        rename_i T nT
        exact q T low none _ ⟨l0, by omega, fun h e => nomatch e⟩ (b12.upf' nT) (p2.up nT) upd_same
      · walk_at "rd"
        refine ⟨r, 4, rfl, p2, by decide, by decide, fun d H3 b3 p3 d0 d1 => ?_⟩
        walk_at "rd"
        rename_i T nT
        exact q T low (some (low + d)) _ ⟨l0, by omega, fun h e => by cases e; omega⟩ ((b12.trans b3).upf' nT) (p3.up nT) upd_same
theorem c__law_far : Dn P w K mg base "_law_far" 3 ["_law_rng_here"] [] spFar := by
  have c__law_draw := c__law_draw (P := P) (w := w) (base := base) M
  refine dnN M.f__law_far (fun F => ?_) (fun _ _ _ _ _ _ us hl => match us, hl with | [_], _ => rfl)
  refine fnG_body F sc__law_far (fun vs H Q E h => ?_) (fun cdv A outer s H vs Q E hr h => ?_)
  · obtain ⟨r, rfl, _⟩ := h
    rfl
  · obtain ⟨r, rfl, hp, q⟩ := h
    refine ⟨_, (pss_cons (ps_set (i := 1) sc__law_far.nd rfl (.inl rfl) (pe_callD c__law_draw (hr.mono (by decide)) rfl (pa_cons (pv 0) (pa_cons (pe_op op_pow pe_int pe_int) pa_nil)))) (pss_one (ps_ret (pe_ifExp (pt_cmpR op_eq (pe_callD c__law_draw (hr.mono (by decide)) rfl (pa_cons (pv 0) (pa_cons pe_int pa_nil))) pe_int (nomark _)) (pe_tup (pa_cons (pv 1) (pa_cons pe_non pa_nil))) (pe_tup (pa_cons (pv 1) (pa_cons (pe_op op_add (pv 1) (pe_callD c__law_draw (hr.mono (by decide)) rfl (pa_cons (pv 0) (pa_cons (pe_op op_pow pe_int pe_int) pa_nil)))) pa_nil))))))), ?_⟩
    refine st_eq (σ := [some _, none]) rfl ?_
    walk_at "rd"
    refine ⟨r, 10 ^ 18, rfl, hp, by decide, by decide +kernel, fun low H1 b1 p1 l0 l1 => ?_⟩
    walk_at "rd"
    refine ⟨r, 3, rfl, p1, by decide, by decide, fun way H2 b2 p2 w0 w1 => ?_⟩
    have b12 := b1.trans b2
    walk_at "rd"
    refine ite_d (fun hw => ?_) (fun hw => ?_)
    · walk_at "rd"
      rename_i T nT
      exact q T low none _ ⟨l0, by omega, fun h e => nomatch e⟩ (b12.upf' nT) (p2.up nT) upd_same
    · walk_at "rd"
      refine ⟨r, 10 ^ 18, rfl, p2, by decide, by decide +kernel, fun d H3 b3 p3 d0 d1 => ?_⟩
      walk_at "rd"
      rename_i T nT
      exact q T low (some (low + d)) _ ⟨l0, by omega, fun h e => by cases e; omega⟩ ((b12.trans b3).upf' nT) (p3.up nT) upd_same
theorem c__law_made : Dn P w K mg base "_law_made" 5 ["_law_pair_here"] [] (spMade C_Many) := by
  have c_Many_2 := c_Many_2 (P := P) (w := w) (base := base) M
  refine dnN M.f__law_made (fun F => ?_) (fun _ _ _ _ _ _ us hl => match us, hl with | [_], _ => rfl)
  refine fnG_body F sc__law_made (fun vs H Q E h => ?_) (fun cdv A outer s H vs Q E hr h => ?_)
  · obtain ⟨p, lo, hi, rfl, _⟩ := h
    rfl
  · obtain ⟨p, lo, hi, rfl, hp, hf, q⟩ := h
    have hp' : H p = some (.tup [.int lo, optV hi]) := hp
    refine ⟨_, (pss_one (ps_ret (pe_makeD c_Many_2 (hr.mono (by decide)) rfl (pa_cons (pe_ix ix_tup (pv 0) pe_int (fun _ _ => rfl)) (pa_cons (pe_ix ix_tup (pv 0) pe_int (fun _ _ => rfl)) pa_nil))))), ?_⟩
    refine st_eq (σ := [some _]) rfl ?_
    walk_at "rd"
    rename_i X DX nX nDX
    refine fun neX => ⟨X, DX, lo, hi, rfl, upd_same, hf.1, fun h e => (hf.2.2 h e).1, fun H' b m => ⟨rfl, ?_⟩⟩
    exact q X H' (b.same (My.Same.at_ nX (My.Same.new nDX)) nX) m
theorem c__law_row : Dn P w K mg base "_law_row" 3 ["_law_made_here"] [] (spRow C_Many) := by
  have c_Many_least := c_Many_least (P := P) (w := w) (base := base) M
  have c_Many_most := c_Many_most (P := P) (w := w) (base := base) M
  refine dnN M.f__law_row (fun F => ?_) (fun _ _ _ _ _ _ us hl => match us, hl with | [_], _ => rfl)
  refine fnG_body F sc__law_row (fun vs H Q E h => ?_) (fun cdv A outer s H vs Q E hr h => ?_)
  · obtain ⟨x, lo, hi, rfl, _⟩ := h
    rfl
  · obtain ⟨x, lo, hi, rfl, hm, q⟩ := h
    obtain ⟨dx, t, e, et⟩ := id hm
    refine ⟨_, (pss_one (ps_ret (pe_tup (pa_cons (pe_propD c_Many_least (pv 0) (hr.mono (by decide)) rfl) (pa_cons (pe_propD c_Many_most (pv 0) (hr.mono (by decide)) rfl) pa_nil))))), ?_⟩
    refine st_eq (σ := [some _]) rfl ?_
    walk_at "rd"
    refine ⟨x, dx, _, rfl, e, x, lo, hi, rfl, hm, ?_⟩
    walk_at "rd"
    refine ⟨x, dx, _, rfl, e, x, lo, hi, rfl, hm, ?_⟩
    walk_at "rd"
    rename_i T nT
    exact q T _ (My.Same.new nT) upd_same
omit M
/-- the numbers to the top that the pair lets -/
def nums (lo : Int) (hi : Option Int) (top : Int) : List Int := ((List.range (top + 1).toNat).map fun i : Nat => (0 : Int) + i).filter fun i => decide (lo ≤ i) && (match hi with | none => true | some h => decide (i ≤ h))
def cnd (lo : Int) (hi : Option Int) (i : Int) : Bool := decide (lo ≤ i) && (match hi with | none => true | some h => decide (i ≤ h))
theorem nums_succ (lo : Int) (hi : Option Int) (i : Nat) : ((List.range (i + 1)).map fun k : Nat => (0 : Int) + k).filter (cnd lo hi) = ((List.range i).map fun k : Nat => (0 : Int) + k).filter (cnd lo hi) ++ (if cnd lo hi (0 + i) = true then [(0 : Int) + i] else []) := by
  rw [List.range_succ, List.map_append, List.filter_append]
  congr 1
  show List.filter (cnd lo hi) [(0 : Int) + i] = _
  rw [List.filter_cons, List.filter_nil]
def spNums : Sp := fun vs H Q _ => ∃ (p : Addr) (lo : Int) (hi : Option Int) (top : Int), vs = [.ref p, .int top] ∧ PairAt H p lo hi ∧ 0 ≤ top ∧ top ≤ 13 ∧ ∀ l H', L2.Same H H' → H' l = some (.lst ((nums lo hi top).map V.int)) → Q (.ref l) H'
include M
theorem c__law_numbers : Dn P w K mg base "_law_numbers" 3 ["_law_pair_here", "_law_top"] [] spNums := by
  refine dnN M.f__law_numbers (fun F => ?_) (fun _ _ _ _ _ _ us hl => match us, hl with | [_, _], _ => rfl)
  refine fnG_body F sc__law_numbers (fun vs H Q E h => ?_) (fun cdv A outer s H vs Q E hr h => ?_)
  · obtain ⟨p, lo, hi, top, rfl, _⟩ := h
    rfl
  · obtain ⟨p, lo, hi, top, rfl, hp, t0, t1, q⟩ := h
    have hp' : H p = some (.tup [.int lo, optV hi]) := hp
    refine ⟨_, (pss_one (ps_ret (pe_lc (own := [("_law_at", 2)]) (g := gName 2) (tt := _) (by rfl) sc__law_numbers.nd (pi_range1 (by rfl) M.b_range (pa_cons (pe_op op_add (pv 1) pe_int) pa_nil)) (blkOk_by (own := [("_law_at", 2)]) (N := N__law_numbers) (sc := defScope st__law_numbers) (by decide +kernel)) (fun _ _ _ _ _ => pg_name (i := 2) sc__law_numbers.nd rfl (by first | exact Or.inl rfl | exact Or.inr rfl)) (fun _ _ _ _ _ => pts_one (PW.pt (pw_and (pt_cmpR op_le (pe_ix (ix_tupK (K := K) rfl) (pv 0) pe_int (fun _ _ => rfl)) (pv 2) (nomark _)) (pw_and1 (PW.pt (pw_or (pt_cmpR op_isN (pe_ix (ix_tupK (K := K) rfl) (pv 0) pe_int (fun _ _ => rfl)) pe_non (nomark _)) (pw_or1 (pt_cmpR op_le (pv 2) (pe_ix (ix_tupK (K := K) rfl) (pv 0) pe_int (fun _ _ => rfl)) (nomark _))))))))) (fun _ _ _ _ _ => (pv 2))))), ?_⟩
    refine st_eq (σ := [some _, some _, none]) rfl ?_
    walk_at "rd"
    refine ⟨by omega, by omega, fun D nD => lc_range (lo := 0) (fun i H' => L2.Same H H' ∧ i ≤ 14 ∧ H' D = some (.lst ((((List.range i).map fun k : Nat => (0 : Int) + k).filter (cnd lo hi)).map V.int))) ?_ ?_ ?_⟩
    · exact ⟨My.Same.new nD, by decide, upd_same⟩
    · rintro i H1 hi1 ⟨s1, hl, eD⟩
      have hp1 : H1 p = some (.tup [.int lo, optV hi]) := s1 _ _ hp'
      have lenOk : ((((List.range i).map fun k : Nat => (0 : Int) + k).filter (cnd lo hi)).map V.int).length < sizeLine := by
        have h1 := List.length_filter_le (cnd lo hi) ((List.range i).map fun k : Nat => (0 : Int) + k)
        rw [List.length_map, List.length_range] at h1
        rw [List.length_map, sizeLine_eq]
        omega
      have no : cnd lo hi (0 + i) = false → (L2.Same H H1 ∧ i + 1 ≤ 14 ∧ H1 D = some (.lst ((((List.range (i + 1)).map fun k : Nat => (0 : Int) + k).filter (cnd lo hi)).map V.int))) := fun hc => by
        rw [nums_succ, hc, if_neg Bool.false_ne_true, List.append_nil]
        exact ⟨s1, by omega, eD⟩
      have yes : cnd lo hi (0 + i) = true → ∃ acc, H1 D = some (.lst acc) ∧ acc.length < sizeLine ∧ (L2.Same H (L2.upd H1 D (.lst (acc ++ [.int (0 + i)]))) ∧ i + 1 ≤ 14 ∧ (L2.upd H1 D (.lst (acc ++ [.int (0 + i)]))) D = some (.lst ((((List.range (i + 1)).map fun k : Nat => (0 : Int) + k).filter (cnd lo hi)).map V.int))) := fun hc => by
        refine ⟨_, eD, lenOk, My.Same.at_ nD s1, by omega, ?_⟩
        rw [upd_same, nums_succ, hc, if_pos rfl, List.map_append]
        rfl
      walk_at "rd"
      refine ite_d (fun h1 => ?_) (fun h1 => ?_)
      · cases hi with
        | none =>
          walk_at "rd"
          exact yes (by unfold cnd; rw [decide_eq_true h1]; rfl)
        | some h =>
          walk_at "rd"
          refine ite_d (fun h2 => ?_) (fun h2 => ?_)
          · walk_at "rd"
            exact yes (by unfold cnd; rw [decide_eq_true h1]; exact decide_eq_true h2)
          · exact no (by unfold cnd; rw [decide_eq_true h1]; exact decide_eq_false h2)
      · exact no (by unfold cnd; rw [decide_eq_false h1]; rfl)
    · rintro H1 ⟨s1, hl, eD⟩
      exact q D H1 s1 eD
omit M
/-- what all sums, products of the two span -/
def found (lo : Int) (hi : Option Int) (lo2 : Int) (hi2 : Option Int) (s : Bool) (top : Int) : List Int := (nums lo hi top).flatMap fun a => (nums lo2 hi2 top).map fun b => if s then a + b else a * b
def bnd (lo : Int) (hi : Option Int) (lo2 : Int) (hi2 : Option Int) (s : Bool) : Int × Option Int := if s then (lo + lo2, oadd hi hi2) else (lo * lo2, omul hi hi2)
def ends (l : List Int) : Int × Int := (l.foldl min (l.headD 0), l.foldl max (l.headD 0))
def spanOk (lo : Int) (hi : Option Int) (lo2 : Int) (hi2 : Option Int) (s : Bool) : Bool :=
  let e := fun t => found lo hi lo2 hi2 s t
  let m := fun t => ends (e t)
  !(e 12).isEmpty && (!(e 13).isEmpty && (decide ((m 12).1 = (bnd lo hi lo2 hi2 s).1) && (decide ((m 13).1 = (bnd lo hi lo2 hi2 s).1) && decide ((if m 12 = m 13 then some (m 12).2 else none) = (bnd lo hi lo2 hi2 s).2))))
def nears : List (Int × Option Int) := ([0, 1, 2, 3] : List Int).flatMap fun l => (l, none) :: (([0, 1, 2, 3, 4, 5, 6] : List Int).filter (fun h => decide (l ≤ h))).map fun h => (l, some h)
theorem near_mem {lo : Int} {hi : Option Int} (h : Near lo hi) : (lo, hi) ∈ nears := by
  obtain ⟨h0, h1, h2⟩ := h
  have hl : lo = 0 ∨ lo = 1 ∨ lo = 2 ∨ lo = 3 := by omega
  cases hi with
  | none => rcases hl with rfl | rfl | rfl | rfl <;> decide
  | some g =>
    obtain ⟨g0, g1⟩ := h2 g rfl
    have hg : g = 0 ∨ g = 1 ∨ g = 2 ∨ g = 3 ∨ g = 4 ∨ g = 5 ∨ g = 6 := by omega
    rcases hl with rfl | rfl | rfl | rfl <;> rcases hg with rfl | rfl | rfl | rfl | rfl | rfl | rfl <;> first | decide | omega
theorem all_span : (nears.all fun p => nears.all fun q => spanOk p.1 p.2 q.1 q.2 true && spanOk p.1 p.2 q.1 q.2 false) = true := by decide +kernel
theorem span_ok {lo : Int} {hi : Option Int} {lo2 : Int} {hi2 : Option Int} (h : Near lo hi) (g : Near lo2 hi2) (s : Bool) : spanOk lo hi lo2 hi2 s = true := by
  have z := List.all_eq_true.mp (List.all_eq_true.mp all_span _ (near_mem h)) _ (near_mem g)
  rw [Bool.and_eq_true] at z
  cases s
  · exact z.2
  · exact z.1
end
end My
end
section
open My L2 PySem
open My L2 PySem
local macro_rules | `(tactic| walk_at "as") => `(tactic| with_reducible assumption)
local macro_rules | `(tactic| walk_at "hp") => `(tactic| first
  | walk_at "as" | exact upd_same
  | (rw [upd_ne (by walk_at "ne")]; walk_at "hp")
  | (refine But.get (by walk_at "as") ?hp1 ?hp2; (case hp1 => walk_at "hp"); (case hp2 => walk_at "ne"))
  | (refine My.Same.get (by walk_at "as") ?hp1; (case hp1 => walk_at "hp")))
local macro_rules | `(tactic| walk_at "ne") => `(tactic| first
  | walk_at "as" | exact Ne.symm (by walk_at "as")
  | (refine' ne_of_none ?ne1 ?ne2; (case ne2 => walk_at "as"); (case ne1 => walk_at "hp"))
  | (refine' Ne.symm (ne_of_none ?ne1 ?ne2); (case ne2 => walk_at "as"); (case ne1 => walk_at "hp"))
  | exact ne_of (by walk_at "hp") (by walk_at "hp") (by intro z; cases z))
local macro_rules | `(tactic| walk_at "sd") => `(tactic| first
  | walk_at "as" | omega | decide | exact ⟨by omega, by omega⟩ | exact .inl ⟨by omega, by omega⟩ | exact .inr ⟨by omega, by omega⟩ | exact divp_wide (by walk_at "as") (by walk_at "as") | exact Sm.cmul (by walk_at "as") (by walk_at "as") | exact cmul_small (by omega) (by omega) (by omega) (by omega) | exact ⟨by omega, by decide⟩)
local macro_rules | `(tactic| walk_at "bt") => `(tactic| first
  | walk_at "as" | exact But.refl _ _ | exact Same.but (by walk_at "as")
  | (refine But.trans ?bt1 But.at; (case bt1 => walk_at "bt"))
  | (refine But.trans ?bt1 (But.new (by first | walk_at "as" | walk_at "hp")); (case bt1 => walk_at "bt"))
  | (refine But.trans ?bt1 (by walk_at "as"); (case bt1 => walk_at "bt"))
  | (refine But.trans ?bt1 (Same.but (by walk_at "as")); (case bt1 => walk_at "bt")))
local macro_rules | `(tactic| walk_at "sm") => `(tactic| first
  | walk_at "as" | exact My.Same.rfl' _
  | (refine' My.Same.at_ ?sm1 ?sm2; (case sm1 => walk_at "as"); (case sm2 => walk_at "sm"))
  | (refine' My.Same.tr ?sm1 (My.Same.new ?sm2); (case sm2 => walk_at "as"); (case sm1 => walk_at "sm"))
  | (refine' My.Same.tr ?sm1 ?sm2; (case sm2 => walk_at "as"); (case sm1 => walk_at "sm")))
local macro_rules | `(tactic| walk_at "sz") => `(tactic| first
  | assumption | exact lt_size (by rfl) | exact le_size (by rfl) | (rw [sizeLine_eq]; omega)
  | (rw [sizeLine_eq]; simp only [List.length_append, List.length_map, List.length_cons, List.length_nil]; omega))
local macro_rules | `(tactic| walk_at "few") => `(tactic| (repeat refine few_put ?_); exact few0)
local macro_rules | `(tactic| walk_at "rd1") => `(tactic| first
  | (with_reducible show tVar _ _ _ _); refine s_var rfl ?_
  | with_reducible refine s_c ?_ | with_reducible refine s_op ?_ | with_reducible refine s_un ?_
  | with_reducible refine s_cons ?_ | with_reducible refine s_nil ?_ | with_reducible refine s_cb ?_
  | with_reducible refine s_test ?_ | with_reducible refine s_B ?_ | with_reducible refine s_not ?_ | with_reducible refine s_and ?_ | with_reducible refine s_or ?_
  | with_reducible refine s_if ?_ | with_reducible refine s_notV ?_ | with_reducible refine s_andV ?_ | with_reducible refine s_orV ?_
  | with_reducible refine s_orT ?_ | with_reducible refine s_andT ?_ | with_reducible refine s_chain ?_
  | with_reducible refine s_isi_int ?_ | with_reducible refine s_isi_int_bool ?_ | with_reducible refine s_isi_str ?_
  | with_reducible refine iteT ?_ | with_reducible refine iteF ?_ | with_reducible refine iteNT ?_ | with_reducible refine iteNF ?_
  | with_reducible refine s_isN ?_ | with_reducible refine s_notN ?_
  | ((with_reducible refine' s_2setE ?g1 ?_); (case g1 => first | (dsimp only [List.set, L2.wipe, List.map, List.foldl]; done) | (dsimp only [List.set, L2.wipe, List.map, List.foldl]; rfl)))
  | with_reducible refine s_seq ?_ | with_reducible refine s_ifS ?_ | with_reducible refine s_asg ?_ | with_reducible refine s_ret ?_ | with_reducible refine s_drop ?_ | with_reducible refine s_next ?_
  | ((with_reducible refine' s_gnameE ?g1 ?_); (case g1 => first | (dsimp only [List.set, L2.wipe, List.map, List.foldl]; done) | (dsimp only [List.set, L2.wipe, List.map, List.foldl]; rfl)))
  | with_reducible refine s_gsub ?_ | with_reducible refine s_gcons ?_ | with_reducible refine s_gnil ?_
  | (with_reducible show gTup _ _ _ _ _ _ _); refine s_gtup (by walk_at "hp") rfl ?_
  | with_reducible refine s_eqI ?_ | with_reducible refine s_neI ?_ | with_reducible refine s_eqS ?_ | with_reducible refine s_neB ?_ | with_reducible refine s_eqB ?_ | with_reducible refine s_neSr ?_ | with_reducible refine s_neS ?_
  | with_reducible refine s_I0 ?_
  | (with_reducible show rI _ _ _ _ _ _); refine s_I (by walk_at "sd") ?_
  | (with_reducible show rIxL _ _ _ _ _); refine s_ixL (by walk_at "hp") rfl ?_
  | (with_reducible show rIxT _ _ _ _ _); refine s_ixT (by walk_at "hp") rfl ?_
  | (with_reducible show rSetL _ _ _ _ _); refine s_setL (by walk_at "hp") rfl ?_
  | with_reducible refine s_prop ?_
  | (with_reducible show _ ≤ sizeLine ∧ _); refine ⟨le_size (by rfl), ?_⟩
  | with_reducible refine ite_NN ?_ | with_reducible refine ite_IN ?_ | with_reducible refine ite_nNN ?_ | with_reducible refine ite_nIN ?_ | with_reducible refine ite_RN ?_ | with_reducible refine ite_nRN ?_
  | with_reducible refine s_sfld ?_
  | ((with_reducible refine' ⟨_, _, _, _, rfl, ?fp1, ?fp2, ?fp3, ?fp4, ?_⟩); (case fp1 => walk_at "hp"); (case fp2 => assumption); (case fp3 => assumption); (case fp4 => walk_at "few"))
  | with_reducible refine s_fldE ?_
  | ((with_reducible refine' ⟨_, _, _, _, _, rfl, ?fp1, ?fp2, ?fp3, ?fp4, ?_⟩); (case fp1 => walk_at "hp"); (case fp2 => assumption); (case fp3 => assumption); (case fp4 => rfl))
  | with_reducible refine s_bm ?_ | with_reducible refine s_bm0 ?_
  | ((with_reducible refine' s_tyL ?ty1 ?_); (case ty1 => walk_at "hp"))
  | ((with_reducible refine' s_append ?ap1 ?ap2 ?_); (case ap1 => walk_at "hp"); (case ap2 => walk_at "sz"))
  | ((with_reducible refine' s_extend ?ap1 ?ap2 ?ap3 ?_); (case ap1 => walk_at "hp"); (case ap2 => walk_at "hp"); (case ap3 => walk_at "sz"))
  | with_reducible refine s_for (fun _ _ => ?_) | with_reducible refine s_lc ?_ | with_reducible refine s_iList ?_ | with_reducible refine s_iTup ?_ | with_reducible refine s_iRng1 ?_ | with_reducible refine s_iRng2 ?_
  | with_reducible refine s_yes ?_ | with_reducible refine s_par ?_
  | with_reducible refine s_make ?_ | with_reducible refine s_meth ?_
  | with_reducible refine s_tup ?_ | with_reducible refine s_lst ?_ | with_reducible refine s_call ?_
  | with_reducible refine ⟨rfl, ?_⟩
  | with_reducible refine ⟨_, rfl, ?_⟩
  | ((with_reducible refine' ⟨_, _, rfl, ?sd1, ?_⟩); (case sd1 => walk_at "sd"))
  | with_reducible refine ⟨_, _, rfl, ?_⟩
  | with_reducible refine .inl ⟨_, rfl, ?_⟩
  | dsimp only [List.set]
  | walk_at "rdx"
  | (refine fun _ _ => ?_))
local macro_rules | `(tactic| walk_at "rd") => `(tactic| repeat (first
  | (with_reducible show tVar _ _ _ _); refine s_var rfl ?_
  | with_reducible refine s_c ?_ | with_reducible refine s_op ?_ | with_reducible refine s_un ?_
  | with_reducible refine s_cons ?_ | with_reducible refine s_nil ?_ | with_reducible refine s_cb ?_
  | with_reducible refine s_test ?_ | with_reducible refine s_B ?_ | with_reducible refine s_not ?_ | with_reducible refine s_and ?_ | with_reducible refine s_or ?_
  | with_reducible refine s_if ?_ | with_reducible refine s_notV ?_ | with_reducible refine s_andV ?_ | with_reducible refine s_orV ?_
  | with_reducible refine s_orT ?_ | with_reducible refine s_andT ?_ | with_reducible refine s_chain ?_
  | with_reducible refine s_isi_int ?_ | with_reducible refine s_isi_int_bool ?_ | with_reducible refine s_isi_str ?_
  | with_reducible refine iteT ?_ | with_reducible refine iteF ?_ | with_reducible refine iteNT ?_ | with_reducible refine iteNF ?_
  | with_reducible refine s_isN ?_ | with_reducible refine s_notN ?_
  | ((with_reducible refine' s_2setE ?g1 ?_); (case g1 => first | (dsimp only [List.set, L2.wipe, List.map, List.foldl]; done) | (dsimp only [List.set, L2.wipe, List.map, List.foldl]; rfl)))
  | with_reducible refine s_seq ?_ | with_reducible refine s_ifS ?_ | with_reducible refine s_asg ?_ | with_reducible refine s_ret ?_ | with_reducible refine s_drop ?_ | with_reducible refine s_next ?_
  | ((with_reducible refine' s_gnameE ?g1 ?_); (case g1 => first | (dsimp only [List.set, L2.wipe, List.map, List.foldl]; done) | (dsimp only [List.set, L2.wipe, List.map, List.foldl]; rfl)))
  | with_reducible refine s_gsub ?_ | with_reducible refine s_gcons ?_ | with_reducible refine s_gnil ?_
  | (with_reducible show gTup _ _ _ _ _ _ _); refine s_gtup (by walk_at "hp") rfl ?_
  | with_reducible refine s_eqI ?_ | with_reducible refine s_neI ?_ | with_reducible refine s_eqS ?_ | with_reducible refine s_neB ?_ | with_reducible refine s_eqB ?_ | with_reducible refine s_neSr ?_ | with_reducible refine s_neS ?_
  | with_reducible refine s_I0 ?_
  | (with_reducible show rI _ _ _ _ _ _); refine s_I (by walk_at "sd") ?_
  | (with_reducible show rIxL _ _ _ _ _); refine s_ixL (by walk_at "hp") rfl ?_
  | (with_reducible show rIxT _ _ _ _ _); refine s_ixT (by walk_at "hp") rfl ?_
  | (with_reducible show rSetL _ _ _ _ _); refine s_setL (by walk_at "hp") rfl ?_
  | with_reducible refine s_prop ?_
  | (with_reducible show _ ≤ sizeLine ∧ _); refine ⟨le_size (by rfl), ?_⟩
  | with_reducible refine ite_NN ?_ | with_reducible refine ite_IN ?_ | with_reducible refine ite_nNN ?_ | with_reducible refine ite_nIN ?_ | with_reducible refine ite_RN ?_ | with_reducible refine ite_nRN ?_
  | with_reducible refine s_sfld ?_
  | ((with_reducible refine' ⟨_, _, _, _, rfl, ?fp1, ?fp2, ?fp3, ?fp4, ?_⟩); (case fp1 => walk_at "hp"); (case fp2 => assumption); (case fp3 => assumption); (case fp4 => walk_at "few"))
  | with_reducible refine s_fldE ?_
  | ((with_reducible refine' ⟨_, _, _, _, _, rfl, ?fp1, ?fp2, ?fp3, ?fp4, ?_⟩); (case fp1 => walk_at "hp"); (case fp2 => assumption); (case fp3 => assumption); (case fp4 => rfl))
  | with_reducible refine s_bm ?_ | with_reducible refine s_bm0 ?_
  | ((with_reducible refine' s_tyL ?ty1 ?_); (case ty1 => walk_at "hp"))
  | ((with_reducible refine' s_append ?ap1 ?ap2 ?_); (case ap1 => walk_at "hp"); (case ap2 => walk_at "sz"))
  | ((with_reducible refine' s_extend ?ap1 ?ap2 ?ap3 ?_); (case ap1 => walk_at "hp"); (case ap2 => walk_at "hp"); (case ap3 => walk_at "sz"))
  | with_reducible refine s_for (fun _ _ => ?_) | with_reducible refine s_lc ?_ | with_reducible refine s_iList ?_ | with_reducible refine s_iTup ?_ | with_reducible refine s_iRng1 ?_ | with_reducible refine s_iRng2 ?_
  | with_reducible refine s_yes ?_ | with_reducible refine s_par ?_
  | with_reducible refine s_make ?_ | with_reducible refine s_meth ?_
  | with_reducible refine s_tup ?_ | with_reducible refine s_lst ?_ | with_reducible refine s_call ?_
  | with_reducible refine ⟨rfl, ?_⟩
  | with_reducible refine ⟨_, rfl, ?_⟩
  | ((with_reducible refine' ⟨_, _, rfl, ?sd1, ?_⟩); (case sd1 => walk_at "sd"))
  | with_reducible refine ⟨_, _, rfl, ?_⟩
  | with_reducible refine .inl ⟨_, rfl, ?_⟩
  | dsimp only [List.set]
  | walk_at "rdx"
  | (refine fun _ _ => ?_)))

namespace My
open PySem L2
section
variable {P : Program} {w : World} {K : PySem.W.Frag} {mg : Str → Option Value} {base : Heap} {C_Many C_Ratio C_EachError C_InvalidMany L__law_odd_right : Addr} (M : Md K mg C_Many C_Ratio C_EachError C_InvalidMany L__law_odd_right)
include M
local macro_rules | `(tactic| walk_at "rdx") => `(tactic| first | with_reducible refine s_ostG ?_ | with_reducible refine s_raE ?_ | with_reducible refine s_callX ?_ | with_reducible refine s_opX ?_ | with_reducible refine s_reflX ?_)
omit M
def spBnd : Sp := fun vs H Q _ => ∃ (p q : Addr) (lo : Int) (hi : Option Int) (lo2 : Int) (hi2 : Option Int) (s : Bool), vs = [.ref p, .ref q, .bl s] ∧ PairAt H p lo hi ∧ PairAt H q lo2 hi2 ∧ Far lo hi ∧ Far lo2 hi2 ∧ ∀ t H', L2.Same H H' → PairAt H' t (bnd lo hi lo2 hi2 s).1 (bnd lo hi lo2 hi2 s).2 → Q (.ref t) H'
def spSpan : Sp := fun vs H Q _ => ∃ (p q : Addr) (lo : Int) (hi : Option Int) (lo2 : Int) (hi2 : Option Int) (s : Bool), vs = [.ref p, .ref q, .bl s] ∧ PairAt H p lo hi ∧ PairAt H q lo2 hi2 ∧ Near lo hi ∧ Near lo2 hi2 ∧ ∀ t H', L2.Same H H' → PairAt H' t (bnd lo hi lo2 hi2 s).1 (bnd lo hi lo2 hi2 s).2 → Q (.ref t) H'
theorem in_pair {K : PySem.W.Frag} {H : Hp} {Q : VK} {T : Addr} {x : V} {a b : Option Int} {r : Bool} (fx : flatV x = true) (e : inV x [optV a, optV b] = r) (q : Q (.bl r) (upd H T (.tup [optV a, optV b]))) : rIn K false x (.ref T) (upd H T (.tup [optV a, optV b])) Q := by
  refine ⟨T, _, rfl, .inr (SqT.of upd_same), fx, ?_, ?_⟩
  · cases a <;> cases b <;> rfl
  · rw [e]
    exact q
theorem in_0 (a b : Option Int) : inV (.int 0) [optV a, optV b] = decide (a = some 0 ∨ b = some 0) := by
  cases a with
  | none =>
    cases b with
    | none => rfl
    | some y =>
      rw [Bool.eq_iff_iff]
      simp [inV, eqV]
  | some x =>
    cases b with
    | none =>
      rw [Bool.eq_iff_iff]
      simp [inV, eqV]
    | some y =>
      rw [Bool.eq_iff_iff]
      simp [inV, eqV]
theorem in_N (a b : Option Int) : inV .non [optV a, optV b] = decide (a = none ∨ b = none) := by
  cases a with
  | none =>
    cases b with
    | none => rfl
    | some y => rfl
  | some x =>
    cases b with
    | none => rfl
    | some y => rfl
theorem fmin_le : ∀ (l : List Int) (a : Int), l.foldl min a ≤ a ∧ (∀ y ∈ l, l.foldl min a ≤ y) ∧ (l.foldl min a = a ∨ l.foldl min a ∈ l)
  | [], a => ⟨Int.le_refl _, (fun y h => nomatch h), .inl rfl⟩
  | b :: r, a => by
    obtain ⟨h1, h2, h3⟩ := fmin_le r (min a b)
    have e : (b :: r).foldl min a = r.foldl min (min a b) := rfl
    rw [e]
    refine ⟨by omega, fun y hy => ?_, ?_⟩
    · rcases List.mem_cons.mp hy with z | z
      · omega
      · exact h2 y z
    · rcases h3 with z | z
      · rcases (show min a b = a ∨ min a b = b by omega) with y | y
        · exact .inl (z.trans y)
        · exact .inr (by rw [z, y]; exact List.mem_cons_self)
      · exact .inr (List.mem_cons_of_mem _ z)
theorem fmax_le : ∀ (l : List Int) (a : Int), a ≤ l.foldl max a ∧ (∀ y ∈ l, y ≤ l.foldl max a) ∧ (l.foldl max a = a ∨ l.foldl max a ∈ l)
  | [], a => ⟨Int.le_refl _, (fun y h => nomatch h), .inl rfl⟩
  | b :: r, a => by
    obtain ⟨h1, h2, h3⟩ := fmax_le r (max a b)
    have e : (b :: r).foldl max a = r.foldl max (max a b) := rfl
    rw [e]
    refine ⟨by omega, fun y hy => ?_, ?_⟩
    · rcases List.mem_cons.mp hy with z | z
      · omega
      · exact h2 y z
    · rcases h3 with z | z
      · rcases (show max a b = a ∨ max a b = b by omega) with y | y
        · exact .inl (z.trans y)
        · exact .inr (by rw [z, y]; exact List.mem_cons_self)
      · exact .inr (List.mem_cons_of_mem _ z)
theorem ends_min {l : List Int} {m : Int} (h : m ∈ l) (g : ∀ y ∈ l, m ≤ y) : m = (ends l).1 := by
  obtain ⟨h1, h2, h3⟩ := fmin_le l (l.headD 0)
  have hh : l.headD 0 ∈ l := by
    cases l with
    | nil => cases h
    | cons a r => exact List.mem_cons_self
  have a1 : (ends l).1 ∈ l := by
    rcases h3 with z | z
    · show l.foldl min (l.headD 0) ∈ l
      rw [z]
      exact hh
    · exact z
  have a2 := g _ a1
  have a3 : (ends l).1 ≤ m := h2 m h
  omega
theorem ends_max {l : List Int} {m : Int} (h : m ∈ l) (g : ∀ y ∈ l, y ≤ m) : m = (ends l).2 := by
  obtain ⟨h1, h2, h3⟩ := fmax_le l (l.headD 0)
  have hh : l.headD 0 ∈ l := by
    cases l with
    | nil => cases h
    | cons a r => exact List.mem_cons_self
  have a1 : (ends l).2 ∈ l := by
    rcases h3 with z | z
    · show l.foldl max (l.headD 0) ∈ l
      rw [z]
      exact hh
    · exact z
  have a2 := g _ a1
  have a3 : m ≤ (ends l).2 := h2 m h
  omega
theorem nums_bd {lo : Int} {hi : Option Int} {top x : Int} (h : x ∈ nums lo hi top) (ht : 0 ≤ top) : 0 ≤ x ∧ x ≤ top := by
  obtain ⟨h1, _⟩ := List.mem_filter.mp h
  obtain ⟨i, hi, rfl⟩ := List.mem_map.mp h1
  have := List.mem_range.mp hi
  omega
theorem nums_len {lo : Int} {hi : Option Int} {top : Int} (ht : 0 ≤ top) (h : top ≤ 13) : (nums lo hi top).length ≤ 14 := by
  have h1 := List.length_filter_le (cnd lo hi) ((List.range (top + 1).toNat).map fun k : Nat => (0 : Int) + k)
  rw [List.length_map, List.length_range] at h1
  exact Nat.le_trans h1 (by omega)
theorem eqv2 (x y : Int × Int) : PyData.eqv (.list [.int x.1, .int x.2]) (.list [.int y.1, .int y.2]) = decide (x = y) := by
  rw [Bool.eq_iff_iff]
  simp [PyData.eqv, PyData.eqvAll, Prod.ext_iff]
def cmb (s : Bool) (a b : Int) : Int := if s then a + b else a * b
def pre (lo : Int) (hi : Option Int) (lo2 : Int) (hi2 : Option Int) (s : Bool) (top : Int) (k : Nat) : List Int := ((nums lo hi top).take k).flatMap fun a => (nums lo2 hi2 top).map (cmb s a)
theorem pre_succ {lo : Int} {hi : Option Int} {lo2 : Int} {hi2 : Option Int} {s : Bool} {top a : Int} {k : Nat} (h : (nums lo hi top)[k]? = some a) : pre lo hi lo2 hi2 s top (k + 1) = pre lo hi lo2 hi2 s top k ++ (nums lo2 hi2 top).map (cmb s a) := by
  unfold pre
  rw [List.take_add_one, h, List.flatMap_append]
  congr 1
  show [a].flatMap _ = _
  rw [List.flatMap_singleton]
theorem pre_all {lo : Int} {hi : Option Int} {lo2 : Int} {hi2 : Option Int} {s : Bool} {top : Int} : pre lo hi lo2 hi2 s top (nums lo hi top).length = found lo hi lo2 hi2 s top := by
  unfold pre found
  rw [List.take_length]
  rfl
theorem pre_len {lo : Int} {hi : Option Int} {lo2 : Int} {hi2 : Option Int} {s : Bool} {top : Int} {k : Nat} (ht : 0 ≤ top) (h : top ≤ 13) : (pre lo hi lo2 hi2 s top k).length ≤ k * 14 := by
  induction k with
  | zero => exact Nat.le_of_eq (by unfold pre; rfl)
  | succ k ih =>
    cases e : (nums lo hi top)[k]? with
    | none =>
      have e2 : pre lo hi lo2 hi2 s top (k + 1) = pre lo hi lo2 hi2 s top k := by
        unfold pre
        rw [List.take_add_one, e]
        simp
      rw [e2]
      omega
    | some a =>
      rw [pre_succ e, List.length_append, List.length_map]
      have := nums_len (lo := lo2) (hi := hi2) ht h
      omega
theorem sm30 {x : Int} (h0 : 0 ≤ x) (h : x ≤ 10 ^ 30) : Sm 110 x := by
  show x.natAbs < 2 ^ 110
  have e : (2 : Nat) ^ 110 = 1298074214633706907132624082305024 := by decide +kernel
  omega
include M
theorem c__law_bounds : Dn P w K mg base "_law_bounds" 3 ["_law_first", "_law_second", "_law_is_sum"] [] spBnd := by
  refine dnN M.f__law_bounds (fun F => ?_) (fun _ _ _ _ _ _ us hl => match us, hl with | [_, _, _], _ => rfl)
  refine fnG_body F sc__law_bounds (fun vs H Q E h => ?_) (fun cdv A outer s H vs Q E hr h => ?_)
  · obtain ⟨p, q, lo, hi, lo2, hi2, s, rfl, _⟩ := h
    rfl
  · obtain ⟨p, q, lo, hi, lo2, hi2, b, rfl, hp, hq, f1, f2, k⟩ := h
    have hp' : H p = some (.tup [.int lo, optV hi]) := hp
    have hq' : H q = some (.tup [.int lo2, optV hi2]) := hq
    refine ⟨_, (pss_cons (ps_if (pt_val (pv 2)) (pss_cons (ps_set (i := 3) sc__law_bounds.nd rfl (.inl rfl) (pe_ifExp (PW.pt (pw_or (pt_cmpR op_isN (pe_ix ix_tup (pv 0) pe_int (fun _ _ => rfl)) pe_non (nomark _)) (pw_or1 (pt_cmpR op_isN (pe_ix ix_tup (pv 1) pe_int (fun _ _ => rfl)) pe_non (nomark _))))) pe_non (pe_op op_add (pe_ix ix_tup (pv 0) pe_int (fun _ _ => rfl)) (pe_ix ix_tup (pv 1) pe_int (fun _ _ => rfl))))) (pss_one (ps_ret (pe_tup (pa_cons (pe_op op_add (pe_ix ix_tup (pv 0) pe_int (fun _ _ => rfl)) (pe_ix ix_tup (pv 1) pe_int (fun _ _ => rfl))) (pa_cons (pv 3) pa_nil)))))) pss_nil) (pss_cons (ps_set (i := 4) sc__law_bounds.nd rfl (.inl rfl) (pe_op op_mulW (pe_ix ix_tup (pv 0) pe_int (fun _ _ => rfl)) (pe_ix ix_tup (pv 1) pe_int (fun _ _ => rfl)))) (pss_cons (ps_if (pt_cmpR op_in_seq pe_int (pe_tup (pa_cons (pe_ix ix_tup (pv 0) pe_int (fun _ _ => rfl)) (pa_cons (pe_ix ix_tup (pv 1) pe_int (fun _ _ => rfl)) pa_nil))) (by first | exact nomark _ | rfl)) (pss_one (ps_ret (pe_tup (pa_cons (pv 4) (pa_cons pe_int pa_nil))))) pss_nil) (pss_one (ps_ret (pe_tup (pa_cons (pv 4) (pa_cons (pe_ifExp (pt_cmpR op_in_seq pe_non (pe_tup (pa_cons (pe_ix ix_tup (pv 0) pe_int (fun _ _ => rfl)) (pa_cons (pe_ix ix_tup (pv 1) pe_int (fun _ _ => rfl)) pa_nil))) (by first | exact nomark _ | rfl)) pe_non (pe_op op_mulW (pe_ix ix_tup (pv 0) pe_int (fun _ _ => rfl)) (pe_ix ix_tup (pv 1) pe_int (fun _ _ => rfl)))) pa_nil)))))))), ?_⟩
    refine st_eq (σ := [some _, some _, some _, none, none]) rfl ?_
    cases b with
    | true =>
      cases hi with
      | none =>
        walk_at "rd"
        rename_i T nT
        exact k T _ (My.Same.new nT) upd_same
      | some h =>
        cases hi2 with
        | none =>
          walk_at "rd"
          rename_i T nT
          exact k T _ (My.Same.new nT) upd_same
        | some g =>
          walk_at "rd"
          rename_i T nT
          exact k T _ (My.Same.new nT) upd_same
    | false =>
      have w1 : CMulW lo lo2 := Sm.cmul (sm30 f1.1 f1.2.1) (sm30 f2.1 f2.2.1)
      walk_at "rd"
      rename_i T nT
      have hp2 : (upd H T (.tup [optV hi, optV hi2])) p = some (.tup [.int lo, optV hi]) := (My.Same.new nT) _ _ hp'
      have hq2 : (upd H T (.tup [optV hi, optV hi2])) q = some (.tup [.int lo2, optV hi2]) := (My.Same.new nT) _ _ hq'
      have s2 := My.Same.new (o := .tup [optV hi, optV hi2]) nT
      refine in_pair rfl (in_0 hi hi2) ⟨_, rfl, ?_⟩
      generalize upd H T (.tup [optV hi, optV hi2]) = H2 at hp2 hq2 s2 ⊢
      refine ite_d (fun z => ?_) (fun z => ?_)
      · have e : bnd lo hi lo2 hi2 false = (lo * lo2, some 0) := by
          unfold bnd omul
          rw [if_neg Bool.false_ne_true, if_pos z]
        rw [e] at k
        walk_at "rd"
        rename_i U nU
        exact k U _ (s2.trans (My.Same.new nU)) upd_same
      · walk_at "rd"
        rename_i U nU
        have hp3 : (upd H2 U (.tup [optV hi, optV hi2])) p = some (.tup [.int lo, optV hi]) := (My.Same.new nU) _ _ hp2
        have hq3 : (upd H2 U (.tup [optV hi, optV hi2])) q = some (.tup [.int lo2, optV hi2]) := (My.Same.new nU) _ _ hq2
        have s3 := s2.trans (My.Same.new (o := .tup [optV hi, optV hi2]) nU)
        refine in_pair rfl (in_N hi hi2) ⟨_, rfl, ?_⟩
        generalize upd H2 U (.tup [optV hi, optV hi2]) = H3 at hp3 hq3 s3 ⊢
        have e : bnd lo hi lo2 hi2 false = (lo * lo2, match hi, hi2 with
          | some x, some y => some (x * y)
          | _, _ => none) := by
          unfold bnd omul
          rw [if_neg Bool.false_ne_true, if_neg z]
          cases hi <;> cases hi2 <;> rfl
        rw [e] at k
        refine ite_d (fun n => ?_) (fun n => ?_)
        · walk_at "rd"
          rename_i V nV
          refine k V _ (s3.trans (My.Same.new nV)) (upd_same.trans ?_)
          cases hi with
          | none => rfl
          | some h =>
            cases hi2 with
            | none => rfl
            | some g => simp at n
        · cases hi with
          | none => exact absurd (.inl rfl) n
          | some h =>
            cases hi2 with
            | none => exact absurd (.inr rfl) n
            | some g =>
              have w2 : CMulW h g := Sm.cmul (sm30 (Int.le_trans f1.1 (f1.2.2 h rfl).1) (f1.2.2 h rfl).2) (sm30 (Int.le_trans f2.1 (f2.2.2 g rfl).1) (f2.2.2 g rfl).2)
              walk_at "rd"
              rename_i V nV
              exact k V _ (s3.trans (My.Same.new nV)) upd_same
theorem c__law_spanned : Dn P w K mg base "_law_spanned" 5 ["_law_first", "_law_second", "_law_is_sum"] [] spSpan := by
  have c__law_numbers := c__law_numbers (P := P) (w := w) (base := base) M
  refine dnN M.f__law_spanned (fun F => ?_) (fun _ _ _ _ _ _ us hl => match us, hl with | [_, _, _], _ => rfl)
  refine fnG_body F sc__law_spanned (fun vs H Q E h => ?_) (fun cdv A outer s H vs Q E hr h => ?_)
  · obtain ⟨p, q, lo, hi, lo2, hi2, s, rfl, _⟩ := h
    rfl
  · obtain ⟨p, q, lo, hi, lo2, hi2, b, rfl, hp, hq, f1, f2, k⟩ := h
    refine ⟨_, (pss_cons (ps_set (i := 3) sc__law_spanned.nd rfl (.inl rfl) (pe_lst pa_nil)) (pss_cons (ps_for (passes_of rfl) rfl (pi_list (pe_lst (pa_cons pe_int (pa_cons pe_int pa_nil)))) (pg_name (i := 4) sc__law_spanned.nd rfl (.inl rfl)) (pss_cons (ps_set (i := 5) sc__law_spanned.nd rfl (.inl rfl) (pe_lst pa_nil)) (pss_cons (ps_for (passes_of rfl) rfl (pi_list (pe_callD c__law_numbers (hr.mono (by decide)) rfl (pa_cons (pv 0) (pa_cons (pv 4) pa_nil)))) (pg_name (i := 6) sc__law_spanned.nd rfl (.inr rfl)) (pss_one (ps_set (i := 5) sc__law_spanned.nd rfl (.inl rfl) (pe_op op_cat (pv 5) (pe_lc (own := [("_law_two", 7)]) (g := gName 7) (tt := tYes) (by rfl) sc__law_spanned.nd (pi_list (pe_callD c__law_numbers (hr.mono (by decide)) rfl (pa_cons (pv 1) (pa_cons (pv 4) pa_nil)))) (blkOk_by (own := [("_law_two", 7)]) (N := N__law_spanned) (sc := defScope st__law_spanned) (by decide +kernel)) (fun _ _ _ _ _ => pg_name (i := 7) sc__law_spanned.nd rfl (by first | exact Or.inl rfl | exact Or.inr rfl)) (fun _ _ _ _ _ => pts_nil) (fun _ _ _ _ _ => (pe_ifExp (pt_val (pv 2)) (pe_op op_add (pv 6) (pv 7)) (pe_op op_mulW (pv 6) (pv 7))))))))) (pss_one (ps_expr (pe_bm PySem.F.plainAttrs_list PySem.F.slot_list_append PySem.F.type_list_append mt_append (pv 3) (pa_cons (pe_lst (pa_cons (pe_callB (cr_min rfl) (by rfl) M.b_min (by decide +kernel) (pa_cons (pv 5) pa_nil)) (pa_cons (pe_callB (cr_max rfl) (by rfl) M.b_max (by decide +kernel) (pa_cons (pv 5) pa_nil)) pa_nil))) pa_nil))))))) (pss_one (ps_ret (pe_tup (pa_cons (pe_ix ix_list (pe_ix ix_list (pv 3) pe_int (fun _ _ => rfl)) pe_int (fun _ _ => rfl)) (pa_cons (pe_ifExp (pt_cmpR (op_eqD hr.units) (pe_ix ix_list (pv 3) pe_int (fun _ _ => rfl)) (pe_ix ix_list (pv 3) pe_int (fun _ _ => rfl)) (nomark _)) (pe_ix ix_list (pe_ix ix_list (pv 3) pe_int (fun _ _ => rfl)) pe_int (fun _ _ => rfl)) pe_non) pa_nil))))))), ?_⟩
    refine st_eq (σ := [some _, some _, some _, none, none, none, none, none]) rfl ?_
    walk_at "rd"
    rename_i L1 n1 DE eDE T nT
    have sp := span_ok f1 f2 b
    unfold spanOk at sp
    simp only [Bool.and_eq_true, Bool.not_eq_true', decide_eq_true_eq] at sp
    obtain ⟨p1, p2, p3, p4, p5⟩ := sp
    have ne : ∀ t : Int, (t = 12 ∨ t = 13) → found lo hi lo2 hi2 b t ≠ [] := fun t ht z => by
      rcases ht with rfl | rfl
      · rw [z] at p1
        cases p1
      · rw [z] at p2
        cases p2
    have TL : T ≠ L1 := (ne_of_none upd_same nT).symm
    have s0 : L2.Same H (upd (upd H L1 (.lst [])) T (.lst [.int 12, .int 13])) := My.Same.tr (My.Same.new n1) (My.Same.new nT)
    have e0 : (upd (upd H L1 (.lst [])) T (.lst [.int 12, .int 13])) L1 = some (.lst []) := by rw [upd_ne TL.symm, upd_same]
    have e1 : (upd (upd H L1 (.lst [])) T (.lst [.int 12, .int 13])) T = some (.lst [.int 12, .int 13]) := upd_same
    generalize upd (upd H L1 (.lst [])) T (.lst [.int 12, .int 13]) = H0 at s0 e0 e1 ⊢
    refine ⟨⟨_, SqL.of e1⟩, for_it (walk_list (xs := [.int 12, .int 13])) (fun i σ H' => L2.Same H H' ∧ H' T = some (.lst [.int 12, .int 13]) ∧ (∃ v4 v5 v6 v7 : Option V, σ = [some (.ref p), some (.ref q), some (.bl b), some (.ref L1), v4, v5, v6, v7]) ∧
      ∃ es : List V, H' L1 = some (.lst es) ∧ es.length = i ∧ ∀ (j : Nat) (v : V), es[j]? = some v → ∃ a : Addr, v = .ref a ∧ a ≠ L1 ∧ H' a = some (.lst [.int (ends (found lo hi lo2 hi2 b (12 + (j : Int)))).1, .int (ends (found lo hi lo2 hi2 b (12 + (j : Int)))).2])) ?_ ?_ ?_ ?_⟩
    · exact ⟨s0, e1, ⟨_, _, _, _, rfl⟩, [], e0, rfl, fun j v z => by cases z⟩
    · exact fun i σ H' _ h => SqL.of h.2.1
    · rintro i x σ H1 H1' hi1 ⟨s1, eT, ⟨v4, v5, v6, v7, rfl⟩, es, eL, el, hes⟩ ⟨rfl, hx⟩
      obtain ⟨t, ht, ht2, rfl⟩ : ∃ t : Int, (t = 12 + (i : Int)) ∧ (t = 12 ∨ t = 13) ∧ x = .int t := by
        match i, hx with
        | 0, hx =>
          cases hx
          exact ⟨12, rfl, .inl rfl, rfl⟩
        | 1, hx =>
          cases hx
          exact ⟨13, rfl, .inr rfl, rfl⟩
        | n + 2, hx => simp at hx
      have t0 : 0 ≤ t := by omega
      have t1 : t ≤ 13 := by omega
      walk_at "rd"
      rename_i F0 nF0 DE2 eDE2
      have s2 : L2.Same H1' (upd H1' F0 (.lst [])) := My.Same.new nF0
      have eF : (upd H1' F0 (.lst [])) F0 = some (.lst []) := upd_same
      have nFL : F0 ≠ L1 := (ne_of_none eL nF0).symm
      generalize upd H1' F0 (.lst []) = H2 at s2 eF ⊢
      have s12 := s1.trans s2
      refine ⟨p, lo, hi, t, rfl, hp.same s12, t0, t1, fun l H3 s3 el3 => ?_⟩
      have s13 := s12.trans s3
      refine ⟨l, rfl, ⟨_, SqL.of el3⟩, for_it (walk_list (xs := (nums lo hi t).map V.int)) (fun k σ H' => L2.Same H3 H' ∧ ∃ (F : Addr) (v6 v7 : Option V), σ = [some (.ref p), some (.ref q), some (.bl b), some (.ref L1), some (.int t), some (.ref F), v6, v7] ∧ F ≠ L1 ∧ H' F = some (.lst ((pre lo hi lo2 hi2 b t k).map V.int))) ?_ ?_ ?_ ?_⟩
      · exact ⟨L2.Same.refl _, F0, v6, v7, rfl, nFL, s3 _ _ eF⟩
      · exact fun k σ H' _ h => SqL.of (h.1 _ _ el3)
      · rintro k x σ H4 H4' hk ⟨s4, F, v6, v7, rfl, nF, eF4⟩ ⟨rfl, hx2⟩
        obtain ⟨a, ha, rfl⟩ : ∃ a, (nums lo hi t)[k]? = some a ∧ x = .int a := by
          rw [List.getElem?_map] at hx2
          cases e : (nums lo hi t)[k]? with
          | none =>
            rw [e] at hx2
            cases hx2
          | some a =>
            rw [e] at hx2
            exact ⟨a, rfl, (Option.some.inj hx2).symm⟩
        have ba := nums_bd (List.mem_of_getElem? ha) t0
        have hk2 : k < 14 := by
          have h1 := nums_len (lo := lo) (hi := hi) t0 t1
          rw [List.length_map] at hk
          omega
        walk_at "rd"
        refine ⟨q, lo2, hi2, t, rfl, hq.same (s13.trans s4), t0, t1, fun l2 H5 s5 el5 => ?_⟩
        have n14 := nums_len (lo := lo2) (hi := hi2) t0 t1
        refine ⟨l2, rfl, ⟨_, SqL.of el5⟩, fun D nD => list_lcF (fun j => .int (cmb b a ((nums lo2 hi2 t).getD j 0))) (SqL.of el5) nD (by rw [List.length_map]; omega) ?_ ?_⟩
        · intro j y H6 R G hy s6 hD hR
          obtain ⟨c, hc, rfl⟩ : ∃ c, (nums lo2 hi2 t)[j]? = some c ∧ y = .int c := by
            rw [List.getElem?_map] at hy
            cases e : (nums lo2 hi2 t)[j]? with
            | none =>
              rw [e] at hy
              cases hy
            | some c =>
              rw [e] at hy
              exact ⟨c, rfl, (Option.some.inj hy).symm⟩
          have bc := nums_bd (List.mem_of_getElem? hc) t0
          have hg : (nums lo2 hi2 t).getD j 0 = c := by
            rw [List.getD_eq_getElem?_getD, hc]
            rfl
          have hR2 := hR H6 (L2.Same.refl _)
          rw [hg] at hR2
          cases b with
          | true =>
            walk_at "rd"
            exact hR2
          | false =>
            have w3 : CMulW a c := cmul_small (by omega) (by omega) (by omega) (by omega)
            walk_at "rd"
            exact hR2
        · intro H6 s6 eD6
          have el : (List.range ((nums lo2 hi2 t).map V.int).length).map (fun j => V.int (cmb b a ((nums lo2 hi2 t).getD j 0))) = ((nums lo2 hi2 t).map (cmb b a)).map V.int := by
            refine List.ext_getElem (by simp) fun j h1 h2 => ?_
            simp only [List.length_map, List.length_range] at h1
            rw [List.getElem_map, List.getElem_range, List.getElem_map, List.getElem_map, List.getD_eq_getElem?_getD, List.getElem?_eq_getElem h1]
            rfl
          rw [el] at eD6
          refine ⟨F, D, _, _, rfl, rfl, s6 _ _ (s5 _ _ eF4), eD6, ?_, fun M2 nM2 => ?_⟩
          · have h3 := pre_len (lo := lo) (hi := hi) (lo2 := lo2) (hi2 := hi2) (s := b) (k := k) t0 t1
            rw [List.length_map, List.length_map, List.length_map, sizeLine_eq]
            omega
          walk_at "rd"
          subst eDE2
          refine ⟨(s4.trans s5).trans (s6.trans (My.Same.new nM2)), M2, _, _, rfl, ?_, ?_⟩
          · exact (ne_of_none (s6 _ _ (s5 _ _ ((s3.trans s4) _ _ (s2 _ _ eL)))) nM2).symm
          · rw [upd_same, pre_succ ha, List.map_append]
      · rintro σ H4 ⟨s4, F, v6, v7, rfl, nF, eF4⟩
        rw [List.length_map, pre_all] at eF4
        subst eDE2
        have hne := ne t ht2
        have eL4 : H4 L1 = some (.lst es) := (s3.trans s4) _ _ (s2 _ _ eL)
        have pos : 0 < (found lo hi lo2 hi2 b t).length := by
          cases e : found lo hi lo2 hi2 b t with
          | nil => exact absurd e hne
          | cons _ _ => exact Nat.succ_pos _
        walk_at "rd"
        refine ⟨F, _, rfl, SqL.of eF4, pos, fun m1 hm1 hl1 => ?_⟩
        walk_at "rd"
        refine ⟨F, _, rfl, SqL.of eF4, pos, fun m2 hm2 hl2 => ?_⟩
        rw [ends_min hm1 hl1, ends_max hm2 hl2]
        walk_at "rd"
        rename_i Z nZ
        have s14 : L2.Same H1' H4 := s2.trans (s3.trans s4)
        have eT4 := s14 _ _ eT
        refine ⟨My.Same.at_ n1 ((s1.trans s14).trans (My.Same.new nZ)), ?_, ⟨_, _, _, _, rfl⟩, es ++ [.ref Z], upd_same, by rw [List.length_append, el]; rfl, fun j v hv => ?_⟩
        · rw [upd_ne TL, upd_ne (ne_of_none eT4 nZ)]
          exact eT4
        · rcases Nat.lt_or_ge j es.length with hj | hj
          · rw [List.getElem?_append_left hj] at hv
            obtain ⟨a, rfl, na, ea⟩ := hes j v hv
            have ea4 := s14 _ _ ea
            refine ⟨a, rfl, na, ?_⟩
            rw [upd_ne na, upd_ne (ne_of_none ea4 nZ)]
            exact ea4
          · rw [List.getElem?_append_right hj] at hv
            have ej : j = i := by
              rcases Nat.eq_or_lt_of_le hj with e | e
              · omega
              · rw [List.getElem?_eq_none (by simp; omega)] at hv
                cases hv
            subst ej
            rw [el, Nat.sub_self] at hv
            have e2 := (Option.some.inj hv).symm
            have nZL : Z ≠ L1 := (ne_of_none eL4 nZ).symm
            refine ⟨Z, e2, nZL, ?_⟩
            rw [upd_ne nZL, upd_same, ht]
    · rintro σ H1 ⟨s1, eT, ⟨v4, v5, v6, v7, rfl⟩, es, eL, el, hes⟩
      subst eDE
      match es, el with
      | [e0v, e1v], _ =>
      obtain ⟨a0, rfl, _, ea0⟩ := hes 0 _ rfl
      obtain ⟨a1, rfl, _, ea1⟩ := hes 1 _ rfl
      have ea0 : H1 a0 = some (.lst [.int (ends (found lo hi lo2 hi2 b 12)).1, .int (ends (found lo hi lo2 hi2 b 12)).2]) := ea0
      have ea1 : H1 a1 = some (.lst [.int (ends (found lo hi lo2 hi2 b 13)).1, .int (ends (found lo hi lo2 hi2 b 13)).2]) := ea1
      walk_at "rd"
      refine ⟨.list [.int _, .int _], .list [.int _, .int _], .lst (SqL.of ea0) (.cons (.int _) (.cons (.int _) .nil)), .lst (SqL.of ea1) (.cons (.int _) (.cons (.int _) .nil)), rfl, rfl, _, rfl, ?_⟩
      rw [eqv2]
      refine ite_d (fun he => ?_) (fun he => ?_)
      · walk_at "rd"
        rename_i Z nZ
        rw [if_pos he] at p5
        refine k Z _ (s1.trans (My.Same.new nZ)) (upd_same.trans ?_)
        rw [← p3, ← p5]
      · walk_at "rd"
        rename_i Z nZ
        rw [if_neg he] at p5
        refine k Z _ (s1.trans (My.Same.new nZ)) (upd_same.trans ?_)
        rw [← p3, ← p5]
end
end My
end
section
open My L2 PySem
open My L2 PySem
local macro_rules | `(tactic| walk_at "as") => `(tactic| with_reducible assumption)
local macro_rules | `(tactic| walk_at "hp") => `(tactic| first
  | walk_at "as" | exact upd_same
  | (rw [upd_ne (by walk_at "ne")]; walk_at "hp")
  | (refine But.get (by walk_at "as") ?hp1 ?hp2; (case hp1 => walk_at "hp"); (case hp2 => walk_at "ne"))
  | (refine My.Same.get (by walk_at "as") ?hp1; (case hp1 => walk_at "hp")))
local macro_rules | `(tactic| walk_at "ne") => `(tactic| first
  | walk_at "as" | exact Ne.symm (by walk_at "as")
  | (refine' ne_of_none ?ne1 ?ne2; (case ne2 => walk_at "as"); (case ne1 => walk_at "hp"))
  | (refine' Ne.symm (ne_of_none ?ne1 ?ne2); (case ne2 => walk_at "as"); (case ne1 => walk_at "hp"))
  | exact ne_of (by walk_at "hp") (by walk_at "hp") (by intro z; cases z))
local macro_rules | `(tactic| walk_at "sd") => `(tactic| first
  | walk_at "as" | omega | decide | exact ⟨by omega, by omega⟩ | exact .inl ⟨by omega, by omega⟩ | exact .inr ⟨by omega, by omega⟩ | exact divp_wide (by walk_at "as") (by walk_at "as") | exact Sm.cmul (by walk_at "as") (by walk_at "as") | exact cmul_small (by omega) (by omega) (by omega) (by omega) | exact ⟨by omega, by decide⟩)
local macro_rules | `(tactic| walk_at "bt") => `(tactic| first
  | walk_at "as" | exact But.refl _ _ | exact Same.but (by walk_at "as")
  | (refine But.trans ?bt1 But.at; (case bt1 => walk_at "bt"))
  | (refine But.trans ?bt1 (But.new (by first | walk_at "as" | walk_at "hp")); (case bt1 => walk_at "bt"))
  | (refine But.trans ?bt1 (by walk_at "as"); (case bt1 => walk_at "bt"))
  | (refine But.trans ?bt1 (Same.but (by walk_at "as")); (case bt1 => walk_at "bt")))
local macro_rules | `(tactic| walk_at "sm") => `(tactic| first
  | walk_at "as" | exact My.Same.rfl' _
  | (refine' My.Same.at_ ?sm1 ?sm2; (case sm1 => walk_at "as"); (case sm2 => walk_at "sm"))
  | (refine' My.Same.tr ?sm1 (My.Same.new ?sm2); (case sm2 => walk_at "as"); (case sm1 => walk_at "sm"))
  | (refine' My.Same.tr ?sm1 ?sm2; (case sm2 => walk_at "as"); (case sm1 => walk_at "sm")))
local macro_rules | `(tactic| walk_at "sz") => `(tactic| first
  | assumption | exact lt_size (by rfl) | exact le_size (by rfl) | (rw [sizeLine_eq]; omega)
  | (rw [sizeLine_eq]; simp only [List.length_append, List.length_map, List.length_cons, List.length_nil]; omega))
local macro_rules | `(tactic| walk_at "few") => `(tactic| (repeat refine few_put ?_); exact few0)
local macro_rules | `(tactic| walk_at "rd1") => `(tactic| first
  | (with_reducible show tVar _ _ _ _); refine s_var rfl ?_
  | with_reducible refine s_c ?_ | with_reducible refine s_op ?_ | with_reducible refine s_un ?_
  | with_reducible refine s_cons ?_ | with_reducible refine s_nil ?_ | with_reducible refine s_cb ?_
  | with_reducible refine s_test ?_ | with_reducible refine s_B ?_ | with_reducible refine s_not ?_ | with_reducible refine s_and ?_ | with_reducible refine s_or ?_
  | with_reducible refine s_if ?_ | with_reducible refine s_notV ?_ | with_reducible refine s_andV ?_ | with_reducible refine s_orV ?_
  | with_reducible refine s_orT ?_ | with_reducible refine s_andT ?_ | with_reducible refine s_chain ?_
  | with_reducible refine s_isi_int ?_ | with_reducible refine s_isi_int_bool ?_ | with_reducible refine s_isi_str ?_
  | with_reducible refine iteT ?_ | with_reducible refine iteF ?_ | with_reducible refine iteNT ?_ | with_reducible refine iteNF ?_
  | with_reducible refine s_isN ?_ | with_reducible refine s_notN ?_
  | ((with_reducible refine' s_2setE ?g1 ?_); (case g1 => first | (dsimp only [List.set, L2.wipe, List.map, List.foldl]; done) | (dsimp only [List.set, L2.wipe, List.map, List.foldl]; rfl)))
  | with_reducible refine s_seq ?_ | with_reducible refine s_ifS ?_ | with_reducible refine s_asg ?_ | with_reducible refine s_ret ?_ | with_reducible refine s_drop ?_ | with_reducible refine s_next ?_
  | ((with_reducible refine' s_gnameE ?g1 ?_); (case g1 => first | (dsimp only [List.set, L2.wipe, List.map, List.foldl]; done) | (dsimp only [List.set, L2.wipe, List.map, List.foldl]; rfl)))
  | with_reducible refine s_gsub ?_ | with_reducible refine s_gcons ?_ | with_reducible refine s_gnil ?_
  | (with_reducible show gTup _ _ _ _ _ _ _); refine s_gtup (by walk_at "hp") rfl ?_
  | with_reducible refine s_eqI ?_ | with_reducible refine s_neI ?_ | with_reducible refine s_eqS ?_ | with_reducible refine s_neB ?_ | with_reducible refine s_eqB ?_ | with_reducible refine s_neSr ?_ | with_reducible refine s_neS ?_
  | with_reducible refine s_I0 ?_
  | (with_reducible show rI _ _ _ _ _ _); refine s_I (by walk_at "sd") ?_
  | (with_reducible show rIxL _ _ _ _ _); refine s_ixL (by walk_at "hp") rfl ?_
  | (with_reducible show rIxT _ _ _ _ _); refine s_ixT (by walk_at "hp") rfl ?_
  | (with_reducible show rSetL _ _ _ _ _); refine s_setL (by walk_at "hp") rfl ?_
  | with_reducible refine s_prop ?_
  | (with_reducible show _ ≤ sizeLine ∧ _); refine ⟨le_size (by rfl), ?_⟩
  | with_reducible refine ite_NN ?_ | with_reducible refine ite_IN ?_ | with_reducible refine ite_nNN ?_ | with_reducible refine ite_nIN ?_ | with_reducible refine ite_RN ?_ | with_reducible refine ite_nRN ?_
  | with_reducible refine s_sfld ?_
  | ((with_reducible refine' ⟨_, _, _, _, rfl, ?fp1, ?fp2, ?fp3, ?fp4, ?_⟩); (case fp1 => walk_at "hp"); (case fp2 => assumption); (case fp3 => assumption); (case fp4 => walk_at "few"))
  | with_reducible refine s_fldE ?_
  | ((with_reducible refine' ⟨_, _, _, _, _, rfl, ?fp1, ?fp2, ?fp3, ?fp4, ?_⟩); (case fp1 => walk_at "hp"); (case fp2 => assumption); (case fp3 => assumption); (case fp4 => rfl))
  | with_reducible refine s_bm ?_ | with_reducible refine s_bm0 ?_
  | ((with_reducible refine' s_tyL ?ty1 ?_); (case ty1 => walk_at "hp"))
  | ((with_reducible refine' s_append ?ap1 ?ap2 ?_); (case ap1 => walk_at "hp"); (case ap2 => walk_at "sz"))
  | ((with_reducible refine' s_extend ?ap1 ?ap2 ?ap3 ?_); (case ap1 => walk_at "hp"); (case ap2 => walk_at "hp"); (case ap3 => walk_at "sz"))
  | with_reducible refine s_for (fun _ _ => ?_) | with_reducible refine s_lc ?_ | with_reducible refine s_iList ?_ | with_reducible refine s_iTup ?_ | with_reducible refine s_iRng1 ?_ | with_reducible refine s_iRng2 ?_
  | with_reducible refine s_yes ?_ | with_reducible refine s_par ?_
  | with_reducible refine s_make ?_ | with_reducible refine s_meth ?_
  | with_reducible refine s_tup ?_ | with_reducible refine s_lst ?_ | with_reducible refine s_call ?_
  | with_reducible refine ⟨rfl, ?_⟩
  | with_reducible refine ⟨_, rfl, ?_⟩
  | ((with_reducible refine' ⟨_, _, rfl, ?sd1, ?_⟩); (case sd1 => walk_at "sd"))
  | with_reducible refine ⟨_, _, rfl, ?_⟩
  | with_reducible refine .inl ⟨_, rfl, ?_⟩
  | dsimp only [List.set]
  | walk_at "rdx"
  | (refine fun _ _ => ?_))
local macro_rules | `(tactic| walk_at "rd") => `(tactic| repeat (first
  | (with_reducible show tVar _ _ _ _); refine s_var rfl ?_
  | with_reducible refine s_c ?_ | with_reducible refine s_op ?_ | with_reducible refine s_un ?_
  | with_reducible refine s_cons ?_ | with_reducible refine s_nil ?_ | with_reducible refine s_cb ?_
  | with_reducible refine s_test ?_ | with_reducible refine s_B ?_ | with_reducible refine s_not ?_ | with_reducible refine s_and ?_ | with_reducible refine s_or ?_
  | with_reducible refine s_if ?_ | with_reducible refine s_notV ?_ | with_reducible refine s_andV ?_ | with_reducible refine s_orV ?_
  | with_reducible refine s_orT ?_ | with_reducible refine s_andT ?_ | with_reducible refine s_chain ?_
  | with_reducible refine s_isi_int ?_ | with_reducible refine s_isi_int_bool ?_ | with_reducible refine s_isi_str ?_
  | with_reducible refine iteT ?_ | with_reducible refine iteF ?_ | with_reducible refine iteNT ?_ | with_reducible refine iteNF ?_
  | with_reducible refine s_isN ?_ | with_reducible refine s_notN ?_
  | ((with_reducible refine' s_2setE ?g1 ?_); (case g1 => first | (dsimp only [List.set, L2.wipe, List.map, List.foldl]; done) | (dsimp only [List.set, L2.wipe, List.map, List.foldl]; rfl)))
  | with_reducible refine s_seq ?_ | with_reducible refine s_ifS ?_ | with_reducible refine s_asg ?_ | with_reducible refine s_ret ?_ | with_reducible refine s_drop ?_ | with_reducible refine s_next ?_
  | ((with_reducible refine' s_gnameE ?g1 ?_); (case g1 => first | (dsimp only [List.set, L2.wipe, List.map, List.foldl]; done) | (dsimp only [List.set, L2.wipe, List.map, List.foldl]; rfl)))
  | with_reducible refine s_gsub ?_ | with_reducible refine s_gcons ?_ | with_reducible refine s_gnil ?_
  | (with_reducible show gTup _ _ _ _ _ _ _); refine s_gtup (by walk_at "hp") rfl ?_
  | with_reducible refine s_eqI ?_ | with_reducible refine s_neI ?_ | with_reducible refine s_eqS ?_ | with_reducible refine s_neB ?_ | with_reducible refine s_eqB ?_ | with_reducible refine s_neSr ?_ | with_reducible refine s_neS ?_
  | with_reducible refine s_I0 ?_
  | (with_reducible show rI _ _ _ _ _ _); refine s_I (by walk_at "sd") ?_
  | (with_reducible show rIxL _ _ _ _ _); refine s_ixL (by walk_at "hp") rfl ?_
  | (with_reducible show rIxT _ _ _ _ _); refine s_ixT (by walk_at "hp") rfl ?_
  | (with_reducible show rSetL _ _ _ _ _); refine s_setL (by walk_at "hp") rfl ?_
  | with_reducible refine s_prop ?_
  | (with_reducible show _ ≤ sizeLine ∧ _); refine ⟨le_size (by rfl), ?_⟩
  | with_reducible refine ite_NN ?_ | with_reducible refine ite_IN ?_ | with_reducible refine ite_nNN ?_ | with_reducible refine ite_nIN ?_ | with_reducible refine ite_RN ?_ | with_reducible refine ite_nRN ?_
  | with_reducible refine s_sfld ?_
  | ((with_reducible refine' ⟨_, _, _, _, rfl, ?fp1, ?fp2, ?fp3, ?fp4, ?_⟩); (case fp1 => walk_at "hp"); (case fp2 => assumption); (case fp3 => assumption); (case fp4 => walk_at "few"))
  | with_reducible refine s_fldE ?_
  | ((with_reducible refine' ⟨_, _, _, _, _, rfl, ?fp1, ?fp2, ?fp3, ?fp4, ?_⟩); (case fp1 => walk_at "hp"); (case fp2 => assumption); (case fp3 => assumption); (case fp4 => rfl))
  | with_reducible refine s_bm ?_ | with_reducible refine s_bm0 ?_
  | ((with_reducible refine' s_tyL ?ty1 ?_); (case ty1 => walk_at "hp"))
  | ((with_reducible refine' s_append ?ap1 ?ap2 ?_); (case ap1 => walk_at "hp"); (case ap2 => walk_at "sz"))
  | ((with_reducible refine' s_extend ?ap1 ?ap2 ?ap3 ?_); (case ap1 => walk_at "hp"); (case ap2 => walk_at "hp"); (case ap3 => walk_at "sz"))
  | with_reducible refine s_for (fun _ _ => ?_) | with_reducible refine s_lc ?_ | with_reducible refine s_iList ?_ | with_reducible refine s_iTup ?_ | with_reducible refine s_iRng1 ?_ | with_reducible refine s_iRng2 ?_
  | with_reducible refine s_yes ?_ | with_reducible refine s_par ?_
  | with_reducible refine s_make ?_ | with_reducible refine s_meth ?_
  | with_reducible refine s_tup ?_ | with_reducible refine s_lst ?_ | with_reducible refine s_call ?_
  | with_reducible refine ⟨rfl, ?_⟩
  | with_reducible refine ⟨_, rfl, ?_⟩
  | ((with_reducible refine' ⟨_, _, rfl, ?sd1, ?_⟩); (case sd1 => walk_at "sd"))
  | with_reducible refine ⟨_, _, rfl, ?_⟩
  | with_reducible refine .inl ⟨_, rfl, ?_⟩
  | dsimp only [List.set]
  | walk_at "rdx"
  | (refine fun _ _ => ?_)))

namespace My
open PySem L2
section
variable {P : Program} {w : World} {K : PySem.W.Frag} {mg : Str → Option Value} {base : Heap} {C_Many C_Ratio C_EachError C_InvalidMany L__law_odd_right : Addr} (M : Md K mg C_Many C_Ratio C_EachError C_InvalidMany L__law_odd_right)
include M
local macro_rules | `(tactic| walk_at "rdx") => `(tactic| first | with_reducible refine s_ostG ?_ | with_reducible refine s_raE ?_ | with_reducible refine s_callX ?_ | with_reducible refine s_opX ?_ | with_reducible refine s_reflX ?_ | with_reducible refine s_lstN ?_)
omit M
theorem roomH_su {k : Nat} {A A' : Around} (r : Room k A) (h1 : A'.depth = A.depth) (h2 : A'.units = A.units) : L2H.RoomH k A' := ⟨by rw [h1]; exact r.dp, by rw [h2]; exact r.un⟩
/-- the text of a value that may be refused -/
def TxV (C : Addr) (H : Hp) (v : V) (txt : Str) : Prop := (∃ d, Dz H v d ∧ SmD d ∧ d.shown = txt) ∨ ∃ (x : Addr) (p q : Int), v = .ref x ∧ RatioAt C H x p q ∧ 0 ≤ p ∧ 0 ≤ q ∧ Sm 1900 p ∧ Sm 1900 q ∧ txt = rtx p q
theorem RatioAt.same {C x : Addr} {H H' : Hp} {p q : Int} (h : RatioAt C H x p q) (s : L2.Same H H') : RatioAt C H' x p q := by
  obtain ⟨dx, e⟩ := h
  exact ⟨dx, s _ _ e⟩
theorem TxV.same {C : Addr} {H H' : Hp} {v : V} {t : Str} (h : TxV C H v t) (s : L2.Same H H') : TxV C H' v t := by
  rcases h with ⟨d, hd, r⟩ | ⟨x, p, q, e, hr, r⟩
  · exact .inl ⟨d, hd.same s, r⟩
  · exact .inr ⟨x, p, q, e, hr.same s, r⟩
theorem TxV.two {C : Addr} {L : OwnL} {H : Hp} {a : Addr} {v : V} {b : Bool} {t : Str} {Q : VK} (hL : (C, spRRep C) ∈ L) (h : TxV C H v t) (ea : H a = some (.lst [v, .bl b])) (na : a ≠ sysModules) (hl : t.length ≤ 100000)
    (q : ∀ H', L2.Same H H' → Q (.str (listText [t, if b then "True" else "False"])) H') : rReprZ [.ref a] H Q ∨ rReprM L [.ref a] H Q := by
  refine list2 ea na hl ?_ q
  rcases h with ⟨d, hd, r⟩ | ⟨x, p, q', rfl, hr, p0, q0, s1, s2, rfl⟩
  · exact .inl ⟨d, hd, r⟩
  · obtain ⟨dx, e⟩ := id hr
    exact .inr ⟨_, x, dx, _, hL, rfl, e, fun H1 s Q1 k => ⟨x, p, q', rfl, hr.same s, p0, q0, s1, s2, k⟩⟩
/-- what _law_refused makes of a lambda: it raises InvalidMany with a value of the text -/
def TTref (C CM : Addr) : (XK → Hp → VK → Prop) → Hp → VK → Prop := fun tl H Q => ∃ txt : Str, txt.length ≤ 100000 ∧ (∀ (E' : XK) (Q' : VK), (∀ (v : V) (dd : Addr) (H' : Hp), L2.Same H H' → TxV C H' v txt → H' dd = some (.xd [("value", v)]) → E' (.ref CM) (some dd) H') → tl E' H Q') ∧
  ∀ H', L2.Same H H' → Q (.str (listText [txt, "True"])) H'
include M
theorem l__law_refused : DnL P w K mg base "_law_refused" "_law_call" 10 (TTref C_Ratio C_InvalidMany) := by
  obtain ⟨g, fd, F, hm⟩ := M.f__law_refused
  have dh : ∀ p ∈ ([(C_Ratio, spRRep C_Ratio)] : OwnL), MtH P w K mg base p.1 "__repr__" 1 ["self"] p.2 := fun p hp => by
    cases List.mem_singleton.mp hp
    exact h_Ratio___repr__ (P := P) (w := w) (base := base) M
  refine ⟨g, fd, st__law_refused, N__law_refused, F, hm, F.bindsN (fun _ _ _ _ _ _ us hl => match us, hl with | [_], _ => rfl), sc__law_refused, rfl, .inl rfl, fun cd => ?_⟩
  intro A outer s H f c' q Q tl hr act hc h
  obtain ⟨txt, hl, go, fin⟩ := h
  refine ⟨_, (pss_cons (ps_set (i := 1) sc__law_refused.nd rfl (.inl rfl) pe_non) (pss_cons (ps_try_as (i := 2) rfl rfl sc__law_refused.nd rfl rfl ⟨rfl, by decide, .inl M.m_InvalidMany⟩ takes_none5 (fun W pn xe tk _ => (pss_one (ps_expr (act _ _ _ _ _ tk)))) (fun a oe cls d pn hz hf => (pss_one (ps_set (i := 1) sc__law_refused.nd rfl (.inl rfl) (pe_callB (call_or (call_reprZ (Nat.lt_of_le_of_lt (Nat.add_le_add_right (Nat.le_add_right _ _) 200) hr.r.un) hr.g) (call_reprMH dh (L2H.RoomH.mono (roomH_su hr.r rfl rfl) (by decide)) hr.g ⟨_, .head _⟩)) (by rfl) M.b_repr (by decide +kernel) (pa_cons (pe_lstN (pa_cons (pe_xf (M.x_InvalidMany.xf (ups _ _ "ValueError")) M.n_InvalidMany_value hz hf (pv 2)) (pa_cons (pe_callB (call_isS hz hf) (by rfl) M.b_isinstance (by decide +kernel) (pa_cons (pv 2) (pa_cons (pe_glob (v := .ref C_EachError) rfl M.m_EachError rfl) pa_nil))) pa_nil))) pa_nil)))))) (pss_one (ps_ret (pv 1))))), ?_⟩
  refine st_eq (σ := [some _, none, none]) rfl ?_
  have T := M.x_InvalidMany.exc (ups _ _ "ValueError") M.hn_exc M.ht_exc
  have ek : PySem.W.kitOne K (.ref C_InvalidMany) (.ref C_EachError) = some true := (M.x_InvalidMany.kit (ups _ _ "ValueError") M.x_EachError).trans (by simp)
  have em : PySem.W.exmOne K (.ref C_InvalidMany) (.ref C_InvalidMany) = some true := PySem.W.exm_ref T.hs T.hd M.x_InvalidMany.ty ((M.x_InvalidMany.sub rfl _).trans (by simp))
  walk_at "rd"
  refine ⟨rfl, hc, go _ _ (fun v dd H1 s1 tx hd => ?_)⟩
  refine ⟨true, em, fun _ a na => ?_, fun z => nomatch z⟩
  walk_at "rd"
  dsimp only [L2.tXf]
  walk_at "rd"
  refine ⟨dd, _, _, rfl, hd, rfl, ?_⟩
  walk_at "rd"
  refine ⟨C_InvalidMany, rfl, T, fun d e => ⟨_, Option.some.inj e ▸ hd⟩, .ref C_EachError, .ref C_EachError, true, rfl, fun u r => r, ek, ?_⟩
  walk_at "rd"
  intro nS
  walk_at "rd"
  rename_i Z nZ
  refine TxV.two (List.mem_singleton.mpr rfl) (tx.same (My.Same.new nZ)) upd_same nS hl (fun H2 s2 => ?_)
  walk_at "rd"
  exact fin H2 (s1.trans ((My.Same.new nZ).trans s2))
end
end My
end
section
open My L2 PySem
open My L2 PySem
local macro_rules | `(tactic| walk_at "as") => `(tactic| with_reducible assumption)
local macro_rules | `(tactic| walk_at "hp") => `(tactic| first
  | walk_at "as" | exact upd_same
  | (rw [upd_ne (by walk_at "ne")]; walk_at "hp")
  | (refine But.get (by walk_at "as") ?hp1 ?hp2; (case hp1 => walk_at "hp"); (case hp2 => walk_at "ne"))
  | (refine My.Same.get (by walk_at "as") ?hp1; (case hp1 => walk_at "hp")))
local macro_rules | `(tactic| walk_at "ne") => `(tactic| first
  | walk_at "as" | exact Ne.symm (by walk_at "as")
  | (refine' ne_of_none ?ne1 ?ne2; (case ne2 => walk_at "as"); (case ne1 => walk_at "hp"))
  | (refine' Ne.symm (ne_of_none ?ne1 ?ne2); (case ne2 => walk_at "as"); (case ne1 => walk_at "hp"))
  | exact ne_of (by walk_at "hp") (by walk_at "hp") (by intro z; cases z))
local macro_rules | `(tactic| walk_at "sd") => `(tactic| first
  | walk_at "as" | omega | decide | exact ⟨by omega, by omega⟩ | exact .inl ⟨by omega, by omega⟩ | exact .inr ⟨by omega, by omega⟩ | exact divp_wide (by walk_at "as") (by walk_at "as") | exact Sm.cmul (by walk_at "as") (by walk_at "as") | exact cmul_small (by omega) (by omega) (by omega) (by omega) | exact ⟨by omega, by decide⟩)
local macro_rules | `(tactic| walk_at "bt") => `(tactic| first
  | walk_at "as" | exact But.refl _ _ | exact Same.but (by walk_at "as")
  | (refine But.trans ?bt1 But.at; (case bt1 => walk_at "bt"))
  | (refine But.trans ?bt1 (But.new (by first | walk_at "as" | walk_at "hp")); (case bt1 => walk_at "bt"))
  | (refine But.trans ?bt1 (by walk_at "as"); (case bt1 => walk_at "bt"))
  | (refine But.trans ?bt1 (Same.but (by walk_at "as")); (case bt1 => walk_at "bt")))
local macro_rules | `(tactic| walk_at "sm") => `(tactic| first
  | walk_at "as" | exact My.Same.rfl' _
  | (refine' My.Same.at_ ?sm1 ?sm2; (case sm1 => walk_at "as"); (case sm2 => walk_at "sm"))
  | (refine' My.Same.tr ?sm1 (My.Same.new ?sm2); (case sm2 => walk_at "as"); (case sm1 => walk_at "sm"))
  | (refine' My.Same.tr ?sm1 ?sm2; (case sm2 => walk_at "as"); (case sm1 => walk_at "sm")))
local macro_rules | `(tactic| walk_at "sz") => `(tactic| first
  | assumption | exact lt_size (by rfl) | exact le_size (by rfl) | (rw [sizeLine_eq]; omega)
  | (rw [sizeLine_eq]; simp only [List.length_append, List.length_map, List.length_cons, List.length_nil]; omega))
local macro_rules | `(tactic| walk_at "few") => `(tactic| (repeat refine few_put ?_); exact few0)
local macro_rules | `(tactic| walk_at "rd1") => `(tactic| first
  | (with_reducible show tVar _ _ _ _); refine s_var rfl ?_
  | with_reducible refine s_c ?_ | with_reducible refine s_op ?_ | with_reducible refine s_un ?_
  | with_reducible refine s_cons ?_ | with_reducible refine s_nil ?_ | with_reducible refine s_cb ?_
  | with_reducible refine s_test ?_ | with_reducible refine s_B ?_ | with_reducible refine s_not ?_ | with_reducible refine s_and ?_ | with_reducible refine s_or ?_
  | with_reducible refine s_if ?_ | with_reducible refine s_notV ?_ | with_reducible refine s_andV ?_ | with_reducible refine s_orV ?_
  | with_reducible refine s_orT ?_ | with_reducible refine s_andT ?_ | with_reducible refine s_chain ?_
  | with_reducible refine s_isi_int ?_ | with_reducible refine s_isi_int_bool ?_ | with_reducible refine s_isi_str ?_
  | with_reducible refine iteT ?_ | with_reducible refine iteF ?_ | with_reducible refine iteNT ?_ | with_reducible refine iteNF ?_
  | with_reducible refine s_isN ?_ | with_reducible refine s_notN ?_
  | ((with_reducible refine' s_2setE ?g1 ?_); (case g1 => first | (dsimp only [List.set, L2.wipe, List.map, List.foldl]; done) | (dsimp only [List.set, L2.wipe, List.map, List.foldl]; rfl)))
  | with_reducible refine s_seq ?_ | with_reducible refine s_ifS ?_ | with_reducible refine s_asg ?_ | with_reducible refine s_ret ?_ | with_reducible refine s_drop ?_ | with_reducible refine s_next ?_
  | ((with_reducible refine' s_gnameE ?g1 ?_); (case g1 => first | (dsimp only [List.set, L2.wipe, List.map, List.foldl]; done) | (dsimp only [List.set, L2.wipe, List.map, List.foldl]; rfl)))
  | with_reducible refine s_gsub ?_ | with_reducible refine s_gcons ?_ | with_reducible refine s_gnil ?_
  | (with_reducible show gTup _ _ _ _ _ _ _); refine s_gtup (by walk_at "hp") rfl ?_
  | with_reducible refine s_eqI ?_ | with_reducible refine s_neI ?_ | with_reducible refine s_eqS ?_ | with_reducible refine s_neB ?_ | with_reducible refine s_eqB ?_ | with_reducible refine s_neSr ?_ | with_reducible refine s_neS ?_
  | with_reducible refine s_I0 ?_
  | (with_reducible show rI _ _ _ _ _ _); refine s_I (by walk_at "sd") ?_
  | (with_reducible show rIxL _ _ _ _ _); refine s_ixL (by walk_at "hp") rfl ?_
  | (with_reducible show rIxT _ _ _ _ _); refine s_ixT (by walk_at "hp") rfl ?_
  | (with_reducible show rSetL _ _ _ _ _); refine s_setL (by walk_at "hp") rfl ?_
  | with_reducible refine s_prop ?_
  | (with_reducible show _ ≤ sizeLine ∧ _); refine ⟨le_size (by rfl), ?_⟩
  | with_reducible refine ite_NN ?_ | with_reducible refine ite_IN ?_ | with_reducible refine ite_nNN ?_ | with_reducible refine ite_nIN ?_ | with_reducible refine ite_RN ?_ | with_reducible refine ite_nRN ?_
  | with_reducible refine s_sfld ?_
  | ((with_reducible refine' ⟨_, _, _, _, rfl, ?fp1, ?fp2, ?fp3, ?fp4, ?_⟩); (case fp1 => walk_at "hp"); (case fp2 => assumption); (case fp3 => assumption); (case fp4 => walk_at "few"))
  | with_reducible refine s_fldE ?_
  | ((with_reducible refine' ⟨_, _, _, _, _, rfl, ?fp1, ?fp2, ?fp3, ?fp4, ?_⟩); (case fp1 => walk_at "hp"); (case fp2 => assumption); (case fp3 => assumption); (case fp4 => rfl))
  | with_reducible refine s_bm ?_ | with_reducible refine s_bm0 ?_
  | ((with_reducible refine' s_tyL ?ty1 ?_); (case ty1 => walk_at "hp"))
  | ((with_reducible refine' s_append ?ap1 ?ap2 ?_); (case ap1 => walk_at "hp"); (case ap2 => walk_at "sz"))
  | ((with_reducible refine' s_extend ?ap1 ?ap2 ?ap3 ?_); (case ap1 => walk_at "hp"); (case ap2 => walk_at "hp"); (case ap3 => walk_at "sz"))
  | with_reducible refine s_for (fun _ _ => ?_) | with_reducible refine s_lc ?_ | with_reducible refine s_iList ?_ | with_reducible refine s_iTup ?_ | with_reducible refine s_iRng1 ?_ | with_reducible refine s_iRng2 ?_
  | with_reducible refine s_yes ?_ | with_reducible refine s_par ?_
  | with_reducible refine s_make ?_ | with_reducible refine s_meth ?_
  | with_reducible refine s_tup ?_ | with_reducible refine s_lst ?_ | with_reducible refine s_call ?_
  | with_reducible refine ⟨rfl, ?_⟩
  | with_reducible refine ⟨_, rfl, ?_⟩
  | ((with_reducible refine' ⟨_, _, rfl, ?sd1, ?_⟩); (case sd1 => walk_at "sd"))
  | with_reducible refine ⟨_, _, rfl, ?_⟩
  | with_reducible refine .inl ⟨_, rfl, ?_⟩
  | dsimp only [List.set]
  | walk_at "rdx"
  | (refine fun _ _ => ?_))
local macro_rules | `(tactic| walk_at "rd") => `(tactic| repeat (first
  | (with_reducible show tVar _ _ _ _); refine s_var rfl ?_
  | with_reducible refine s_c ?_ | with_reducible refine s_op ?_ | with_reducible refine s_un ?_
  | with_reducible refine s_cons ?_ | with_reducible refine s_nil ?_ | with_reducible refine s_cb ?_
  | with_reducible refine s_test ?_ | with_reducible refine s_B ?_ | with_reducible refine s_not ?_ | with_reducible refine s_and ?_ | with_reducible refine s_or ?_
  | with_reducible refine s_if ?_ | with_reducible refine s_notV ?_ | with_reducible refine s_andV ?_ | with_reducible refine s_orV ?_
  | with_reducible refine s_orT ?_ | with_reducible refine s_andT ?_ | with_reducible refine s_chain ?_
  | with_reducible refine s_isi_int ?_ | with_reducible refine s_isi_int_bool ?_ | with_reducible refine s_isi_str ?_
  | with_reducible refine iteT ?_ | with_reducible refine iteF ?_ | with_reducible refine iteNT ?_ | with_reducible refine iteNF ?_
  | with_reducible refine s_isN ?_ | with_reducible refine s_notN ?_
  | ((with_reducible refine' s_2setE ?g1 ?_); (case g1 => first | (dsimp only [List.set, L2.wipe, List.map, List.foldl]; done) | (dsimp only [List.set, L2.wipe, List.map, List.foldl]; rfl)))
  | with_reducible refine s_seq ?_ | with_reducible refine s_ifS ?_ | with_reducible refine s_asg ?_ | with_reducible refine s_ret ?_ | with_reducible refine s_drop ?_ | with_reducible refine s_next ?_
  | ((with_reducible refine' s_gnameE ?g1 ?_); (case g1 => first | (dsimp only [List.set, L2.wipe, List.map, List.foldl]; done) | (dsimp only [List.set, L2.wipe, List.map, List.foldl]; rfl)))
  | with_reducible refine s_gsub ?_ | with_reducible refine s_gcons ?_ | with_reducible refine s_gnil ?_
  | (with_reducible show gTup _ _ _ _ _ _ _); refine s_gtup (by walk_at "hp") rfl ?_
  | with_reducible refine s_eqI ?_ | with_reducible refine s_neI ?_ | with_reducible refine s_eqS ?_ | with_reducible refine s_neB ?_ | with_reducible refine s_eqB ?_ | with_reducible refine s_neSr ?_ | with_reducible refine s_neS ?_
  | with_reducible refine s_I0 ?_
  | (with_reducible show rI _ _ _ _ _ _); refine s_I (by walk_at "sd") ?_
  | (with_reducible show rIxL _ _ _ _ _); refine s_ixL (by walk_at "hp") rfl ?_
  | (with_reducible show rIxT _ _ _ _ _); refine s_ixT (by walk_at "hp") rfl ?_
  | (with_reducible show rSetL _ _ _ _ _); refine s_setL (by walk_at "hp") rfl ?_
  | with_reducible refine s_prop ?_
  | (with_reducible show _ ≤ sizeLine ∧ _); refine ⟨le_size (by rfl), ?_⟩
  | with_reducible refine ite_NN ?_ | with_reducible refine ite_IN ?_ | with_reducible refine ite_nNN ?_ | with_reducible refine ite_nIN ?_ | with_reducible refine ite_RN ?_ | with_reducible refine ite_nRN ?_
  | with_reducible refine s_sfld ?_
  | ((with_reducible refine' ⟨_, _, _, _, rfl, ?fp1, ?fp2, ?fp3, ?fp4, ?_⟩); (case fp1 => walk_at "hp"); (case fp2 => assumption); (case fp3 => assumption); (case fp4 => walk_at "few"))
  | with_reducible refine s_fldE ?_
  | ((with_reducible refine' ⟨_, _, _, _, _, rfl, ?fp1, ?fp2, ?fp3, ?fp4, ?_⟩); (case fp1 => walk_at "hp"); (case fp2 => assumption); (case fp3 => assumption); (case fp4 => rfl))
  | with_reducible refine s_bm ?_ | with_reducible refine s_bm0 ?_
  | ((with_reducible refine' s_tyL ?ty1 ?_); (case ty1 => walk_at "hp"))
  | ((with_reducible refine' s_append ?ap1 ?ap2 ?_); (case ap1 => walk_at "hp"); (case ap2 => walk_at "sz"))
  | ((with_reducible refine' s_extend ?ap1 ?ap2 ?ap3 ?_); (case ap1 => walk_at "hp"); (case ap2 => walk_at "hp"); (case ap3 => walk_at "sz"))
  | with_reducible refine s_for (fun _ _ => ?_) | with_reducible refine s_lc ?_ | with_reducible refine s_iList ?_ | with_reducible refine s_iTup ?_ | with_reducible refine s_iRng1 ?_ | with_reducible refine s_iRng2 ?_
  | with_reducible refine s_yes ?_ | with_reducible refine s_par ?_
  | with_reducible refine s_make ?_ | with_reducible refine s_meth ?_
  | with_reducible refine s_tup ?_ | with_reducible refine s_lst ?_ | with_reducible refine s_call ?_
  | with_reducible refine ⟨rfl, ?_⟩
  | with_reducible refine ⟨_, rfl, ?_⟩
  | ((with_reducible refine' ⟨_, _, rfl, ?sd1, ?_⟩); (case sd1 => walk_at "sd"))
  | with_reducible refine ⟨_, _, rfl, ?_⟩
  | with_reducible refine .inl ⟨_, rfl, ?_⟩
  | dsimp only [List.set]
  | walk_at "rdx"
  | (refine fun _ _ => ?_)))

namespace My
open PySem L2
section
variable {P : Program} {w : World} {K : PySem.W.Frag} {mg : Str → Option Value} {base : Heap} {C_Many C_Ratio C_EachError C_InvalidMany L__law_odd_right : Addr} (M : Md K mg C_Many C_Ratio C_EachError C_InvalidMany L__law_odd_right)
include M
local macro_rules | `(tactic| walk_at "rdx") => `(tactic| first | with_reducible refine s_ostG ?_ | with_reducible refine s_raE ?_ | with_reducible refine s_callX ?_ | with_reducible refine s_opX ?_ | with_reducible refine s_reflX ?_ | with_reducible refine s_lstN ?_ | ((with_reducible refine' s_3setE ?g1 ?_); (case g1 => first | (dsimp only [List.set, L2.wipe, List.map, List.foldl]; done) | (dsimp only [List.set, L2.wipe, List.map, List.foldl]; rfl))) | with_reducible refine s_par3 ?_)
omit M
theorem cut_vk {te : TE} {σ : L2.St} {H : Hp} {Q : VK} (R : V → Hp → Prop) (h1 : ∀ Q' : VK, (∀ v H', R v H' → Q' v H') → te σ H Q') (h2 : ∀ v H', R v H' → Q v H') : te σ H Q := h1 Q h2
theorem s_par3 {σ : L2.St} {H : Hp} {D : Ends} {i j l : Nat} {t : TA} (h : t σ H fun vs H1 => ∃ u v w, vs = [u, v, w] ∧ D.nx (((σ.set i (some u)).set j (some v)).set l (some w)) H1) : tPar3 i j l t D σ H := h
theorem s_3setE {D : Ends} {i j l : Nat} {t : TS} {x y z : V} {σ τ : L2.St} {H : Hp} (e : ((σ.set i (some x)).set j (some y)).set l (some z) = τ) (h : t D τ H) : t D (((σ.set i (some x)).set j (some y)).set l (some z)) H := by
  rw [e]
  exact h
/-- a + b, a * b of Manys where nothing is raised -/
theorem join_ok {K : PySem.W.Frag} {L : List Addr} {C CM : Addr} {f : Int → Int → Int} {g : Option Int → Option Int → Option Int} {P : Int → Option Int → Int → Option Int → Prop} {W : V → Prop} {H : Hp} {Q : VK} {E : XK} {x y : Addr} {lo lo2 : Int} {hi hi2 : Option Int}
    (hx : ManyAt C H x lo hi) (hy : ManyAt C H y lo2 hi2) (f1 : 0 ≤ lo ∧ ∀ h, hi = some h → lo ≤ h) (f2 : 0 ≤ lo2 ∧ ∀ h, hi2 = some h → lo2 ≤ h) (p : P lo hi lo2 hi2) (q : ∀ z H', L2.Same H H' → ManyAt C H' z (f lo lo2) (g hi hi2) → Q (.ref z) H') : spJoin K L C CM f g P W [.ref x, .ref y] H Q E :=
  ⟨x, .ref y, lo, hi, rfl, hx, f1.1, f1.2, .inl ⟨y, lo2, hi2, rfl, hy, f2.1, f2.2, p, q⟩⟩
def spTwo : Sp := fun vs H Q _ => ∃ (p q : Addr) (lo : Int) (hi : Option Int) (lo2 : Int) (hi2 : Option Int) (n : Bool), vs = [.ref p, .ref q, .bl n] ∧ PairAt H p lo hi ∧ PairAt H q lo2 hi2 ∧ Far lo hi ∧ Far lo2 hi2 ∧ (n = true → Near lo hi ∧ Near lo2 hi2) ∧ ∀ H', L2.Same H H' → Q (.bl true) H'
theorem oadd_comm (a b : Option Int) : oadd a b = oadd b a := by
  cases a with
  | none => cases b <;> rfl
  | some a => cases b with
    | none => rfl
    | some b => exact congrArg some (Int.add_comm a b)
theorem omul_comm (a b : Option Int) : omul a b = omul b a := by
  unfold omul
  by_cases h : a = some 0 ∨ b = some 0
  · rw [if_pos h, if_pos (Or.comm.mp h)]
  · rw [if_neg h, if_neg (fun z => h (Or.comm.mp z))]
    cases a with
    | none => cases b <;> rfl
    | some a => cases b with
      | none => rfl
      | some b => exact congrArg some (Int.mul_comm a b)
theorem Far.le {lo : Int} {hi : Option Int} (h : Far lo hi) : 0 ≤ lo ∧ ∀ g, hi = some g → lo ≤ g := ⟨h.1, fun g e => (h.2.2 g e).1⟩
theorem Far.sm {lo : Int} {hi : Option Int} (h : Far lo hi) : Sm 110 lo ∧ ∀ g, hi = some g → Sm 110 g := ⟨sm30 h.1 h.2.1, fun g e => sm30 (Int.le_trans h.1 (h.2.2 g e).1) (h.2.2 g e).2⟩
theorem eqv_same {d : PyData} (h : SeqAt.shaped d = true) : PyData.eqv d d = true := SeqAt.eqv_refl d (SeqAt.canLay_of_shaped h)
theorem s_neSame {K : PySem.W.Frag} {H : Hp} {Q : VK} {x y : V} {d : PyData} (hx : Dp K H x d) (hy : Dp K H y d) (h : SeqAt.shaped d = true) (q : Q (.bl false) H) : rNeD K x y H Q := by
  refine ⟨d, d, hx, hy, h, h, ?_⟩
  rw [eqv_same h]
  exact q
theorem s_eqSame {K : PySem.W.Frag} {H : Hp} {Q : VK} {x y : V} {d : PyData} (hx : Dp K H x d) (hy : Dp K H y d) (h : SeqAt.shaped d = true) (q : Q (.bl true) H) : rEqD K x y H Q := by
  refine ⟨d, d, hx, hy, h, h, ?_⟩
  rw [eqv_same h]
  exact q
def optP : Option Int → PyData
  | none => .none
  | some i => .int i
def dPr (p : Int × Option Int) : PyData := .tuple [.int p.1, optP p.2]
theorem PairAt.dp {K : PySem.W.Frag} {H : Hp} {t : Addr} {p : Int × Option Int} (h : PairAt H t p.1 p.2) : Dp K H (.ref t) (dPr p) := by
  refine .tup (SqT.of h) (.cons (.int _) (.cons ?_ .nil))
  cases p.2 with
  | none => exact .non
  | some i => exact .int i
theorem dPr_sh (p : Int × Option Int) : SeqAt.shaped (dPr p) = true := by
  obtain ⟨l, h⟩ := p
  cases h <;> rfl
theorem dPPr_sh (p q : Int × Option Int) : SeqAt.shaped (.list [dPr p, dPr q]) = true := by
  obtain ⟨l, h⟩ := p
  obtain ⟨m, g⟩ := q
  cases h <;> cases g <;> rfl
theorem nf_own {K : PySem.W.Frag} {C : Addr} : PySem.W.notFirst K C (.ref C) = true := by
  simp [PySem.W.notFirst]
theorem mtx_len {lo : Int} {hi : Option Int} (h : Far lo hi) : (mtx lo hi).length ≤ 1300 := by
  have l1 : (numT lo).length ≤ 600 := numT_len h.1 (h.sm.1.mono (by decide))
  have g1 : (Str.ofString "Many(").length = 5 := w_len
  have g2 : (Str.ofString ")").length = 1 := w_len
  have g3 : (Str.ofString ", ").length = 2 := w_len
  have g4 : Str.empty.length = 0 := rfl
  cases hi with
  | none =>
    show (Str.empty ++ Str.ofString "Many(" ++ numT lo ++ Str.ofString ")").length ≤ _
    simp only [strLen_append]
    omega
  | some m =>
    have l2 : (numT m).length ≤ 600 := numT_len (Int.le_trans h.1 (h.2.2 m rfl).1) ((h.sm.2 m rfl).mono (by decide))
    show (Str.empty ++ Str.ofString "Many(" ++ numT lo ++ Str.ofString ", " ++ numT m ++ Str.ofString ")").length ≤ _
    simp only [strLen_append]
    omega
theorem rep2M {C : Addr} {H : Hp} {a x y : Addr} {lo lo2 : Int} {hi hi2 : Option Int} {Q : VK} (ea : H a = some (.lst [.ref x, .ref y])) (mx : ManyAt C H x lo hi) (my : ManyAt C H y lo2 hi2) (f1 : Far lo hi) (f2 : Far lo2 hi2)
    (q : ∀ H', L2.Same H H' → Q (.str (listText [mtx lo hi, mtx lo2 hi2])) H') : rReprM [(C, spMRep C)] [.ref a] H Q := by
  have one : ∀ {z : Addr} {l : Int} {h : Option Int}, ManyAt C H z l h → Far l h → ∃ (p : Addr × Sp) (b dx : Addr) (fs : List (Str × V)), p ∈ [(C, spMRep C)] ∧ V.ref z = .ref b ∧ H b = some (.ins p.1 dx fs) ∧ ∀ H1, L2.Same H H1 → ∀ Q1 : VK, (∀ H2, L2.Same H1 H2 → Q1 (.str (mtx l h)) H2) → p.2 [.ref b] H1 Q1 E0 := fun {z l h} m f => by
    obtain ⟨dx, t, e, _⟩ := id m
    exact ⟨_, z, dx, _, List.mem_singleton.mpr rfl, rfl, e, fun H1 s Q1 k => ⟨z, l, h, rfl, m.same s, f.1, fun g eg => Int.le_trans f.1 (f.2.2 g eg).1, f.sm.1.mono (by decide), fun g eg => (f.sm.2 g eg).mono (by decide), k⟩⟩
  refine ⟨a, _, [mtx lo hi, mtx lo2 hi2], rfl, ea, by simp, rfl, fun i v hv => ?_, ?_, q⟩
  · match i, hv with
    | 0, hv =>
      cases hv
      exact ⟨_, rfl, .inr (one mx f1)⟩
    | 1, hv =>
      cases hv
      exact ⟨_, rfl, .inr (one my f2)⟩
    | n + 2, hv => simp at hv
  · have h1 := listText_le [mtx lo hi, mtx lo2 hi2]
    have h2 := mtx_len f1
    have h3 := mtx_len f2
    refine fit ?_
    rw [piled_cons, piled_cons, piled_nil] at h1
    omega
theorem own_eq {K : PySem.W.Frag} {C : Addr} {H : Hp} {x y : Addr} {lo : Int} {hi : Option Int} {R : Bool → Hp → Prop} (z : ∀ {H : Hp} {a dx : Addr} {fs : List (Str × V)}, H a = some (.ins C dx fs) → TyOf K H (.ref a) (.ref C)) (mx : ManyAt C H x lo hi) (my : ManyAt C H y lo hi) (q : R true H) :
    ∃ (a dx : Addr) (fs : List (Str × V)) (t : Value), V.ref x = .ref a ∧ H a = some (.ins C dx fs) ∧ TyX K H (.ref y) t ∧ PySem.W.notFirst K C t = true ∧ spEqM C [.ref a, .ref y] H (fun v H' => ∃ b, v = V.bl b ∧ R b H') E0 := by
  obtain ⟨dx, t, e, _⟩ := id mx
  obtain ⟨dy, u, f, _⟩ := id my
  exact ⟨x, dx, _, .ref C, rfl, e, .base (z f), nf_own, x, y, lo, hi, rfl, mx, my, true, rfl, q⟩
include M
theorem c__law_two_right : Dn P w K mg base "_law_two_right" 12 ["_law_first", "_law_second", "_law_is_near"] [] spTwo := by
  have c__law_made := c__law_made (P := P) (w := w) (base := base) M
  have c__law_row := c__law_row (P := P) (w := w) (base := base) M
  have c__law_bounds := c__law_bounds (P := P) (w := w) (base := base) M
  have c__law_spanned := c__law_spanned (P := P) (w := w) (base := base) M
  have x_Many___add__ := x_Many___add__ (P := P) (w := w) (base := base) M
  have x_Many___mul__ := x_Many___mul__ (P := P) (w := w) (base := base) M
  have c_Many___eq__ := c_Many___eq__ (P := P) (w := w) (base := base) M
  have d_Many___eq__ := d_Many___eq__ (P := P) (w := w) (base := base) M
  have hR_Many : ∀ a b H H', L2.Ext H H' → ReqM C_Many a b H → ReqM C_Many a b H' := fun a b H H' e ⟨lo, hi, h1, h2⟩ => ⟨lo, hi, h1.same e, h2.same e⟩
  have dm : ∀ p ∈ ([(C_Many, spMRep C_Many)] : OwnL), MtO P w K mg base p.1 "__repr__" 1 ["self"] [] p.2 := fun p hp => by
    cases List.mem_singleton.mp hp
    exact d_Many___repr__ (P := P) (w := w) (base := base) M
  refine dnN M.f__law_two_right (fun F => ?_) (fun _ _ _ _ _ _ us hl => match us, hl with | [_, _, _], _ => rfl)
  refine fnG_body F sc__law_two_right (fun vs H Q E h => ?_) (fun cdv A outer s H vs Q E hr h => ?_)
  · obtain ⟨p, q, lo, hi, lo2, hi2, n, rfl, _⟩ := h
    rfl
  · obtain ⟨p, q, lo, hi, lo2, hi2, n, rfl, hp, hq, f1, f2, nr, k⟩ := h
    refine ⟨_, (pss_cons (ps_par (i := 3) (j := 4) (by rfl) sc__law_two_right.nd rfl rfl (by decide) rfl rfl (pa_cons (pe_callD c__law_made (hr.mono (by decide)) rfl (pa_cons (pv 0) pa_nil)) (pa_cons (pe_callD c__law_made (hr.mono (by decide)) rfl (pa_cons (pv 1) pa_nil)) pa_nil)) (by rfl)) (pss_cons (ps_par3 (i := 5) (j := 6) (l := 7) (by rfl) sc__law_two_right.nd rfl rfl rfl (by decide) (by decide) (by decide) rfl rfl rfl (pa_cons (pe_callB (call_or (call_reprZ (Nat.lt_of_le_of_lt (Nat.add_le_add_right (Nat.le_add_right _ _) 200) hr.r.un) hr.g) (call_reprM dm (hr.mono (by decide)))) (by rfl) M.b_repr (by decide +kernel) (pa_cons (pe_lstN (pa_cons (pv 3) (pa_cons (pv 4) pa_nil))) pa_nil)) (pa_cons (pe_op (op_ownA (K := K) (L := [C_Many, C_Ratio]) rfl x_Many___add__.calm rfl rfl M.ops_Many_add (hr.mono (by decide))) (pv 3) (pv 4)) (pa_cons (pe_op (op_ownA (K := K) (L := [C_Many, C_Ratio]) rfl x_Many___mul__.calm rfl rfl M.ops_Many_mul (hr.mono (by decide))) (pv 3) (pv 4)) pa_nil))) (by rfl)) (pss_cons (ps_set (i := 8) sc__law_two_right.nd rfl (.inl rfl) (pe_lstN (pa_cons (pe_callD c__law_bounds (hr.mono (by decide)) rfl (pa_cons (pv 0) (pa_cons (pv 1) (pa_cons pe_bl pa_nil)))) (pa_cons (pe_callD c__law_bounds (hr.mono (by decide)) rfl (pa_cons (pv 0) (pa_cons (pv 1) (pa_cons pe_bl pa_nil)))) pa_nil)))) (pss_cons (ps_set (i := 9) sc__law_two_right.nd rfl (.inl rfl) (pe_ifExp (pt_val (pv 2)) (pe_lstN (pa_cons (pe_callD c__law_spanned (hr.mono (by decide)) rfl (pa_cons (pv 0) (pa_cons (pv 1) (pa_cons pe_bl pa_nil)))) (pa_cons (pe_callD c__law_spanned (hr.mono (by decide)) rfl (pa_cons (pv 0) (pa_cons (pv 1) (pa_cons pe_bl pa_nil)))) pa_nil))) (pv 8))) (pss_cons (ps_if (pt_cmpR (op_neD hr.units) (pv 8) (pv 9) (nomark _)) (pss_one (ps_ret pe_bl)) pss_nil) (pss_cons (ps_if (pt_cmpR (op_neD hr.units) (pe_lstN (pa_cons (pe_callD c__law_row (hr.mono (by decide)) rfl (pa_cons (pv 6) pa_nil)) (pa_cons (pe_callD c__law_row (hr.mono (by decide)) rfl (pa_cons (pv 7) pa_nil)) pa_nil))) (pv 8) (nomark _)) (pss_one (ps_ret pe_bl)) pss_nil) (pss_cons (ps_if (PW.pt (pw_or (pt_cmpR (or_neO c_Many___eq__ M.ne_Many M.mo_Many (hr.mono (by decide))) (pv 6) (pe_op (op_ownA (K := K) (L := [C_Many, C_Ratio]) rfl x_Many___add__.calm rfl rfl M.ops_Many_add (hr.mono (by decide))) (pv 4) (pv 3)) (nomark _)) (pw_or1 (pt_cmpR (or_neO c_Many___eq__ M.ne_Many M.mo_Many (hr.mono (by decide))) (pv 7) (pe_op (op_ownA (K := K) (L := [C_Many, C_Ratio]) rfl x_Many___mul__.calm rfl rfl M.ops_Many_mul (hr.mono (by decide))) (pv 4) (pv 3)) (nomark _))))) (pss_one (ps_ret pe_bl)) pss_nil) (pss_cons (ps_set (i := 10) sc__law_two_right.nd rfl (.inl rfl) (pe_lstN (pa_cons (pe_op (op_ownA (K := K) (L := [C_Many, C_Ratio]) rfl x_Many___add__.calm rfl rfl M.ops_Many_add (hr.mono (by decide))) (pv 3) (pv 4)) (pa_cons (pe_op (op_ownA (K := K) (L := [C_Many, C_Ratio]) rfl x_Many___mul__.calm rfl rfl M.ops_Many_mul (hr.mono (by decide))) (pv 3) (pv 4)) pa_nil)))) (pss_one (ps_ret (pe_and (pe_cmpR (op_eqOL d_Many___eq__ hR_Many (hr.r.mono (by decide))) (pe_lstN (pa_cons (pv 6) (pa_cons (pv 7) pa_nil))) (pv 10) (nomark _)) (pe_one (pe_cmpR op_eq (pe_callB (call_or (call_reprZ (Nat.lt_of_le_of_lt (Nat.add_le_add_right (Nat.le_add_right _ _) 200) hr.r.un) hr.g) (call_reprM dm (hr.mono (by decide)))) (by rfl) M.b_repr (by decide +kernel) (pa_cons (pe_lstN (pa_cons (pv 3) (pa_cons (pv 4) pa_nil))) pa_nil)) (pv 5) (nomark _)))))))))))))), ?_⟩
    refine st_eq (σ := [some _, some _, some _, none, none, none, none, none, none, none, none]) rfl ?_
    walk_at "rd"
    refine ⟨p, lo, hi, rfl, hp, f1, fun x H1 s1 mx => ?_⟩
    walk_at "rd"
    refine ⟨q, lo2, hi2, rfl, hq.same s1, f2, fun y H2 s2 my => ?_⟩
    walk_at "rd"
    refine s_par3 ?_
    walk_at "rd"
    rename_i Z1 nZ1
    intro nS1
    walk_at "rd"
    have r1 := My.Same.new (o := .lst [.ref x, .ref y]) nZ1
    refine .inr (rep2M upd_same ((mx.same s2).same r1) (my.same r1) f1 f2 (fun H3 s3 => ?_))
    have s13 : L2.Same H1 H3 := s2.trans (r1.trans s3)
    have s23 : L2.Same H2 H3 := r1.trans s3
    have mx3 := mx.same s13
    have my3 := my.same s23
    have hp3 := hp.same (s1.trans s13)
    have hq3 := hq.same (s1.trans s13)
    have s03 := s1.trans s13
    clear s3 r1 nS1 nZ1
    walk_at "rd"
    obtain ⟨dx, tx, ex, _⟩ := id mx3
    obtain ⟨dy, ty, ey, _⟩ := id my3
    have my_mem : C_Many ∈ [C_Many, C_Ratio] := by simp
    refine ⟨x, dx, _, _, rfl, ex, AnyV.own M.z_Many my_mem ey, join_ok mx3 my3 f1.le f2.le trivial (fun sm H4 s4 msm => ?_)⟩
    have mx4 := mx3.same s4
    have my4 := my3.same s4
    walk_at "rd"
    obtain ⟨dx4, tx4, ex4, _⟩ := id mx4
    obtain ⟨dy4, ty4, ey4, _⟩ := id my4
    have mono8 : ∀ {l : Int} {h : Option Int}, Far l h → Sm 800 l ∧ ∀ g, h = some g → Sm 800 g := fun f => ⟨f.sm.1.mono (by decide), fun g e => (f.sm.2 g e).mono (by decide)⟩
    refine ⟨x, dx4, _, _, rfl, ex4, AnyV.own M.z_Many my_mem ey4, .inl (join_ok mx4 my4 f1.le f2.le ⟨(mono8 f1).1, (mono8 f2).1, (mono8 f1).2, (mono8 f2).2⟩ (fun tm H5 s5 mtm => ?_))⟩
    refine s_nil ?_
    refine ⟨_, _, _, rfl, ?_⟩
    have msm5 := msm.same s5
    have mx5 := mx4.same s5
    have my5 := my4.same s5
    have s05 := s03.trans (s4.trans s5)
    have hp5 := hp3.same (s4.trans s5)
    have hq5 := hq3.same (s4.trans s5)
    walk_at "rd"
    refine ⟨p, q, lo, hi, lo2, hi2, true, rfl, hp5, hq5, f1, f2, fun t1 H6 s6 e1 => ?_⟩
    walk_at "rd"
    refine ⟨p, q, lo, hi, lo2, hi2, false, rfl, hp5.same s6, hq5.same s6, f1, f2, fun t2 H7 s7 e2 => ?_⟩
    walk_at "rd"
    rename_i D1 nD1
    intro nS2
    have rD := My.Same.new (o := .lst [.ref t1, .ref t2]) nD1
    have eD : (upd H7 D1 (.lst [.ref t1, .ref t2])) D1 = some (.lst [.ref t1, .ref t2]) := upd_same
    have s58 := (s6.trans s7).trans rD
    have e1' := e1.same (s7.trans rD)
    have e2' := e2.same rD
    generalize upd H7 D1 (.lst [.ref t1, .ref t2]) = H8 at eD s58 e1' e2' ⊢
    clear s6 s7 rD nS2 e1 e2
    have hp8 := hp5.same s58
    have hq8 := hq5.same s58
    -- the list of the spans: the same pairs
    refine s_gnameE (τ := [some (.ref p), some (.ref q), some (.bl n), some (.ref x), some (.ref y), some (.str (listText [mtx lo hi, mtx lo2 hi2])), some (.ref sm), some (.ref tm), some (.ref D1), none, none]) (by rfl) ?_
    refine s_seq (s_asg ?_)
    refine cut_vk (fun v H9 => ∃ S u1 u2 : Addr, v = .ref S ∧ L2.Same H8 H9 ∧ H9 S = some (.lst [.ref u1, .ref u2]) ∧ PairAt H9 u1 (bnd lo hi lo2 hi2 true).1 (bnd lo hi lo2 hi2 true).2 ∧ PairAt H9 u2 (bnd lo hi lo2 hi2 false).1 (bnd lo hi lo2 hi2 false).2) (fun Q9 hQ => ?_) (fun v H9 z => ?_)
    · cases n with
      | true =>
        obtain ⟨g1, g2⟩ := nr rfl
        walk_at "rd"
        refine ⟨p, q, lo, hi, lo2, hi2, true, rfl, hp8, hq8, g1, g2, fun u1 H9 s9 w1 => ?_⟩
        walk_at "rd"
        refine ⟨p, q, lo, hi, lo2, hi2, false, rfl, hp8.same s9, hq8.same s9, g1, g2, fun u2 H10 s10 w2 => ?_⟩
        walk_at "rd"
        rename_i Z nZ
        intro nS
        have rZ := My.Same.new (o := .lst [.ref u1, .ref u2]) nZ
        exact hQ _ _ ⟨Z, u1, u2, rfl, (s9.trans s10).trans rZ, upd_same, w1.same (s10.trans rZ), w2.same rZ⟩
      | false =>
        walk_at "rd"
        exact hQ _ _ ⟨D1, t1, t2, rfl, L2.Same.refl _, eD, e1', e2'⟩
    · obtain ⟨S, u1, u2, rfl, s9, eS, w1, w2⟩ := z
      have e1z := e1'.same s9
      have e2z := e2'.same s9
      have eDz := s9 _ _ eD
      have s59 : L2.Same H5 H9 := s58.trans s9
      have mx9 := mx5.same s59
      have my9 := my5.same s59
      have ms9 := msm5.same s59
      have mt9 := mtm.same s59
      have s09 := s05.trans s59
      clear e1' e2' eD hp8 hq8 hp5 hq5 hp3 hq3 mx5 my5 msm5 mtm mx4 my4 msm ex4 ey4 ex ey mx3 my3 s58
      walk_at "rd"
      refine s_neSame (d := .list [dPr (bnd lo hi lo2 hi2 true), dPr (bnd lo hi lo2 hi2 false)]) (.lst (SqL.of eDz) (.cons e1z.dp (.cons e2z.dp .nil))) (.lst (SqL.of eS) (.cons w1.dp (.cons w2.dp .nil))) (dPPr_sh _ _) ⟨_, rfl, ?_⟩
      walk_at "rd"
      refine ⟨sm, _, _, rfl, ms9, fun r1 H10 s10 v1 => ?_⟩
      walk_at "rd"
      refine ⟨tm, _, _, rfl, mt9.same s10, fun r2 H11 s11 v2 => ?_⟩
      walk_at "rd"
      rename_i Z nZ
      intro nS
      have rZ := My.Same.new (o := .lst [.ref r1, .ref r2]) nZ
      have sZ := s10.trans (s11.trans rZ)
      have eZ : (upd H11 Z (.lst [.ref r1, .ref r2])) Z = some (.lst [.ref r1, .ref r2]) := upd_same
      have v1z := v1.same (s11.trans rZ)
      have v2z := v2.same rZ
      generalize upd H11 Z (.lst [.ref r1, .ref r2]) = H12 at rZ sZ eZ v1z v2z ⊢
      walk_at "rd"
      refine s_neSame (d := .list [dPr (bnd lo hi lo2 hi2 true), dPr (bnd lo hi lo2 hi2 false)]) (.lst (SqL.of eZ) (.cons (PairAt.dp (p := bnd lo hi lo2 hi2 true) v1z) (.cons (PairAt.dp (p := bnd lo hi lo2 hi2 false) v2z) .nil))) (.lst (SqL.of (sZ _ _ eDz)) (.cons (e1z.same sZ).dp (.cons (e2z.same sZ).dp .nil))) (dPPr_sh _ _) ⟨_, rfl, ?_⟩
      have mxA := mx9.same sZ
      have myA := my9.same sZ
      have msA := ms9.same sZ
      have mtA := mt9.same sZ
      have s0A := s09.trans sZ
      clear e1z e2z eDz mx9 my9 ms9 mt9 v1z v2z eZ rZ sZ s09 w1 w2 eS
      walk_at "rd"
      obtain ⟨da, ta, ea, _⟩ := id mxA
      obtain ⟨db, tb, eb, _⟩ := id myA
      refine ⟨y, db, _, _, rfl, eb, AnyV.own M.z_Many my_mem ea, join_ok myA mxA f2.le f1.le trivial (fun z1 H13 s13 m1 => ?_)⟩
      have m1' : ManyAt C_Many H13 z1 (lo + lo2) (oadd hi hi2) := by
        have h := m1
        rw [oadd_comm hi2 hi] at h
        rw [Int.add_comm lo lo2]
        exact h
      refine own_eq M.z_Many (msA.same s13) m1' ?_
      refine ⟨_, rfl, ?_⟩
      walk_at "rd"
      obtain ⟨da2, ta2, ea2, _⟩ := id (mxA.same s13)
      obtain ⟨db2, tb2, eb2, _⟩ := id (myA.same s13)
      refine ⟨y, db2, _, _, rfl, eb2, AnyV.own M.z_Many my_mem ea2, .inl (join_ok (myA.same s13) (mxA.same s13) f2.le f1.le ⟨(mono8 f2).1, (mono8 f1).1, (mono8 f2).2, (mono8 f1).2⟩ (fun z2 H14 s14 m2 => ?_))⟩
      have m2' : ManyAt C_Many H14 z2 (lo * lo2) (omul hi hi2) := by
        have h := m2
        rw [omul_comm hi2 hi] at h
        rw [Int.mul_comm lo lo2]
        exact h
      refine own_eq M.z_Many (mtA.same (s13.trans s14)) m2' ?_
      refine ⟨_, rfl, ?_⟩
      have sE := s13.trans s14
      have mxE := mxA.same sE
      have myE := myA.same sE
      have msE := msA.same sE
      have mtE := mtA.same sE
      have s0E := s0A.trans sE
      clear mxA myA msA mtA m1 m1' m2 m2' ea eb ea2 eb2 s0A
      walk_at "rd"
      obtain ⟨da, ta, ea, _⟩ := id mxE
      obtain ⟨db, tb, eb, _⟩ := id myE
      refine ⟨x, da, _, _, rfl, ea, AnyV.own M.z_Many my_mem eb, join_ok mxE myE f1.le f2.le trivial (fun z3 H15 s15 m3 => ?_)⟩
      walk_at "rd"
      obtain ⟨da2, ta2, ea2, _⟩ := id (mxE.same s15)
      obtain ⟨db2, tb2, eb2, _⟩ := id (myE.same s15)
      refine ⟨x, da2, _, _, rfl, ea2, AnyV.own M.z_Many my_mem eb2, .inl (join_ok (mxE.same s15) (myE.same s15) f1.le f2.le ⟨(mono8 f1).1, (mono8 f2).1, (mono8 f1).2, (mono8 f2).2⟩ (fun z4 H16 s16 m4 => ?_))⟩
      walk_at "rd"
      rename_i G nG
      intro nS4
      have rG := My.Same.new (o := .lst [.ref z3, .ref z4]) nG
      have eG : (upd H16 G (.lst [.ref z3, .ref z4])) G = some (.lst [.ref z3, .ref z4]) := upd_same
      have sG := s15.trans (s16.trans rG)
      have m3G := m3.same (s16.trans rG)
      have m4G := m4.same rG
      generalize upd H16 G (.lst [.ref z3, .ref z4]) = H17 at rG eG sG m3G m4G ⊢
      walk_at "rd"
      rename_i J nJ
      intro nS5
      have rJ := My.Same.new (o := .lst [.ref sm, .ref tm]) nJ
      have eJ : (upd H17 J (.lst [.ref sm, .ref tm])) J = some (.lst [.ref sm, .ref tm]) := upd_same
      have eGJ := rJ _ _ eG
      have m3J := m3G.same rJ
      have m4J := m4G.same rJ
      have msJ := msE.same (sG.trans rJ)
      have mtJ := mtE.same (sG.trans rJ)
      have sJ := sG.trans rJ
      generalize upd H17 J (.lst [.ref sm, .ref tm]) = H18 at rJ eJ eGJ m3J m4J msJ mtJ sJ ⊢
      walk_at "rd"
      have own2 : ∀ {a b : Addr} {l : Int} {h : Option Int}, ManyAt C_Many H18 a l h → ManyAt C_Many H18 b l h → L2.DIns C_Many (ReqM C_Many) (.ref a) (.ref b) H18 := fun {a b l h} m m' => by
        obtain ⟨d1, k1, g1, _⟩ := id m
        obtain ⟨d2, k2, g2, _⟩ := id m'
        exact ⟨a, b, d1, d2, _, _, rfl, rfl, g1, g2, l, h, m, m'⟩
      refine ⟨⟨J, G, _, _, rfl, rfl, eJ, eGJ, .cons (own2 msJ m3J) (.cons (own2 mtJ m4J) .nil)⟩, fun H19 s19 => ?_⟩
      refine ⟨true, rfl, ?_⟩
      refine iteT ?_
      have mxK := (mxE.same sJ).same s19
      have myK := (myE.same sJ).same s19
      walk_at "rd"
      rename_i U nU
      intro nS6
      walk_at "rd"
      have rU := My.Same.new (o := .lst [.ref x, .ref y]) nU
      refine .inr (rep2M upd_same (mxK.same rU) (myK.same rU) f1 f2 (fun H20 s20 => ?_))
      walk_at "rd"
      rw [decide_eq_true rfl]
      exact k H20 (s0E.trans (sJ.trans (L2.Same.trans s19 (rU.trans s20))))
end
end My
end
section
open My L2 PySem
open My L2 PySem
local macro_rules | `(tactic| walk_at "as") => `(tactic| with_reducible assumption)
local macro_rules | `(tactic| walk_at "hp") => `(tactic| first
  | walk_at "as" | exact upd_same
  | (rw [upd_ne (by walk_at "ne")]; walk_at "hp")
  | (refine But.get (by walk_at "as") ?hp1 ?hp2; (case hp1 => walk_at "hp"); (case hp2 => walk_at "ne"))
  | (refine My.Same.get (by walk_at "as") ?hp1; (case hp1 => walk_at "hp")))
local macro_rules | `(tactic| walk_at "ne") => `(tactic| first
  | walk_at "as" | exact Ne.symm (by walk_at "as")
  | (refine' ne_of_none ?ne1 ?ne2; (case ne2 => walk_at "as"); (case ne1 => walk_at "hp"))
  | (refine' Ne.symm (ne_of_none ?ne1 ?ne2); (case ne2 => walk_at "as"); (case ne1 => walk_at "hp"))
  | exact ne_of (by walk_at "hp") (by walk_at "hp") (by intro z; cases z))
local macro_rules | `(tactic| walk_at "sd") => `(tactic| first
  | walk_at "as" | omega | decide | exact ⟨by omega, by omega⟩ | exact .inl ⟨by omega, by omega⟩ | exact .inr ⟨by omega, by omega⟩ | exact divp_wide (by walk_at "as") (by walk_at "as") | exact Sm.cmul (by walk_at "as") (by walk_at "as") | exact cmul_small (by omega) (by omega) (by omega) (by omega) | exact ⟨by omega, by decide⟩)
local macro_rules | `(tactic| walk_at "bt") => `(tactic| first
  | walk_at "as" | exact But.refl _ _ | exact Same.but (by walk_at "as")
  | (refine But.trans ?bt1 But.at; (case bt1 => walk_at "bt"))
  | (refine But.trans ?bt1 (But.new (by first | walk_at "as" | walk_at "hp")); (case bt1 => walk_at "bt"))
  | (refine But.trans ?bt1 (by walk_at "as"); (case bt1 => walk_at "bt"))
  | (refine But.trans ?bt1 (Same.but (by walk_at "as")); (case bt1 => walk_at "bt")))
local macro_rules | `(tactic| walk_at "sm") => `(tactic| first
  | walk_at "as" | exact My.Same.rfl' _
  | (refine' My.Same.at_ ?sm1 ?sm2; (case sm1 => walk_at "as"); (case sm2 => walk_at "sm"))
  | (refine' My.Same.tr ?sm1 (My.Same.new ?sm2); (case sm2 => walk_at "as"); (case sm1 => walk_at "sm"))
  | (refine' My.Same.tr ?sm1 ?sm2; (case sm2 => walk_at "as"); (case sm1 => walk_at "sm")))
local macro_rules | `(tactic| walk_at "sz") => `(tactic| first
  | assumption | exact lt_size (by rfl) | exact le_size (by rfl) | (rw [sizeLine_eq]; omega)
  | (rw [sizeLine_eq]; simp only [List.length_append, List.length_map, List.length_cons, List.length_nil]; omega))
local macro_rules | `(tactic| walk_at "few") => `(tactic| (repeat refine few_put ?_); exact few0)
local macro_rules | `(tactic| walk_at "rd1") => `(tactic| first
  | (with_reducible show tVar _ _ _ _); refine s_var rfl ?_
  | with_reducible refine s_c ?_ | with_reducible refine s_op ?_ | with_reducible refine s_un ?_
  | with_reducible refine s_cons ?_ | with_reducible refine s_nil ?_ | with_reducible refine s_cb ?_
  | with_reducible refine s_test ?_ | with_reducible refine s_B ?_ | with_reducible refine s_not ?_ | with_reducible refine s_and ?_ | with_reducible refine s_or ?_
  | with_reducible refine s_if ?_ | with_reducible refine s_notV ?_ | with_reducible refine s_andV ?_ | with_reducible refine s_orV ?_
  | with_reducible refine s_orT ?_ | with_reducible refine s_andT ?_ | with_reducible refine s_chain ?_
  | with_reducible refine s_isi_int ?_ | with_reducible refine s_isi_int_bool ?_ | with_reducible refine s_isi_str ?_
  | with_reducible refine iteT ?_ | with_reducible refine iteF ?_ | with_reducible refine iteNT ?_ | with_reducible refine iteNF ?_
  | with_reducible refine s_isN ?_ | with_reducible refine s_notN ?_
  | ((with_reducible refine' s_2setE ?g1 ?_); (case g1 => first | (dsimp only [List.set, L2.wipe, List.map, List.foldl]; done) | (dsimp only [List.set, L2.wipe, List.map, List.foldl]; rfl)))
  | with_reducible refine s_seq ?_ | with_reducible refine s_ifS ?_ | with_reducible refine s_asg ?_ | with_reducible refine s_ret ?_ | with_reducible refine s_drop ?_ | with_reducible refine s_next ?_
  | ((with_reducible refine' s_gnameE ?g1 ?_); (case g1 => first | (dsimp only [List.set, L2.wipe, List.map, List.foldl]; done) | (dsimp only [List.set, L2.wipe, List.map, List.foldl]; rfl)))
  | with_reducible refine s_gsub ?_ | with_reducible refine s_gcons ?_ | with_reducible refine s_gnil ?_
  | (with_reducible show gTup _ _ _ _ _ _ _); refine s_gtup (by walk_at "hp") rfl ?_
  | with_reducible refine s_eqI ?_ | with_reducible refine s_neI ?_ | with_reducible refine s_eqS ?_ | with_reducible refine s_neB ?_ | with_reducible refine s_eqB ?_ | with_reducible refine s_neSr ?_ | with_reducible refine s_neS ?_
  | with_reducible refine s_I0 ?_
  | (with_reducible show rI _ _ _ _ _ _); refine s_I (by walk_at "sd") ?_
  | (with_reducible show rIxL _ _ _ _ _); refine s_ixL (by walk_at "hp") rfl ?_
  | (with_reducible show rIxT _ _ _ _ _); refine s_ixT (by walk_at "hp") rfl ?_
  | (with_reducible show rSetL _ _ _ _ _); refine s_setL (by walk_at "hp") rfl ?_
  | with_reducible refine s_prop ?_
  | (with_reducible show _ ≤ sizeLine ∧ _); refine ⟨le_size (by rfl), ?_⟩
  | with_reducible refine ite_NN ?_ | with_reducible refine ite_IN ?_ | with_reducible refine ite_nNN ?_ | with_reducible refine ite_nIN ?_ | with_reducible refine ite_RN ?_ | with_reducible refine ite_nRN ?_
  | with_reducible refine s_sfld ?_
  | ((with_reducible refine' ⟨_, _, _, _, rfl, ?fp1, ?fp2, ?fp3, ?fp4, ?_⟩); (case fp1 => walk_at "hp"); (case fp2 => assumption); (case fp3 => assumption); (case fp4 => walk_at "few"))
  | with_reducible refine s_fldE ?_
  | ((with_reducible refine' ⟨_, _, _, _, _, rfl, ?fp1, ?fp2, ?fp3, ?fp4, ?_⟩); (case fp1 => walk_at "hp"); (case fp2 => assumption); (case fp3 => assumption); (case fp4 => rfl))
  | with_reducible refine s_bm ?_ | with_reducible refine s_bm0 ?_
  | ((with_reducible refine' s_tyL ?ty1 ?_); (case ty1 => walk_at "hp"))
  | ((with_reducible refine' s_append ?ap1 ?ap2 ?_); (case ap1 => walk_at "hp"); (case ap2 => walk_at "sz"))
  | ((with_reducible refine' s_extend ?ap1 ?ap2 ?ap3 ?_); (case ap1 => walk_at "hp"); (case ap2 => walk_at "hp"); (case ap3 => walk_at "sz"))
  | with_reducible refine s_for (fun _ _ => ?_) | with_reducible refine s_lc ?_ | with_reducible refine s_iList ?_ | with_reducible refine s_iTup ?_ | with_reducible refine s_iRng1 ?_ | with_reducible refine s_iRng2 ?_
  | with_reducible refine s_yes ?_ | with_reducible refine s_par ?_
  | with_reducible refine s_make ?_ | with_reducible refine s_meth ?_
  | with_reducible refine s_tup ?_ | with_reducible refine s_lst ?_ | with_reducible refine s_call ?_
  | with_reducible refine ⟨rfl, ?_⟩
  | with_reducible refine ⟨_, rfl, ?_⟩
  | ((with_reducible refine' ⟨_, _, rfl, ?sd1, ?_⟩); (case sd1 => walk_at "sd"))
  | with_reducible refine ⟨_, _, rfl, ?_⟩
  | with_reducible refine .inl ⟨_, rfl, ?_⟩
  | dsimp only [List.set]
  | walk_at "rdx"
  | (refine fun _ _ => ?_))
local macro_rules | `(tactic| walk_at "rd") => `(tactic| repeat (first
  | (with_reducible show tVar _ _ _ _); refine s_var rfl ?_
  | with_reducible refine s_c ?_ | with_reducible refine s_op ?_ | with_reducible refine s_un ?_
  | with_reducible refine s_cons ?_ | with_reducible refine s_nil ?_ | with_reducible refine s_cb ?_
  | with_reducible refine s_test ?_ | with_reducible refine s_B ?_ | with_reducible refine s_not ?_ | with_reducible refine s_and ?_ | with_reducible refine s_or ?_
  | with_reducible refine s_if ?_ | with_reducible refine s_notV ?_ | with_reducible refine s_andV ?_ | with_reducible refine s_orV ?_
  | with_reducible refine s_orT ?_ | with_reducible refine s_andT ?_ | with_reducible refine s_chain ?_
  | with_reducible refine s_isi_int ?_ | with_reducible refine s_isi_int_bool ?_ | with_reducible refine s_isi_str ?_
  | with_reducible refine iteT ?_ | with_reducible refine iteF ?_ | with_reducible refine iteNT ?_ | with_reducible refine iteNF ?_
  | with_reducible refine s_isN ?_ | with_reducible refine s_notN ?_
  | ((with_reducible refine' s_2setE ?g1 ?_); (case g1 => first | (dsimp only [List.set, L2.wipe, List.map, List.foldl]; done) | (dsimp only [List.set, L2.wipe, List.map, List.foldl]; rfl)))
  | with_reducible refine s_seq ?_ | with_reducible refine s_ifS ?_ | with_reducible refine s_asg ?_ | with_reducible refine s_ret ?_ | with_reducible refine s_drop ?_ | with_reducible refine s_next ?_
  | ((with_reducible refine' s_gnameE ?g1 ?_); (case g1 => first | (dsimp only [List.set, L2.wipe, List.map, List.foldl]; done) | (dsimp only [List.set, L2.wipe, List.map, List.foldl]; rfl)))
  | with_reducible refine s_gsub ?_ | with_reducible refine s_gcons ?_ | with_reducible refine s_gnil ?_
  | (with_reducible show gTup _ _ _ _ _ _ _); refine s_gtup (by walk_at "hp") rfl ?_
  | with_reducible refine s_eqI ?_ | with_reducible refine s_neI ?_ | with_reducible refine s_eqS ?_ | with_reducible refine s_neB ?_ | with_reducible refine s_eqB ?_ | with_reducible refine s_neSr ?_ | with_reducible refine s_neS ?_
  | with_reducible refine s_I0 ?_
  | (with_reducible show rI _ _ _ _ _ _); refine s_I (by walk_at "sd") ?_
  | (with_reducible show rIxL _ _ _ _ _); refine s_ixL (by walk_at "hp") rfl ?_
  | (with_reducible show rIxT _ _ _ _ _); refine s_ixT (by walk_at "hp") rfl ?_
  | (with_reducible show rSetL _ _ _ _ _); refine s_setL (by walk_at "hp") rfl ?_
  | with_reducible refine s_prop ?_
  | (with_reducible show _ ≤ sizeLine ∧ _); refine ⟨le_size (by rfl), ?_⟩
  | with_reducible refine ite_NN ?_ | with_reducible refine ite_IN ?_ | with_reducible refine ite_nNN ?_ | with_reducible refine ite_nIN ?_ | with_reducible refine ite_RN ?_ | with_reducible refine ite_nRN ?_
  | with_reducible refine s_sfld ?_
  | ((with_reducible refine' ⟨_, _, _, _, rfl, ?fp1, ?fp2, ?fp3, ?fp4, ?_⟩); (case fp1 => walk_at "hp"); (case fp2 => assumption); (case fp3 => assumption); (case fp4 => walk_at "few"))
  | with_reducible refine s_fldE ?_
  | ((with_reducible refine' ⟨_, _, _, _, _, rfl, ?fp1, ?fp2, ?fp3, ?fp4, ?_⟩); (case fp1 => walk_at "hp"); (case fp2 => assumption); (case fp3 => assumption); (case fp4 => rfl))
  | with_reducible refine s_bm ?_ | with_reducible refine s_bm0 ?_
  | ((with_reducible refine' s_tyL ?ty1 ?_); (case ty1 => walk_at "hp"))
  | ((with_reducible refine' s_append ?ap1 ?ap2 ?_); (case ap1 => walk_at "hp"); (case ap2 => walk_at "sz"))
  | ((with_reducible refine' s_extend ?ap1 ?ap2 ?ap3 ?_); (case ap1 => walk_at "hp"); (case ap2 => walk_at "hp"); (case ap3 => walk_at "sz"))
  | with_reducible refine s_for (fun _ _ => ?_) | with_reducible refine s_lc ?_ | with_reducible refine s_iList ?_ | with_reducible refine s_iTup ?_ | with_reducible refine s_iRng1 ?_ | with_reducible refine s_iRng2 ?_
  | with_reducible refine s_yes ?_ | with_reducible refine s_par ?_
  | with_reducible refine s_make ?_ | with_reducible refine s_meth ?_
  | with_reducible refine s_tup ?_ | with_reducible refine s_lst ?_ | with_reducible refine s_call ?_
  | with_reducible refine ⟨rfl, ?_⟩
  | with_reducible refine ⟨_, rfl, ?_⟩
  | ((with_reducible refine' ⟨_, _, rfl, ?sd1, ?_⟩); (case sd1 => walk_at "sd"))
  | with_reducible refine ⟨_, _, rfl, ?_⟩
  | with_reducible refine .inl ⟨_, rfl, ?_⟩
  | dsimp only [List.set]
  | walk_at "rdx"
  | (refine fun _ _ => ?_)))

namespace My
open PySem L2
section
variable {P : Program} {w : World} {K : PySem.W.Frag} {mg : Str → Option Value} {base : Heap} {C_Many C_Ratio C_EachError C_InvalidMany L__law_odd_right : Addr} (M : Md K mg C_Many C_Ratio C_EachError C_InvalidMany L__law_odd_right)
include M
local macro_rules | `(tactic| walk_at "rdx") => `(tactic| first | with_reducible refine s_ostG ?_ | with_reducible refine s_raE ?_ | with_reducible refine s_callX ?_ | with_reducible refine s_opX ?_ | with_reducible refine s_reflX ?_ | with_reducible refine s_lstN ?_)
omit M
/-- small enough for one more product -/
def Fit (lo : Int) (hi : Option Int) : Prop := 0 ≤ lo ∧ (∀ h, hi = some h → lo ≤ h) ∧ Sm 400 lo ∧ ∀ h, hi = some h → Sm 400 h
theorem Far.fit {lo : Int} {hi : Option Int} (h : Far lo hi) : Fit lo hi := ⟨h.1, h.le.2, h.sm.1.mono (by decide), fun g e => (h.sm.2 g e).mono (by decide)⟩
theorem Fit.mk1 {lo : Int} (h0 : 0 ≤ lo) (h : Sm 400 lo) : Fit lo (some lo) := ⟨h0, fun g e => by cases e; omega, h, fun g e => by cases e; exact h⟩
theorem Fit.le {lo : Int} {hi : Option Int} (h : Fit lo hi) : 0 ≤ lo ∧ ∀ g, hi = some g → lo ≤ g := ⟨h.1, h.2.1⟩
theorem mul_ok {K : PySem.W.Frag} {L : List Addr} {C CM : Addr} {H : Hp} {Q : VK} {E : XK} {x y : Addr} {lo lo2 : Int} {hi hi2 : Option Int} (hx : ManyAt C H x lo hi) (hy : ManyAt C H y lo2 hi2) (f1 : Fit lo hi) (f2 : Fit lo2 hi2)
    (q : ∀ z H', L2.Same H H' → ManyAt C H' z (lo * lo2) (omul hi hi2) → Q (.ref z) H') : spMul K L C CM [.ref x, .ref y] H Q E :=
  .inl (join_ok hx hy f1.le f2.le ⟨f1.2.2.1.mono (by decide), f2.2.2.1.mono (by decide), fun g e => (f1.2.2.2 g e).mono (by decide), fun g e => (f2.2.2.2 g e).mono (by decide)⟩ q)
theorem own_op {K : PySem.W.Frag} {L : List Addr} {C : Addr} {H : Hp} {x y : Addr} {lo lo2 : Int} {hi hi2 : Option Int} {S : V → V → Prop} (z : ∀ {H : Hp} {a dx : Addr} {fs : List (Str × V)}, H a = some (.ins C dx fs) → TyOf K H (.ref a) (.ref C)) (hL : C ∈ L) (mx : ManyAt C H x lo hi) (my : ManyAt C H y lo2 hi2) (s : S (.ref x) (.ref y)) :
    ∃ (a dx : Addr) (fs : List (Str × V)) (t : Value), V.ref x = .ref a ∧ H a = some (.ins C dx fs) ∧ AnyV K L H (.ref y) t ∧ S (.ref a) (.ref y) := by
  obtain ⟨dx, t, e, _⟩ := id mx
  obtain ⟨dy, u, f, _⟩ := id my
  exact ⟨x, dx, _, _, rfl, e, AnyV.own z hL f, s⟩
theorem add_op {K : PySem.W.Frag} {L : List Addr} {C CM : Addr} {H : Hp} {Q : VK} {x y : Addr} {lo lo2 : Int} {hi hi2 : Option Int} (z : ∀ {H : Hp} {a dx : Addr} {fs : List (Str × V)}, H a = some (.ins C dx fs) → TyOf K H (.ref a) (.ref C)) (hL : C ∈ L) (mx : ManyAt C H x lo hi) (my : ManyAt C H y lo2 hi2)
    (f1 : 0 ≤ lo ∧ ∀ g, hi = some g → lo ≤ g) (f2 : 0 ≤ lo2 ∧ ∀ g, hi2 = some g → lo2 ≤ g) (q : ∀ z H', L2.Same H H' → ManyAt C H' z (lo + lo2) (oadd hi hi2) → Q (.ref z) H') : rBinA K L C (fun vs H Q _ => spJoin K L C CM (· + ·) oadd (fun _ _ _ _ => True) (fun _ => True) vs H Q E0) [] (.ref x) (.ref y) H Q := by
  obtain ⟨dx, t, e, _⟩ := id mx
  obtain ⟨dy, u, f, _⟩ := id my
  exact ⟨x, dx, _, _, rfl, e, AnyV.own z hL f, join_ok mx my f1 f2 trivial q⟩
theorem mul_op {K : PySem.W.Frag} {L : List Addr} {C CM : Addr} {H : Hp} {Q : VK} {x y : Addr} {lo lo2 : Int} {hi hi2 : Option Int} (z : ∀ {H : Hp} {a dx : Addr} {fs : List (Str × V)}, H a = some (.ins C dx fs) → TyOf K H (.ref a) (.ref C)) (hL : C ∈ L) (mx : ManyAt C H x lo hi) (my : ManyAt C H y lo2 hi2)
    (f1 : Fit lo hi) (f2 : Fit lo2 hi2) (q : ∀ z H', L2.Same H H' → ManyAt C H' z (lo * lo2) (omul hi hi2) → Q (.ref z) H') : rBinA K L C (fun vs H Q _ => spMul K L C CM vs H Q E0) [] (.ref x) (.ref y) H Q := by
  obtain ⟨dx, t, e, _⟩ := id mx
  obtain ⟨dy, u, f, _⟩ := id my
  exact ⟨x, dx, _, _, rfl, e, AnyV.own z hL f, mul_ok mx my f1 f2 q⟩
theorem ManyAt.to {C : Addr} {H : Hp} {x : Addr} {lo lo2 : Int} {hi hi2 : Option Int} (h : ManyAt C H x lo hi) (e : lo = lo2) (e2 : hi = hi2) : ManyAt C H x lo2 hi2 := e ▸ e2 ▸ h
theorem oadd_assoc (a b c : Option Int) : oadd (oadd a b) c = oadd a (oadd b c) := by
  cases a <;> cases b <;> cases c <;> first | rfl | exact congrArg some (Int.add_assoc _ _ _)
theorem omul_assoc (a b c : Option Int) (ha : ∀ h, a = some h → 0 ≤ h) (hb : ∀ h, b = some h → 0 ≤ h) (hc : ∀ h, c = some h → 0 ≤ h) : omul (omul a b) c = omul a (omul b c) := by
  have z1 : ∀ x : Option Int, omul (some 0) x = some 0 := fun x => by unfold omul; rw [if_pos (.inl rfl)]
  have z2 : ∀ x : Option Int, omul x (some 0) = some 0 := fun x => by unfold omul; rw [if_pos (.inr rfl)]
  have n1 : ∀ x : Option Int, x ≠ some 0 → omul none x = none := fun x h => by unfold omul; rw [if_neg (by simpa using h)]
  have n2 : ∀ x : Option Int, x ≠ some 0 → omul x none = none := fun x h => by
    unfold omul
    rw [if_neg (by simpa using h)]
    cases x <;> rfl
  by_cases ea : a = some 0
  · simp only [ea, z1, z2]
  by_cases eb : b = some 0
  · simp only [eb, z1, z2]
  by_cases ec : c = some 0
  · simp only [ec, z1, z2]
  have nz : ∀ x y : Int, x ≠ 0 → y ≠ 0 → x * y ≠ 0 := fun x y hx hy h => by rcases Int.mul_eq_zero.mp h with z | z <;> contradiction
  cases a with
  | none =>
    rw [n1 b eb, n1 c ec]
    cases b with
    | none => rw [n1 c ec, n1 none (by simp)]
    | some b =>
      cases c with
      | none => rw [n2 _ eb, n1 none (by simp)]
      | some c =>
        rw [omul_some, n1 _ (by intro h; exact nz b c (fun z => eb (by rw [z])) (fun z => ec (by rw [z])) (Option.some.inj h))]
  | some a =>
    cases b with
    | none =>
      rw [n2 _ ea, n1 c ec, n2 _ ea]
    | some b =>
      cases c with
      | none =>
        rw [omul_some, n2 (some b) eb, n2 (some a) ea, n2 _ (by intro h; exact nz a b (fun z => ea (by rw [z])) (fun z => eb (by rw [z])) (Option.some.inj h))]
      | some c => rw [omul_some, omul_some, omul_some, omul_some, Int.mul_assoc]
theorem omul_fit {lo lo2 : Int} {hi hi2 : Option Int} (f : Far lo hi) (g : Far lo2 hi2) : Fit (lo * lo2) (omul hi hi2) := by
  refine ⟨Int.mul_nonneg f.1 g.1, omul_le f.1 g.1 f.le.2 g.le.2, (f.sm.1.mul g.sm.1).mono (by decide), fun h e => ?_⟩
  unfold omul at e
  by_cases c : hi = some 0 ∨ hi2 = some 0
  · rw [if_pos c] at e
    cases e
    exact Nat.two_pow_pos 400
  · rw [if_neg c] at e
    cases hi with
    | none => cases e
    | some a =>
      cases hi2 with
      | none => cases e
      | some b =>
        have e2 : a * b = h := Option.some.inj e
        rw [← e2]
        exact ((f.sm.2 a rfl).mul (g.sm.2 b rfl)).mono (by decide)
theorem omul_one (a : Option Int) : omul a (some 1) = a := by
  cases a with
  | none => rfl
  | some x => rw [omul_some, Int.mul_one]
theorem one_omul (a : Option Int) : omul (some 1) a = a := by
  cases a with
  | none => rfl
  | some x => rw [omul_some, Int.one_mul]
theorem oadd_zero (a : Option Int) : oadd a (some 0) = a := by
  cases a with
  | none => rfl
  | some x => exact congrArg some (Int.add_zero x)
theorem omul_zero (a : Option Int) : omul a (some 0) = some 0 := by unfold omul; rw [if_pos (.inr rfl)]
theorem Fit.c0 : Fit 0 (some 0) := .mk1 (by decide) (Nat.two_pow_pos 400)
theorem Fit.c1 : Fit 1 (some 1) := .mk1 (by decide) (by show (1 : Nat) < 2 ^ 400; exact Nat.one_lt_two_pow (by decide))
theorem Fit.cN : Fit 0 none := ⟨by decide, (fun _ z => nomatch z), Nat.two_pow_pos 400, (fun _ z => nomatch z)⟩
def spThree : Sp := fun vs H Q _ => ∃ (l p1 p2 p3 : Addr) (l1 l2 l3 : Int) (h1 h2 h3 : Option Int), vs = [.ref l] ∧ H l = some (.lst [.ref p1, .ref p2, .ref p3]) ∧ PairAt H p1 l1 h1 ∧ PairAt H p2 l2 h2 ∧ PairAt H p3 l3 h3 ∧ Far l1 h1 ∧ Far l2 h2 ∧ Far l3 h3 ∧ ∀ H', L2.Same H H' → Q (.bl true) H'
include M
theorem c__law_three_right : Dn P w K mg base "_law_three_right" 12 ["_law_pairs"] [] spThree := by
  have c__law_made := c__law_made (P := P) (w := w) (base := base) M
  have c__law_row := c__law_row (P := P) (w := w) (base := base) M
  have x_Many___add__ := x_Many___add__ (P := P) (w := w) (base := base) M
  have x_Many___mul__ := x_Many___mul__ (P := P) (w := w) (base := base) M
  have c_Many___eq__ := c_Many___eq__ (P := P) (w := w) (base := base) M
  have c_Many_1 := c_Many_1 (P := P) (w := w) (base := base) M
  have c_Many_2 := c_Many_2 (P := P) (w := w) (base := base) M
  refine dnN M.f__law_three_right (fun F => ?_) (fun _ _ _ _ _ _ us hl => match us, hl with | [_], _ => rfl)
  refine fnG_body F sc__law_three_right (fun vs H Q E h => ?_) (fun cdv A outer s H vs Q E hr h => ?_)
  · obtain ⟨l, p1, p2, p3, l1, l2, l3, h1, h2, h3, rfl, _⟩ := h
    rfl
  · obtain ⟨l, p1, p2, p3, l1, l2, l3, h1, h2, h3, rfl, el, hp1, hp2, hp3, f1, f2, f3, k⟩ := h
    have my_mem : C_Many ∈ [C_Many, C_Ratio] := by simp
    refine ⟨_, (pss_cons (ps_par3 (i := 1) (j := 2) (l := 3) (by rfl) sc__law_three_right.nd rfl rfl rfl (by decide) (by decide) (by decide) rfl rfl rfl (pa_cons (pe_callD c__law_made (hr.mono (by decide)) rfl (pa_cons (pe_ix ix_list (pv 0) pe_int (fun _ _ => rfl)) pa_nil)) (pa_cons (pe_callD c__law_made (hr.mono (by decide)) rfl (pa_cons (pe_ix ix_list (pv 0) pe_int (fun _ _ => rfl)) pa_nil)) (pa_cons (pe_callD c__law_made (hr.mono (by decide)) rfl (pa_cons (pe_ix ix_list (pv 0) pe_int (fun _ _ => rfl)) pa_nil)) pa_nil))) (by rfl)) (pss_cons (ps_if (pt_cmpR (or_neO c_Many___eq__ M.ne_Many M.mo_Many (hr.mono (by decide))) (pe_op (op_ownA (K := K) (L := [C_Many, C_Ratio]) rfl x_Many___add__.calm rfl rfl M.ops_Many_add (hr.mono (by decide))) (pe_op (op_ownA (K := K) (L := [C_Many, C_Ratio]) rfl x_Many___add__.calm rfl rfl M.ops_Many_add (hr.mono (by decide))) (pv 1) (pv 2)) (pv 3)) (pe_op (op_ownA (K := K) (L := [C_Many, C_Ratio]) rfl x_Many___add__.calm rfl rfl M.ops_Many_add (hr.mono (by decide))) (pv 1) (pe_op (op_ownA (K := K) (L := [C_Many, C_Ratio]) rfl x_Many___add__.calm rfl rfl M.ops_Many_add (hr.mono (by decide))) (pv 2) (pv 3))) (nomark _)) (pss_one (ps_ret pe_bl)) pss_nil) (pss_cons (ps_if (pt_cmpR (or_neO c_Many___eq__ M.ne_Many M.mo_Many (hr.mono (by decide))) (pe_op (op_ownA (K := K) (L := [C_Many, C_Ratio]) rfl x_Many___mul__.calm rfl rfl M.ops_Many_mul (hr.mono (by decide))) (pe_op (op_ownA (K := K) (L := [C_Many, C_Ratio]) rfl x_Many___mul__.calm rfl rfl M.ops_Many_mul (hr.mono (by decide))) (pv 1) (pv 2)) (pv 3)) (pe_op (op_ownA (K := K) (L := [C_Many, C_Ratio]) rfl x_Many___mul__.calm rfl rfl M.ops_Many_mul (hr.mono (by decide))) (pv 1) (pe_op (op_ownA (K := K) (L := [C_Many, C_Ratio]) rfl x_Many___mul__.calm rfl rfl M.ops_Many_mul (hr.mono (by decide))) (pv 2) (pv 3))) (nomark _)) (pss_one (ps_ret pe_bl)) pss_nil) (pss_cons (ps_if (PW.pt (pw_or (pt_cmpR (or_neO c_Many___eq__ M.ne_Many M.mo_Many (hr.mono (by decide))) (pe_op (op_ownA (K := K) (L := [C_Many, C_Ratio]) rfl x_Many___add__.calm rfl rfl M.ops_Many_add (hr.mono (by decide))) (pv 1) (pe_makeD c_Many_2 (hr.mono (by decide)) rfl (pa_cons pe_int (pa_cons pe_int pa_nil)))) (pv 1) (nomark _)) (pw_or1 (pt_cmpR (or_neO c_Many___eq__ M.ne_Many M.mo_Many (hr.mono (by decide))) (pe_op (op_ownA (K := K) (L := [C_Many, C_Ratio]) rfl x_Many___mul__.calm rfl rfl M.ops_Many_mul (hr.mono (by decide))) (pv 1) (pe_makeD c_Many_2 (hr.mono (by decide)) rfl (pa_cons pe_int (pa_cons pe_int pa_nil)))) (pv 1) (nomark _))))) (pss_one (ps_ret pe_bl)) pss_nil) (pss_cons (ps_if (pt_cmpR (or_neO c_Many___eq__ M.ne_Many M.mo_Many (hr.mono (by decide))) (pe_op (op_ownA (K := K) (L := [C_Many, C_Ratio]) rfl x_Many___mul__.calm rfl rfl M.ops_Many_mul (hr.mono (by decide))) (pe_makeD c_Many_2 (hr.mono (by decide)) rfl (pa_cons pe_int (pa_cons pe_int pa_nil))) (pv 1)) (pv 1) (nomark _)) (pss_one (ps_ret pe_bl)) pss_nil) (pss_one (ps_ret (pe_and (pe_cmpR (op_eqD hr.units) (pe_callD c__law_row (hr.mono (by decide)) rfl (pa_cons (pe_op (op_ownA (K := K) (L := [C_Many, C_Ratio]) rfl x_Many___mul__.calm rfl rfl M.ops_Many_mul (hr.mono (by decide))) (pv 1) (pe_makeD c_Many_2 (hr.mono (by decide)) rfl (pa_cons pe_int (pa_cons pe_int pa_nil)))) pa_nil)) (pe_tup (pa_cons pe_int (pa_cons pe_int pa_nil))) (nomark _)) (pe_one (pe_cmpR (op_eqD hr.units) (pe_callD c__law_row (hr.mono (by decide)) rfl (pa_cons (pe_op (op_ownA (K := K) (L := [C_Many, C_Ratio]) rfl x_Many___mul__.calm rfl rfl M.ops_Many_mul (hr.mono (by decide))) (pe_makeD c_Many_1 (hr.mono (by decide)) rfl (pa_cons pe_int pa_nil)) (pe_makeD c_Many_1 (hr.mono (by decide)) rfl (pa_cons pe_int pa_nil))) pa_nil)) (pe_tup (pa_cons pe_int (pa_cons pe_non pa_nil))) (nomark _))))))))))), ?_⟩
    refine st_eq (σ := [some _, none, none, none]) rfl ?_
    walk_at "rd"
    refine s_par3 ?_
    walk_at "rd"
    refine ⟨p1, l1, h1, rfl, hp1, f1, fun x H1 s1 mx => ?_⟩
    have el1 := s1 _ _ el
    walk_at "rd"
    refine ⟨p2, l2, h2, rfl, hp2.same s1, f2, fun y H2 s2 my => ?_⟩
    have el2 := s2 _ _ el1
    walk_at "rd"
    refine ⟨p3, l3, h3, rfl, (hp3.same s1).same s2, f3, fun z H3 s3 mz => ?_⟩
    refine s_nil ?_
    refine ⟨_, _, _, rfl, ?_⟩
    have mx3 := (mx.same s2).same s3
    have my3 := my.same s3
    have s03 := s1.trans (s2.trans s3)
    clear mx my el1 el2
    walk_at "rd"
    -- one + two + three, one + (two + three)
    refine add_op M.z_Many my_mem mx3 my3 f1.le f2.le (fun a H4 s4 ma => ?_)
    walk_at "rd"
    refine add_op M.z_Many my_mem ma (mz.same s4) ⟨Int.add_nonneg f1.1 f2.1, oadd_le f1.le.2 f2.le.2⟩ f3.le (fun b H5 s5 mb => ?_)
    have s35 := s4.trans s5
    walk_at "rd"
    refine add_op M.z_Many my_mem (my3.same s35) (mz.same s35) f2.le f3.le (fun c H6 s6 mc => ?_)
    have s36 := s35.trans s6
    walk_at "rd"
    refine add_op M.z_Many my_mem (mx3.same s36) mc f1.le ⟨Int.add_nonneg f2.1 f3.1, oadd_le f2.le.2 f3.le.2⟩ (fun d H7 s7 md => ?_)
    have s37 := s36.trans s7
    refine own_eq M.z_Many ((mb.same s6).same s7) (md.to (Int.add_assoc _ _ _).symm (oadd_assoc _ _ _).symm) ?_
    refine ⟨_, rfl, ?_⟩
    have mx7 := mx3.same s37
    have my7 := my3.same s37
    have mz7 := mz.same s37
    have s07 := s03.trans s37
    clear ma mb mc md mx3 my3 mz s03 s37 s36 s35
    walk_at "rd"
    -- products
    have p0 : ∀ {l : Int} {h : Option Int}, Far l h → ∀ g, h = some g → 0 ≤ g := fun f g e => Int.le_trans f.1 (f.2.2 g e).1
    refine mul_op M.z_Many my_mem mx7 my7 f1.fit f2.fit (fun a H8 s8 ma => ?_)
    walk_at "rd"
    refine mul_op M.z_Many my_mem ma (mz7.same s8) (omul_fit f1 f2) f3.fit (fun b H9 s9 mb => ?_)
    have s79 := s8.trans s9
    walk_at "rd"
    refine mul_op M.z_Many my_mem (my7.same s79) (mz7.same s79) f2.fit f3.fit (fun c H10 s10 mc => ?_)
    have s710 := s79.trans s10
    walk_at "rd"
    refine mul_op M.z_Many my_mem (mx7.same s710) mc f1.fit (omul_fit f2 f3) (fun d H11 s11 md => ?_)
    have s711 := s710.trans s11
    refine own_eq M.z_Many ((mb.same s10).same s11) (md.to (Int.mul_assoc _ _ _).symm (omul_assoc _ _ _ (p0 f1) (p0 f2) (p0 f3)).symm) ?_
    refine ⟨_, rfl, ?_⟩
    have mxB := mx7.same s711
    have s0B := s07.trans s711
    clear ma mb mc md mx7 my7 mz7 s07 s711 s710 s79
    walk_at "rd"
    rename_i X1 DX1 nX1 nDX1
    refine fun neX1 => ⟨X1, DX1, 0, some 0, rfl, upd_same, by decide, (fun g e => by cases e; decide), fun H12 b1 m1 => ⟨rfl, ?_⟩⟩
    have u1 := b1.same (My.Same.at_ nX1 (My.Same.new nDX1)) nX1
    walk_at "rd"
    refine add_op M.z_Many my_mem (mxB.same u1) m1 f1.le Fit.c0.le (fun a H13 s13 ma => ?_)
    walk_at "rd"
    refine own_eq M.z_Many (ma.to (Int.add_zero _) (oadd_zero _)) ((mxB.same u1).same s13) ?_
    refine ⟨_, rfl, ?_⟩
    have mxC := (mxB.same u1).same s13
    have s0C := s0B.trans (u1.trans s13)
    clear mxB s0B m1 ma b1
    walk_at "rd"
    rename_i X2 DX2 nX2 nDX2
    refine fun neX2 => ⟨X2, DX2, 1, some 1, rfl, upd_same, by decide, (fun g e => by cases e; decide), fun H14 b2 m2 => ⟨rfl, ?_⟩⟩
    have u2 := b2.same (My.Same.at_ nX2 (My.Same.new nDX2)) nX2
    walk_at "rd"
    refine mul_op M.z_Many my_mem (mxC.same u2) m2 f1.fit Fit.c1 (fun a H15 s15 ma => ?_)
    walk_at "rd"
    refine own_eq M.z_Many (ma.to (Int.mul_one _) (omul_one _)) ((mxC.same u2).same s15) ?_
    refine ⟨_, rfl, ?_⟩
    have mxD := (mxC.same u2).same s15
    have s0D := s0C.trans (u2.trans s15)
    clear mxC s0C m2 ma b2
    walk_at "rd"
    rename_i X3 DX3 nX3 nDX3
    refine fun neX3 => ⟨X3, DX3, 1, some 1, rfl, upd_same, by decide, (fun g e => by cases e; decide), fun H16 b3 m3 => ⟨rfl, ?_⟩⟩
    have u3 := b3.same (My.Same.at_ nX3 (My.Same.new nDX3)) nX3
    walk_at "rd"
    refine mul_op M.z_Many my_mem m3 (mxD.same u3) Fit.c1 f1.fit (fun a H17 s17 ma => ?_)
    walk_at "rd"
    refine own_eq M.z_Many (ma.to (Int.one_mul _) (one_omul _)) ((mxD.same u3).same s17) ?_
    refine ⟨_, rfl, ?_⟩
    have mxE := (mxD.same u3).same s17
    have s0E := s0D.trans (u3.trans s17)
    clear mxD s0D m3 ma b3
    walk_at "rd"
    rename_i X4 DX4 nX4 nDX4
    refine fun neX4 => ⟨X4, DX4, 0, some 0, rfl, upd_same, by decide, (fun g e => by cases e; decide), fun H18 b4 m4 => ⟨rfl, ?_⟩⟩
    have u4 := b4.same (My.Same.at_ nX4 (My.Same.new nDX4)) nX4
    walk_at "rd"
    refine mul_op M.z_Many my_mem (mxE.same u4) m4 f1.fit Fit.c0 (fun a H19 s19 ma => ?_)
    walk_at "rd"
    refine ⟨a, _, _, rfl, ma, fun r H20 s20 v1 => ?_⟩
    walk_at "rd"
    rename_i Z nZ
    have rZ := My.Same.new (o := .tup [.int 0, .int 0]) nZ
    have v1' : PairAt H20 r 0 (some 0) := by
      have h := v1
      rw [omul_zero, Int.mul_zero] at h
      exact h
    refine s_eqSame (d := dPr (0, some 0)) (PairAt.dp (p := (0, some 0)) (v1'.same rZ)) (PairAt.dp (p := (0, some 0)) upd_same) (dPr_sh _) ?_
    refine ⟨true, rfl, iteT ?_⟩
    have s0F := s0E.trans (u4.trans (s19.trans (s20.trans rZ)))
    clear mxE s0E v1 v1' m4 ma b4
    generalize upd H20 Z (.tup [.int 0, .int 0]) = H21 at rZ s0F ⊢
    walk_at "rd"
    rename_i X5 DX5 nX5 nDX5
    refine fun neX5 => ⟨X5, DX5, 0, none, rfl, upd_same, by decide, (fun g e => by cases e), fun H22 b5 m5 => ⟨rfl, ?_⟩⟩
    have u5 := b5.same (My.Same.at_ nX5 (My.Same.new nDX5)) nX5
    walk_at "rd"
    rename_i X6 DX6 nX6 nDX6
    refine fun neX6 => ⟨X6, DX6, 0, none, rfl, upd_same, by decide, (fun g e => by cases e), fun H23 b6 m6 => ⟨rfl, ?_⟩⟩
    have u6 := b6.same (My.Same.at_ nX6 (My.Same.new nDX6)) nX6
    walk_at "rd"
    refine mul_op M.z_Many my_mem (m5.same u6) m6 Fit.cN Fit.cN (fun a H24 s24 ma => ?_)
    walk_at "rd"
    refine ⟨a, _, _, rfl, ma, fun r2 H25 s25 v2 => ?_⟩
    walk_at "rd"
    rename_i Z2 nZ2
    have rZ2 := My.Same.new (o := .tup [.int 0, .non]) nZ2
    refine s_eqSame (d := dPr (0, none)) (PairAt.dp (p := (0, none)) (PairAt.same v2 rZ2)) (PairAt.dp (p := (0, none)) upd_same) (dPr_sh _) ?_
    exact k _ (s0F.trans (u5.trans (u6.trans (s24.trans (s25.trans rZ2)))))
omit M
theorem mul_cnt {K : PySem.W.Frag} {L : List Addr} {C CM : Addr} {H : Hp} {Q : VK} {x : Addr} {lo n : Int} {hi : Option Int} (mx : ManyAt C H x lo hi) (f1 : Fit lo hi) (n0 : 0 ≤ n) (sn : Sm 400 n)
    (q : ∀ z H', L2.Same H H' → ManyAt C H' z (lo * n) (omul hi (some n)) → Q (.ref z) H') : rBinA K L C (fun vs H Q _ => spMul K L C CM vs H Q E0) [] (.ref x) (.int n) H Q := by
  obtain ⟨dx, t, e, _⟩ := id mx
  exact ⟨x, dx, _, _, rfl, e, AnyV.int n, .inr ⟨x, n, lo, hi, rfl, mx, f1.1, f1.2.1, n0, f1.2.2.1.mono (by decide), sn.mono (by decide), fun g e => (f1.2.2.2 g e).mono (by decide), q⟩⟩
theorem own_eq1 {K : PySem.W.Frag} {C : Addr} {H : Hp} {x y : Addr} {lo : Int} {hi : Option Int} {Q : VK} (z : ∀ {H : Hp} {a dx : Addr} {fs : List (Str × V)}, H a = some (.ins C dx fs) → TyOf K H (.ref a) (.ref C)) (mx : ManyAt C H x lo hi) (my : ManyAt C H y lo hi) (q : Q (.bl true) H) :
    ∃ (a dx : Addr) (fs : List (Str × V)) (t : Value), V.ref x = .ref a ∧ H a = some (.ins C dx fs) ∧ TyX K H (.ref y) t ∧ PySem.W.notFirst K C t = true ∧ spEqM C [.ref a, .ref y] H Q E0 := by
  obtain ⟨dx, t, e, _⟩ := id mx
  obtain ⟨dy, u, f, _⟩ := id my
  exact ⟨x, dx, _, .ref C, rfl, e, .base (z f), nf_own, x, y, lo, hi, rfl, mx, my, q⟩
def spCount : Sp := fun vs H Q _ => ∃ (p : Addr) (n lo : Int) (hi : Option Int), vs = [.ref p, .int n] ∧ PairAt H p lo hi ∧ Far lo hi ∧ 0 ≤ n ∧ n ≤ 10 ^ 30 ∧ ∀ H', L2.Same H H' → Q (.bl true) H'
include M
theorem c__law_count_right : Dn P w K mg base "_law_count_right" 12 ["_law_pair_here", "_law_count_by"] [] spCount := by
  have c__law_made := c__law_made (P := P) (w := w) (base := base) M
  have c__law_row := c__law_row (P := P) (w := w) (base := base) M
  have c__law_bounds := c__law_bounds (P := P) (w := w) (base := base) M
  have x_Many___mul__ := x_Many___mul__ (P := P) (w := w) (base := base) M
  have x_Many___rmul__ := x_Many___rmul__ (P := P) (w := w) (base := base) M
  have c_Many___eq__ := c_Many___eq__ (P := P) (w := w) (base := base) M
  have c_Many_2 := c_Many_2 (P := P) (w := w) (base := base) M
  refine dnN M.f__law_count_right (fun F => ?_) (fun _ _ _ _ _ _ us hl => match us, hl with | [_, _], _ => rfl)
  refine fnG_body F sc__law_count_right (fun vs H Q E h => ?_) (fun cdv A outer s H vs Q E hr h => ?_)
  · obtain ⟨p, n, lo, hi, rfl, _⟩ := h
    rfl
  · obtain ⟨p, n, lo, hi, rfl, hp, f, n0, n1, k⟩ := h
    have my_mem : C_Many ∈ [C_Many, C_Ratio] := by simp
    refine ⟨_, (pss_cons (ps_par (i := 2) (j := 3) (by rfl) sc__law_count_right.nd rfl rfl (by decide) rfl rfl (pa_cons (pe_callD c__law_made (hr.mono (by decide)) rfl (pa_cons (pv 0) pa_nil)) (pa_cons (pe_callD c__law_bounds (hr.mono (by decide)) rfl (pa_cons (pv 0) (pa_cons (pe_tup (pa_cons (pv 1) (pa_cons (pv 1) pa_nil))) (pa_cons pe_bl pa_nil)))) pa_nil)) (by rfl)) (pss_cons (ps_if (PW.pt (pw_or (pt_cmpR (op_neD hr.units) (pe_callD c__law_row (hr.mono (by decide)) rfl (pa_cons (pe_op (op_ownA (K := K) (L := [C_Many, C_Ratio]) rfl x_Many___mul__.calm rfl rfl M.ops_Many_mul (hr.mono (by decide))) (pv 2) (pv 1)) pa_nil)) (pv 3) (nomark _)) (pw_or1 (pt_cmpR (op_neD hr.units) (pe_callD c__law_row (hr.mono (by decide)) rfl (pa_cons (pe_rmulX (K := K) (L := [C_Many, C_Ratio]) rfl x_Many___rmul__ takes_none5 M.ref_Many_mul (hr.mono (by decide)) (pv 1) (pv 2)) pa_nil)) (pv 3) (nomark _))))) (pss_one (ps_ret pe_bl)) pss_nil) (pss_one (ps_ret (pe_cmpR (or_eqO c_Many___eq__ (hr.mono (by decide))) (pe_op (op_ownA (K := K) (L := [C_Many, C_Ratio]) rfl x_Many___mul__.calm rfl rfl M.ops_Many_mul (hr.mono (by decide))) (pv 2) (pv 1)) (pe_op (op_ownA (K := K) (L := [C_Many, C_Ratio]) rfl x_Many___mul__.calm rfl rfl M.ops_Many_mul (hr.mono (by decide))) (pv 2) (pe_makeD c_Many_2 (hr.mono (by decide)) rfl (pa_cons (pv 1) (pa_cons (pv 1) pa_nil)))) (nomark _)))))), ?_⟩
    refine st_eq (σ := [some _, some _, none, none]) rfl ?_
    have ff : Far n (some n) := ⟨n0, n1, fun g e => by cases e; omega⟩
    have sn : Sm 400 n := ff.sm.1.mono (by decide)
    have eb : bnd lo hi n (some n) false = (lo * n, omul hi (some n)) := rfl
    walk_at "rd"
    refine ⟨p, lo, hi, rfl, hp, f, fun x H1 s1 mx => ?_⟩
    walk_at "rd"
    rename_i T nT
    have rT := My.Same.new (o := .tup [.int n, .int n]) nT
    refine ⟨p, T, lo, hi, n, some n, false, rfl, (hp.same s1).same rT, upd_same, f, ff, fun d H2 s2 vd => ?_⟩
    rw [eb] at vd
    have s12 := rT.trans s2
    have mx2 := mx.same s12
    have s02 := s1.trans s12
    clear mx rT
    walk_at "rd"
    refine mul_cnt mx2 f.fit n0 sn (fun a H3 s3 ma => ?_)
    walk_at "rd"
    refine ⟨a, _, _, rfl, ma, fun r H4 s4 vr => ?_⟩
    have s24 := s3.trans s4
    walk_at "rd"
    refine s_neSame (d := dPr (lo * n, omul hi (some n))) (PairAt.dp (p := (lo * n, omul hi (some n))) vr) (PairAt.dp (p := (lo * n, omul hi (some n))) (PairAt.same vd s24)) (dPr_sh _) ⟨_, rfl, ?_⟩
    have mx4 := mx2.same s24
    obtain ⟨dx4, tx4, ex4, _⟩ := id mx4
    walk_at "rd"
    refine ⟨x, dx4, _, _, rfl, ex4, AnyV.int n, by decide +kernel, x, .int n, _, rfl, AnyV.int n, .inr ⟨x, n, lo, hi, rfl, mx4, f.1, f.le.2, n0, f.sm.1.mono (by decide), sn.mono (by decide), fun g e => (f.sm.2 g e).mono (by decide), fun b H5 s5 mb => ?_⟩⟩
    walk_at "rd"
    refine ⟨b, _, _, rfl, mb, fun r2 H6 s6 vr2 => ?_⟩
    have s46 := s5.trans s6
    walk_at "rd"
    refine s_neSame (d := dPr (lo * n, omul hi (some n))) (PairAt.dp (p := (lo * n, omul hi (some n))) vr2) (PairAt.dp (p := (lo * n, omul hi (some n))) (PairAt.same vd (s24.trans s46))) (dPr_sh _) ⟨_, rfl, ?_⟩
    have mx6 := mx4.same s46
    walk_at "rd"
    refine mul_cnt mx6 f.fit n0 sn (fun c H7 s7 mc => ?_)
    walk_at "rd"
    rename_i X1 DX1 nX1 nDX1
    refine fun neX1 => ⟨X1, DX1, n, some n, rfl, upd_same, n0, (fun g e => by cases e; omega), fun H8 b1 m1 => ⟨rfl, ?_⟩⟩
    have u1 := b1.same (My.Same.at_ nX1 (My.Same.new nDX1)) nX1
    walk_at "rd"
    refine mul_op M.z_Many my_mem ((mx6.same s7).same u1) m1 f.fit ff.fit (fun e H9 s9 me => ?_)
    refine own_eq1 M.z_Many ((mc.same u1).same s9) me ?_
    exact k H9 (s02.trans (s24.trans (s46.trans (s7.trans (u1.trans s9)))))
end
end My
end
section
open My L2 PySem
open My L2 PySem
local macro_rules | `(tactic| walk_at "as") => `(tactic| with_reducible assumption)
local macro_rules | `(tactic| walk_at "hp") => `(tactic| first
  | walk_at "as" | exact upd_same
  | (rw [upd_ne (by walk_at "ne")]; walk_at "hp")
  | (refine But.get (by walk_at "as") ?hp1 ?hp2; (case hp1 => walk_at "hp"); (case hp2 => walk_at "ne"))
  | (refine My.Same.get (by walk_at "as") ?hp1; (case hp1 => walk_at "hp")))
local macro_rules | `(tactic| walk_at "ne") => `(tactic| first
  | walk_at "as" | exact Ne.symm (by walk_at "as")
  | (refine' ne_of_none ?ne1 ?ne2; (case ne2 => walk_at "as"); (case ne1 => walk_at "hp"))
  | (refine' Ne.symm (ne_of_none ?ne1 ?ne2); (case ne2 => walk_at "as"); (case ne1 => walk_at "hp"))
  | exact ne_of (by walk_at "hp") (by walk_at "hp") (by intro z; cases z))
local macro_rules | `(tactic| walk_at "sd") => `(tactic| first
  | walk_at "as" | omega | decide | exact ⟨by omega, by omega⟩ | exact .inl ⟨by omega, by omega⟩ | exact .inr ⟨by omega, by omega⟩ | exact divp_wide (by walk_at "as") (by walk_at "as") | exact Sm.cmul (by walk_at "as") (by walk_at "as") | exact cmul_small (by omega) (by omega) (by omega) (by omega) | exact ⟨by omega, by decide⟩)
local macro_rules | `(tactic| walk_at "bt") => `(tactic| first
  | walk_at "as" | exact But.refl _ _ | exact Same.but (by walk_at "as")
  | (refine But.trans ?bt1 But.at; (case bt1 => walk_at "bt"))
  | (refine But.trans ?bt1 (But.new (by first | walk_at "as" | walk_at "hp")); (case bt1 => walk_at "bt"))
  | (refine But.trans ?bt1 (by walk_at "as"); (case bt1 => walk_at "bt"))
  | (refine But.trans ?bt1 (Same.but (by walk_at "as")); (case bt1 => walk_at "bt")))
local macro_rules | `(tactic| walk_at "sm") => `(tactic| first
  | walk_at "as" | exact My.Same.rfl' _
  | (refine' My.Same.at_ ?sm1 ?sm2; (case sm1 => walk_at "as"); (case sm2 => walk_at "sm"))
  | (refine' My.Same.tr ?sm1 (My.Same.new ?sm2); (case sm2 => walk_at "as"); (case sm1 => walk_at "sm"))
  | (refine' My.Same.tr ?sm1 ?sm2; (case sm2 => walk_at "as"); (case sm1 => walk_at "sm")))
local macro_rules | `(tactic| walk_at "sz") => `(tactic| first
  | assumption | exact lt_size (by rfl) | exact le_size (by rfl) | (rw [sizeLine_eq]; omega)
  | (rw [sizeLine_eq]; simp only [List.length_append, List.length_map, List.length_cons, List.length_nil]; omega))
local macro_rules | `(tactic| walk_at "few") => `(tactic| (repeat refine few_put ?_); exact few0)
local macro_rules | `(tactic| walk_at "rd1") => `(tactic| first
  | (with_reducible show tVar _ _ _ _); refine s_var rfl ?_
  | with_reducible refine s_c ?_ | with_reducible refine s_op ?_ | with_reducible refine s_un ?_
  | with_reducible refine s_cons ?_ | with_reducible refine s_nil ?_ | with_reducible refine s_cb ?_
  | with_reducible refine s_test ?_ | with_reducible refine s_B ?_ | with_reducible refine s_not ?_ | with_reducible refine s_and ?_ | with_reducible refine s_or ?_
  | with_reducible refine s_if ?_ | with_reducible refine s_notV ?_ | with_reducible refine s_andV ?_ | with_reducible refine s_orV ?_
  | with_reducible refine s_orT ?_ | with_reducible refine s_andT ?_ | with_reducible refine s_chain ?_
  | with_reducible refine s_isi_int ?_ | with_reducible refine s_isi_int_bool ?_ | with_reducible refine s_isi_str ?_
  | with_reducible refine iteT ?_ | with_reducible refine iteF ?_ | with_reducible refine iteNT ?_ | with_reducible refine iteNF ?_
  | with_reducible refine s_isN ?_ | with_reducible refine s_notN ?_
  | ((with_reducible refine' s_2setE ?g1 ?_); (case g1 => first | (dsimp only [List.set, L2.wipe, List.map, List.foldl]; done) | (dsimp only [List.set, L2.wipe, List.map, List.foldl]; rfl)))
  | with_reducible refine s_seq ?_ | with_reducible refine s_ifS ?_ | with_reducible refine s_asg ?_ | with_reducible refine s_ret ?_ | with_reducible refine s_drop ?_ | with_reducible refine s_next ?_
  | ((with_reducible refine' s_gnameE ?g1 ?_); (case g1 => first | (dsimp only [List.set, L2.wipe, List.map, List.foldl]; done) | (dsimp only [List.set, L2.wipe, List.map, List.foldl]; rfl)))
  | with_reducible refine s_gsub ?_ | with_reducible refine s_gcons ?_ | with_reducible refine s_gnil ?_
  | (with_reducible show gTup _ _ _ _ _ _ _); refine s_gtup (by walk_at "hp") rfl ?_
  | with_reducible refine s_eqI ?_ | with_reducible refine s_neI ?_ | with_reducible refine s_eqS ?_ | with_reducible refine s_neB ?_ | with_reducible refine s_eqB ?_ | with_reducible refine s_neSr ?_ | with_reducible refine s_neS ?_
  | with_reducible refine s_I0 ?_
  | (with_reducible show rI _ _ _ _ _ _); refine s_I (by walk_at "sd") ?_
  | (with_reducible show rIxL _ _ _ _ _); refine s_ixL (by walk_at "hp") rfl ?_
  | (with_reducible show rIxT _ _ _ _ _); refine s_ixT (by walk_at "hp") rfl ?_
  | (with_reducible show rSetL _ _ _ _ _); refine s_setL (by walk_at "hp") rfl ?_
  | with_reducible refine s_prop ?_
  | (with_reducible show _ ≤ sizeLine ∧ _); refine ⟨le_size (by rfl), ?_⟩
  | with_reducible refine ite_NN ?_ | with_reducible refine ite_IN ?_ | with_reducible refine ite_nNN ?_ | with_reducible refine ite_nIN ?_ | with_reducible refine ite_RN ?_ | with_reducible refine ite_nRN ?_
  | with_reducible refine s_sfld ?_
  | ((with_reducible refine' ⟨_, _, _, _, rfl, ?fp1, ?fp2, ?fp3, ?fp4, ?_⟩); (case fp1 => walk_at "hp"); (case fp2 => assumption); (case fp3 => assumption); (case fp4 => walk_at "few"))
  | with_reducible refine s_fldE ?_
  | ((with_reducible refine' ⟨_, _, _, _, _, rfl, ?fp1, ?fp2, ?fp3, ?fp4, ?_⟩); (case fp1 => walk_at "hp"); (case fp2 => assumption); (case fp3 => assumption); (case fp4 => rfl))
  | with_reducible refine s_bm ?_ | with_reducible refine s_bm0 ?_
  | ((with_reducible refine' s_tyL ?ty1 ?_); (case ty1 => walk_at "hp"))
  | ((with_reducible refine' s_append ?ap1 ?ap2 ?_); (case ap1 => walk_at "hp"); (case ap2 => walk_at "sz"))
  | ((with_reducible refine' s_extend ?ap1 ?ap2 ?ap3 ?_); (case ap1 => walk_at "hp"); (case ap2 => walk_at "hp"); (case ap3 => walk_at "sz"))
  | with_reducible refine s_for (fun _ _ => ?_) | with_reducible refine s_lc ?_ | with_reducible refine s_iList ?_ | with_reducible refine s_iTup ?_ | with_reducible refine s_iRng1 ?_ | with_reducible refine s_iRng2 ?_
  | with_reducible refine s_yes ?_ | with_reducible refine s_par ?_
  | with_reducible refine s_make ?_ | with_reducible refine s_meth ?_
  | with_reducible refine s_tup ?_ | with_reducible refine s_lst ?_ | with_reducible refine s_call ?_
  | with_reducible refine ⟨rfl, ?_⟩
  | with_reducible refine ⟨_, rfl, ?_⟩
  | ((with_reducible refine' ⟨_, _, rfl, ?sd1, ?_⟩); (case sd1 => walk_at "sd"))
  | with_reducible refine ⟨_, _, rfl, ?_⟩
  | with_reducible refine .inl ⟨_, rfl, ?_⟩
  | dsimp only [List.set]
  | walk_at "rdx"
  | (refine fun _ _ => ?_))
local macro_rules | `(tactic| walk_at "rd") => `(tactic| repeat (first
  | (with_reducible show tVar _ _ _ _); refine s_var rfl ?_
  | with_reducible refine s_c ?_ | with_reducible refine s_op ?_ | with_reducible refine s_un ?_
  | with_reducible refine s_cons ?_ | with_reducible refine s_nil ?_ | with_reducible refine s_cb ?_
  | with_reducible refine s_test ?_ | with_reducible refine s_B ?_ | with_reducible refine s_not ?_ | with_reducible refine s_and ?_ | with_reducible refine s_or ?_
  | with_reducible refine s_if ?_ | with_reducible refine s_notV ?_ | with_reducible refine s_andV ?_ | with_reducible refine s_orV ?_
  | with_reducible refine s_orT ?_ | with_reducible refine s_andT ?_ | with_reducible refine s_chain ?_
  | with_reducible refine s_isi_int ?_ | with_reducible refine s_isi_int_bool ?_ | with_reducible refine s_isi_str ?_
  | with_reducible refine iteT ?_ | with_reducible refine iteF ?_ | with_reducible refine iteNT ?_ | with_reducible refine iteNF ?_
  | with_reducible refine s_isN ?_ | with_reducible refine s_notN ?_
  | ((with_reducible refine' s_2setE ?g1 ?_); (case g1 => first | (dsimp only [List.set, L2.wipe, List.map, List.foldl]; done) | (dsimp only [List.set, L2.wipe, List.map, List.foldl]; rfl)))
  | with_reducible refine s_seq ?_ | with_reducible refine s_ifS ?_ | with_reducible refine s_asg ?_ | with_reducible refine s_ret ?_ | with_reducible refine s_drop ?_ | with_reducible refine s_next ?_
  | ((with_reducible refine' s_gnameE ?g1 ?_); (case g1 => first | (dsimp only [List.set, L2.wipe, List.map, List.foldl]; done) | (dsimp only [List.set, L2.wipe, List.map, List.foldl]; rfl)))
  | with_reducible refine s_gsub ?_ | with_reducible refine s_gcons ?_ | with_reducible refine s_gnil ?_
  | (with_reducible show gTup _ _ _ _ _ _ _); refine s_gtup (by walk_at "hp") rfl ?_
  | with_reducible refine s_eqI ?_ | with_reducible refine s_neI ?_ | with_reducible refine s_eqS ?_ | with_reducible refine s_neB ?_ | with_reducible refine s_eqB ?_ | with_reducible refine s_neSr ?_ | with_reducible refine s_neS ?_
  | with_reducible refine s_I0 ?_
  | (with_reducible show rI _ _ _ _ _ _); refine s_I (by walk_at "sd") ?_
  | (with_reducible show rIxL _ _ _ _ _); refine s_ixL (by walk_at "hp") rfl ?_
  | (with_reducible show rIxT _ _ _ _ _); refine s_ixT (by walk_at "hp") rfl ?_
  | (with_reducible show rSetL _ _ _ _ _); refine s_setL (by walk_at "hp") rfl ?_
  | with_reducible refine s_prop ?_
  | (with_reducible show _ ≤ sizeLine ∧ _); refine ⟨le_size (by rfl), ?_⟩
  | with_reducible refine ite_NN ?_ | with_reducible refine ite_IN ?_ | with_reducible refine ite_nNN ?_ | with_reducible refine ite_nIN ?_ | with_reducible refine ite_RN ?_ | with_reducible refine ite_nRN ?_
  | with_reducible refine s_sfld ?_
  | ((with_reducible refine' ⟨_, _, _, _, rfl, ?fp1, ?fp2, ?fp3, ?fp4, ?_⟩); (case fp1 => walk_at "hp"); (case fp2 => assumption); (case fp3 => assumption); (case fp4 => walk_at "few"))
  | with_reducible refine s_fldE ?_
  | ((with_reducible refine' ⟨_, _, _, _, _, rfl, ?fp1, ?fp2, ?fp3, ?fp4, ?_⟩); (case fp1 => walk_at "hp"); (case fp2 => assumption); (case fp3 => assumption); (case fp4 => rfl))
  | with_reducible refine s_bm ?_ | with_reducible refine s_bm0 ?_
  | ((with_reducible refine' s_tyL ?ty1 ?_); (case ty1 => walk_at "hp"))
  | ((with_reducible refine' s_append ?ap1 ?ap2 ?_); (case ap1 => walk_at "hp"); (case ap2 => walk_at "sz"))
  | ((with_reducible refine' s_extend ?ap1 ?ap2 ?ap3 ?_); (case ap1 => walk_at "hp"); (case ap2 => walk_at "hp"); (case ap3 => walk_at "sz"))
  | with_reducible refine s_for (fun _ _ => ?_) | with_reducible refine s_lc ?_ | with_reducible refine s_iList ?_ | with_reducible refine s_iTup ?_ | with_reducible refine s_iRng1 ?_ | with_reducible refine s_iRng2 ?_
  | with_reducible refine s_yes ?_ | with_reducible refine s_par ?_
  | with_reducible refine s_make ?_ | with_reducible refine s_meth ?_
  | with_reducible refine s_tup ?_ | with_reducible refine s_lst ?_ | with_reducible refine s_call ?_
  | with_reducible refine ⟨rfl, ?_⟩
  | with_reducible refine ⟨_, rfl, ?_⟩
  | ((with_reducible refine' ⟨_, _, rfl, ?sd1, ?_⟩); (case sd1 => walk_at "sd"))
  | with_reducible refine ⟨_, _, rfl, ?_⟩
  | with_reducible refine .inl ⟨_, rfl, ?_⟩
  | dsimp only [List.set]
  | walk_at "rdx"
  | (refine fun _ _ => ?_)))

namespace My
open PySem L2
section
variable {P : Program} {w : World} {K : PySem.W.Frag} {mg : Str → Option Value} {base : Heap} {C_Many C_Ratio C_EachError C_InvalidMany L__law_odd_right : Addr} (M : Md K mg C_Many C_Ratio C_EachError C_InvalidMany L__law_odd_right)
include M
variable (B : ∀ p ∈ csL K L__law_odd_right, LamX.TabB base mg p.1 p.2)
local macro_rules | `(tactic| walk_at "rdx") => `(tactic| first | with_reducible refine s_ostG ?_ | with_reducible refine s_raE ?_ | with_reducible refine s_callX ?_ | with_reducible refine s_opX ?_ | with_reducible refine s_reflX ?_ | with_reducible refine s_lstN ?_ | ((with_reducible refine' s_mcall ?mc1 ?mc2 ?_); (case mc1 => walk_at "hp"); (case mc2 => rfl)))
omit M
theorem ok_app {a b : Str} (h : PyData.strOk a = true) (g : PyData.strOk b = true) : PyData.strOk (a ++ b) = true := by
  unfold PyData.strOk at h g ⊢
  show (a.cps ++ b.cps).all _ = true
  rw [Array.all_append, h, g]
  rfl
theorem ok_two {t : Str} (h : PyData.strOk t = true) : PyData.strOk (listText [t, "True"]) = true := by
  show PyData.strOk (((("[" ++ (if 0 > 0 then ", " else "" : String)) ++ t) ++ (if 1 > 0 then ", " else "" : String) ++ "True") ++ "]") = true
  exact ok_app (ok_app (ok_app (ok_app (by decide +kernel) h) (by decide +kernel)) (by decide +kernel)) (by decide +kernel)
/-- an odd value and its text -/
structure Odd (K : PySem.W.Frag) (L : List Addr) (CM CR : Addr) (H : Hp) (v : V) (txt : Str) : Prop where
  ty : ∃ t, AnyV K L H v t ∧ t ≠ .ref CM ∧ t ∈ bTys
  cnt : isCnt v = false
  ok : PyData.strOk txt = true
  len : txt.length ≤ 1000
  tx : TxV CR H v txt
theorem TxV.ex {C : Addr} {H H' : Hp} {v : V} {t : Str} (h : TxV C H v t) (s : LamX.ExtN H H') : TxV C H' v t := by
  rcases h with ⟨d, hd, r⟩ | ⟨x, p, q, e, ⟨dx, hr⟩, r⟩
  · exact .inl ⟨d, hd.on (fun b o e _ n => s b o e n), r⟩
  · exact .inr ⟨x, p, q, e, ⟨dx, s _ _ hr (fun _ z => nomatch z)⟩, r⟩
theorem Odd.ex {K : PySem.W.Frag} {L : List Addr} {CM CR : Addr} {H H' : Hp} {v : V} {t : Str} (h : Odd K L CM CR H v t) (s : LamX.ExtN H H') : Odd K L CM CR H' v t := by
  obtain ⟨⟨ty, a, n, b⟩, h2, h3, h4, h5⟩ := h
  exact ⟨⟨ty, a.ex s, n, b⟩, h2, h3, h4, h5.ex s⟩
theorem Odd.mk' {K : PySem.W.Frag} {L : List Addr} {CM CR : Addr} {H : Hp} {v : V} {d : PyData} {t : Value} (a : AnyV K L H v t) (hb : t ∈ bTys) (c : isCnt v = false) (hd : Dz H v d) (sm : SmD d) (ok : PyData.strOk d.shown = true) (hl : d.shown.length ≤ 1000) : Odd K L CM CR H v d.shown :=
  ⟨⟨t, a, fun z => by rw [z] at hb; simp [bTys] at hb, hb⟩, c, ok, hl, .inl ⟨d, hd, sm, rfl⟩⟩
theorem odd_ok {K : PySem.W.Frag} {L : List Addr} {CM CR : Addr} {H : Hp} {v : V} {A1 A2 A3 A4 A5 : Addr} (e1 : H A1 = some (.tup [.int 1, .int 2])) (e2 : H A2 = some (.lst [.int 1])) (e3 : H A3 = some (.dK [])) (e4 : H A4 = some (.tup [])) (e5 : H A5 = some (.lst [])) (d2 : A2 ≠ sysModules) (d5 : A5 ≠ sysModules)
    (hv : v ∈ [V.non, V.bl true, V.bl false, V.int (-1), V.int (-10 ^ Int.toNat 20), V.str (Str.ofString "2"), V.str (Str.ofString ""), V.ref A1, V.ref A2, V.ref A3, V.ref A4, V.ref A5]) : ∃ txt, Odd K L CM CR H v txt := by
  rcases List.mem_cons.mp hv with rfl | hv
  · exact ⟨_, Odd.mk' AnyV.non (by decide +kernel) rfl .non ⟨by decide +kernel, by decide +kernel, by decide +kernel⟩ (by decide +kernel) (by decide +kernel)⟩
  rcases List.mem_cons.mp hv with rfl | hv
  · exact ⟨_, Odd.mk' (AnyV.bl _) (by decide +kernel) rfl (.bl _) ⟨by decide +kernel, by decide +kernel, by decide +kernel⟩ (by decide +kernel) (by decide +kernel)⟩
  rcases List.mem_cons.mp hv with rfl | hv
  · exact ⟨_, Odd.mk' (AnyV.bl _) (by decide +kernel) rfl (.bl _) ⟨by decide +kernel, by decide +kernel, by decide +kernel⟩ (by decide +kernel) (by decide +kernel)⟩
  rcases List.mem_cons.mp hv with rfl | hv
  · exact ⟨_, Odd.mk' (AnyV.int _) (by decide +kernel) (by decide +kernel) (.int _) ⟨by decide +kernel, by decide +kernel, by decide +kernel⟩ (by decide +kernel) (by decide +kernel)⟩
  rcases List.mem_cons.mp hv with rfl | hv
  · exact ⟨_, Odd.mk' (AnyV.int _) (by decide +kernel) (by decide +kernel) (.int _) ⟨by decide +kernel, by decide +kernel, by decide +kernel⟩ (by decide +kernel) (by decide +kernel)⟩
  rcases List.mem_cons.mp hv with rfl | hv
  · exact ⟨_, Odd.mk' (AnyV.str _) (by decide +kernel) rfl (.str _) ⟨by decide +kernel, by decide +kernel, by decide +kernel⟩ (by decide +kernel) (by decide +kernel)⟩
  rcases List.mem_cons.mp hv with rfl | hv
  · exact ⟨_, Odd.mk' (AnyV.str _) (by decide +kernel) rfl (.str _) ⟨by decide +kernel, by decide +kernel, by decide +kernel⟩ (by decide +kernel) (by decide +kernel)⟩
  rcases List.mem_cons.mp hv with rfl | hv
  · exact ⟨_, Odd.mk' (AnyV.tup e1) (by decide +kernel) rfl (.tup e1 (.cons (.int _) (.cons (.int _) .nil))) ⟨by decide +kernel, by decide +kernel, by decide +kernel⟩ (by decide +kernel) (by decide +kernel)⟩
  rcases List.mem_cons.mp hv with rfl | hv
  · exact ⟨_, Odd.mk' (AnyV.lst e2) (by decide +kernel) rfl (.lst e2 d2 (.cons (.int _) .nil)) ⟨by decide +kernel, by decide +kernel, by decide +kernel⟩ (by decide +kernel) (by decide +kernel)⟩
  rcases List.mem_cons.mp hv with rfl | hv
  · exact ⟨_, Odd.mk' (AnyV.dK e3) (by decide +kernel) rfl (.dct e3 .nil) ⟨by decide +kernel, by decide +kernel, by decide +kernel⟩ (by decide +kernel) (by decide +kernel)⟩
  rcases List.mem_cons.mp hv with rfl | hv
  · exact ⟨_, Odd.mk' (AnyV.tup e4) (by decide +kernel) rfl (.tup e4 .nil) ⟨by decide +kernel, by decide +kernel, by decide +kernel⟩ (by decide +kernel) (by decide +kernel)⟩
  rcases List.mem_singleton.mp hv with rfl
  exact ⟨_, Odd.mk' (AnyV.lst e5) (by decide +kernel) rfl (.lst e5 d5 .nil) ⟨by decide +kernel, by decide +kernel, by decide +kernel⟩ (by decide +kernel) (by decide +kernel)⟩
/-- a Many and a value that is none and no count -/
theorem odd_join {K : PySem.W.Frag} {L : List Addr} {C CM CR : Addr} {f : Int → Int → Int} {g : Option Int → Option Int → Option Int} {P : Int → Option Int → Int → Option Int → Prop} {W : V → Prop} {H : Hp} {Q : VK} {E : XK} {x : Addr} {v : V} {lo : Int} {hi : Option Int} {t : Value} {txt : Str} (mx : ManyAt C H x lo hi) (f1 : 0 ≤ lo ∧ ∀ g, hi = some g → lo ≤ g)
    (a : AnyV K L H v t) (n : t ≠ .ref C) (c : W v) (tx : TxV CR H v txt) (hE : ∀ (v : V) (dd : Addr) (H' : Hp), L2.Same H H' → TxV CR H' v txt → H' dd = some (.xd [("value", v)]) → E (.ref CM) (some dd) H') : spJoin K L C CM f g P W [.ref x, v] H Q E :=
  ⟨x, v, lo, hi, rfl, mx, f1.1, f1.2, .inr ⟨t, a, n, c, fun dd H' s hd => hE v dd H' s (tx.same s) hd⟩⟩
theorem ExtN.upf {H H' : Hp} {a : Addr} {o : HO} (e : LamX.ExtN H H') (n : H a = none) : LamX.ExtN H (upd H' a o) := fun b u h k => by
  rw [upd_ne (ne_of_none h n)]
  exact e b u h k
theorem Pot.ex {H H' : Hp} {r : Addr} (h : Pot H r) (s : LamX.ExtN H H') : Pot H' r := by
  obtain ⟨p, q, e, z⟩ := h
  exact ⟨p, q, s _ _ e (fun _ z => nomatch z), z⟩
theorem TxV.twoT {C : Addr} {L : OwnL} {H : Hp} {a : Addr} {v : V} {t : Str} {Q : VK} (hL : (C, spRRep C) ∈ L) (h : TxV C H v t) (ea : H a = some (.lst [v, .bl true])) (na : a ≠ sysModules) (hl : t.length ≤ 100000)
    (q : ∀ H', L2.Same H H' → Q (.str (listText [t, "True"])) H') : rReprZ [.ref a] H Q ∨ rReprM L [.ref a] H Q := by
  refine TxV.two hL h ea na hl (fun H' s => ?_)
  rw [if_pos rfl]
  exact q H' s
theorem sh_str {t : Str} (h : PyData.strOk t = true) : SeqAt.shaped (.str t) = true := by
  simp only [SeqAt.shaped, PyData.canLay0, PyData.depth, PyData.strOk] at h ⊢
  simp only [h]
  rfl
theorem sh_three {t : Str} (h : PyData.strOk t = true) : SeqAt.shaped (.list [.str t, .str t, .str t]) = true := by
  simp only [SeqAt.shaped, PyData.canLay0, PyData.canLayAll0, PyData.depth, PyData.depthAll, h]
  rfl
def spOdd (K : PySem.W.Frag) (T : List (Addr × Str)) : Sp := fun vs H Q _ => ∃ (r p : Addr) (lo : Int) (hi : Option Int), vs = [.ref r, .ref p] ∧ Pot H r ∧ PairAt H p lo hi ∧ Far lo hi ∧ LamX.Tabs T H ∧ ∀ H', ExtB r H H' → Pot H' r → LamX.Tabs T H' → Q (.bl true) H'
include M B
theorem c__law_odd_right : Dn P w K mg base "_law_odd_right" 12 ["_law_rng_here", "_law_pair_here"] [] (spOdd K (TLs K L__law_odd_right)) := by
  have c__law_made := c__law_made (P := P) (w := w) (base := base) M
  have c__law_choice := c__law_choice (P := P) (w := w) (base := base) M
  have l__law_refused := l__law_refused (P := P) (w := w) (base := base) M
  have x_Many___add__ := x_Many___add__ (P := P) (w := w) (base := base) M
  have x_Many___mul__ := x_Many___mul__ (P := P) (w := w) (base := base) M
  have x_Many___rmul__ := x_Many___rmul__ (P := P) (w := w) (base := base) M
  have c_Ratio_1 := c_Ratio_1 (P := P) (w := w) (base := base) M
  have c_Ratio_2 := c_Ratio_2 (P := P) (w := w) (base := base) M
  have dm : ∀ p ∈ ([(C_Ratio, spRRep C_Ratio)] : OwnL), MtO P w K mg base p.1 "__repr__" 1 ["self"] [] p.2 := fun p hp => by
    cases List.mem_singleton.mp hp
    exact d_Ratio___repr__ (P := P) (w := w) (base := base) M
  obtain ⟨fd, F, hm⟩ := M.f__law_odd_right
  refine ⟨_, fd, [], ?_, hm, F.kp, F.bindsN (fun _ _ _ _ _ _ us hl => match us, hl with | [_, _], _ => rfl), .nil⟩
  refine fnG_bodyC F sc__law_odd_right (fun vs H Q E h => ?_) (fun A outer s H vs Q E hr h => ?_)
  · obtain ⟨r, p, lo, hi, rfl, _⟩ := h
    rfl
  · obtain ⟨r, p, lo, hi, rfl, hp, pp, f, tb, k⟩ := h
    have my_mem : C_Many ∈ [C_Many, C_Ratio] := by simp
    have ra_mem : C_Ratio ∈ [C_Many, C_Ratio] := by simp
    refine ⟨_, (pss_cons (ps_set (i := 5) sc__law_odd_right.nd rfl (.inr rfl) (pe_callD c__law_made (hr.mono (by decide)) rfl (pa_cons (pv 1) pa_nil))) (pss_cons (ps_set (i := 4) sc__law_odd_right.nd rfl (.inr rfl) (pe_callD c__law_choice (hr.mono (by decide)) rfl (pa_cons (pv 0) (pa_cons (pe_lstN (pa_cons pe_non (pa_cons pe_bl (pa_cons pe_bl (pa_cons (pe_un un_neg pe_int) (pa_cons (pe_un un_neg (pe_op op_pow pe_int pe_int)) (pa_cons pe_str (pa_cons pe_str (pa_cons (pe_tup (pa_cons pe_int (pa_cons pe_int pa_nil))) (pa_cons (pe_lstN (pa_cons pe_int pa_nil)) (pa_cons pe_dnewK (pa_cons (pe_tup pa_nil) (pa_cons (pe_lstN pa_nil) pa_nil))))))))))))) pa_nil)))) (pss_cons (ps_set (i := 2) sc__law_odd_right.nd rfl (.inl rfl) (pe_callB (call_or (call_reprZ (Nat.lt_of_le_of_lt (Nat.add_le_add_right (Nat.le_add_right _ _) 200) hr.r.un) hr.g) (call_reprM dm (hr.mono (by decide)))) (by rfl) M.b_repr (by decide +kernel) (pa_cons (pe_lstN (pa_cons (pv 4) (pa_cons pe_bl pa_nil))) pa_nil))) (pss_cons (ps_set (i := 3) sc__law_odd_right.nd rfl (.inl rfl) (pe_lstN (pa_cons (pe_lamcallG (T := TLs K L__law_odd_right) l__law_refused rfl (B _ (.head _)) rfl (.head _) (fun p hp e => M.tn p hp _ (.head _) e) (hr.mono (by decide)) (LamX.lamS_by (sc := defScope st__law_odd_right) (by decide +kernel)) rfl (fun _ _ _ _ _ => rfl) (fun A outer s H E f c' hr => (pe_opX (K := K) (L := [C_Many, C_Ratio]) rfl x_Many___add__ (takes_of rfl rfl rfl rfl) rfl rfl M.ops_Many_add (hr.mono (by decide)) (pv 5) (pv 4)))) pa_nil))) (pss_cons (ps_expr (pe_bm PySem.F.plainAttrs_list PySem.F.slot_list_append PySem.F.type_list_append mt_append (pv 3) (pa_cons (pe_lamcallG (T := TLs K L__law_odd_right) l__law_refused rfl (B _ (.head _)) rfl (.head _) (fun p hp e => M.tn p hp _ (.head _) e) (hr.mono (by decide)) (LamX.lamS_by (sc := defScope st__law_odd_right) (by decide +kernel)) rfl (fun _ _ _ _ _ => rfl) (fun A outer s H E f c' hr => (pe_opX (K := K) (L := [C_Many, C_Ratio]) rfl x_Many___mul__ (takes_of rfl rfl rfl rfl) rfl rfl M.ops_Many_mul (hr.mono (by decide)) (pv 5) (pv 4)))) pa_nil))) (pss_cons (ps_expr (pe_bm PySem.F.plainAttrs_list PySem.F.slot_list_append PySem.F.type_list_append mt_append (pv 3) (pa_cons (pe_lamcallG (T := TLs K L__law_odd_right) l__law_refused rfl (B _ (.head _)) rfl (.head _) (fun p hp e => M.tn p hp _ (.head _) e) (hr.mono (by decide)) (LamX.lamS_by (sc := defScope st__law_odd_right) (by decide +kernel)) rfl (fun _ _ _ _ _ => rfl) (fun A outer s H E f c' hr => (pe_rmulX (K := K) (L := [C_Many, C_Ratio]) rfl x_Many___rmul__ (takes_of rfl rfl rfl rfl) M.ref_Many_mul (hr.mono (by decide)) (pv 4) (pv 5)))) pa_nil))) (pss_cons (ps_if (PW.pt (pw_or (pt_cmpR (op_neD hr.units) (pv 3) (pe_op op_rep (pe_lstN (pa_cons (pv 2) pa_nil)) pe_int) (nomark _)) (pw_or1 (pt_cmpR (op_neD hr.units) (pe_lamcallG (T := TLs K L__law_odd_right) l__law_refused rfl (B _ (.head _)) rfl (.head _) (fun p hp e => M.tn p hp _ (.head _) e) (hr.mono (by decide)) (LamX.lamS_by (sc := defScope st__law_odd_right) (by decide +kernel)) rfl (fun _ _ _ _ _ => rfl) (fun A outer s H E f c' hr => (pe_opX (K := K) (L := [C_Many, C_Ratio]) rfl x_Many___mul__ (takes_of rfl rfl rfl rfl) rfl rfl M.ops_Many_mul (hr.mono (by decide)) (pv 5) (pe_makeD c_Ratio_1 (hr.mono (by decide)) rfl (pa_cons pe_int pa_nil))))) (pe_callB (call_or (call_reprZ (Nat.lt_of_le_of_lt (Nat.add_le_add_right (Nat.le_add_right _ _) 200) hr.r.un) hr.g) (call_reprM dm (hr.mono (by decide)))) (by rfl) M.b_repr (by decide +kernel) (pa_cons (pe_lstN (pa_cons (pe_makeD c_Ratio_1 (hr.mono (by decide)) rfl (pa_cons pe_int pa_nil)) (pa_cons pe_bl pa_nil))) pa_nil)) (nomark _))))) (pss_one (ps_ret pe_bl)) pss_nil) (pss_cons (ps_set (i := 3) sc__law_odd_right.nd rfl (.inl rfl) (pe_lamcallG (T := TLs K L__law_odd_right) l__law_refused rfl (B _ (.head _)) rfl (.head _) (fun p hp e => M.tn p hp _ (.head _) e) (hr.mono (by decide)) (LamX.lamS_by (sc := defScope st__law_odd_right) (by decide +kernel)) rfl (fun _ _ _ _ _ => rfl) (fun A outer s H E f c' hr => (pe_opX (K := K) (L := [C_Many, C_Ratio]) rfl x_Many___add__ (takes_of rfl rfl rfl rfl) rfl rfl M.ops_Many_add (hr.mono (by decide)) (pv 5) pe_int)))) (pss_one (ps_ret (pe_and (pe_cmpR (op_eqD hr.units) (pv 3) pe_str (nomark _)) (pe_one (pe_cmpR (op_eqD hr.units) (pe_lamcallG (T := TLs K L__law_odd_right) l__law_refused rfl (B _ (.head _)) rfl (.head _) (fun p hp e => M.tn p hp _ (.head _) e) (hr.mono (by decide)) (LamX.lamS_by (sc := defScope st__law_odd_right) (by decide +kernel)) rfl (fun _ _ _ _ _ => rfl) (fun A outer s H E f c' hr => (pe_opX (K := K) (L := [C_Many, C_Ratio]) rfl x_Many___add__ (takes_of rfl rfl rfl rfl) rfl rfl M.ops_Many_add (hr.mono (by decide)) (pv 5) (pe_makeD c_Ratio_2 (hr.mono (by decide)) rfl (pa_cons pe_int (pa_cons pe_int pa_nil)))))) (pe_callB (call_or (call_reprZ (Nat.lt_of_le_of_lt (Nat.add_le_add_right (Nat.le_add_right _ _) 200) hr.r.un) hr.g) (call_reprM dm (hr.mono (by decide)))) (by rfl) M.b_repr (by decide +kernel) (pa_cons (pe_lstN (pa_cons (pe_makeD c_Ratio_2 (hr.mono (by decide)) rfl (pa_cons pe_int (pa_cons pe_int pa_nil))) (pa_cons pe_bl pa_nil))) pa_nil)) (nomark _)))))))))))))), ?_⟩
    refine st_eq (σ := [some _, some _, none, none, none, none]) rfl ?_
    walk_at "rd"
    refine ⟨p, lo, hi, rfl, pp, f, fun x H1 s1 mx => ?_⟩
    have p1 := hp.same s1
    have t1 : LamX.Tabs (TLs K L__law_odd_right) H1 := My.Tabs.sm tb s1
    walk_at "rd"
    refine ⟨1, rfl, ?_⟩
    walk_at "rd"
    refine ⟨_, rfl, ?_⟩
    walk_at "rd"
    rename_i A1 n1 A2 n2 d2 A3
    intro n3
    walk_at "rd"
    rename_i A4 n4 A5 n5
    intro d5
    walk_at "rd"
    rename_i A6 n6
    intro d6
    have q1 := p1.up (o := .tup [.int 1, .int 2]) n1
    have r1 := p1.ne n1
    have r2 := q1.ne n2
    have q2 := q1.up (o := .lst [.int 1]) n2
    have q3 := q2.up (o := .dK []) n3
    have r3 := q2.ne n3
    have r4 := q3.ne n4
    have q4 := q3.up (o := .tup []) n4
    have r5 := q4.ne n5
    have q5 := q4.up (o := .lst []) n5
    have r6 := q5.ne n6
    have u1 := My.Same.new (o := .tup [.int 1, .int 2]) n1
    have u2 := My.Same.new (o := .lst [.int 1]) n2
    have u3 := My.Same.new (o := .dK []) n3
    have u4 := My.Same.new (o := .tup []) n4
    have u5 := My.Same.new (o := .lst []) n5
    have u26 := u2.trans (u3.trans (u4.trans u5))
    have e1 := u26 A1 _ upd_same
    have e2 := (u3.trans (u4.trans u5)) A2 _ upd_same
    have e3 := (u4.trans u5) A3 _ upd_same
    have e4 := u5 A4 _ upd_same
    have e5 : (upd (upd (upd (upd (upd H1 A1 (.tup [.int 1, .int 2])) A2 (.lst [.int 1])) A3 (.dK [])) A4 (.tup [])) A5 (.lst [])) A5 = some (.lst []) := upd_same
    have u16 := u1.trans u26
    generalize upd (upd (upd (upd (upd H1 A1 (.tup [.int 1, .int 2])) A2 (.lst [.int 1])) A3 (.dK [])) A4 (.tup [])) A5 (.lst []) = H2 at e1 e2 e3 e4 e5 u16 q5 n6 ⊢
    clear u1 u2 u3 u4 u5 u26 q1 q2 q3 q4 n1 n2 n3 n4 n5
    walk_at "rd"
    refine ⟨r, A6, _, rfl, upd_same, r6, Nat.succ_pos _, (by show (12 : Nat) < 100000; decide), q5.up n6, fun v H3 hv b3 p3 => ?_⟩
    have v6 := fun o => My.Same.new (o := o) n6
    have mx3 : ManyAt C_Many H3 x lo hi := by
      obtain ⟨dx, t, g1, g2⟩ := (mx.same u16).same (v6 _)
      exact ⟨dx, t, b3.get g1 (fun z => by rw [z] at g1; obtain ⟨y1, y2, g3, _⟩ := q5.up (o := _) n6; rw [g3] at g1; cases g1), b3.get g2 (fun z => by rw [z] at g2; obtain ⟨y1, y2, g3, _⟩ := q5.up (o := _) n6; rw [g3] at g2; cases g2)⟩
    have tb3 : LamX.Tabs (TLs K L__law_odd_right) H3 := by
      obtain ⟨y1, y2, g3, _⟩ := q5.up (o := _) n6
      exact My.Tabs.but (My.Tabs.sm (My.Tabs.sm t1 u16) (v6 _)) b3 g3 (fun _ z => nomatch z) (fun _ _ z => nomatch z)
    obtain ⟨txt, od3⟩ := odd_ok (K := K) (L := [C_Many, C_Ratio]) (CM := C_Many) (CR := C_Ratio) (b3.get (v6 _ _ _ e1) r1) (b3.get (v6 _ _ _ e2) r2) (b3.get (v6 _ _ _ e3) r3) (b3.get (v6 _ _ _ e4) r4) (b3.get (v6 _ _ _ e5) r5) d2 d5 hv
    have x03 : ExtB r H H3 := (ExtB.ofN (ExtN.sm (s1.trans (u16.trans (v6 _))))).trans (ExtB.ofB b3)
    clear hv e1 e2 e3 e4 e5 v6 b3 n6 r1 r2 r3 r4 r5 r6 d2 d5 d6 q5 u16 mx p1 t1 tb hp pp
    have hl := od3.len
    walk_at "rd"
    rename_i B1 m1
    intro nS1
    walk_at "rd"
    refine TxV.twoT (List.mem_singleton.mpr rfl) (od3.tx.same (My.Same.new m1)) upd_same nS1 (by omega) (fun H4 s4 => ?_)
    have s34 := (My.Same.new m1).trans s4
    clear s4 m1 nS1
    walk_at "rd"
    have od4 := od3.ex (ExtN.sm s34)
    have mx4 := mx3.same s34
    have tb4 := My.Tabs.sm tb3 s34
    refine ⟨tb4, fun H5 ex5 tb5 => ⟨txt, by omega, fun E' Q' hE => ?_, fun H6 s6 => ?_⟩⟩
    · have mx5 := mx4.ex ex5
      obtain ⟨⟨t, a5, nt, bt⟩, c5, _, _, x5⟩ := od4.ex ex5
      obtain ⟨dx, tx, g, _⟩ := id mx5
      dsimp only
      walk_at "rd"
      exact ⟨x, dx, _, t, rfl, g, a5, odd_join mx5 f.le a5 nt trivial x5 hE⟩
    have ex46 := ex5.trans (ExtN.sm s6)
    have od6 := od4.ex ex46
    have mx6 := mx4.ex ex46
    have p6 := (p3.same s34).ex ex46
    have x06 := x03.trans (ExtB.ofN ((ExtN.sm s34).trans ex46))
    have tb6 := My.Tabs.sm tb5 s6
    clear ex46 ex5 s6 s34 od4 mx4 tb4 tb5 tb3 mx3 p3 od3 x03 s1
    walk_at "rd"
    rename_i B2 m2
    intro nS2
    have e7 : (upd H6 B2 (.lst [.str (listText [txt, "True"])])) B2 = some (.lst [.str (listText [txt, "True"])]) := upd_same
    have ex67 : LamX.ExtN H6 (upd H6 B2 (.lst [.str (listText [txt, "True"])])) := ExtN.sm (My.Same.new m2)
    have tb7 := My.Tabs.sm tb6 (My.Same.new (o := .lst [.str (listText [txt, "True"])]) m2)
    generalize upd H6 B2 (.lst [.str (listText [txt, "True"])]) = H7 at e7 ex67 tb7 ⊢
    walk_at "rd"
    refine ⟨tb7, fun H8 ex8 tb8 => ⟨txt, by omega, fun E' Q' hE => ?_, fun H9 s9 => ?_⟩⟩
    · have mx8 := mx6.ex (ex67.trans ex8)
      obtain ⟨⟨t, a8, nt, bt⟩, c8, _, _, x8⟩ := od6.ex (ex67.trans ex8)
      obtain ⟨dx, tx, g, _⟩ := id mx8
      dsimp only
      walk_at "rd"
      exact ⟨x, dx, _, t, rfl, g, a8, .inl (odd_join mx8 f.le a8 nt c8 x8 hE)⟩
    have ex79 := ex8.trans (ExtN.sm s9)
    have e9 := ex79 _ _ e7 (fun _ z => nomatch z)
    have ex69 := ex67.trans ex79
    have tb9 := My.Tabs.sm tb8 s9
    clear ex67 ex79 ex8 s9 e7 tb8 tb7
    walk_at "rd"
    have eA : (upd H9 B2 (.lst ([.str (listText [txt, "True"])] ++ [.str (listText [txt, "True"])]))) B2 = some (.lst [.str (listText [txt, "True"]), .str (listText [txt, "True"])]) := upd_same
    have exA := ExtN.upf (o := .lst ([.str (listText [txt, "True"])] ++ [.str (listText [txt, "True"])])) ex69 m2
    have tbA := My.Tabs.but tb9 (But.at (o := .lst ([.str (listText [txt, "True"])] ++ [.str (listText [txt, "True"])]))) e9 (fun _ z => nomatch z) (fun _ _ z => nomatch z)
    generalize upd H9 B2 (.lst ([.str (listText [txt, "True"])] ++ [.str (listText [txt, "True"])])) = H10 at eA exA tbA ⊢
    clear ex69 tb9 e9
    refine ⟨tbA, fun H11 ex11 tb11 => ⟨txt, by omega, fun E' Q' hE => ?_, fun H12 s12 => ?_⟩⟩
    · have mx8 := mx6.ex (exA.trans ex11)
      obtain ⟨⟨t, a8, nt, bt⟩, c8, _, _, x8⟩ := od6.ex (exA.trans ex11)
      obtain ⟨dx, tx, g, _⟩ := id mx8
      dsimp only
      walk_at "rd"
      exact ⟨x, dx, _, t, rfl, g, a8, bt, x, v, t, rfl, a8, .inl (odd_join mx8 f.le a8 nt c8 x8 hE)⟩
    have ex79 := ex11.trans (ExtN.sm s12)
    have e9 := ex79 _ _ eA (fun _ z => nomatch z)
    have ex69 := exA.trans ex79
    have tb9 := My.Tabs.sm tb11 s12
    clear exA ex79 ex11 s12 eA tb11 tbA
    walk_at "rd"
    rename_i B3 m3
    have eA : (upd H12 B2 (.lst ([.str (listText [txt, "True"]), .str (listText [txt, "True"])] ++ [.str (listText [txt, "True"])]))) B2 = some (.lst [.str (listText [txt, "True"]), .str (listText [txt, "True"]), .str (listText [txt, "True"])]) := upd_same
    have exA := ExtN.upf (o := .lst ([.str (listText [txt, "True"]), .str (listText [txt, "True"])] ++ [.str (listText [txt, "True"])])) ex69 m2
    have tbA := My.Tabs.but tb9 (But.at (o := .lst ([.str (listText [txt, "True"]), .str (listText [txt, "True"])] ++ [.str (listText [txt, "True"])]))) e9 (fun _ z => nomatch z) (fun _ _ z => nomatch z)
    generalize upd H12 B2 (.lst ([.str (listText [txt, "True"]), .str (listText [txt, "True"])] ++ [.str (listText [txt, "True"])])) = H13 at eA exA tbA m3 ⊢
    clear ex69 tb9 e9
    intro nS3
    have e3 : (upd H13 B3 (.lst [.str (listText [txt, "True"])])) B3 = some (.lst [.str (listText [txt, "True"])]) := upd_same
    have eA3 := My.Same.new (o := .lst [.str (listText [txt, "True"])]) m3 _ _ eA
    have ex3 := exA.trans (ExtN.sm (My.Same.new (o := .lst [.str (listText [txt, "True"])]) m3))
    have tb3 := My.Tabs.sm tbA (My.Same.new (o := .lst [.str (listText [txt, "True"])]) m3)
    generalize upd H13 B3 (.lst [.str (listText [txt, "True"])]) = H14 at e3 eA3 ex3 tb3 ⊢
    clear m3 exA tbA eA
    walk_at "rd"
    refine ⟨B3, 3, _, rfl, rfl, e3, by decide, by decide, fit (by show 1 * 3 ≤ 5000; decide), fun B4 m4 => ?_⟩
    have e4 : (upd H14 B4 (.lst (List.replicate (3 : Int).toNat [V.str (listText [txt, "True"])]).flatten)) B4 = some (.lst [.str (listText [txt, "True"]), .str (listText [txt, "True"]), .str (listText [txt, "True"])]) := upd_same
    have eA4 := My.Same.new (o := .lst (List.replicate (3 : Int).toNat [V.str (listText [txt, "True"])]).flatten) m4 _ _ eA3
    have ex4 := ex3.trans (ExtN.sm (My.Same.new (o := .lst (List.replicate (3 : Int).toNat [V.str (listText [txt, "True"])]).flatten) m4))
    have tb4 := My.Tabs.sm tb3 (My.Same.new (o := .lst (List.replicate (3 : Int).toNat [V.str (listText [txt, "True"])]).flatten) m4)
    generalize upd H14 B4 (.lst (List.replicate (3 : Int).toNat [V.str (listText [txt, "True"])]).flatten) = H15 at e4 eA4 ex4 tb4 ⊢
    clear m4 ex3 tb3 eA3 e3
    walk_at "rd"
    refine s_neSame (.lst (SqL.of eA4) (.cons (.str _) (.cons (.str _) (.cons (.str _) .nil)))) (.lst (SqL.of e4) (.cons (.str _) (.cons (.str _) (.cons (.str _) .nil)))) (sh_three (ok_two od6.ok)) ⟨_, rfl, ?_⟩
    have mx15 := mx6.ex ex4
    have p15 := p6.ex ex4
    have x15 := x06.trans (ExtB.ofN ex4)
    clear eA4 e4 ex4 mx6 p6 x06 od6 m2 nS2 nS3
    walk_at "rd"
    have one2 : Nat.gcd (2 : Int).natAbs (1 : Int).natAbs = 1 := by decide +kernel
    refine ⟨tb4, fun H16 ex16 tb16 => ⟨rtx 2 1, by decide +kernel, fun E' Q' hE => ?_, fun H17 s17 => ?_⟩⟩
    · have mx16 := mx15.ex ex16
      dsimp only
      walk_at "rd"
      rename_i X DX nX nDX
      refine fun neX => ⟨X, DX, 2, 1, rfl, upd_same, by decide, by decide, one2, by decide, by decide, fun H18 b18 rt => ⟨rfl, ?_⟩⟩
      have u18 := b18.same (My.Same.at_ nX (My.Same.new nDX)) nX
      have mx18 := mx16.same u18
      obtain ⟨dx, tx, g, _⟩ := id mx18
      obtain ⟨dr, er⟩ := id rt
      walk_at "rd"
      exact ⟨x, dx, _, _, rfl, g, AnyV.own M.z_Ratio ra_mem er, .inl (odd_join mx18 f.le (AnyV.own M.z_Ratio ra_mem er) (fun z => M.cne (Value.ref.inj z).symm) rfl (.inr ⟨X, 2, 1, rfl, rt, by decide, by decide, by decide, by decide, rfl⟩) (fun v dd H' s tx hd => hE v dd H' (u18.trans s) tx hd))⟩
    have ex17 := ex16.trans (ExtN.sm s17)
    have mx17 := mx15.ex ex17
    have p17 := p15.ex ex17
    have x17 := x15.trans (ExtB.ofN ex17)
    have tb17 := My.Tabs.sm tb16 s17
    clear ex17 ex16 s17 tb16 tb4 mx15 p15 x15
    walk_at "rd"
    rename_i X DX nX nDX
    refine fun neX => ⟨X, DX, 2, 1, rfl, upd_same, by decide, by decide, one2, by decide, by decide, fun H18 b18 rt => ⟨rfl, ?_⟩⟩
    have u18 := b18.same (My.Same.at_ nX (My.Same.new nDX)) nX
    clear b18 nX nDX
    walk_at "rd"
    rename_i B5 m5
    intro nS5
    have e5 : (upd H18 B5 (.lst [.ref X, .bl true])) B5 = some (.lst [.ref X, .bl true]) := upd_same
    have rt5 := RatioAt.same rt (My.Same.new (o := .lst [.ref X, .bl true]) m5)
    have u5 := u18.trans (My.Same.new (o := .lst [.ref X, .bl true]) m5)
    generalize upd H18 B5 (.lst [.ref X, .bl true]) = H19 at e5 rt5 u5 ⊢
    clear m5 rt u18
    walk_at "rd"
    refine TxV.twoT (t := rtx 2 1) (List.mem_singleton.mpr rfl) (.inr ⟨X, 2, 1, rfl, rt5, by decide, by decide, by decide, by decide, rfl⟩) e5 nS5 (by decide +kernel) (fun H20 s20 => ?_)
    have u20 := u5.trans s20
    clear s20 u5 e5 rt5
    walk_at "rd"
    refine s_neSame (.str _) (.str _) (sh_str (ok_two (by decide +kernel))) ⟨_, rfl, ?_⟩
    walk_at "rd"
    have mx20 := mx17.same u20
    have p20 := p17.same u20
    have x20 := x17.trans (ExtB.ofN (ExtN.sm u20))
    have tb20 := My.Tabs.sm tb17 u20
    clear u20 mx17 p17 x17 tb17 neX
    have sm2 : SmD (.int 2) := ⟨by decide +kernel, by decide +kernel, by decide +kernel⟩
    refine ⟨tb20, fun H21 ex21 tb21 => ⟨(PyData.int 2).shown, by decide +kernel, fun E' Q' hE => ?_, fun H22 s22 => ?_⟩⟩
    · have mx21 := mx20.ex ex21
      obtain ⟨dx, tx, g, _⟩ := id mx21
      dsimp only
      walk_at "rd"
      exact ⟨x, dx, _, _, rfl, g, AnyV.int 2, odd_join mx21 f.le (AnyV.int 2) (fun z => nomatch z) trivial (.inl ⟨.int 2, .int 2, sm2, rfl⟩) hE⟩
    have ex22 := ex21.trans (ExtN.sm s22)
    have mx22 := mx20.ex ex22
    have p22 := p20.ex ex22
    have x22 := x20.trans (ExtB.ofN ex22)
    have tb22 := My.Tabs.sm tb21 s22
    clear ex22 ex21 s22 tb21 tb20 mx20 p20 x20
    have eT : listText [(PyData.int 2).shown, "True"] = ("[2, True]" : Str) := by decide +kernel
    rw [eT]
    walk_at "rd"
    refine s_eqSame (.str _) (.str _) (sh_str (by decide +kernel)) ?_
    walk_at "rd"
    have one3 : Nat.gcd (1 : Int).natAbs (2 : Int).natAbs = 1 := by decide +kernel
    refine ⟨tb22, fun H23 ex23 tb23 => ⟨rtx 1 2, by decide +kernel, fun E' Q' hE => ?_, fun H24 s24 => ?_⟩⟩
    · have mx16 := mx22.ex ex23
      dsimp only
      walk_at "rd"
      rename_i X DX nX nDX
      refine fun neX => ⟨X, DX, 1, 2, rfl, upd_same, by decide, by decide, one3, by decide, by decide, fun H18 b18 rt => ⟨rfl, ?_⟩⟩
      have u18 := b18.same (My.Same.at_ nX (My.Same.new nDX)) nX
      have mx18 := mx16.same u18
      obtain ⟨dx, tx, g, _⟩ := id mx18
      obtain ⟨dr, er⟩ := id rt
      walk_at "rd"
      exact ⟨x, dx, _, _, rfl, g, AnyV.own M.z_Ratio ra_mem er, odd_join mx18 f.le (AnyV.own M.z_Ratio ra_mem er) (fun z => M.cne (Value.ref.inj z).symm) trivial (.inr ⟨X, 1, 2, rfl, rt, by decide, by decide, by decide, by decide, rfl⟩) (fun v dd H' s tx hd => hE v dd H' (u18.trans s) tx hd)⟩
    have ex24 := ex23.trans (ExtN.sm s24)
    have p24 := p22.ex ex24
    have x24 := x22.trans (ExtB.ofN ex24)
    have tb24 := My.Tabs.sm tb23 s24
    clear ex24 ex23 s24 tb23 tb22 mx22 p22 x22
    walk_at "rd"
    rename_i X DX nX nDX
    refine fun neX => ⟨X, DX, 1, 2, rfl, upd_same, by decide, by decide, one3, by decide, by decide, fun H18 b18 rt => ⟨rfl, ?_⟩⟩
    have u18 := b18.same (My.Same.at_ nX (My.Same.new nDX)) nX
    clear b18 nX nDX
    walk_at "rd"
    rename_i B5 m5
    intro nS5
    have e5 : (upd H18 B5 (.lst [.ref X, .bl true])) B5 = some (.lst [.ref X, .bl true]) := upd_same
    have rt5 := RatioAt.same rt (My.Same.new (o := .lst [.ref X, .bl true]) m5)
    have u5 := u18.trans (My.Same.new (o := .lst [.ref X, .bl true]) m5)
    generalize upd H18 B5 (.lst [.ref X, .bl true]) = H19 at e5 rt5 u5 ⊢
    clear m5 rt u18
    walk_at "rd"
    refine TxV.twoT (t := rtx 1 2) (List.mem_singleton.mpr rfl) (.inr ⟨X, 1, 2, rfl, rt5, by decide, by decide, by decide, by decide, rfl⟩) e5 nS5 (by decide +kernel) (fun H25 s25 => ?_)
    have u25 := u5.trans s25
    walk_at "rd"
    refine s_eqSame (.str _) (.str _) (sh_str (ok_two (by decide +kernel))) ?_
    exact k H25 (x24.trans (ExtB.ofN (ExtN.sm u25))) (p24.same u25) (My.Tabs.sm tb24 u25)
end
end My
end
section
open My L2 PySem
open My L2 PySem
local macro_rules | `(tactic| walk_at "as") => `(tactic| with_reducible assumption)
local macro_rules | `(tactic| walk_at "hp") => `(tactic| first
  | walk_at "as" | exact upd_same
  | (rw [upd_ne (by walk_at "ne")]; walk_at "hp")
  | (refine But.get (by walk_at "as") ?hp1 ?hp2; (case hp1 => walk_at "hp"); (case hp2 => walk_at "ne"))
  | (refine My.Same.get (by walk_at "as") ?hp1; (case hp1 => walk_at "hp")))
local macro_rules | `(tactic| walk_at "ne") => `(tactic| first
  | walk_at "as" | exact Ne.symm (by walk_at "as")
  | (refine' ne_of_none ?ne1 ?ne2; (case ne2 => walk_at "as"); (case ne1 => walk_at "hp"))
  | (refine' Ne.symm (ne_of_none ?ne1 ?ne2); (case ne2 => walk_at "as"); (case ne1 => walk_at "hp"))
  | exact ne_of (by walk_at "hp") (by walk_at "hp") (by intro z; cases z))
local macro_rules | `(tactic| walk_at "sd") => `(tactic| first
  | walk_at "as" | omega | decide | exact ⟨by omega, by omega⟩ | exact .inl ⟨by omega, by omega⟩ | exact .inr ⟨by omega, by omega⟩ | exact divp_wide (by walk_at "as") (by walk_at "as") | exact Sm.cmul (by walk_at "as") (by walk_at "as") | exact cmul_small (by omega) (by omega) (by omega) (by omega) | exact ⟨by omega, by decide⟩)
local macro_rules | `(tactic| walk_at "bt") => `(tactic| first
  | walk_at "as" | exact But.refl _ _ | exact Same.but (by walk_at "as")
  | (refine But.trans ?bt1 But.at; (case bt1 => walk_at "bt"))
  | (refine But.trans ?bt1 (But.new (by first | walk_at "as" | walk_at "hp")); (case bt1 => walk_at "bt"))
  | (refine But.trans ?bt1 (by walk_at "as"); (case bt1 => walk_at "bt"))
  | (refine But.trans ?bt1 (Same.but (by walk_at "as")); (case bt1 => walk_at "bt")))
local macro_rules | `(tactic| walk_at "sm") => `(tactic| first
  | walk_at "as" | exact My.Same.rfl' _
  | (refine' My.Same.at_ ?sm1 ?sm2; (case sm1 => walk_at "as"); (case sm2 => walk_at "sm"))
  | (refine' My.Same.tr ?sm1 (My.Same.new ?sm2); (case sm2 => walk_at "as"); (case sm1 => walk_at "sm"))
  | (refine' My.Same.tr ?sm1 ?sm2; (case sm2 => walk_at "as"); (case sm1 => walk_at "sm")))
local macro_rules | `(tactic| walk_at "sz") => `(tactic| first
  | assumption | exact lt_size (by rfl) | exact le_size (by rfl) | (rw [sizeLine_eq]; omega)
  | (rw [sizeLine_eq]; simp only [List.length_append, List.length_map, List.length_cons, List.length_nil]; omega))
local macro_rules | `(tactic| walk_at "few") => `(tactic| (repeat refine few_put ?_); exact few0)
local macro_rules | `(tactic| walk_at "rd1") => `(tactic| first
  | (with_reducible show tVar _ _ _ _); refine s_var rfl ?_
  | with_reducible refine s_c ?_ | with_reducible refine s_op ?_ | with_reducible refine s_un ?_
  | with_reducible refine s_cons ?_ | with_reducible refine s_nil ?_ | with_reducible refine s_cb ?_
  | with_reducible refine s_test ?_ | with_reducible refine s_B ?_ | with_reducible refine s_not ?_ | with_reducible refine s_and ?_ | with_reducible refine s_or ?_
  | with_reducible refine s_if ?_ | with_reducible refine s_notV ?_ | with_reducible refine s_andV ?_ | with_reducible refine s_orV ?_
  | with_reducible refine s_orT ?_ | with_reducible refine s_andT ?_ | with_reducible refine s_chain ?_
  | with_reducible refine s_isi_int ?_ | with_reducible refine s_isi_int_bool ?_ | with_reducible refine s_isi_str ?_
  | with_reducible refine iteT ?_ | with_reducible refine iteF ?_ | with_reducible refine iteNT ?_ | with_reducible refine iteNF ?_
  | with_reducible refine s_isN ?_ | with_reducible refine s_notN ?_
  | ((with_reducible refine' s_2setE ?g1 ?_); (case g1 => first | (dsimp only [List.set, L2.wipe, List.map, List.foldl]; done) | (dsimp only [List.set, L2.wipe, List.map, List.foldl]; rfl)))
  | with_reducible refine s_seq ?_ | with_reducible refine s_ifS ?_ | with_reducible refine s_asg ?_ | with_reducible refine s_ret ?_ | with_reducible refine s_drop ?_ | with_reducible refine s_next ?_
  | ((with_reducible refine' s_gnameE ?g1 ?_); (case g1 => first | (dsimp only [List.set, L2.wipe, List.map, List.foldl]; done) | (dsimp only [List.set, L2.wipe, List.map, List.foldl]; rfl)))
  | with_reducible refine s_gsub ?_ | with_reducible refine s_gcons ?_ | with_reducible refine s_gnil ?_
  | (with_reducible show gTup _ _ _ _ _ _ _); refine s_gtup (by walk_at "hp") rfl ?_
  | with_reducible refine s_eqI ?_ | with_reducible refine s_neI ?_ | with_reducible refine s_eqS ?_ | with_reducible refine s_neB ?_ | with_reducible refine s_eqB ?_ | with_reducible refine s_neSr ?_ | with_reducible refine s_neS ?_
  | with_reducible refine s_I0 ?_
  | (with_reducible show rI _ _ _ _ _ _); refine s_I (by walk_at "sd") ?_
  | (with_reducible show rIxL _ _ _ _ _); refine s_ixL (by walk_at "hp") rfl ?_
  | (with_reducible show rIxT _ _ _ _ _); refine s_ixT (by walk_at "hp") rfl ?_
  | (with_reducible show rSetL _ _ _ _ _); refine s_setL (by walk_at "hp") rfl ?_
  | with_reducible refine s_prop ?_
  | (with_reducible show _ ≤ sizeLine ∧ _); refine ⟨le_size (by rfl), ?_⟩
  | with_reducible refine ite_NN ?_ | with_reducible refine ite_IN ?_ | with_reducible refine ite_nNN ?_ | with_reducible refine ite_nIN ?_ | with_reducible refine ite_RN ?_ | with_reducible refine ite_nRN ?_
  | with_reducible refine s_sfld ?_
  | ((with_reducible refine' ⟨_, _, _, _, rfl, ?fp1, ?fp2, ?fp3, ?fp4, ?_⟩); (case fp1 => walk_at "hp"); (case fp2 => assumption); (case fp3 => assumption); (case fp4 => walk_at "few"))
  | with_reducible refine s_fldE ?_
  | ((with_reducible refine' ⟨_, _, _, _, _, rfl, ?fp1, ?fp2, ?fp3, ?fp4, ?_⟩); (case fp1 => walk_at "hp"); (case fp2 => assumption); (case fp3 => assumption); (case fp4 => rfl))
  | with_reducible refine s_bm ?_ | with_reducible refine s_bm0 ?_
  | ((with_reducible refine' s_tyL ?ty1 ?_); (case ty1 => walk_at "hp"))
  | ((with_reducible refine' s_append ?ap1 ?ap2 ?_); (case ap1 => walk_at "hp"); (case ap2 => walk_at "sz"))
  | ((with_reducible refine' s_extend ?ap1 ?ap2 ?ap3 ?_); (case ap1 => walk_at "hp"); (case ap2 => walk_at "hp"); (case ap3 => walk_at "sz"))
  | with_reducible refine s_for (fun _ _ => ?_) | with_reducible refine s_lc ?_ | with_reducible refine s_iList ?_ | with_reducible refine s_iTup ?_ | with_reducible refine s_iRng1 ?_ | with_reducible refine s_iRng2 ?_
  | with_reducible refine s_yes ?_ | with_reducible refine s_par ?_
  | with_reducible refine s_make ?_ | with_reducible refine s_meth ?_
  | with_reducible refine s_tup ?_ | with_reducible refine s_lst ?_ | with_reducible refine s_call ?_
  | with_reducible refine ⟨rfl, ?_⟩
  | with_reducible refine ⟨_, rfl, ?_⟩
  | ((with_reducible refine' ⟨_, _, rfl, ?sd1, ?_⟩); (case sd1 => walk_at "sd"))
  | with_reducible refine ⟨_, _, rfl, ?_⟩
  | with_reducible refine .inl ⟨_, rfl, ?_⟩
  | dsimp only [List.set]
  | walk_at "rdx"
  | (refine fun _ _ => ?_))
local macro_rules | `(tactic| walk_at "rd") => `(tactic| repeat (first
  | (with_reducible show tVar _ _ _ _); refine s_var rfl ?_
  | with_reducible refine s_c ?_ | with_reducible refine s_op ?_ | with_reducible refine s_un ?_
  | with_reducible refine s_cons ?_ | with_reducible refine s_nil ?_ | with_reducible refine s_cb ?_
  | with_reducible refine s_test ?_ | with_reducible refine s_B ?_ | with_reducible refine s_not ?_ | with_reducible refine s_and ?_ | with_reducible refine s_or ?_
  | with_reducible refine s_if ?_ | with_reducible refine s_notV ?_ | with_reducible refine s_andV ?_ | with_reducible refine s_orV ?_
  | with_reducible refine s_orT ?_ | with_reducible refine s_andT ?_ | with_reducible refine s_chain ?_
  | with_reducible refine s_isi_int ?_ | with_reducible refine s_isi_int_bool ?_ | with_reducible refine s_isi_str ?_
  | with_reducible refine iteT ?_ | with_reducible refine iteF ?_ | with_reducible refine iteNT ?_ | with_reducible refine iteNF ?_
  | with_reducible refine s_isN ?_ | with_reducible refine s_notN ?_
  | ((with_reducible refine' s_2setE ?g1 ?_); (case g1 => first | (dsimp only [List.set, L2.wipe, List.map, List.foldl]; done) | (dsimp only [List.set, L2.wipe, List.map, List.foldl]; rfl)))
  | with_reducible refine s_seq ?_ | with_reducible refine s_ifS ?_ | with_reducible refine s_asg ?_ | with_reducible refine s_ret ?_ | with_reducible refine s_drop ?_ | with_reducible refine s_next ?_
  | ((with_reducible refine' s_gnameE ?g1 ?_); (case g1 => first | (dsimp only [List.set, L2.wipe, List.map, List.foldl]; done) | (dsimp only [List.set, L2.wipe, List.map, List.foldl]; rfl)))
  | with_reducible refine s_gsub ?_ | with_reducible refine s_gcons ?_ | with_reducible refine s_gnil ?_
  | (with_reducible show gTup _ _ _ _ _ _ _); refine s_gtup (by walk_at "hp") rfl ?_
  | with_reducible refine s_eqI ?_ | with_reducible refine s_neI ?_ | with_reducible refine s_eqS ?_ | with_reducible refine s_neB ?_ | with_reducible refine s_eqB ?_ | with_reducible refine s_neSr ?_ | with_reducible refine s_neS ?_
  | with_reducible refine s_I0 ?_
  | (with_reducible show rI _ _ _ _ _ _); refine s_I (by walk_at "sd") ?_
  | (with_reducible show rIxL _ _ _ _ _); refine s_ixL (by walk_at "hp") rfl ?_
  | (with_reducible show rIxT _ _ _ _ _); refine s_ixT (by walk_at "hp") rfl ?_
  | (with_reducible show rSetL _ _ _ _ _); refine s_setL (by walk_at "hp") rfl ?_
  | with_reducible refine s_prop ?_
  | (with_reducible show _ ≤ sizeLine ∧ _); refine ⟨le_size (by rfl), ?_⟩
  | with_reducible refine ite_NN ?_ | with_reducible refine ite_IN ?_ | with_reducible refine ite_nNN ?_ | with_reducible refine ite_nIN ?_ | with_reducible refine ite_RN ?_ | with_reducible refine ite_nRN ?_
  | with_reducible refine s_sfld ?_
  | ((with_reducible refine' ⟨_, _, _, _, rfl, ?fp1, ?fp2, ?fp3, ?fp4, ?_⟩); (case fp1 => walk_at "hp"); (case fp2 => assumption); (case fp3 => assumption); (case fp4 => walk_at "few"))
  | with_reducible refine s_fldE ?_
  | ((with_reducible refine' ⟨_, _, _, _, _, rfl, ?fp1, ?fp2, ?fp3, ?fp4, ?_⟩); (case fp1 => walk_at "hp"); (case fp2 => assumption); (case fp3 => assumption); (case fp4 => rfl))
  | with_reducible refine s_bm ?_ | with_reducible refine s_bm0 ?_
  | ((with_reducible refine' s_tyL ?ty1 ?_); (case ty1 => walk_at "hp"))
  | ((with_reducible refine' s_append ?ap1 ?ap2 ?_); (case ap1 => walk_at "hp"); (case ap2 => walk_at "sz"))
  | ((with_reducible refine' s_extend ?ap1 ?ap2 ?ap3 ?_); (case ap1 => walk_at "hp"); (case ap2 => walk_at "hp"); (case ap3 => walk_at "sz"))
  | with_reducible refine s_for (fun _ _ => ?_) | with_reducible refine s_lc ?_ | with_reducible refine s_iList ?_ | with_reducible refine s_iTup ?_ | with_reducible refine s_iRng1 ?_ | with_reducible refine s_iRng2 ?_
  | with_reducible refine s_yes ?_ | with_reducible refine s_par ?_
  | with_reducible refine s_make ?_ | with_reducible refine s_meth ?_
  | with_reducible refine s_tup ?_ | with_reducible refine s_lst ?_ | with_reducible refine s_call ?_
  | with_reducible refine ⟨rfl, ?_⟩
  | with_reducible refine ⟨_, rfl, ?_⟩
  | ((with_reducible refine' ⟨_, _, rfl, ?sd1, ?_⟩); (case sd1 => walk_at "sd"))
  | with_reducible refine ⟨_, _, rfl, ?_⟩
  | with_reducible refine .inl ⟨_, rfl, ?_⟩
  | dsimp only [List.set]
  | walk_at "rdx"
  | (refine fun _ _ => ?_)))

namespace My
open PySem L2
section
variable {P : Program} {w : World} {K : PySem.W.Frag} {mg : Str → Option Value} {base : Heap} {C_Many C_Ratio C_EachError C_InvalidMany L__law_odd_right : Addr} (M : Md K mg C_Many C_Ratio C_EachError C_InvalidMany L__law_odd_right)
include M
variable (B : ∀ p ∈ csL K L__law_odd_right, LamX.TabB base mg p.1 p.2)
local macro_rules | `(tactic| walk_at "rdx") => `(tactic| first | with_reducible refine s_ostG ?_ | with_reducible refine s_raE ?_ | with_reducible refine s_callX ?_ | with_reducible refine s_lstN ?_)
omit M
theorem PairAt.neP {H : Hp} {r p : Addr} {lo : Int} {hi : Option Int} (h : PairAt H p lo hi) (q : Pot H r) : p ≠ r := by
  rintro rfl
  obtain ⟨a, b, e, _⟩ := q
  have h' : H p = some (.tup [.int lo, optV hi]) := h
  rw [e] at h'
  cases h'
theorem PairAt.but {H H' : Hp} {r p : Addr} {lo : Int} {hi : Option Int} (h : PairAt H p lo hi) (q : Pot H r) (b : But r H H') : PairAt H' p lo hi := b.get h (h.neP q)
theorem But.sm {r : Addr} {H H1 H2 : Hp} (b : But r H H1) (s : L2.Same H1 H2) : But r H H2 := fun c o e n => s c o (b c o e n)
/-- a list of three pairs -/
structure Tri (H : Hp) (r L a b c : Addr) (la : Int) (ha : Option Int) (lb : Int) (hb : Option Int) (lc : Int) (hc : Option Int) : Prop where
  l : H L = some (.lst [.ref a, .ref b, .ref c])
  n : L ≠ r
  a : PairAt H a la ha
  b : PairAt H b lb hb
  c : PairAt H c lc hc
  fa : Far la ha
  fb : Far lb hb
  fc : Far lc hc
section
variable {H H' : Hp} {r L a b c : Addr} {la : Int} {ha : Option Int} {lb : Int} {hb : Option Int} {lc : Int} {hc : Option Int}
theorem Tri.same (t : Tri H r L a b c la ha lb hb lc hc) (s : L2.Same H H') : Tri H' r L a b c la ha lb hb lc hc := ⟨s _ _ t.l, t.n, t.a.same s, t.b.same s, t.c.same s, t.fa, t.fb, t.fc⟩
theorem Tri.but (t : Tri H r L a b c la ha lb hb lc hc) (p : Pot H r) (s : But r H H') : Tri H' r L a b c la ha lb hb lc hc := ⟨s.get t.l t.n, t.n, t.a.but p s, t.b.but p s, t.c.but p s, t.fa, t.fb, t.fc⟩
end
/-- .. that the comprehension makes -/
structure Made (H H' : Hp) (r D : Addr) (ps : List (Addr × Int × Option Int)) : Prop where
  l : H' D = some (.lst (ps.map fun p => V.ref p.1))
  g : ∀ p ∈ ps, PairAt H' p.1 p.2.1 p.2.2 ∧ Near p.2.1 p.2.2
  b : But r H H'
  p : Pot H' r
theorem Made.next {H H' H2 : Hp} {r D : Addr} {ps : List (Addr × Int × Option Int)} (m : Made H H' r D ps) (nD : H D = none) (ne : D ≠ r) {p : Addr} {lo : Int} {hi : Option Int} (h1 : Near lo hi) (b : But r H' H2) (p2 : Pot H2 r) (e : PairAt H2 p lo hi) :
    Made H (upd H2 D (.lst ((ps.map fun p => V.ref p.1) ++ [.ref p]))) r D (ps ++ [(p, lo, hi)]) := by
  have l2 := b.get m.l ne
  have up : ∀ {x : Addr} {l : Int} {h : Option Int}, PairAt H2 x l h → PairAt (upd H2 D (.lst ((ps.map fun p => V.ref p.1) ++ [.ref p]))) x l h := fun {x l h} hx => by
    have hx' : H2 x = some (.tup [.int l, optV h]) := hx
    show upd H2 D _ x = _
    rw [upd_ne (fun z => by rw [z] at hx'; rw [l2] at hx'; cases hx')]
    exact hx'
  refine ⟨?_, fun x hx => ?_, fun c o hc hn => ?_, p2.upn ne⟩
  · rw [upd_same, List.map_append]
    rfl
  · rcases List.mem_append.mp hx with hx | hx
    · exact ⟨up ((m.g x hx).1.but m.p b), (m.g x hx).2⟩
    · cases List.mem_singleton.mp hx
      exact ⟨up e, h1⟩
  · rw [upd_ne (fun z => by rw [z] at hc; rw [nD] at hc; cases hc)]
    exact b _ _ (m.b _ _ hc hn) hn
def spRight (T : List (Addr × Str)) : Sp := fun vs H Q _ => ∃ r : Addr, vs = [.ref r] ∧ Pot H r ∧ LamX.Tabs T H ∧ ∀ H', ExtB r H H' → Pot H' r → LamX.Tabs T H' → Q (.bl true) H'
include M B
theorem c__law_right : Dn P w K mg base "_law_right" 13 ["_law_rng_here"] [] (spRight (TLs K L__law_odd_right)) := by
  have c__law_draw := c__law_draw (P := P) (w := w) (base := base) M
  have c__law_pair := c__law_pair (P := P) (w := w) (base := base) M
  have c__law_far := c__law_far (P := P) (w := w) (base := base) M
  have c__law_two_right := c__law_two_right (P := P) (w := w) (base := base) M
  have c__law_three_right := c__law_three_right (P := P) (w := w) (base := base) M
  have c__law_count_right := c__law_count_right (P := P) (w := w) (base := base) M
  have c__law_odd_right := c__law_odd_right (P := P) (w := w) (base := base) M B
  refine dnN M.f__law_right (fun F => ?_) (fun _ _ _ _ _ _ us hl => match us, hl with | [_], _ => rfl)
  refine fnG_body F sc__law_right (fun vs H Q E h => ?_) (fun cdv A outer s H vs Q E hr h => ?_)
  · obtain ⟨r, rfl, _⟩ := h
    rfl
  · obtain ⟨r, rfl, hp, tb, q⟩ := h
    refine ⟨_, (pss_cons (ps_for (passes_of rfl) rfl (pi_range1 (by rfl) M.b_range (pa_cons pe_int pa_nil)) (pg_name (i := 1) sc__law_right.nd rfl (.inl rfl)) (pss_cons (ps_setLc (i := 2) (own := [("_law_again", 4)]) (g := gName 4) (tt := tYes) (by rfl) sc__law_right.nd rfl rfl (sw_true rfl rfl rfl (by decide +kernel)) (pi_range1 (by rfl) M.b_range (pa_cons pe_int pa_nil)) (blkOk_by (own := [("_law_again", 4)]) (N := N__law_right) (sc := defScope st__law_right) (by decide +kernel)) (fun _ _ _ _ _ => pg_name (i := 4) sc__law_right.nd rfl (by first | exact Or.inl rfl | exact Or.inr rfl)) (fun _ _ _ _ _ => pts_nil) (fun _ _ _ _ _ => (pe_callD c__law_pair (hr.mono (by decide)) rfl (pa_cons (pv 0) pa_nil)))) (pss_cons (ps_if (pt_not (pt_val (pe_callD c__law_two_right (hr.mono (by decide)) rfl (pa_cons (pe_ix ix_list (pv 2) pe_int (fun _ _ => rfl)) (pa_cons (pe_ix ix_list (pv 2) pe_int (fun _ _ => rfl)) (pa_cons pe_bl pa_nil)))))) (pss_one (ps_ret pe_bl)) pss_nil) (pss_cons (ps_if (pt_not (pt_val (pe_callD c__law_two_right (hr.mono (by decide)) rfl (pa_cons (pe_ix ix_list (pv 2) pe_int (fun _ _ => rfl)) (pa_cons (pe_ix ix_list (pv 2) pe_int (fun _ _ => rfl)) (pa_cons pe_bl pa_nil)))))) (pss_one (ps_ret pe_bl)) pss_nil) (pss_cons (ps_set (i := 3) sc__law_right.nd rfl (.inl rfl) (pe_lst (pa_cons (pe_callD c__law_far (hr.mono (by decide)) rfl (pa_cons (pv 0) pa_nil)) (pa_cons (pe_callD c__law_far (hr.mono (by decide)) rfl (pa_cons (pv 0) pa_nil)) (pa_cons (pe_callD c__law_far (hr.mono (by decide)) rfl (pa_cons (pv 0) pa_nil)) pa_nil))))) (pss_cons (ps_if (PW.pt (pw_or (pt_not (pt_val (pe_callD c__law_two_right (hr.mono (by decide)) rfl (pa_cons (pe_ix ix_list (pv 3) pe_int (fun _ _ => rfl)) (pa_cons (pe_ix ix_list (pv 3) pe_int (fun _ _ => rfl)) (pa_cons pe_bl pa_nil)))))) (pw_or1 (pt_not (pt_val (pe_callD c__law_two_right (hr.mono (by decide)) rfl (pa_cons (pe_ix ix_list (pv 2) pe_int (fun _ _ => rfl)) (pa_cons (pe_ix ix_list (pv 3) pe_int (fun _ _ => rfl)) (pa_cons pe_bl pa_nil))))))))) (pss_one (ps_ret pe_bl)) pss_nil) (pss_cons (ps_if (PW.pt (pw_or (pt_not (pt_val (pe_callD c__law_three_right (hr.mono (by decide)) rfl (pa_cons (pv 2) pa_nil)))) (pw_or1 (pt_not (pt_val (pe_callD c__law_three_right (hr.mono (by decide)) rfl (pa_cons (pv 3) pa_nil))))))) (pss_one (ps_ret pe_bl)) pss_nil) (pss_cons (ps_if (pt_not (pt_val (pe_callD c__law_count_right (hr.mono (by decide)) rfl (pa_cons (pe_ix ix_list (pv 2) pe_int (fun _ _ => rfl)) (pa_cons (pe_callD c__law_draw (hr.mono (by decide)) rfl (pa_cons (pv 0) (pa_cons pe_int pa_nil))) pa_nil))))) (pss_one (ps_ret pe_bl)) pss_nil) (pss_cons (ps_if (pt_not (pt_val (pe_callD c__law_count_right (hr.mono (by decide)) rfl (pa_cons (pe_ix ix_list (pv 3) pe_int (fun _ _ => rfl)) (pa_cons (pe_callD c__law_draw (hr.mono (by decide)) rfl (pa_cons (pv 0) (pa_cons (pe_op op_pow pe_int pe_int) pa_nil))) pa_nil))))) (pss_one (ps_ret pe_bl)) pss_nil) (pss_one (ps_if (PW.pt (pw_or (pt_not (pt_val (pe_callD c__law_count_right (hr.mono (by decide)) rfl (pa_cons (pe_ix ix_list (pv 2) pe_int (fun _ _ => rfl)) (pa_cons pe_int pa_nil))))) (pw_or1 (pt_not (pt_val (pe_callD c__law_odd_right (hr.mono (by decide)) rfl (pa_cons (pv 0) (pa_cons (pe_ix ix_list (pv 2) pe_int (fun _ _ => rfl)) pa_nil)))))))) (pss_one (ps_ret pe_bl)) pss_nil))))))))))) (pss_one (ps_ret pe_bl))), ?_⟩
    refine st_eq (σ := [some _, none, none, none, none]) rfl ?_
    walk_at "rd"
    rename_i DE eDE
    refine ⟨by decide, by decide, for_range (lo := 0) (fun i σ H' => ExtB r H H' ∧ Pot H' r ∧ LamX.Tabs (TLs K L__law_odd_right) H' ∧ ∃ (v0 v1 v2 v3 : Option V), σ = [some (.ref r), v0, v1, v2, v3]) ?_ ?_ ?_⟩
    · exact ⟨ExtB.refl r H, hp, tb, _, _, _, _, rfl⟩
    · rintro i σ H1 hi ⟨b1, p1, t1, v0, v1, v2, v3, rfl⟩
      walk_at "rd"
      refine ⟨by decide, by decide, fun D nD => lc_range (lo := 0) (fun j H' => j ≤ 3 ∧ ∃ ps : List (Addr × Int × Option Int), ps.length = j ∧ Made H1 H' r D ps) ?_ ?_ ?_⟩
      · exact ⟨by decide, [], rfl, upd_same, fun _ z => absurd z List.not_mem_nil, But.new nD, p1.up nD⟩
      · rintro j H2 hj ⟨hj3, ps, hl, md⟩
        walk_at "rd"
        refine ⟨r, rfl, md.p, fun p lo hi H3 nr b3 p3 ep => ?_⟩
        refine ⟨_, b3.get md.l (p1.ne nD), ?_, by have : (j : Int) < 3 := by omega
                                                  omega, ps ++ [(p, lo, hi)], by rw [List.length_append, hl]; rfl, md.next nD (p1.ne nD) nr b3 p3 ep⟩
        rw [List.length_map, hl, sizeLine_eq]
        omega
      · rintro H2 ⟨_, ps, hl, md⟩
        obtain ⟨⟨a, la, ha⟩, ⟨b, lb, hb⟩, ⟨c, lc, hc⟩, rfl⟩ : ∃ x y z, ps = [x, y, z] := by
          have hl : ps.length = 3 := hl
          match ps, hl with
          | [x, y, z], _ => exact ⟨x, y, z, rfl⟩
        obtain ⟨el, hg, b2, p2⟩ := md
        obtain ⟨ea, na⟩ := hg (a, la, ha) (by simp)
        obtain ⟨eb, nb⟩ := hg (b, lb, hb) (by simp)
        obtain ⟨ec, nc⟩ := hg (c, lc, hc) (by simp)
        have t2 : LamX.Tabs (TLs K L__law_odd_right) H2 := by
          obtain ⟨y1, y2, g3, _⟩ := id p1
          exact My.Tabs.but t1 b2 g3 (fun _ z => nomatch z) (fun _ _ z => nomatch z)
        have x2 : ExtB r H H2 := b1.trans (ExtB.ofB b2)
        have T2 : Tri H2 r D a b c la ha lb hb lc hc := ⟨el, p1.ne nD, ea, eb, ec, na.far, nb.far, nc.far⟩
        clear el hg ea eb ec t1 b1 b2 p1 nD hl
        have el2 := T2.l
        walk_at "rd"
        refine ⟨a, b, la, ha, lb, hb, true, rfl, T2.a, T2.b, T2.fa, T2.fb, fun _ => ⟨na, nb⟩, fun H3 s3 => ?_⟩
        have T3 := T2.same s3
        have el3 := T3.l
        walk_at "rd"
        refine ⟨b, c, lb, hb, lc, hc, true, rfl, T3.b, T3.c, T3.fb, T3.fc, fun _ => ⟨nb, nc⟩, fun H4 s4 => ?_⟩
        have s24 := s3.trans s4
        have T4 := T3.same s4
        have p4 := p2.same s24
        have x4 := x2.trans (ExtB.ofN (ExtN.sm s24))
        have t4 := My.Tabs.sm t2 s24
        clear el2 el3 T2 T3 x2 t2 p2 s24 s3 s4
        walk_at "rd"
        refine ⟨r, rfl, p4, fun d ld hd H5 fd b5 p5 ed => ?_⟩
        walk_at "rd"
        refine ⟨r, rfl, p5, fun e le he H6 fe b6 p6 ee => ?_⟩
        walk_at "rd"
        refine ⟨r, rfl, p6, fun g lg hg H7 fg b7 p7 eg => ?_⟩
        walk_at "rd"
        rename_i F nF
        have b47 := b5.trans (b6.trans b7)
        have T7 := (T4.but p4 b47).same (My.Same.new (o := .lst [.ref d, .ref e, .ref g]) nF)
        have t7 : LamX.Tabs (TLs K L__law_odd_right) (upd H7 F (.lst [.ref d, .ref e, .ref g])) := by
          obtain ⟨y1, y2, g3, _⟩ := id p4
          exact My.Tabs.sm (My.Tabs.but t4 b47 g3 (fun _ z => nomatch z) (fun _ _ z => nomatch z)) (My.Same.new nF)
        have x7 : ExtB r H (upd H7 F (.lst [.ref d, .ref e, .ref g])) := x4.trans ((ExtB.ofB b47).trans (ExtB.ofN (ExtN.sm (My.Same.new nF))))
        have U7 : Tri (upd H7 F (.lst [.ref d, .ref e, .ref g])) r F d e g ld hd le he lg hg := by
          refine ⟨upd_same, p7.ne nF, ?_, ?_, ?_, fd, fe, fg⟩
          · exact ((ed.but p5 b6).but p6 b7).same (My.Same.new nF)
          · exact (ee.but p6 b7).same (My.Same.new nF)
          · exact eg.same (My.Same.new nF)
        have p8 : Pot (upd H7 F (.lst [.ref d, .ref e, .ref g])) r := p7.up nF
        generalize upd H7 F (.lst [.ref d, .ref e, .ref g]) = H8 at T7 t7 x7 U7 p8 ⊢
        clear b47 p7 p6 p5 p4 b5 b6 b7 ed ee eg T4 x4 t4 nF
        have el8 := T7.l
        have fl8 := U7.l
        refine ⟨d, e, ld, hd, le, he, false, rfl, U7.a, U7.b, fd, fe, fun z => (nomatch z), fun H9 s9 => ?_⟩
        have el9 := s9 _ _ el8
        have fl9 := s9 _ _ fl8
        walk_at "rd"
        refine ⟨a, g, la, ha, lg, hg, false, rfl, T7.a.same s9, U7.c.same s9, T7.fa, fg, fun z => (nomatch z), fun H10 s10 => ?_⟩
        have s8 := s9.trans s10
        walk_at "rd"
        refine ⟨D, a, b, c, la, lb, lc, ha, hb, hc, rfl, s8 _ _ el8, T7.a.same s8, T7.b.same s8, T7.c.same s8, T7.fa, T7.fb, T7.fc, fun H11 s11 => ?_⟩
        have s81 := s8.trans s11
        walk_at "rd"
        refine ⟨F, d, e, g, ld, le, lg, hd, he, hg, rfl, s81 _ _ fl8, U7.a.same s81, U7.b.same s81, U7.c.same s81, fd, fe, fg, fun H12 s12 => ?_⟩
        have s82 := s81.trans s12
        have T12 := T7.same s82
        have U12 := U7.same s82
        have p12 := p8.same s82
        have x12 := x7.trans (ExtB.ofN (ExtN.sm s82))
        have t12 := My.Tabs.sm t7 s82
        clear s82 s81 s8 s9 s10 s11 s12 el8 fl8 el9 fl9 T7 U7 p8 x7 t7
        have el12 := T12.l
        have fl12 := U12.l
        walk_at "rd"
        refine ⟨r, 6, rfl, p12, by decide, by decide +kernel, fun z H13 b13 p13 z0 z1 => ?_⟩
        have T13 := T12.but p12 b13
        have U13 := U12.but p12 b13
        have x13 := x12.trans (ExtB.ofB b13)
        have t13 : LamX.Tabs (TLs K L__law_odd_right) H13 := by
          obtain ⟨y1, y2, g3, _⟩ := id p12
          exact My.Tabs.but t12 b13 g3 (fun _ z => nomatch z) (fun _ _ z => nomatch z)
        clear el12 fl12 T12 U12 x12 t12 b13 p12
        walk_at "rd"
        refine ⟨c, z, lc, hc, rfl, T13.c, T13.fc, z0, Int.le_trans (Int.le_of_lt z1) (by decide), fun H14 s14 => ?_⟩
        have T14 := T13.same s14
        have U14 := U13.same s14
        have p14 := p13.same s14
        have x14 := x13.trans (ExtB.ofN (ExtN.sm s14))
        have t14 := My.Tabs.sm t13 s14
        have fl14 := U14.l
        clear T13 U13 p13 x13 t13 s14
        walk_at "rd"
        refine ⟨r, _, rfl, p14, by decide +kernel, by decide +kernel, fun z H13 b13 p13 z0 z1 => ?_⟩
        have T13 := T14.but p14 b13
        have U13 := U14.but p14 b13
        have x13 := x14.trans (ExtB.ofB b13)
        have t13 : LamX.Tabs (TLs K L__law_odd_right) H13 := by
          obtain ⟨y1, y2, g3, _⟩ := id p14
          exact My.Tabs.but t14 b13 g3 (fun _ z => nomatch z) (fun _ _ z => nomatch z)
        clear fl14 T14 U14 x14 t14 b13 p14
        walk_at "rd"
        refine ⟨d, z, ld, hd, rfl, U13.a, fd, z0, Int.le_of_lt z1, fun H15 s15 => ?_⟩
        have T15 := T13.same s15
        have p15 := p13.same s15
        have x15 := x13.trans (ExtB.ofN (ExtN.sm s15))
        have t15 := My.Tabs.sm t13 s15
        have el15 := T15.l
        clear T13 U13 p13 x13 t13 s15
        walk_at "rd"
        refine ⟨a, 0, la, ha, rfl, T15.a, T15.fa, by decide, by decide, fun H16 s16 => ?_⟩
        have el16 := s16 _ _ el15
        walk_at "rd"
        refine ⟨r, b, lb, hb, rfl, p15.same s16, T15.b.same s16, T15.fb, My.Tabs.sm t15 s16, fun H17 b17 p17 t17 => ?_⟩
        walk_at "rd"
        exact ⟨x15.trans ((ExtB.ofN (ExtN.sm s16)).trans b17), p17, t17, _, _, _, _, rfl⟩
    · rintro σ H1 ⟨b1, p1, t1, v0, v1, v2, v3, rfl⟩
      rw [eDE]
      walk_at "rd"
      exact q _ b1 p1 t1
end
end My
end
section
open My L2 PySem
open My L2 PySem
local macro_rules | `(tactic| walk_at "as") => `(tactic| with_reducible assumption)
local macro_rules | `(tactic| walk_at "hp") => `(tactic| first
  | walk_at "as" | exact upd_same
  | (rw [upd_ne (by walk_at "ne")]; walk_at "hp")
  | (refine But.get (by walk_at "as") ?hp1 ?hp2; (case hp1 => walk_at "hp"); (case hp2 => walk_at "ne"))
  | (refine My.Same.get (by walk_at "as") ?hp1; (case hp1 => walk_at "hp")))
local macro_rules | `(tactic| walk_at "ne") => `(tactic| first
  | walk_at "as" | exact Ne.symm (by walk_at "as")
  | (refine' ne_of_none ?ne1 ?ne2; (case ne2 => walk_at "as"); (case ne1 => walk_at "hp"))
  | (refine' Ne.symm (ne_of_none ?ne1 ?ne2); (case ne2 => walk_at "as"); (case ne1 => walk_at "hp"))
  | exact ne_of (by walk_at "hp") (by walk_at "hp") (by intro z; cases z))
local macro_rules | `(tactic| walk_at "sd") => `(tactic| first
  | walk_at "as" | omega | decide | exact ⟨by omega, by omega⟩ | exact .inl ⟨by omega, by omega⟩ | exact .inr ⟨by omega, by omega⟩ | exact divp_wide (by walk_at "as") (by walk_at "as") | exact Sm.cmul (by walk_at "as") (by walk_at "as") | exact cmul_small (by omega) (by omega) (by omega) (by omega) | exact ⟨by omega, by decide⟩)
local macro_rules | `(tactic| walk_at "bt") => `(tactic| first
  | walk_at "as" | exact But.refl _ _ | exact Same.but (by walk_at "as")
  | (refine But.trans ?bt1 But.at; (case bt1 => walk_at "bt"))
  | (refine But.trans ?bt1 (But.new (by first | walk_at "as" | walk_at "hp")); (case bt1 => walk_at "bt"))
  | (refine But.trans ?bt1 (by walk_at "as"); (case bt1 => walk_at "bt"))
  | (refine But.trans ?bt1 (Same.but (by walk_at "as")); (case bt1 => walk_at "bt")))
local macro_rules | `(tactic| walk_at "sm") => `(tactic| first
  | walk_at "as" | exact My.Same.rfl' _
  | (refine' My.Same.at_ ?sm1 ?sm2; (case sm1 => walk_at "as"); (case sm2 => walk_at "sm"))
  | (refine' My.Same.tr ?sm1 (My.Same.new ?sm2); (case sm2 => walk_at "as"); (case sm1 => walk_at "sm"))
  | (refine' My.Same.tr ?sm1 ?sm2; (case sm2 => walk_at "as"); (case sm1 => walk_at "sm")))
local macro_rules | `(tactic| walk_at "sz") => `(tactic| first
  | assumption | exact lt_size (by rfl) | exact le_size (by rfl) | (rw [sizeLine_eq]; omega)
  | (rw [sizeLine_eq]; simp only [List.length_append, List.length_map, List.length_cons, List.length_nil]; omega))
local macro_rules | `(tactic| walk_at "few") => `(tactic| (repeat refine few_put ?_); exact few0)
local macro_rules | `(tactic| walk_at "rd1") => `(tactic| first
  | (with_reducible show tVar _ _ _ _); refine s_var rfl ?_
  | with_reducible refine s_c ?_ | with_reducible refine s_op ?_ | with_reducible refine s_un ?_
  | with_reducible refine s_cons ?_ | with_reducible refine s_nil ?_ | with_reducible refine s_cb ?_
  | with_reducible refine s_test ?_ | with_reducible refine s_B ?_ | with_reducible refine s_not ?_ | with_reducible refine s_and ?_ | with_reducible refine s_or ?_
  | with_reducible refine s_if ?_ | with_reducible refine s_notV ?_ | with_reducible refine s_andV ?_ | with_reducible refine s_orV ?_
  | with_reducible refine s_orT ?_ | with_reducible refine s_andT ?_ | with_reducible refine s_chain ?_
  | with_reducible refine s_isi_int ?_ | with_reducible refine s_isi_int_bool ?_ | with_reducible refine s_isi_str ?_
  | with_reducible refine iteT ?_ | with_reducible refine iteF ?_ | with_reducible refine iteNT ?_ | with_reducible refine iteNF ?_
  | with_reducible refine s_isN ?_ | with_reducible refine s_notN ?_
  | ((with_reducible refine' s_2setE ?g1 ?_); (case g1 => first | (dsimp only [List.set, L2.wipe, List.map, List.foldl]; done) | (dsimp only [List.set, L2.wipe, List.map, List.foldl]; rfl)))
  | with_reducible refine s_seq ?_ | with_reducible refine s_ifS ?_ | with_reducible refine s_asg ?_ | with_reducible refine s_ret ?_ | with_reducible refine s_drop ?_ | with_reducible refine s_next ?_
  | ((with_reducible refine' s_gnameE ?g1 ?_); (case g1 => first | (dsimp only [List.set, L2.wipe, List.map, List.foldl]; done) | (dsimp only [List.set, L2.wipe, List.map, List.foldl]; rfl)))
  | with_reducible refine s_gsub ?_ | with_reducible refine s_gcons ?_ | with_reducible refine s_gnil ?_
  | (with_reducible show gTup _ _ _ _ _ _ _); refine s_gtup (by walk_at "hp") rfl ?_
  | with_reducible refine s_eqI ?_ | with_reducible refine s_neI ?_ | with_reducible refine s_eqS ?_ | with_reducible refine s_neB ?_ | with_reducible refine s_eqB ?_ | with_reducible refine s_neSr ?_ | with_reducible refine s_neS ?_
  | with_reducible refine s_I0 ?_
  | (with_reducible show rI _ _ _ _ _ _); refine s_I (by walk_at "sd") ?_
  | (with_reducible show rIxL _ _ _ _ _); refine s_ixL (by walk_at "hp") rfl ?_
  | (with_reducible show rIxT _ _ _ _ _); refine s_ixT (by walk_at "hp") rfl ?_
  | (with_reducible show rSetL _ _ _ _ _); refine s_setL (by walk_at "hp") rfl ?_
  | with_reducible refine s_prop ?_
  | (with_reducible show _ ≤ sizeLine ∧ _); refine ⟨le_size (by rfl), ?_⟩
  | with_reducible refine ite_NN ?_ | with_reducible refine ite_IN ?_ | with_reducible refine ite_nNN ?_ | with_reducible refine ite_nIN ?_ | with_reducible refine ite_RN ?_ | with_reducible refine ite_nRN ?_
  | with_reducible refine s_sfld ?_
  | ((with_reducible refine' ⟨_, _, _, _, rfl, ?fp1, ?fp2, ?fp3, ?fp4, ?_⟩); (case fp1 => walk_at "hp"); (case fp2 => assumption); (case fp3 => assumption); (case fp4 => walk_at "few"))
  | with_reducible refine s_fldE ?_
  | ((with_reducible refine' ⟨_, _, _, _, _, rfl, ?fp1, ?fp2, ?fp3, ?fp4, ?_⟩); (case fp1 => walk_at "hp"); (case fp2 => assumption); (case fp3 => assumption); (case fp4 => rfl))
  | with_reducible refine s_bm ?_ | with_reducible refine s_bm0 ?_
  | ((with_reducible refine' s_tyL ?ty1 ?_); (case ty1 => walk_at "hp"))
  | ((with_reducible refine' s_append ?ap1 ?ap2 ?_); (case ap1 => walk_at "hp"); (case ap2 => walk_at "sz"))
  | ((with_reducible refine' s_extend ?ap1 ?ap2 ?ap3 ?_); (case ap1 => walk_at "hp"); (case ap2 => walk_at "hp"); (case ap3 => walk_at "sz"))
  | with_reducible refine s_for (fun _ _ => ?_) | with_reducible refine s_lc ?_ | with_reducible refine s_iList ?_ | with_reducible refine s_iTup ?_ | with_reducible refine s_iRng1 ?_ | with_reducible refine s_iRng2 ?_
  | with_reducible refine s_yes ?_ | with_reducible refine s_par ?_
  | with_reducible refine s_make ?_ | with_reducible refine s_meth ?_
  | with_reducible refine s_tup ?_ | with_reducible refine s_lst ?_ | with_reducible refine s_call ?_
  | with_reducible refine ⟨rfl, ?_⟩
  | with_reducible refine ⟨_, rfl, ?_⟩
  | ((with_reducible refine' ⟨_, _, rfl, ?sd1, ?_⟩); (case sd1 => walk_at "sd"))
  | with_reducible refine ⟨_, _, rfl, ?_⟩
  | with_reducible refine .inl ⟨_, rfl, ?_⟩
  | dsimp only [List.set]
  | walk_at "rdx"
  | (refine fun _ _ => ?_))
local macro_rules | `(tactic| walk_at "rd") => `(tactic| repeat (first
  | (with_reducible show tVar _ _ _ _); refine s_var rfl ?_
  | with_reducible refine s_c ?_ | with_reducible refine s_op ?_ | with_reducible refine s_un ?_
  | with_reducible refine s_cons ?_ | with_reducible refine s_nil ?_ | with_reducible refine s_cb ?_
  | with_reducible refine s_test ?_ | with_reducible refine s_B ?_ | with_reducible refine s_not ?_ | with_reducible refine s_and ?_ | with_reducible refine s_or ?_
  | with_reducible refine s_if ?_ | with_reducible refine s_notV ?_ | with_reducible refine s_andV ?_ | with_reducible refine s_orV ?_
  | with_reducible refine s_orT ?_ | with_reducible refine s_andT ?_ | with_reducible refine s_chain ?_
  | with_reducible refine s_isi_int ?_ | with_reducible refine s_isi_int_bool ?_ | with_reducible refine s_isi_str ?_
  | with_reducible refine iteT ?_ | with_reducible refine iteF ?_ | with_reducible refine iteNT ?_ | with_reducible refine iteNF ?_
  | with_reducible refine s_isN ?_ | with_reducible refine s_notN ?_
  | ((with_reducible refine' s_2setE ?g1 ?_); (case g1 => first | (dsimp only [List.set, L2.wipe, List.map, List.foldl]; done) | (dsimp only [List.set, L2.wipe, List.map, List.foldl]; rfl)))
  | with_reducible refine s_seq ?_ | with_reducible refine s_ifS ?_ | with_reducible refine s_asg ?_ | with_reducible refine s_ret ?_ | with_reducible refine s_drop ?_ | with_reducible refine s_next ?_
  | ((with_reducible refine' s_gnameE ?g1 ?_); (case g1 => first | (dsimp only [List.set, L2.wipe, List.map, List.foldl]; done) | (dsimp only [List.set, L2.wipe, List.map, List.foldl]; rfl)))
  | with_reducible refine s_gsub ?_ | with_reducible refine s_gcons ?_ | with_reducible refine s_gnil ?_
  | (with_reducible show gTup _ _ _ _ _ _ _); refine s_gtup (by walk_at "hp") rfl ?_
  | with_reducible refine s_eqI ?_ | with_reducible refine s_neI ?_ | with_reducible refine s_eqS ?_ | with_reducible refine s_neB ?_ | with_reducible refine s_eqB ?_ | with_reducible refine s_neSr ?_ | with_reducible refine s_neS ?_
  | with_reducible refine s_I0 ?_
  | (with_reducible show rI _ _ _ _ _ _); refine s_I (by walk_at "sd") ?_
  | (with_reducible show rIxL _ _ _ _ _); refine s_ixL (by walk_at "hp") rfl ?_
  | (with_reducible show rIxT _ _ _ _ _); refine s_ixT (by walk_at "hp") rfl ?_
  | (with_reducible show rSetL _ _ _ _ _); refine s_setL (by walk_at "hp") rfl ?_
  | with_reducible refine s_prop ?_
  | (with_reducible show _ ≤ sizeLine ∧ _); refine ⟨le_size (by rfl), ?_⟩
  | with_reducible refine ite_NN ?_ | with_reducible refine ite_IN ?_ | with_reducible refine ite_nNN ?_ | with_reducible refine ite_nIN ?_ | with_reducible refine ite_RN ?_ | with_reducible refine ite_nRN ?_
  | with_reducible refine s_sfld ?_
  | ((with_reducible refine' ⟨_, _, _, _, rfl, ?fp1, ?fp2, ?fp3, ?fp4, ?_⟩); (case fp1 => walk_at "hp"); (case fp2 => assumption); (case fp3 => assumption); (case fp4 => walk_at "few"))
  | with_reducible refine s_fldE ?_
  | ((with_reducible refine' ⟨_, _, _, _, _, rfl, ?fp1, ?fp2, ?fp3, ?fp4, ?_⟩); (case fp1 => walk_at "hp"); (case fp2 => assumption); (case fp3 => assumption); (case fp4 => rfl))
  | with_reducible refine s_bm ?_ | with_reducible refine s_bm0 ?_
  | ((with_reducible refine' s_tyL ?ty1 ?_); (case ty1 => walk_at "hp"))
  | ((with_reducible refine' s_append ?ap1 ?ap2 ?_); (case ap1 => walk_at "hp"); (case ap2 => walk_at "sz"))
  | ((with_reducible refine' s_extend ?ap1 ?ap2 ?ap3 ?_); (case ap1 => walk_at "hp"); (case ap2 => walk_at "hp"); (case ap3 => walk_at "sz"))
  | with_reducible refine s_for (fun _ _ => ?_) | with_reducible refine s_lc ?_ | with_reducible refine s_iList ?_ | with_reducible refine s_iTup ?_ | with_reducible refine s_iRng1 ?_ | with_reducible refine s_iRng2 ?_
  | with_reducible refine s_yes ?_ | with_reducible refine s_par ?_
  | with_reducible refine s_make ?_ | with_reducible refine s_meth ?_
  | with_reducible refine s_tup ?_ | with_reducible refine s_lst ?_ | with_reducible refine s_call ?_
  | with_reducible refine ⟨rfl, ?_⟩
  | with_reducible refine ⟨_, rfl, ?_⟩
  | ((with_reducible refine' ⟨_, _, rfl, ?sd1, ?_⟩); (case sd1 => walk_at "sd"))
  | with_reducible refine ⟨_, _, rfl, ?_⟩
  | with_reducible refine .inl ⟨_, rfl, ?_⟩
  | dsimp only [List.set]
  | walk_at "rdx"
  | (refine fun _ _ => ?_)))

namespace My
open PySem L2
section
variable {P : Program} {w : World} {K : PySem.W.Frag} {mg : Str → Option Value} {base : Heap} {C_Many C_Ratio C_EachError C_InvalidMany L__law_odd_right : Addr} (M : Md K mg C_Many C_Ratio C_EachError C_InvalidMany L__law_odd_right)
include M
variable (B : ∀ p ∈ csL K L__law_odd_right, LamX.TabB base mg p.1 p.2)
local macro_rules | `(tactic| walk_at "rdx") => `(tactic| first | with_reducible refine s_ostG ?_ | with_reducible refine s_raE ?_ | with_reducible refine s_callX ?_)
omit M
def spLaw (K : PySem.W.Frag) (L : Addr) : Sp := fun vs H Q _ => ∃ (a : Addr) (ns : List Int), vs = [.ref a] ∧ SqL K H a (ns.map V.int) ∧ ns.length ≤ 63 ∧ (∀ p ∈ csL K L, H p.2 = some (.tbl #[])) ∧ ∀ H', Q (.bl true) H'
theorem ExtN.seq {K : PySem.W.Frag} {H H' : Hp} {a : Addr} {xs : List V} (s : LamX.ExtN H H') (h : SqL K H a xs) : SqL K H' a xs := by
  rcases h with (h | ⟨o, h⟩) | h
  · exact .inl (.inl (s _ _ h (fun _ z => nomatch z)))
  · exact .inl (.inr ⟨o, s _ _ h (fun _ z => nomatch z)⟩)
  · exact .inr h
theorem ExtB.free {r : Addr} {H H1 H2 : Hp} (x : LamX.ExtN H H1) (b : ExtB r H1 H2) (n : H r = none) : LamX.ExtN H H2 := fun c o e k => b c o (x c o e k) k (ne_of_none e n)
theorem rep_map (n : Nat) : List.replicate n (V.bl true) = (List.replicate n true).map V.bl := by
  rw [List.map_replicate]
theorem rep_all (n : Nat) : (List.replicate n true).all id = true := by
  induction n with
  | zero => rfl
  | succ n ih => simpa using ih
theorem turns4 (n : Nat) : 0 ≤ (if (if (n : Int) < 4 then (n : Int) else 4) > 1 then (if (n : Int) < 4 then (n : Int) else 4) else 1) ∧ (if (if (n : Int) < 4 then (n : Int) else 4) > 1 then (if (n : Int) < 4 then (n : Int) else 4) else 1) ≤ 4 := by
  split <;> split <;> omega
include M B
theorem ok_law {f : Addr} {fd : FuncData} (F : FunD K "law" "law" (defArgs st_law) (defBody st_law) (defScope st_law) [] [] f fd) : FnG P w K mg base CX0 16 f fd ["_law_script"] (spLaw K L__law_odd_right) := by
  have c__law_rng := c__law_rng (P := P) (w := w) (base := base) M
  have c__law_right := c__law_right (P := P) (w := w) (base := base) M B
  refine fnG_body F sc_law (fun vs H Q E h => ?_) (fun cdv A outer s H vs Q E hr h => ?_)
  · obtain ⟨a, ns, rfl, _⟩ := h
    rfl
  · obtain ⟨a, ns, rfl, hS, hl, hT, k⟩ := h
    refine ⟨_, (pss_one (ps_ret (pe_callB (cr_all rfl) (by rfl) M.b_all (by decide +kernel) (pa_cons (pe_lc (own := [("_law_k", 1)]) (g := gName 1) (tt := tYes) (by rfl) sc_law.nd (pi_range1 (by rfl) M.b_range (pa_cons (pe_callB (call_max2 rfl) (by rfl) M.b_max (by decide +kernel) (pa_cons pe_int (pa_cons (pe_callB (call_min2 rfl) (by rfl) M.b_min (by decide +kernel) (pa_cons pe_int (pa_cons (pe_callB call_len_seq (by rfl) M.b_len (by decide +kernel) (pa_cons (pv 0) pa_nil)) pa_nil))) pa_nil))) pa_nil)) (blkOk_by (own := [("_law_k", 1)]) (N := N_law) (sc := defScope st_law) (by decide +kernel)) (fun _ _ _ _ _ => pg_name (i := 1) sc_law.nd rfl (by first | exact Or.inl rfl | exact Or.inr rfl)) (fun _ _ _ _ _ => pts_nil) (fun _ _ _ _ _ => (pe_callD c__law_right (hr.mono (by decide)) rfl (pa_cons (pe_callD c__law_rng (hr.mono (by decide)) rfl (pa_cons (pv 0) (pa_cons (pv 1) pa_nil))) pa_nil)))) pa_nil)))), ?_⟩
    refine st_eq (σ := [some _, none]) rfl ?_
    walk_at "rd"
    refine ⟨_, _, rfl, .inl hS, ?_⟩
    walk_at "rd"
    have hb := turns4 (ns.map V.int).length
    refine ⟨Int.le_trans (by decide) hb.1, Int.lt_of_le_of_lt hb.2 (by decide), fun D nD => lc_range (lo := 0) (fun j H' => LamX.ExtN H H' ∧ LamX.Tabs (TLs K L__law_odd_right) H' ∧ H' D = some (.lst (List.replicate j (V.bl true))) ∧ j ≤ 4) ?_ ?_ ?_⟩
    · exact ⟨ExtN.sm (My.Same.new nD), My.Tabs.sm (My.Tabs.nilT (fun p hp => by
        cases List.mem_singleton.mp hp
        exact hT _ (List.mem_singleton.mpr rfl))) (My.Same.new nD), upd_same, Nat.zero_le _⟩
    · rintro j H1 hj ⟨s1, t1, hD, _⟩
      have hj5 : j + 1 ≤ 4 := by
        have := hb.2
        omega
      walk_at "rd"

      refine ⟨a, ns, _, rfl, ExtN.seq s1 hS, by omega, by omega, fun r H2 s2 nr p2 => ?_⟩
      walk_at "rd"
      have Dr : D ≠ r := ne_of_none hD nr
      refine ⟨r, rfl, p2, My.Tabs.sm t1 s2, fun H3 b3 p3 t3 => ?_⟩
      have l3 := b3.get (s2 _ _ hD) Dr (fun _ z => nomatch z)
      refine ⟨_, l3, ?_, ExtN.upf (s1.trans (ExtB.free (ExtN.sm s2) b3 nr)) nD, My.Tabs.but t3 (But.at (o := _)) l3 (fun _ z => nomatch z) (fun _ _ z => nomatch z), ?_, hj5⟩
      · rw [List.length_replicate, sizeLine_eq]
        omega
      · rw [upd_same, List.replicate_succ']
    · rintro H1 ⟨s1, t1, hD, _⟩
      walk_at "rd"
      refine ⟨_, List.replicate _ true, rfl, SqL.of (by rw [← rep_map]; exact hD), ?_⟩
      rw [rep_all]
      exact k _
end
end My
end
section
namespace My
open PySem L2 PySem.W
theorem no_ok {K : PySem.W.Frag} {C : Addr} {f : Str} (h : eqO (PySem.W.findIn K (.ref C) f) (some none) = true) : NoAttr K C f := (of_decide_eq_true (p := PySem.W.findIn K (.ref C) f = some none) h : PySem.W.findIn K (.ref C) f = some none)
theorem facts {P : Program} {w : World} {T K : PySem.W.Frag} {h : Heap} {mg : Str → Option Value} {f : Addr} (TX : T.In h) (X : K.In h) (G : h.Ns mainGlobals mg) (hfa : mg "law" = some (.ref f)) (c : SaysY faL fnL adL (exB T) K) :
    ∃ fd : FuncData, (∀ p ∈ csL K (He.ga K "_law_odd_right"), Maker K h p) ∧ (∀ (s : Shared) (v : Value), BindsTo s fd ⟨[v], []⟩ [("_law_script", v)]) ∧ ∀ base : Heap, K.In base → base.Ns mainGlobals mg → (∀ p ∈ csL K (He.ga K "_law_odd_right"), LamX.TabB base mg p.1 p.2) → FnG P w K mg base CX0 16 f fd ["_law_script"] (spLaw K (He.ga K "_law_odd_right")) := by
  have c1 := c.d
  have t : (tests T K).all id = true := c.more.1
  obtain ⟨fd_0, F_0⟩ := c1.def_ 0 (d := dd_is_integer) rfl
  obtain ⟨fd_1, F_1⟩ := c1.def_ 1 (d := dd_is_count) rfl
  obtain ⟨fd_2, F_2⟩ := c1.def_ 2 (d := dd__is_up_to) rfl
  obtain ⟨fd_3, F_3⟩ := c1.def_ 3 (d := dd__most_of_sum) rfl
  obtain ⟨fd_4, F_4⟩ := c1.def_ 4 (d := dd__most_of_product) rfl
  obtain ⟨fd_5, F_5⟩ := c1.def_ 5 (d := dd__law_rng) rfl
  obtain ⟨fd_6, F_6⟩ := c1.def_ 6 (d := dd__law_draw) rfl
  obtain ⟨fd_7, F_7⟩ := c1.def_ 7 (d := dd__law_choice) rfl
  obtain ⟨fd_8, F_8⟩ := c1.def_ 8 (d := dd__law_pair) rfl
  obtain ⟨fd_9, F_9⟩ := c1.def_ 9 (d := dd__law_far) rfl
  obtain ⟨fd_10, F_10⟩ := c1.def_ 10 (d := dd__law_made) rfl
  obtain ⟨fd_11, F_11⟩ := c1.def_ 11 (d := dd__law_row) rfl
  obtain ⟨fd_12, F_12⟩ := c1.def_ 12 (d := dd__law_numbers) rfl
  obtain ⟨fd_13, F_13⟩ := c1.def_ 13 (d := dd__law_spanned) rfl
  obtain ⟨fd_14, F_14⟩ := c1.def_ 14 (d := dd__law_bounds) rfl
  obtain ⟨fd_15, F_15⟩ := c1.def_ 15 (d := dd__law_refused) rfl
  obtain ⟨fd_16, F_16⟩ := c1.def_ 16 (d := dd__law_two_right) rfl
  obtain ⟨fd_17, F_17⟩ := c1.def_ 17 (d := dd__law_three_right) rfl
  obtain ⟨fd_18, F_18⟩ := c1.def_ 18 (d := dd__law_count_right) rfl
  obtain ⟨fd_19, F_19⟩ := c1.def_ 19 (d := dd__law_odd_right) rfl
  obtain ⟨fd_20, F_20⟩ := c1.def_ 20 (d := dd__law_right) rfl
  obtain ⟨fd_21, F_21⟩ := c1.def_ 21 (d := dd_Many___init__) rfl
  obtain ⟨fd_22, F_22⟩ := c1.def_ 22 (d := dd_Many___add__) rfl
  obtain ⟨fd_23, F_23⟩ := c1.def_ 23 (d := dd_Many___mul__) rfl
  obtain ⟨fd_24, F_24⟩ := c1.def_ 24 (d := dd_Many___rmul__) rfl
  obtain ⟨fd_25, F_25⟩ := c1.def_ 25 (d := dd_Many___eq__) rfl
  obtain ⟨fd_26, F_26⟩ := c1.def_ 26 (d := dd_Many___repr__) rfl
  obtain ⟨fd_27, F_27⟩ := c1.def_ 27 (d := dd_Ratio___init__) rfl
  obtain ⟨fd_28, F_28⟩ := c1.def_ 28 (d := dd_Ratio___repr__) rfl
  obtain ⟨fd_29, F_29⟩ := c1.def_ 29 (d := dd_InvalidMany___init__) rfl
  obtain ⟨fd_30, F_30⟩ := c1.def_ 30 (d := dd_law) rfl
  obtain ⟨gd_0, G_0⟩ := c.at_ 0 (d := (fun K => prA K "Many" "least", dd_Many_least)) rfl
  obtain ⟨gd_1, G_1⟩ := c.at_ 1 (d := (fun K => prA K "Many" "most", dd_Many_most)) rfl
  have M : Md K mg (He.ga K "Many") (He.ga K "Ratio") (He.ga K "EachError") (He.ga K "InvalidMany") (He.ga K "_law_odd_right") := ⟨TabN.by (all_at t 23 rfl),
    He.free_ok X G (c1.fact 26 (f := .free "isinstance") rfl),
    He.free_ok X G (c1.fact 27 (f := .free "int") rfl),
    He.free_ok X G (c1.fact 28 (f := .free "bool") rfl),
    He.free_ok X G (c1.fact 29 (f := .free "max") rfl),
    He.free_ok X G (c1.fact 30 (f := .free "min") rfl),
    He.free_ok X G (c1.fact 31 (f := .free "abs") rfl),
    He.free_ok X G (c1.fact 32 (f := .free "divmod") rfl),
    He.free_ok X G (c1.fact 33 (f := .free "len") rfl),
    He.free_ok X G (c1.fact 34 (f := .free "range") rfl),
    He.free_ok X G (c1.fact 35 (f := .free "all") rfl),
    He.free_ok X G (c1.fact 36 (f := .free "repr") rfl),
    PySem.W.mg_of X G (of_decide_eq_true (p := PySem.W.nsIn K mainGlobals "gcd" = some (some (.builtin "math.gcd"))) (all_at t 21 rfl)),
    ⟨_, _, F_0, (He.glo_ok X G (c1.fact 0 (f := .glo "is_integer") rfl))⟩,
    ⟨_, _, F_1, (He.glo_ok X G (c1.fact 1 (f := .glo "is_count") rfl))⟩,
    ⟨_, _, F_2, (He.glo_ok X G (c1.fact 2 (f := .glo "_is_up_to") rfl))⟩,
    ⟨_, _, F_3, (He.glo_ok X G (c1.fact 3 (f := .glo "_most_of_sum") rfl))⟩,
    ⟨_, _, F_4, (He.glo_ok X G (c1.fact 4 (f := .glo "_most_of_product") rfl))⟩,
    ⟨_, _, F_5, (He.glo_ok X G (c1.fact 5 (f := .glo "_law_rng") rfl))⟩,
    ⟨_, _, F_6, (He.glo_ok X G (c1.fact 6 (f := .glo "_law_draw") rfl))⟩,
    ⟨_, _, F_7, (He.glo_ok X G (c1.fact 7 (f := .glo "_law_choice") rfl))⟩,
    ⟨_, _, F_8, (He.glo_ok X G (c1.fact 8 (f := .glo "_law_pair") rfl))⟩,
    ⟨_, _, F_9, (He.glo_ok X G (c1.fact 9 (f := .glo "_law_far") rfl))⟩,
    ⟨_, _, F_10, (He.glo_ok X G (c1.fact 10 (f := .glo "_law_made") rfl))⟩,
    ⟨_, _, F_11, (He.glo_ok X G (c1.fact 11 (f := .glo "_law_row") rfl))⟩,
    ⟨_, _, F_12, (He.glo_ok X G (c1.fact 12 (f := .glo "_law_numbers") rfl))⟩,
    ⟨_, _, F_13, (He.glo_ok X G (c1.fact 13 (f := .glo "_law_spanned") rfl))⟩,
    ⟨_, _, F_14, (He.glo_ok X G (c1.fact 14 (f := .glo "_law_bounds") rfl))⟩,
    ⟨_, _, F_15, (He.glo_ok X G (c1.fact 15 (f := .glo "_law_refused") rfl))⟩,
    ⟨_, _, F_16, (He.glo_ok X G (c1.fact 16 (f := .glo "_law_two_right") rfl))⟩,
    ⟨_, _, F_17, (He.glo_ok X G (c1.fact 17 (f := .glo "_law_three_right") rfl))⟩,
    ⟨_, _, F_18, (He.glo_ok X G (c1.fact 18 (f := .glo "_law_count_right") rfl))⟩,
    ⟨_, F_19, (He.glo_ok X G (c1.fact 19 (f := .glo "_law_odd_right") rfl))⟩,
    ⟨_, _, F_20, (He.glo_ok X G (c1.fact 20 (f := .glo "_law_right") rfl))⟩,
    (He.glo_ok X G (c1.fact 21 (f := .glo "Many") rfl)),
    (He.cls_ok (c1.fact 37 (f := .cls "Many") rfl)),
    ⟨_, _, He.mkr_ok (c1.fact 38 (f := .mkr "Many") rfl), F_21⟩,
    ins_ok (He.cls_ok (c1.fact 37 (f := .cls "Many") rfl)) (of_decide_eq_true (all_at t 8 rfl)) (of_decide_eq_true (all_at t 0 rfl)) (of_decide_eq_true (all_at t 1 rfl)) (of_decide_eq_true (all_at t 9 rfl)),
    He.noat_ok (c1.fact 39 (f := .noat "Many" "_least") rfl),
    He.noat_ok (c1.fact 40 (f := .noat "Many" "_most") rfl),
    He.noat_ok (c1.fact 41 (f := .noat "Many" "_key") rfl),
    ⟨_, _, He.meth_ok (c1.fact 42 (f := .meth "Many" "__add__") rfl), F_22⟩,
    ⟨_, _, He.meth_ok (c1.fact 43 (f := .meth "Many" "__mul__") rfl), F_23⟩,
    ⟨_, _, He.meth_ok (c1.fact 44 (f := .meth "Many" "__rmul__") rfl), F_24⟩,
    ⟨_, _, He.meth_ok (c1.fact 45 (f := .meth "Many" "__eq__") rfl), F_25⟩,
    ⟨_, _, He.meth_ok (c1.fact 46 (f := .meth "Many" "__repr__") rfl), F_26⟩,
    ⟨_, _, _, prB_ok (all_at t 10 rfl), G_0⟩,
    ⟨_, _, _, prB_ok (all_at t 11 rfl), G_1⟩,
    (He.glo_ok X G (c1.fact 22 (f := .glo "Ratio") rfl)),
    (He.cls_ok (c1.fact 47 (f := .cls "Ratio") rfl)),
    ⟨_, _, He.mkr_ok (c1.fact 48 (f := .mkr "Ratio") rfl), F_27⟩,
    ins_ok (He.cls_ok (c1.fact 47 (f := .cls "Ratio") rfl)) (of_decide_eq_true (all_at t 12 rfl)) (of_decide_eq_true (all_at t 0 rfl)) (of_decide_eq_true (all_at t 1 rfl)) (of_decide_eq_true (all_at t 13 rfl)),
    He.noat_ok (c1.fact 49 (f := .noat "Ratio" "_top") rfl),
    He.noat_ok (c1.fact 50 (f := .noat "Ratio" "_bottom") rfl),
    ⟨_, _, He.meth_ok (c1.fact 51 (f := .meth "Ratio" "__repr__") rfl), F_28⟩,
    of_decide_eq_true (all_at t 14 rfl),
    of_decide_eq_true (all_at t 15 rfl),
    of_decide_eq_true (all_at t 16 rfl),
    of_decide_eq_true (all_at t 17 rfl),
    of_decide_eq_true (all_at t 18 rfl),
    of_decide_eq_true (all_at t 19 rfl),
    of_decide_eq_true (all_at t 20 rfl),
    of_decide_eq_true (all_at t 2 rfl),
    of_decide_eq_true (all_at t 0 rfl),
    of_decide_eq_true (all_at t 1 rfl),
    (He.glo_ok X G (c1.fact 23 (f := .glo "EachError") rfl)),
    excB_ok (all_at t 3 rfl),
    (all_at t 4 rfl),
    (He.glo_ok X G (c1.fact 24 (f := .glo "InvalidMany") rfl)),
    excB_ok (all_at t 5 rfl),
    ⟨_, _, (iniB_ok (all_at t 6 rfl)).1, (iniB_ok (all_at t 6 rfl)).2, F_29⟩,
    no_ok (all_at t 7 rfl)⟩
  have e := hfa.symm.trans (He.glo_ok X G (c1.fact 25 (f := .glo "law") rfl))
  cases e
  have b := FunD.bindsA (ps := ["_law_script"]) F_30 fun _ _ _ _ _ _ us hl => match us, hl with | [_], _ => rfl
  have mks : ∀ p ∈ csL K (He.ga K "_law_odd_right"), Maker K h p := by
    intro p hp
    simp only [List.mem_cons, List.not_mem_nil, or_false] at hp
    rcases hp with rfl
    exact tabOkB_ok TX X (all_at t 22 rfl)
  exact ⟨_, mks, fun s v => b s [v] rfl, fun base _ _ B => ok_law M B F_30⟩
end My
open PySem PySem.W PyProof.Rows
set_option maxRecDepth 100000 in
set_option maxHeartbeats 0 in
theorem PySem.Challenge.cw_howmanyeach_k15_whole_sums_and_products_holds : PySem.Challenge.rw_howmanyeach_k15_whole_sums_and_products.Holds := by
  w_on; o_law
  refine HandSHeadRun.head_imp (r := My.rowR) (q := view My.rowR.prog [40]) (H := My.hkL) (ob := My.obL) (M := 6000) (loose := My.looseL) (d := HandSHeadRun.topDef My.rowR.prog 40) (kwd := []) My.obL_eq My.runL (by kernel_rfl) (by kernel_rfl) (by rfl) (by first | decide +kernel | assumption) (by decide +kernel) (by first | rfl | decide +kernel | kernel_rfl) ⟨rfl, rfl, rfl, rfl, rfl, by decide +kernel⟩ ?hw ?hc
  case hw => w_witness2
  case hc =>
    refine My.walkGT (l := PySem.Challenge.rw_howmanyeach_k15_whole_sums_and_products) (n := 63) (k := 16) (x := "_law_script") rfl (by decide) (by kernel_rfl) ⟨⟨rfl, by decide, by decide⟩, rfl⟩ ?F
    intro w mg fa h Y G hmg0
    obtain ⟨T, K, TX, KX, c⟩ := Y
    have hmg : mg ("law" : PySem.Str) = some (.ref fa) := by
      have e : (HandSHeadRun.topDef My.rowR.prog 40).name = ("law" : PySem.Str) := by kernel_rfl
      rw [← e]
      exact hmg0
    obtain ⟨fd, mks, hb, hF⟩ := My.facts (P := (PySem.Challenge.rw_howmanyeach_k15_whole_sums_and_products).prog) (w := w) TX KX G hmg c
    exact ⟨K, fd, My.spLaw K (He.ga K "_law_odd_right"), My.csL K (He.ga K "_law_odd_right"), KX, mks, hb, fun H a ns hl hT hS => ⟨a, ns, rfl, hS, hl, hT, fun _ => rfl⟩, hF⟩
end
