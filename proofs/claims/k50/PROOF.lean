import PyProof.Rows.All
import Wide.All
import OpenK.AllK
import Wide.FinOn
import HandS.ForMost
import HandS.Wide
import HandS.WideBits
import HandS.Property
import HandS.Defaults
import HandS.RaiseMore
import HandS.IsInst
import HandS.Flow
import HandS.SetFor
import HandS.Strs
import HandS.Conv
import OpenK.KMeth
import KE.KOpsOwn
import KE.KIsAll
import PyProof.InstNe
import PyProof.Conv_bool
import HandS.DictComp
import HandS.More
import HandS.Finally
import HandS.Iter
import HandS.Text
import HandS.Small
import HandS.FStr
import OpenK.KMore
import HandS.ExcInit
import HandS.ExcField
import HandS.ExcIs
import KE.KExcInit
import KE.KExcLine
import HandS.ExcValue
import HandS.Dict
import HandS.ForDict
import HandS.Walk
import HandS.Style
import KE.KParC
import HandS.ClsMeth
import HandS.Head0
import HandS.Head1
import HandS.Head2
import HandS.HeadEnd
import HandS.HeadHook1
import HandS.HeadHook2
import HandS.HeadHook3
import HandS.HeadHook4
import HandS.ListItems
import PySem.Challenge.RW_howmanyeach_k50_sizes_made_and_asked
set_option Elab.async false
set_option linter.all false
set_option maxRecDepth 100000
set_option maxHeartbeats 4000000
namespace My
open PySem L2
/-! ### readings, one row each -/
section
variable {σ : L2.St} {H : Hp} {Q : VK} {i : Nat} {v x y : V} {ta tb te tc : TE} {r : R2} {D : Ends} {t u : TS} {tt tu : TT} {ts : TA} {g : TG} {K : PySem.W.Frag} {QB : Bool → Hp → Prop} {QA : List V → Hp → Prop}
theorem s_var (e : σ[i]? = some (some v)) (q : Q v H) : tVar i σ H Q := ⟨v, e, q⟩
theorem s_c (q : Q v H) : tC v σ H Q := q
theorem s_op (h : ta σ H fun x H1 => tb σ H1 fun y H2 => r x y H2 Q) : tOp r ta tb σ H Q := h
theorem s_un {r : V → Hp → VK → Prop} (h : ta σ H fun x H1 => r x H1 Q) : tUn r ta σ H Q := h
theorem s_cons (h : ta σ H fun x H1 => ts σ H1 fun xs H2 => QA (x :: xs) H2) : tCons ta ts σ H QA := h
theorem s_nil (h : QA [] H) : tNil σ H QA := h
theorem s_cb {r : List V → Hp → VK → Prop} (h : ts σ H fun vs H1 => r vs H1 Q) : tCB r ts σ H Q := h
theorem s_test (h : te σ H fun x H' => ∃ k, x = .bl k ∧ QB k H') : tTest te σ H QB := h
theorem s_B (h : te σ H fun x H' => ∃ k, x = .bl k ∧ QB k H') : tB te σ H QB := h
theorem s_not (h : tt σ H fun c H1 => QB (!c) H1) : tNot tt σ H QB := h
theorem s_and (h : tt σ H fun c H1 => if c = true then tu σ H1 QB else QB false H1) : tAnd tt tu σ H QB := h
theorem s_or (h : tt σ H fun c H1 => if c = true then QB true H1 else tu σ H1 QB) : tOr tt tu σ H QB := h
theorem s_if (h : tt σ H fun c H1 => if c = true then ta σ H1 Q else tb σ H1 Q) : tIf tt ta tb σ H Q := h
theorem s_notV (h : ta σ H fun x H1 => ∃ c, x = .bl c ∧ Q (.bl (!c)) H1) : tNotV ta σ H Q := h
theorem s_andV (h : ta σ H fun x H1 => ∃ c, x = .bl c ∧ if c = true then tb σ H1 Q else Q (.bl false) H1) : tAndV ta tb σ H Q := h
theorem s_orV (h : ta σ H fun x H1 => ∃ c, x = .bl c ∧ if c = true then Q (.bl true) H1 else tb σ H1 Q) : tOrV ta tb σ H Q := h
theorem s_isN (h : ta σ H fun x H1 => Q (.bl (decide (x = .non))) H1) : tIsN ta σ H Q := h
theorem s_notN (h : ta σ H fun x H1 => Q (.bl (!decide (x = .non))) H1) : tNotN ta σ H Q := h
theorem s_seq (h : t { D with nx := u D } σ H) : tSeq t u D σ H := h
theorem s_ifS (h : tt σ H fun b H1 => if b = true then t D σ H1 else u D σ H1) : tIfS tt t u D σ H := h
theorem s_asg (h : te σ H fun x H1 => g x σ H1 D.nx) : tAsg te g D σ H := h
theorem s_ret (h : te σ H D.rt) : tRet te D σ H := h
theorem s_drop (h : te σ H fun _ H1 => D.nx σ H1) : tDrop te D σ H := h
theorem s_next (h : D.nx σ H) : tNext D σ H := h
theorem s_break (h : D.bk σ H) : tBreak D σ H := h
theorem s_cont (h : D.ct σ H) : tCont D σ H := h
theorem s_gname {Q : L2.St → Hp → Prop} (h : Q (σ.set i (some v)) H) : gName i v σ H Q := h
theorem s_gsub {Q : L2.St → Hp → Prop} {to ti : TE} {t : TSet} (h : to σ H fun o H1 => ti σ H1 fun i H2 => t o i v H2 fun H3 => Q σ H3) : gSub to ti t v σ H Q := h
theorem s_gcons {Q : L2.St → Hp → Prop} {t : TG} {u : TGs} {vs : List V} (h : t v σ H fun σ' H' => u vs σ' H' Q) : gCons t u (v :: vs) σ H Q := ⟨v, vs, rfl, h⟩
theorem s_gnil {Q : L2.St → Hp → Prop} (h : Q σ H) : gNil [] σ H Q := ⟨rfl, h⟩
theorem s_gtup {Q : L2.St → Hp → Prop} {n : Nat} {t : TGs} {a : Addr} {xs : List V} (h1 : H a = some (.tup xs)) (h2 : xs.length = n) (h : t xs σ H Q) : gTup K n t (.ref a) σ H Q := ⟨a, xs, rfl, SqT.of h1, h2, h⟩
theorem s_I0 {g : Int → Int → V} {a b : Int} (q : Q (g a b) H) : rI0 g (.int a) (.int b) H Q := ⟨a, b, rfl, rfl, q⟩
theorem s_I {C : Int → Int → Prop} {g : Int → Int → V} {a b : Int} (hc : C a b) (q : Q (g a b) H) : rI C g (.int a) (.int b) H Q := ⟨a, b, rfl, rfl, hc, q⟩
theorem s_ixL {a : Addr} {xs : List V} {k : Int} (h : H a = some (.lst xs)) (e : atI xs k = some v) (q : Q v H) : rIxL K (.ref a) (.int k) H Q := ⟨a, xs, k, v, rfl, rfl, SqL.of h, e, q⟩
theorem s_ixT {a : Addr} {xs : List V} {k : Int} (h : H a = some (.tup xs)) (e : atI xs k = some v) (q : Q v H) : rIxT K (.ref a) (.int k) H Q := ⟨a, xs, k, v, rfl, rfl, SqT.of h, e, q⟩
theorem s_setL {a : Addr} {xs : List V} {k : Int} {j : Nat} {Q : Hp → Prop} (h : H a = some (.lst xs)) (e : ixN xs.length k = some j) (q : Q (upd H a (.lst (xs.set j v)))) : rSetL (.ref a) (.int k) v H Q := ⟨a, xs, k, j, rfl, rfl, h, e, q⟩
theorem s_tup (h : ts σ H fun xs H1 => xs.length ≤ sizeLine ∧ ∀ p, H1 p = none → Q (.ref p) (upd H1 p (.tup xs))) : tTup ts σ H Q := h
theorem s_lst (h : ts σ H fun xs H1 => xs.length ≤ sizeLine ∧ ∀ p, H1 p = none → Q (.ref p) (upd H1 p (.lst xs))) : tLst ts σ H Q := h
theorem s_call {sp : Sp} {dvs : List V} {E : XK} (h : ts σ H fun vs H1 => sp (vs ++ dvs) H1 Q E) : tCall sp dvs E ts σ H Q := h
theorem s_fld {a C dx : Addr} {fs : List (Str × V)} {f : Str} (h : ta σ H fun x H1 => ∃ a C dx fs v, x = .ref a ∧ H1 a = some (.ins C dx fs) ∧ Cls K C ∧ NoAttr K C f ∧ fs.lookup f = some v ∧ Q v H1) : tFld K ta f σ H Q := h
theorem ite_d {p : Prop} [Decidable p] {A B : Prop} (h1 : p → A) (h2 : ¬ p → B) : if decide p = true then A else B := by
  by_cases h : p
  · rw [if_pos (decide_eq_true h)]; exact h1 h
  · rw [if_neg (by simpa using h)]; exact h2 h
theorem ite_n {p : Prop} [Decidable p] {A B : Prop} (h1 : ¬ p → A) (h2 : p → B) : if (!decide p) = true then A else B := by
  by_cases h : p
  · rw [if_neg (by simpa using h)]; exact h2 h
  · rw [if_pos (by simpa using h)]; exact h1 h
end
theorem st_eq {N : List Str} {vs : List V} {σ : L2.St} {t : TS} {D : Ends} {H : Hp} (e : L2.start N vs = σ) (h : t D σ H) : t D (L2.start N vs) H := by
  rw [e]; exact h
theorem divp_wide {i j : Int} (h : 0 < j) (hb : j.natAbs.log2 < 9000) : CDivP i j := ⟨h, PyProof.noPylong_of_log2 hb⟩
/-! ### heaps -/
/-- all but r stays -/
def But (r : Addr) (H H' : Hp) : Prop := ∀ c o, H c = some o → c ≠ r → H' c = some o
theorem But.get {r c : Addr} {o : HO} {H H' : Hp} (b : But r H H') (h : H c = some o) (n : c ≠ r) : H' c = some o := b c o h n
theorem But.refl (r : Addr) (H : Hp) : But r H H := fun _ _ h _ => h
theorem But.trans {r : Addr} {H H1 H2 : Hp} (a : But r H H1) (b : But r H1 H2) : But r H H2 := fun c o h n => b c o (a c o h n) n
theorem But.new {r p : Addr} {o : HO} {H : Hp} (h : H p = none) : But r H (upd H p o) := fun c u e _ => by rw [upd_ne (ne_of_none e h)]; exact e
theorem But.at {r : Addr} {o : HO} {H : Hp} : But r H (upd H r o) := fun c u e n => by rw [upd_ne n]; exact e
theorem Same.get {c : Addr} {o : HO} {H H' : Hp} (b : Same H H') (h : H c = some o) : H' c = some o := b c o h
end My
namespace My
open PySem L2 PySem.Spec PyProof.Rows
/-! ### defs that may tell texts of containers: what is being shown already is known to be nothing -/
structure RoomG (k : Nat) (A : Around) : Prop where
  r : Room k A
  g : A.guards = some []
theorem RoomG.mono {j k : Nat} {A : Around} (q : RoomG k A) (h : j ≤ k) : RoomG j A := ⟨q.r.mono h, q.g⟩
theorem RoomG.units {k : Nat} {A : Around} (q : RoomG k A) : A.units + 64 < cLine := q.r.units
theorem RoomG.in1 {k : Nat} {A : Around} (q : RoomG (k + 1) A) : RoomG k A.in1 := ⟨q.r.in1, q.g⟩
theorem hug {A : Around} {k : Nat} (q : RoomG k A) : A.units + 1 < cLine := hu_of q.r
/-- the def at f keeps the promise sp wherever nothing is being shown -/
structure FnG (P : Program) (w : World) (K : PySem.W.Frag) (mg : Str → Option Value) (base : Heap) (CX : CXT) (k : Nat) (f : Addr) (fd : FuncData) (ps : List Str) (sp : Sp) : Prop where
  len : ∀ vs H Q E, sp vs H Q E → vs.length = ps.length
  go : ∀ (A : Around) (outer : List Env) (s : Shared) (H : Hp) (args : Args) (us : List Value) (vs : List V) (Q : VK) (E : XK), RoomG k A →
    Env0 P w K mg base A outer s H → BindsTo s fd args (ps.zip us) → Vals vs us → sp vs H Q E →
      codeAny (model P w) A (.call (.ref f) args) (CR CX outer P w H s Q E) s
section
variable {P : Program} {w : World} {K : PySem.W.Frag} {mg : Str → Option Value} {base : Heap} {CX : CXT} {k j : Nat} {f : Addr} {fd : FuncData} {ps : List Str} {sp sp' : Sp}
theorem FnG.of (F : FnOk P w K mg base CX k f fd ps sp) : FnG P w K mg base CX k f fd ps sp := ⟨F.len, fun A outer s H args us vs Q E hr => F.run A outer s H args us vs Q E hr.r⟩
theorem FnG.mono (F : FnG P w K mg base CX j f fd ps sp) (h : j ≤ k) : FnG P w K mg base CX k f fd ps sp := ⟨F.len, fun A outer s H args us vs Q E hr => F.go A outer s H args us vs Q E (hr.mono h)⟩
theorem FnG.imp (F : FnG P w K mg base CX k f fd ps sp) (h : ∀ vs H Q E, sp' vs H Q E → sp vs H Q E) : FnG P w K mg base CX k f fd ps sp' :=
  ⟨fun vs H Q E q => F.len vs H Q E (h _ _ _ _ q), fun A outer s H args us vs Q E hr a b c d => F.go A outer s H args us vs Q E hr a b c (h _ _ _ _ d)⟩
theorem fnG_body {x qual : Str} {st : Stmt} {N : List Str} {dvs0 : List V} {kws0 : List (Str × V)} (F : FunD K x qual (defArgs st) (defBody st) (defScope st) dvs0 kws0 f fd) (S : FnScope N ps (defScope st)) (len : ∀ vs H Q E, sp vs H Q E → vs.length = ps.length)
    (hb : ∀ (cdv : Value) (A : Around) (outer : List Env) (s : Shared) (H : Hp) (vs : List V) (Q : VK) (E : XK), RoomG k (A.deeper (envOfC qual (defScope st) s.heap.objs.size f cdv)) → sp vs H Q E →
      ∃ t, PSs (cxOf CX P w K mg base N qual (defScope st) f cdv A outer s H E) (defBody st) t ∧ t { nx := fun _ H' => Q .non H', rt := Q } (start N vs) H) :
    FnG P w K mg base CX (k + 1) f fd ps sp := by
  obtain ⟨oc, od, dV, kV, doc, pm, an, cdv, ct, osl, rfl, lk, hcd, _, _⟩ := F.ex
  constructor
  · exact len
  · intro A outer s H args us vs Q E hr e0 hbi r hsp
    have keeps0 : ∀ b o, base.get? b = some o → s.heap.get? b = some o := fun b o e => (e0.bs b o e).1
    have inK : K.In s.heap := e0.mod.kin.keeps keeps0
    refine codeAny_call_function hr.r.depth (inK _ _ lk) rfl S.co S.gen rfl (PySem.W.codeRec_of inK hcd) (hbi _ _ _ _ ?_)
    refine wpAny_newFunctionEnv_cells S.kind ?_ fun env he s1 x => ?_
    · intro ⟨n, v⟩ hy
      cases S.par n (List.of_mem_zip hy).1 with
      | inl q => exact Or.inl q
      | inr q => exact Or.inr ⟨q, PySem.W.cellsFrom_some _ _ _ (Or.inl q)⟩
    · subst he
      refine ⟨(e0.mod.nolimit.keeps keeps0).keeps x.toInCall.keep, codeAny_func ?_⟩
      obtain ⟨t, ht, hq⟩ := hb cdv A outer s H vs Q E ⟨hr.r.deeper _, hr.g⟩ hsp
      have I0 := inv_start (CX := CX) (P := P) (E := E) S hr.r.hd e0 (len _ _ _ _ hsp) r x
      refine wpAny_mono (ht.run [] s1 (start N vs) H _ I0 hq) ?_ (fun _ _ z => z)
      intro fl s' hs
      cases fl with
      | ret u => obtain ⟨v, σ', H', J, rv, q⟩ := hs; exact ⟨v, H', J.os, J.bare, J.base, J.hok, rv, q⟩
      | next => obtain ⟨σ', H', J, q⟩ := hs; exact ⟨V.non, H', J.os, J.bare, J.base, J.hok, rfl, q⟩
      | brk => exact hs.elim fun _ z => z.elim fun _ y => y.2.elim
      | cont => exact hs.elim fun _ z => z.elim fun _ y => y.2.elim
end
/-! ### bundles: a def, a class, a method, a property, by its name -/
structure Dn (P : Program) (w : World) (K : PySem.W.Frag) (mg : Str → Option Value) (base : Heap) (x : Str) (k : Nat) (ps : List Str) (dvs : List V) (sp : Sp) : Prop where
  ex : ∃ (f : Addr) (fd : FuncData) (ds : List Value), FnG P w K mg base CX0 k f fd ps sp ∧ mg x = some (.ref f) ∧ PySem.W.keepIn K (.ref f) = true ∧ Binds K fd ps ds ∧ Vals dvs ds
structure Mkn (P : Program) (w : World) (K : PySem.W.Frag) (mg : Str → Option Value) (base : Heap) (x : Str) (C : Addr) (k : Nat) (ps : List Str) (dvs : List V) (sp : Sp) : Prop where
  ex : ∃ (f : Addr) (fd : FuncData) (ds : List Value), Mk K C f ∧ FnG P w K mg base CX0 k f fd ps sp ∧ mg x = some (.ref C) ∧ Binds K fd ps ds ∧ Vals dvs ds
structure Mtn (P : Program) (w : World) (K : PySem.W.Frag) (mg : Str → Option Value) (base : Heap) (C : Addr) (m : Str) (k : Nat) (ps : List Str) (dvs : List V) (sp : Sp) : Prop where
  ex : ∃ (f : Addr) (fd : FuncData) (ds : List Value), Cls K C ∧ Meth K C m f ∧ FnG P w K mg base CX0 k f fd ps sp ∧ Binds K fd ps ds ∧ Vals dvs ds
structure Prn (P : Program) (w : World) (K : PySem.W.Frag) (mg : Str → Option Value) (base : Heap) (C : Addr) (m : Str) (k : Nat) (ps : List Str) (dvs : List V) (sp : Sp) : Prop where
  ex : ∃ (p g : Addr) (fd : FuncData) (ds : List Value), Cls K C ∧ PropOf K C m p g ∧ FnG P w K mg base CX0 k g fd ps sp ∧ Binds K fd ps ds ∧ Vals dvs ds
section
variable {X : Cx} {j k : Nat} {f C : Addr} {fd : FuncData} {ps : List Str} {sp : Sp} {dvs : List V} {ds : List Value} {x m : Str} {p pos apos : Pos} {e o : Expr} {es : List Expr} {ta : TE} {t : TA}
theorem goG {pins : List (Addr × Obj)} {σ : L2.St} {H : Hp} {s : Shared} {Q : VK} {us : List Value} {vs : List V} (F : FnG X.prog X.w X.K X.mg X.base CX0 k f fd ps sp) (hr : RoomG k X.A) (hb : Binds X.K fd ps ds) (hd : Vals dvs ds)
    (I : Inv X pins σ H s) (r : Vals vs us) (h : sp (vs ++ dvs) H Q E0) : wpAny (model X.prog X.w) X.A (call (.ref f) us) (EP X pins σ Q) X.xe s := by
  have r2 := r.append hd
  have hl : (us ++ ds).length = ps.length := r2.length.symm.trans (F.len _ _ _ _ h)
  refine wpAny_call (codeAny_mono (F.go X.A X.stack s H ⟨us, []⟩ (us ++ ds) _ Q E0 hr I.env0 (hb s us I.kIn hl) r2 h) ?_)
  intro r s' hq
  cases r with
  | error e => exact (show False from hq).elim
  | ok fl => cases fl with
    | ret u => exact I.after hq
    | next => exact (show False from hq).elim
    | brk => exact (show False from hq).elim
    | cont => exact (show False from hq).elim
theorem pe_callD (D : Dn X.prog X.w X.K X.mg X.base x k ps dvs sp) (hr : RoomG k X.A) (hg : Gl X x) (ha : PA X (e :: es) t) (hdb : (x == ("__debug__" : Str)) = false := by decide)
    (h1 : starEach (e :: es) X.env = (false, eval e X.env) :: starEach es X.env := by rfl) (h2 : (backTo pos (starEach es X.env)).any (·.1) = false := by rfl) : PE X (.Call (.Name x p) (e :: es) [] pos) (tCall sp dvs E0 t) := by
  obtain ⟨f, fd, ds, F, hm, hk, hb, hd⟩ := D.ex
  constructor
  intro pins s σ H Q I h
  exact wpAny_Call_Name_kw (ld_glob I hg hm (PySem.W.callWith_K (h₀ := X.base) I.ok.mod.kin hk (thn (ha.run pos pins s σ H _ I h) fun us s1 ⟨vs, H1, I1, r, q⟩ => ⟨I1.kIn, goG F hr hb hd I1 r q⟩) h1 h2) hdb)
theorem pe_call0D (D : Dn X.prog X.w X.K X.mg X.base x k ps dvs sp) (hr : RoomG k X.A) (hg : Gl X x) (hdb : (x == ("__debug__" : Str)) = false := by decide) : PE X (.Call (.Name x p) [] [] pos) (tCall sp dvs E0 tNil) := by
  obtain ⟨f, fd, ds, F, hm, hk, hb, hd⟩ := D.ex
  constructor
  intro pins s σ H Q I h
  exact wpAny_Call_Name_kw (ld_glob I hg hm (PySem.W.callWith_K0 I.kIn hk (goG (us := []) F hr hb hd I .nil h)) hdb)
theorem goMake {pins : List (Addr × Obj)} {σ : L2.St} {H : Hp} {s : Shared} {Q : VK} {us : List Value} {vs : List V} (M : Mk X.K C f) (F : FnG X.prog X.w X.K X.mg X.base CX0 k f fd ps sp) (hr : RoomG (k + 1) X.A) (hb : Binds X.K fd ps ds) (hd : Vals dvs ds)
    (I : Inv X pins σ H s) (r : Vals vs us) (h : ∀ x dx, H x = none → H dx = none → dx ≠ x → sp (.ref x :: (vs ++ dvs)) (upd (upd H dx (.own x)) x (.ins C dx [])) (fun v H2 => v = .non ∧ Q (.ref x) H2) E0) :
    wpAny (model X.prog X.w) X.A (call (.ref C) us) (EP X pins σ Q) X.xe s := by
  have nx : H (s.heap.objs.size + 1) = none := I.hok.fresh (Nat.le_succ _)
  have nd : H s.heap.objs.size = none := I.hok.fresh (Nat.le_refl _)
  have hq := h _ _ nx nd (Nat.ne_of_lt (Nat.lt_succ_self _))
  have J := Inv.made (C := C) I
  have r2 : Vals (V.ref (s.heap.objs.size + 1) :: (vs ++ dvs)) (Value.ref (s.heap.objs.size + 1) :: us ++ ds) := .cons rfl (r.append hd)
  have hl : (Value.ref (s.heap.objs.size + 1) :: us ++ ds).length = ps.length := r2.length.symm.trans (F.len _ _ _ _ hq)
  have hr2 : RoomG k (X.A.under (.builtin "type.__call__" ⟨.ref C :: us, []⟩)) := ⟨hr.r.make C us [], hr.g⟩
  refine wpAny_call (make_map (f := f) I.kIn M.makes M.init (beq_iff_eq.mp M.fn) (codeAny_mono
    (F.go _ X.stack _ _ ⟨Value.ref (s.heap.objs.size + 1) :: us, []⟩ _ _ _ E0 hr2 (J.env0.make C us []) (hb _ (Value.ref (s.heap.objs.size + 1) :: us) J.kIn hl) r2 hq) ?_))
  intro r s' hq'
  cases r with
  | error e => exact (show False from hq').elim
  | ok fl => cases fl with
    | ret u =>
      obtain ⟨v, H', I3, rv, ev, q3⟩ := J.after hq'
      subst ev
      exact ⟨rv, V.ref (s.heap.objs.size + 1), H', I3, rfl, q3⟩
    | next => exact (show False from hq').elim
    | brk => exact (show False from hq').elim
    | cont => exact (show False from hq').elim
theorem pe_makeD (D : Mkn X.prog X.w X.K X.mg X.base x C k ps dvs sp) (hr : RoomG (k + 1) X.A) (hg : Gl X x) (ha : PA X (e :: es) t) (hdb : (x == ("__debug__" : Str)) = false := by decide)
    (h1 : starEach (e :: es) X.env = (false, eval e X.env) :: starEach es X.env := by rfl) (h2 : (backTo pos (starEach es X.env)).any (·.1) = false := by rfl) : PE X (.Call (.Name x p) (e :: es) [] pos) (tMake C sp dvs E0 t) := by
  obtain ⟨f, fd, ds, M, F, hm, hb, hd⟩ := D.ex
  constructor
  intro pins s σ H Q I h
  exact wpAny_Call_Name_kw (ld_glob I hg hm (PySem.W.callWith_K (h₀ := X.base) I.ok.mod.kin M.kp (thn (ha.run pos pins s σ H _ I h) fun us s1 ⟨vs, H1, I1, r, q⟩ => ⟨I1.kIn, goMake M F hr hb hd I1 r q⟩) h1 h2) hdb)
theorem pe_make0D (D : Mkn X.prog X.w X.K X.mg X.base x C k ps dvs sp) (hr : RoomG (k + 1) X.A) (hg : Gl X x) (hdb : (x == ("__debug__" : Str)) = false := by decide) : PE X (.Call (.Name x p) [] [] pos) (tMake C sp dvs E0 tNil) := by
  obtain ⟨f, fd, ds, M, F, hm, hb, hd⟩ := D.ex
  constructor
  intro pins s σ H Q I h
  exact wpAny_Call_Name_kw (ld_glob I hg hm (PySem.W.callWith_K0 I.kIn M.kp (goMake (us := []) M F hr hb hd I .nil h)) hdb)
theorem pe_methD {pl : Sem Bool} (D : Mtn X.prog X.w X.K X.mg X.base C m k ps dvs sp) (he : PE X o ta) (hr : RoomG k X.A) (ha : PA X (e :: es) t)
    (h1 : starEach (e :: es) X.env = (false, eval e X.env) :: starEach es X.env := by rfl) (h2 : (backTo pos (starEach es X.env)).any (·.1) = false := by rfl)
    (h3 : eval (.Call (.Attribute o m apos) (e :: es) [] pos) X.env = (do
      let v ← eval o X.env
      standAt apos.atName
      let (g, fst) ← holding [v] (getMethod v m pl)
      callWith pos g fst (backTo pos (starEach (e :: es) X.env)) (backToKw pos (keywordEach [] X.env))) := by rfl) : PE X (.Call (.Attribute o m apos) (e :: es) [] pos) (tMeth C m sp dvs E0 ta t) := by
  obtain ⟨f, fd, ds, c, hm, F, hb, hd⟩ := D.ex
  constructor
  intro pins s σ H Q I h
  refine PySem.W.methodCall_KW (pl := pl) (thn (he.run pins s σ H _ I h) ?_) h3
  rintro u s1 ⟨x, H1, I1, rx, a, dx, fs, rfl, ea, l, q⟩
  obtain rfl : u = Value.ref a := rx
  exact getmeth_ok I1 ea c hm l (PySem.W.callWith_K (first := [.ref a]) I1.kIn hm.kp (thn (ha.run pos pins s1 σ H1 _ I1 q) fun us s2 ⟨vs, H2, I2, r, q2⟩ => ⟨I2.kIn, goG (vs := .ref a :: vs) F hr hb hd I2 (.cons rfl r) q2⟩) h1 h2)
theorem pe_meth0D {pl : Sem Bool} (D : Mtn X.prog X.w X.K X.mg X.base C m k ps dvs sp) (he : PE X o ta) (hr : RoomG k X.A)
    (h3 : eval (.Call (.Attribute o m apos) [] [] pos) X.env = (do
      let v ← eval o X.env
      standAt apos.atName
      let (g, fst) ← holding [v] (getMethod v m pl)
      callWith pos g fst (backTo pos (starEach [] X.env)) (backToKw pos (keywordEach [] X.env))) := by rfl) : PE X (.Call (.Attribute o m apos) [] [] pos) (tMeth C m sp dvs E0 ta tNil) := by
  obtain ⟨f, fd, ds, c, hm, F, hb, hd⟩ := D.ex
  constructor
  intro pins s σ H Q I h
  refine PySem.W.methodCall_KW (pl := pl) (thn (he.run pins s σ H _ I h) ?_) h3
  rintro u s1 ⟨x, H1, I1, rx, a, dx, fs, rfl, ea, l, q⟩
  obtain rfl : u = Value.ref a := rx
  exact getmeth_ok I1 ea c hm l (PySem.W.callWith_K0 (first := [.ref a]) I1.kIn hm.kp (goG (us := [.ref a]) (vs := [.ref a]) F hr hb hd I1 (.cons rfl .nil) q))
theorem pe_propD (D : Prn X.prog X.w X.K X.mg X.base C m k ps dvs sp) (he : PE X e ta) (hr : RoomG (k + 1) X.A) (hab : attributeBase e m X.env (eval e X.env) = eval e X.env) : PE X (.Attribute e m pos) (tProp C sp dvs E0 ta) := by
  obtain ⟨p, g, fd, ds, c, hp, F, hb, hd⟩ := D.ex
  constructor
  intro pins s σ H Q I h
  refine attr_of hab (thn (he.run pins s σ H _ I h) ?_)
  rintro u s1 ⟨x, H1, I1, rx, a, dx, fs, rfl, ea, q⟩
  obtain rfl : u = Value.ref a := rx
  obtain ⟨mA, O, _, _, _, _⟩ := ins_get I1.hok ea
  obtain ⟨od, J, _⟩ := O.look
  obtain ⟨rest, hrec⟩ := hp.rec_
  have I2 := I1.tok (s1.toks + 1)
  have hl : ([Value.ref a] ++ ds).length = ps.length := by
    have z := F.len _ _ _ _ q
    have y := hd.length
    simp only [List.length_cons, List.length_append, List.length_nil] at z ⊢
    omega
  have hc : (PySem.W.clsIn X.K C).isSome = true := by
    obtain ⟨cd, hc, _⟩ := PySem.W.any_some c.hd
    simp [hc]
  have pg := PySem.W.plainGet_of (c.get m)
  refine PySem.W.get_bind I1.kIn J pg.1 (PySem.W.findObj_data hc hp.at_ hp.get hp.tak) pg.2 (wpAny_call (PySem.W.prop_get (s := { s1 with toks := s1.toks + 1 }) I1.kIn hrec ?_))
  refine codeAny_mono (F.go X.A.in1 X.stack { s1 with toks := s1.toks + 1 } H1 ⟨[.ref a], []⟩ (.ref a :: ds) (.ref a :: dvs) Q E0 hr.in1 I2.env0.in1 (hb _ [.ref a] I2.kIn hl) (.cons rfl hd) q) ?_
  intro r s' hq
  cases r with
  | error er => exact (show False from hq).elim
  | ok fl => cases fl with
    | ret u =>
      obtain ⟨v, H', I3, rv, q3⟩ := I2.after hq
      show wpAny _ _ (handedOut u) _ _ _
      rw [PySem.W.handedOut_of (handed_of rv)]
      exact wpAny_pure ⟨v, H', I3, rv, q3⟩
    | next => exact (show False from hq).elim
    | brk => exact (show False from hq).elim
    | cont => exact (show False from hq).elim
/-- repr of data -/
theorem call_reprD (hr : RoomG k X.A) : CallR X (.builtin "repr") (fun xs H Q => ∃ y d, xs = [y] ∧ Dp X.K H y d ∧ SeqAt.shaped d = true ∧ d.showable = true ∧ d.hasDict = false ∧ d.shown.length ≤ sizeLine ∧ Q (.str d.shown) H) := by
  intro pins s σ H xs us Q I r h
  obtain ⟨y, d, rfl, hd, hs, hw, hn, hz, q⟩ := h
  obtain ⟨u, rfl, ru⟩ := vals1 r
  obtain ⟨as, rd⟩ := Dp.reads I d y u hd ru
  have hA : X.A.units + (d.depth + 1) < cLine := by
    have := SeqAt.depth_of_shaped hs
    have := hr.r.un
    omega
  have fin : ∀ {t : Tok} {s' : Shared}, Inv X pins σ H s' → EP X pins σ Q (.str d.shown t) s' := fun J => ⟨.str d.shown, H, J, ⟨_, rfl⟩, q⟩
  cases rd with
  | none => exact PySem.P.repr_of_none (fin (I.tok _))
  | bool b => exact PySem.P.repr_of_bool (fin (I.tok _))
  | int i t => exact PySem.P.repr_of_int (of_decide_eq_true hw) (fin (I.tok _))
  | str z t => exact PySem.P.repr_of_str (fin (I.tok _)) hz
  | list h1 h2 h3 h4 => exact PySem.repr_of_reads' (.list h1 h2 h3 h4) hw (PyData.noDict_hsm hn) hr.g hA (fun _ _ e => e) (fun h' t tk hk => fin (I.kept hk)) hz
  | tuple h1 h2 h3 h4 => exact PySem.repr_of_reads' (.tuple h1 h2 h3 h4) hw (PyData.noDict_hsm hn) hr.g hA (fun _ _ e => e) (fun h' t tk hk => fin (I.kept hk)) hz
  | dict h1 h2 h3 h4 h5 => simp [PyData.hasDict] at hn
end
end My
namespace My
open PySem L2 PySem.Spec PyProof.Rows PySem.W
section
variable {P : Program} {w : World} {K : Frag} {mg mb : Str → Option Value} {k : Nat} {fa a : Addr} {fd : FuncData} {x : Str} {sp : Sp} {s : Shared} {vs : List Value} {ns : List Int}
abbrev lawEnd (s : Shared) : Result → Shared → Prop := fun r s' => r = .ok (.ret (.bool true)) ∧ OldK s.heap s'.heap ∧ s'.os = s.os ∧ AllBare s'.gens
theorem lawG_from {H : Hp} (KX : K.In s.heap) (hns : s.heap.Ns mainGlobals mg) (hb : s.heap.Ns builtinsNs mb) (hbb : ∀ y : Str, y ≠ "__name__" → mb y = bootBuiltins y) (hlim : s.heap.NoLimit) (hg : s.gens = #[])
    (ha : s.heap.get? a = some { cls := .type "list", data := .seq vs.toArray }) (hr : RoomG k callerA)
    (F : ∀ base : Heap, K.In base → base.Ns mainGlobals mg → FnG P w K mg base CX0 k fa fd [x] sp) (bnd : ∀ (s : Shared) (u : Value), BindsTo s fd ⟨[u], []⟩ [(x, u)])
    (hsp : sp [.ref a] H (fun v _ => v = .bl true) E0) (only : Only H) (ok : HOk P w H s.heap) (atA : ∀ b, H b ≠ none → b = a) (nK : H a ≠ none → K.lookup a = none) :
    codeAny (model P w) callerA (.call (.ref fa) ⟨[.ref a], []⟩) (lawEnd s) s := by
  have free : ∀ {b : Addr}, b ≠ a → H b = none := fun {b} n => Classical.byContradiction fun z => n (atA b z)
  have nsB : ∀ {b : Addr} {m : Str → Option Value}, s.heap.Ns b m → (hidT s.heap H).Ns b m := by
    rintro b m ⟨o, es, ep, e, d, r⟩
    refine ⟨o, es, ep, hidT_get e (free ?_), d, r⟩
    rintro rfl
    rw [ha] at e
    cases e
    cases (show Data.seq vs.toArray _ = Data.dict es ep from d)
  have inB : K.In (hidT s.heap H) := by
    intro b o e
    refine hidT_get (KX b o e) (Classical.byContradiction fun z => ?_)
    have := nK (atA b z ▸ z)
    rw [atA b z, this] at e
    cases e
  obtain ⟨mc, l1, l2⟩ := hlim
  have md : Mod K mg (hidT s.heap H) := ⟨inB, nsB hns, ⟨mb, nsB hb, hbb⟩, mc, nsB l1, l2⟩
  have env : Env0 P w K mg (hidT s.heap H) callerA [] s H :=
    ⟨rfl, md, fun b o e => of_hidT e, Nat.le_of_eq (hidT_size _ _), trivial, fun b z => (List.not_mem_nil (show b ∈ ([] : List Addr) from z)).elim, ok, .of_eq hg⟩
  refine codeAny_mono ((F _ inB (nsB hns)).go callerA [] s H ⟨[.ref a], []⟩ [.ref a] [.ref a] _ _ hr env (bnd s (.ref a)) (.cons rfl .nil) hsp) ?_
  rintro (e | fl) s' h
  · exact (show False from h).elim
  · cases fl with
    | ret u =>
      obtain ⟨v, H', os, bare, un, ok', rv, (rfl : v = .bl true)⟩ := h
      obtain rfl : u = Value.bool true := rv
      refine ⟨rfl, OldK.of_keep ?_, os, bare⟩
      intro b o e
      cases q : H b with
      | none => exact un.keep b o e q (fun z => (List.not_mem_nil (show b ∈ ([] : List Addr) from z)).elim) (by simp)
      | some u =>
        rcases only b with z | ⟨ob, xs, z⟩
        · exact absurd (q.symm.trans z) (by simp)
        · have y1 := (ok b _ z).1
          have y2 := (ok' b _ (un.frzs b ob _ z)).1
          rw [e] at y1
          cases y1
          exact y2
    | next => exact (show False from h).elim
    | brk => exact (show False from h).elim
    | cont => exact (show False from h).elim
theorem lawG (KX : K.In s.heap) (hns : s.heap.Ns mainGlobals mg) (hb : s.heap.Ns builtinsNs mb) (hbb : ∀ y : Str, y ≠ "__name__" → mb y = bootBuiltins y) (hlim : s.heap.NoLimit) (hg : s.gens = #[])
    (ha : s.heap.get? a = some { cls := .type "list", data := .seq vs.toArray }) (hi : IntsAre vs ns) (hl : ns.length ≤ sizeLine) (hr : RoomG k callerA)
    (F : ∀ base : Heap, K.In base → base.Ns mainGlobals mg → FnG P w K mg base CX0 k fa fd [x] sp) (bnd : ∀ (s : Shared) (u : Value), BindsTo s fd ⟨[u], []⟩ [(x, u)])
    (hsp : ∀ H : Hp, Only H → SqL K H a (ns.map V.int) → sp [.ref a] H (fun v _ => v = .bl true) E0) :
    codeAny (model P w) callerA (.call (.ref fa) ⟨[.ref a], []⟩) (lawEnd s) s := by
  have rv := vals_ints hi
  cases hk : K.lookup a with
  | some o =>
    have e := (ha.symm.trans (KX a o hk))
    cases e
    have hS : SqL K (fun _ => none) a (ns.map V.int) := Or.inr ⟨_, vs.toArray, _, hk, rfl, rfl, rfl, by rw [List.size_toArray, hi.length]; exact hl, by simpa using rv⟩
    exact lawG_from (H := fun _ => none) KX hns hb hbb hlim hg ha hr F bnd (hsp _ (fun _ => Or.inl rfl) hS) (fun _ => Or.inl rfl) (fun b u z => nomatch z) (fun b z => (z rfl).elim) fun z => (z rfl).elim
  | none =>
    let H1 : Hp := upd (fun _ => none) a (.frz { cls := .type "list", data := .seq vs.toArray } (.lst (ns.map V.int)))
    have same : H1 a = some (.frz { cls := .type "list", data := .seq vs.toArray } (.lst (ns.map V.int))) := upd_same
    have els : ∀ b, b ≠ a → H1 b = none := fun b n => upd_ne n
    have on : Only H1 := fun b => (Classical.em (b = a)).elim (fun e => Or.inr ⟨_, _, e ▸ same⟩) fun n => Or.inl (els b n)
    refine lawG_from (H := H1) KX hns hb hbb hlim hg ha hr F bnd (hsp H1 on (Or.inl (Or.inr ⟨_, same⟩))) on ?_ (fun b z => Classical.byContradiction fun n => z (els b n)) fun _ => hk
    intro b u z
    rcases Classical.em (b = a) with e | n
    · subst e
      rw [same] at z
      cases z
      exact ⟨ha, by rw [List.length_map]; exact hl, vs, _, rv, ha⟩
    · rw [els b n] at z
      cases z
end
theorem walkG {l : OpenLaw} {n k : Nat} {q : Program} {loose : List Str} {XP : (Str → Option Value) → Heap → Prop} {YP : World → Heap → Prop} {d : DefRec} {K : Params → Frag} {sp : World → Sp} {x : Str}
    (hn : l.most = some n) (hn2 : n ≤ sizeLine) (hdf : d.params.defaults = []) (hr : RoomG k callerA) (hY : ∀ (w : World) (h : Heap), YP w h → (K w.params).In h)
    (F : ∀ (w : World) (mg : Str → Option Value) (fa : Addr) (h : Heap), (K w.params).In h → h.Ns mainGlobals mg → mg d.name = some (.ref fa) →
      ∃ fd : FuncData, (∀ (s : Shared) (u : Value), BindsTo s fd ⟨[u], []⟩ [(x, u)]) ∧ ∀ base : Heap, (K w.params).In base → base.Ns mainGlobals mg → FnG l.prog w (K w.params) mg base CX0 k fa fd [x] (sp w))
    (hsp : ∀ (w : World) (H : Hp) (a : Addr) (ns : List Int), ns.length ≤ n → Only H → SqL (K w.params) H a (ns.map V.int) → sp w [.ref a] H (fun v _ => v = .bl true) E0) :
    WalkO q loose XP YP l.row.toRowW d [] (fun f vs => PySem.call f vs) := by
  refine Att.attach_call hn hdf ?_
  intro w s₀ s₁ mg mb fa o pm cd doc a vs ns G Y ho hd hcd hmg hobj hints hlen hg
  obtain ⟨fd, hb, hF⟩ := F w mg fa _ (hY w _ Y) G.T.g hmg
  exact lawG (hY w _ Y) G.T.g G.T.b G.T.builtins G.T.nolimit hg hobj hints (Nat.le_trans hlen hn2) hr hF hb fun H h1 h2 => hsp w H a ns hlen h1 h2
end My

namespace My
open PySem L2 PySem.Spec PyProof.Rows
section
variable {σ : L2.St} {H : Hp} {Q : VK} {ta tb : TE} {K : PySem.W.Frag} {i : Int}
/-- slot i holds v -/
inductive GetAt : Nat → L2.St → V → Prop
  | zero {v : V} {l : L2.St} : GetAt 0 (some v :: l) v
  | succ {i : Nat} {v : V} {x : Option V} {l : L2.St} (h : GetAt i l v) : GetAt (i + 1) (x :: l) v
inductive SetAt : Nat → V → L2.St → L2.St → Prop
  | zero {v : V} {x : Option V} {l : L2.St} : SetAt 0 v (x :: l) (some v :: l)
  | succ {i : Nat} {v : V} {x : Option V} {l m : L2.St} (h : SetAt i v l m) : SetAt (i + 1) v (x :: l) (x :: m)
theorem GetAt.get {i : Nat} {σ : L2.St} {v : V} (h : GetAt i σ v) : σ[i]? = some (some v) := by
  induction h with
  | zero => rfl
  | succ _ ih => simpa using ih
theorem SetAt.set {i : Nat} {σ τ : L2.St} {v : V} (h : SetAt i v σ τ) : σ.set i (some v) = τ := by
  induction h with
  | zero => rfl
  | succ _ ih => simpa using ih
theorem s_varG {i : Nat} {v : V} (g : GetAt i σ v) (q : Q v H) : tVar i σ H Q := ⟨v, g.get, q⟩
theorem s_gnameG {i : Nat} {v : V} {τ : L2.St} {Q : L2.St → Hp → Prop} (g : SetAt i v σ τ) (q : Q τ H) : gName i v σ H Q := by
  show Q (σ.set i (some v)) H
  rw [g.set]
  exact q
theorem s_gnameE {i : Nat} {v : V} {τ : L2.St} {Q : L2.St → Hp → Prop} (e : σ.set i (some v) = τ) (q : Q τ H) : gName i v σ H Q := by
  show Q (σ.set i (some v)) H
  rw [e]
  exact q
theorem s_2setE {D : Ends} {i j : Nat} {t : TS} {x y : V} {τ : L2.St} (e : (σ.set i (some x)).set j (some y) = τ) (h : t D τ H) : t D ((σ.set i (some x)).set j (some y)) H := by
  rw [e]
  exact h
theorem s_orT (h : ta σ H fun x H1 => ∃ k, TruV K x H1 k ∧ if k = true then Q x H1 else tb σ H1 Q) : tOrT K ta tb σ H Q := h
theorem s_andT (h : ta σ H fun x H1 => ∃ k, TruV K x H1 k ∧ if k = true then tb σ H1 Q else Q x H1) : tAndT K ta tb σ H Q := h
theorem s_chain {r r' : R2} {tc : TE} (h : ta σ H fun x H1 => tb σ H1 fun y H2 => r x y H2 fun z H3 => ∃ k, z = .bl k ∧
  (if k = true then tc σ H3 fun w' H4 => r' y w' H4 Q else Q (.bl false) H3)) : tChain r r' ta tb tc σ H Q := h
theorem s_isi_int (q : Q (.bl true) H) : rIsi K [.int i, .ty "int"] H Q := ⟨_, _, _, _, true, rfl, .ty _, .base (.int i), kit_ty (by decide +kernel), q⟩
theorem s_isi_int_bool (q : Q (.bl false) H) : rIsi K [.int i, .ty "bool"] H Q := ⟨_, _, _, _, false, rfl, .ty _, .base (.int i), kit_ty (by decide +kernel), q⟩
theorem s_isi_own {a C : Addr} (t : TyOf K H (.ref a) (.ref C)) (q : Q (.bl true) H) : rIsi K [.ref a, .ref C] H Q := ⟨_, _, _, _, true, rfl, .own C, .base t, by simp [PySem.W.kitOne], q⟩
theorem s_prop {C : Addr} {sp : Sp} {dvs : List V} {E : XK} (h : ta σ H fun x H1 => ∃ a dx fs, x = .ref a ∧ H1 a = some (.ins C dx fs) ∧ sp (.ref a :: dvs) H1 Q E) : tProp C sp dvs E ta σ H Q := h
theorem s_sfld {D : Ends} {f : Str} (h : tb σ H fun y H1 => ta σ H1 fun x H2 => ∃ a C dx fs, x = .ref a ∧ H2 a = some (.ins C dx fs) ∧ Cls K C ∧ NoAttr K C f ∧ fs.length < 1000 ∧ D.nx σ (upd H2 a (.ins C dx (putF f y fs)))) : sFld K ta tb f D σ H := h
theorem s_fput {a C dx : Addr} {fs : List (Str × V)} {f : Str} {y : V} {Q : Hp → Prop} (e : H a = some (.ins C dx fs)) (c : Cls K C) (n : NoAttr K C f) (l : fs.length < 1000) (q : Q (upd H a (.ins C dx (putF f y fs)))) :
    ∃ a' C dx fs, V.ref a = .ref a' ∧ H a' = some (.ins C dx fs) ∧ Cls K C ∧ NoAttr K C f ∧ fs.length < 1000 ∧ Q (upd H a' (.ins C dx (putF f y fs))) := ⟨a, C, dx, fs, rfl, e, c, n, l, q⟩
theorem s_fget {a C dx : Addr} {fs : List (Str × V)} {f : Str} {v : V} (e : H a = some (.ins C dx fs)) (c : Cls K C) (n : NoAttr K C f) (l : fs.lookup f = some v) (q : Q v H) :
    ∃ a' C dx fs v, V.ref a = .ref a' ∧ H a' = some (.ins C dx fs) ∧ Cls K C ∧ NoAttr K C f ∧ fs.lookup f = some v ∧ Q v H := ⟨a, C, dx, fs, v, rfl, e, c, n, l, q⟩
theorem few0 {m : Nat} : ([] : List (Str × V)).length < m + 1 := Nat.succ_pos _
theorem few_put {m : Nat} {fs : List (Str × V)} {f : Str} {v : V} (h : fs.length < m) : (putF f v fs).length < m + 1 := by
  have e : ∀ fs : List (Str × V), (putF f v fs).length ≤ fs.length + 1 := by
    intro fs
    induction fs with
    | nil => exact Nat.le_refl _
    | cons x r ih =>
      obtain ⟨g, x⟩ := x
      unfold putF
      split
      · exact Nat.le_succ _
      · exact Nat.succ_le_succ ih
  exact Nat.lt_of_le_of_lt (e fs) (Nat.succ_lt_succ h)
theorem putF_nil {f : Str} {v : V} : putF f v [] = [(f, v)] := rfl
theorem putF_ne {f g : Str} {v x : V} {r : List (Str × V)} (h : g ≠ f) : putF f v ((g, x) :: r) = (g, x) :: putF f v r := if_neg h
theorem s_eqI {i j : Int} (q : Q (.bl (decide (i = j))) H) : rEq (.int i) (.int j) H Q := by
  refine ⟨rfl, ?_⟩
  rw [show decide (V.int i = V.int j) = decide (i = j) from by (rw [Bool.eq_iff_iff]; simp)]
  exact q
theorem s_neI {i j : Int} (q : Q (.bl (!decide (i = j))) H) : rNe (.int i) (.int j) H Q := by
  refine ⟨rfl, ?_⟩
  rw [show decide (V.int i = V.int j) = decide (i = j) from by (rw [Bool.eq_iff_iff]; simp)]
  exact q
theorem s_eqS {i j : Str} (q : Q (.bl (decide (i = j))) H) : rEq (.str i) (.str j) H Q := by
  refine ⟨rfl, ?_⟩
  rw [show decide (V.str i = V.str j) = decide (i = j) from by (rw [Bool.eq_iff_iff]; simp)]
  exact q
theorem s_neSr {i : Str} (q : Q (.bl false) H) : rNe (.str i) (.str i) H Q := by
  refine ⟨rfl, ?_⟩
  rw [decide_eq_true rfl]
  exact q
theorem s_neS {i j : Str} (q : Q (.bl (!decide (i = j))) H) : rNe (.str i) (.str j) H Q := by
  refine ⟨rfl, ?_⟩
  rw [show decide (V.str i = V.str j) = decide (i = j) from by (rw [Bool.eq_iff_iff]; simp)]
  exact q
theorem s_bm {T : String} {r : V → List V → Hp → VK → Prop} {t : TA} (h : ta σ H fun x H1 => tyV K T x H1 ∧ t σ H1 fun xs H2 => r x xs H2 Q) : tBM K T r ta t σ H Q := h
theorem s_bm0 {T : String} {r : V → List V → Hp → VK → Prop} (h : ta σ H fun x H1 => tyV K T x H1 ∧ r x [] H1 Q) : tBM0 K T r ta σ H Q := h
theorem s_tyL {a : Addr} {xs : List V} {P : Prop} (h : H a = some (.lst xs)) (q : P) : tyV K "list" (.ref a) H ∧ P := ⟨.inl ⟨rfl, xs, SqL.of h⟩, q⟩
theorem s_append {l : Addr} {xs : List V} {y : V} (h : H l = some (.lst xs)) (hz : xs.length < sizeLine) (q : Q .non (upd H l (.lst (xs ++ [y])))) : rAppend (.ref l) [y] H Q := ⟨l, xs, y, rfl, rfl, h, hz, q⟩
theorem s_extend {l b : Addr} {xs zs : List V} (h : H l = some (.lst xs)) (hb : H b = some (.lst zs)) (hz : xs.length + zs.length ≤ sizeLine) (q : Q .non (upd H l (.lst (xs ++ zs)))) : rExtend (.ref l) [.ref b] H Q := ⟨l, b, xs, zs, rfl, rfl, h, hb, hz, q⟩
theorem lt_size {n : Nat} (h : Nat.blt n sizeLine = true) : n < sizeLine := Nat.le_of_ble_eq_true h
theorem s_make {C : Addr} {sp : Sp} {dvs : List V} {E : XK} {t : TA} (h : t σ H fun vs H1 => ∀ x dx, H1 x = none → H1 dx = none → dx ≠ x → sp (.ref x :: (vs ++ dvs)) (upd (upd H1 dx (.own x)) x (.ins C dx [])) (fun v H2 => v = .non ∧ Q (.ref x) H2) E) : tMake C sp dvs E t σ H Q := h
theorem s_meth {C : Addr} {m : Str} {sp : Sp} {dvs : List V} {E : XK} {t : TA} (h : ta σ H fun x H1 => ∃ a dx fs, x = .ref a ∧ H1 a = some (.ins C dx fs) ∧ fs.lookup m = none ∧ t σ H1 fun vs H2 => sp (x :: (vs ++ dvs)) H2 Q E) : tMeth C m sp dvs E ta t σ H Q := h
theorem s_for {wi : TI} {g : TG} {tb : TS} {D0 : Ends}
    (h : ∀ D : Ends, D = D0 → wi σ H fun J H1 => ∃ W : Nat → Nat → L2.St → Hp → Prop, (∃ m, W 0 m σ H1) ∧ ∀ i m σ H, W i m σ H →
      (J.stop i H ∧ D.nx σ H) ∨ (J.go i H ∧ ∃ N : L2.St → Hp → Prop, (∀ σ' H', N σ' H' → ∃ m', m' < m ∧ W (i + 1) m' σ' H') ∧
        ∀ x H', J.yld i H x H' → g x σ H' fun σ2 H2 => tb { D with nx := N, ct := N, bk := D.nx } σ2 H2)) : tFor wi g tb D0 σ H := h D0 rfl
theorem s_lc {wi : TI} {g : TG} {tt : TT} {te : TE} {vs : List Nat}
    (h : wi σ H fun J H1 => ∀ D, H1 D = none → ∃ W : Nat → Nat → Hp → Prop, (∃ m, W 0 m (upd H1 D (.lst []))) ∧ ∀ i m H, W i m H →
      (J.stop i H ∧ Q (.ref D) H) ∨ (J.go i H ∧ ∃ Nx : Hp → Prop, (∀ H', Nx H' → ∃ m', m' < m ∧ W (i + 1) m' H') ∧
        ∀ x H', J.yld i H x H' → g x (wipe σ vs) H' fun σ2 H2 => wipe σ2 vs = wipe σ vs ∧ tt σ2 H2 fun b H3 =>
          if b = true then te σ2 H3 fun y H4 => ∃ acc, H4 D = some (.lst acc) ∧ acc.length < sizeLine ∧ Nx (upd H4 D (.lst (acc ++ [y]))) else Nx H3)) : tLc wi g tt te vs σ H Q := h
theorem s_iList {R : L2.It → Hp → Prop} (h : ta σ H fun x H1 => ∃ a, x = .ref a ∧ (∃ xs, SqL K H1 a xs) ∧ R (Itl K a) H1) : iList K ta σ H R := h
theorem s_iTup {R : L2.It → Hp → Prop} (h : ta σ H fun x H1 => ∃ a, x = .ref a ∧ (∃ xs, SqT K H1 a xs) ∧ R (Itt K a) H1) : iTup K ta σ H R := h
theorem s_iRng1 {R : L2.It → Hp → Prop} {t : TA} (h : t σ H fun vs H1 => ∃ j : Int, vs = [.int j] ∧ -(2 ^ 62) ≤ j ∧ j < 2 ^ 62 ∧ R (Itr 0 j.toNat) H1) : iRng1 t σ H R := h
theorem s_iRng2 {R : L2.It → Hp → Prop} {t : TA} (h : t σ H fun vs H1 => ∃ i j : Int, vs = [.int i, .int j] ∧ (-(2 ^ 62) ≤ i ∧ i < 2 ^ 62 ∧ -(2 ^ 62) ≤ j ∧ j < 2 ^ 62) ∧ R (Itr i (j - i).toNat) H1) : iRng2 t σ H R := h
theorem s_par {D : Ends} {i j : Nat} {t : TA} (h : t σ H fun vs H1 => ∃ v w, vs = [v, w] ∧ D.nx ((σ.set i (some v)).set j (some w)) H1) : tPar i j t D σ H := h
theorem s_2set {D : Ends} {i j : Nat} {t : TS} {x y : V} {τ υ : L2.St} (g : SetAt i x σ τ) (g2 : SetAt j y τ υ) (h : t D υ H) : t D ((σ.set i (some x)).set j (some y)) H := by
  rw [g.set, g2.set]
  exact h
theorem s_yes {QB : Bool → Hp → Prop} (h : QB true H) : tYes σ H QB := h
theorem s_fldE {f : Str} (h : ta σ H fun x H1 => ∃ a C dx fs v, x = .ref a ∧ H1 a = some (.ins C dx fs) ∧ Cls K C ∧ NoAttr K C f ∧ fs.lookup f = some v ∧ Q v H1) : tFld K ta f σ H Q := h
theorem s_isi_str {x : Str} (q : Q (.bl true) H) : rIsi K [.str x, .ty "str"] H Q := ⟨_, _, _, _, true, rfl, .ty _, .base (.str x), kit_ty (by decide +kernel), q⟩
theorem s_truInt {i : Int} {P : Bool → Prop} (q : P (i != 0)) : ∃ k, TruV K (.int i) H k ∧ P k := ⟨_, rfl, q⟩
theorem s_neB {i j : Bool} (q : Q (.bl (i != j)) H) : rNe (.bl i) (.bl j) H Q := by
  refine ⟨rfl, ?_⟩
  rw [show (!decide (V.bl i = V.bl j)) = (i != j) from by cases i <;> cases j <;> rfl]
  exact q
theorem s_eqB {i j : Bool} (q : Q (.bl (i == j)) H) : rEq (.bl i) (.bl j) H Q := by
  refine ⟨rfl, ?_⟩
  rw [show decide (V.bl i = V.bl j) = (i == j) from by cases i <;> cases j <;> rfl]
  exact q
theorem inV_ints (x : Int) (ns : List Int) : inV (.int x) (ns.map V.int) = decide (x ∈ ns) := by
  unfold inV
  rw [List.any_map, Bool.eq_iff_iff, List.any_eq_true, decide_eq_true_eq]
  constructor
  · rintro ⟨y, hy, e⟩
    have e2 : y = x := by simpa [eqV] using e
    exact e2 ▸ hy
  · intro h
    exact ⟨x, h, by simp [eqV]⟩
theorem flat_ints (ns : List Int) : (ns.map V.int).all flatV = true := by
  rw [List.all_map, List.all_eq_true]
  intro x _
  rfl
theorem le_size {n : Nat} (h : Nat.ble n sizeLine = true) : n ≤ sizeLine := Nat.le_of_ble_eq_true h
theorem ite_NN {A B : Prop} (h : A) : if decide (V.non = V.non) = true then A else B := by rw [if_pos (decide_eq_true rfl)]; exact h
theorem ite_IN {A B : Prop} {i : Int} (h : B) : if decide (V.int i = V.non) = true then A else B := by rw [if_neg (by simp)]; exact h
theorem ite_nNN {A B : Prop} (h : B) : if (!decide (V.non = V.non)) = true then A else B := by rw [if_neg (by simp)]; exact h
theorem ite_nIN {A B : Prop} {i : Int} (h : A) : if (!decide (V.int i = V.non)) = true then A else B := by rw [if_pos (by simp)]; exact h
/-- the test's answer c is known: what follows need not be read twice -/
theorem s_cut {tt : TT} {QB : Bool → Hp → Prop} (c : Bool) (h1 : QB c H) (h2 : ∀ QB' : Bool → Hp → Prop, QB' c H → tt σ H QB') : tt σ H QB := h2 QB h1
theorem qb_eq {QB : Bool → Hp → Prop} {c d : Bool} (h : QB c H) (e : c = true ↔ d = true) : QB d H := by
  rw [← (Bool.eq_iff_iff.mpr e)]
  exact h
theorem ite_RN {A B : Prop} {a : Addr} (h : B) : if decide (V.ref a = V.non) = true then A else B := by rw [if_neg (by simp)]; exact h
theorem ite_nRN {A B : Prop} {a : Addr} (h : A) : if (!decide (V.ref a = V.non)) = true then A else B := by rw [if_pos (by simp)]; exact h
theorem iteNT {A B : Prop} (h : B) : if (!true) = true then A else B := by simpa using h
theorem iteNF {A B : Prop} (h : A) : if (!false) = true then A else B := by simpa using h
theorem ite_b {b : Bool} {A B : Prop} (h1 : b = true → A) (h2 : b = false → B) : if b = true then A else B := by
  cases b
  · exact iteF (h2 rfl)
  · exact iteT (h1 rfl)
theorem ite_nb {b : Bool} {A B : Prop} (h1 : b = false → A) (h2 : b = true → B) : if (!b) = true then A else B := by
  cases b
  · exact iteNF (h1 rfl)
  · exact iteNT (h2 rfl)
end
section
variable {P : Program} {w : World} {K : PySem.W.Frag} {mg : Str → Option Value} {base : Heap} {x qual : Str} {params : Arguments} {body : List Stmt} {scope : Scope} {dvs : List V} {C : Addr} {k : Nat} {ps : List Str} {sp : Sp}
theorem dnN (e : ∃ (f : Addr) (fd : FuncData), FunD K x qual params body scope [] [] f fd ∧ mg x = some (.ref f)) (ok : ∀ {f : Addr} {fd : FuncData}, FunD K x qual params body scope [] [] f fd → FnG P w K mg base CX0 k f fd ps sp)
    (h : ∀ (kV doc pm : Value) (an : Option Addr) (cdv ct : Value) (us : List Value), us.length = ps.length → bindArgs (PySem.W.fnOf x qual params body scope .none kV doc pm an cdv ct) ⟨us, []⟩ = pure (ps.zip us)) : Dn P w K mg base x k ps [] sp := by
  obtain ⟨f, fd, F, hm⟩ := e
  exact ⟨f, fd, [], ok F, hm, F.kp, F.bindsN h, .nil⟩
theorem prN {q : Str} (e : ∃ (p f : Addr) (fd : FuncData), PropOf K C q p f ∧ FunD K x qual params body scope [] [] f fd) (c : Cls K C) (ok : ∀ {f : Addr} {fd : FuncData}, FunD K x qual params body scope [] [] f fd → FnG P w K mg base CX0 k f fd ps sp)
    (h : ∀ (kV doc pm : Value) (an : Option Addr) (cdv ct : Value) (us : List Value), us.length = ps.length → bindArgs (PySem.W.fnOf x qual params body scope .none kV doc pm an cdv ct) ⟨us, []⟩ = pure (ps.zip us)) : Prn P w K mg base C q k ps [] sp := by
  obtain ⟨p, f, fd, hp, F⟩ := e
  exact ⟨p, f, fd, [], c, hp, ok F, F.bindsN h, .nil⟩
theorem mtN {q : Str} (e : ∃ (f : Addr) (fd : FuncData), Meth K C q f ∧ FunD K x qual params body scope [] [] f fd) (c : Cls K C) (ok : ∀ {f : Addr} {fd : FuncData}, FunD K x qual params body scope [] [] f fd → FnG P w K mg base CX0 k f fd ps sp)
    (h : ∀ (kV doc pm : Value) (an : Option Addr) (cdv ct : Value) (us : List Value), us.length = ps.length → bindArgs (PySem.W.fnOf x qual params body scope .none kV doc pm an cdv ct) ⟨us, []⟩ = pure (ps.zip us)) : Mtn P w K mg base C q k ps [] sp := by
  obtain ⟨f, fd, hp, F⟩ := e
  exact ⟨f, fd, [], c, hp, ok F, F.bindsN h, .nil⟩
theorem mkN {y : Str} (e : ∃ (f : Addr) (fd : FuncData), Mk K C f ∧ FunD K x qual params body scope [] [] f fd) (m : mg y = some (.ref C)) (ok : ∀ {f : Addr} {fd : FuncData}, FunD K x qual params body scope [] [] f fd → FnG P w K mg base CX0 k f fd ps sp)
    (h : ∀ (kV doc pm : Value) (an : Option Addr) (cdv ct : Value) (us : List Value), us.length = ps.length → bindArgs (PySem.W.fnOf x qual params body scope .none kV doc pm an cdv ct) ⟨us, []⟩ = pure (ps.zip us)) : Mkn P w K mg base y C k ps [] sp := by
  obtain ⟨f, fd, hp, F⟩ := e
  exact ⟨f, fd, [], hp, ok F, m, F.bindsN h, .nil⟩
theorem mkD {y : Str} (n j : Nat) (e : ∃ (f : Addr) (fd : FuncData), Mk K C f ∧ FunD K x qual params body scope dvs [] f fd) (m : mg y = some (.ref C)) (ok : ∀ {f : Addr} {fd : FuncData}, FunD K x qual params body scope dvs [] f fd → FnG P w K mg base CX0 k f fd ps sp) (hd : dvs ≠ []) (hn : n + (dvs.length - j) = ps.length)
    (h : ∀ (T : Addr) (kV doc pm : Value) (an : Option Addr) (cdv ct : Value) (us its : List Value), us.length = n → its.length = dvs.length →
      ∃ k, bindArgs (PySem.W.fnOf x qual params body scope (.ref T) kV doc pm an cdv ct) ⟨us, []⟩ = seqItems? (.ref T) >>= k ∧ k (some its.toArray) = pure (ps.zip (us ++ its.drop j))) : Mkn P w K mg base y C k ps (dvs.drop j) sp := by
  obtain ⟨f, fd, hp, F⟩ := e
  obtain ⟨ds, hv, hb⟩ := F.binds1 n j hd hn h
  exact ⟨f, fd, ds, hp, ok F, m, hb, hv⟩
end
abbrev optV : Option Int → V
  | none => .non
  | some i => .int i
/-- a comprehension within a comprehension -/
def reS (scope sc : Scope) : Scope := { scope with names := scope.names.map fun p => if (p.2 == NameKind.free && sc.kind == ScopeKind.function && sc.names.lookup p.1 == some NameKind.cell) = true then (p.1, NameKind.cell) else p }
theorem reS_eq (scope : Scope) (env : Env) : PySem.relabel scope env = reS scope env.scope := by
  unfold PySem.relabel reS
  congr 1
theorem blkOk_nest {X : Cx} {s : Shared} {H : Hp} {scope0 scope : Scope} {cl : List (Str × Addr)} {C : Addr} {env : Env} {fp : List Addr} {own : List (Str × Nat)} (N : List Str) (sc : Scope) (e : X.N = N) (e2 : env.scope = sc) (h : blkC N (reS scope0 sc) scope own = true) :
    BlkOk (X.blk s H scope0 (compEnvC scope0 cl C env) fp).N (X.blk s H scope0 (compEnvC scope0 cl C env) fp).env.scope scope own := by
  have z := blkOk_by h
  subst e e2
  rw [← reS_eq] at z
  exact z
/-! ### rules within a comprehension: the written part by its own name -/
section
variable {X : Cx} {K : PySem.W.Frag} {l e : Expr} {tl ta : TE} {tg : Expr} {f : Str} {pos : Pos}
def rLen (K : PySem.W.Frag) : List V → Hp → VK → Prop := fun xs H Q => ∃ p ys, xs = [.ref p] ∧ (SqL K H p ys ∨ SqT K H p ys) ∧ Q (.int ys.length) H
theorem ix_listK (h : X.K = K) : IxR X (rIxL K) := h ▸ ix_list
theorem ix_tupK (h : X.K = K) : IxR X (rIxT K) := h ▸ ix_tup
theorem call_len_seqK (h : X.K = K) : CallR X (.builtin "len") (rLen K) := by
  subst h
  exact call_len_seq
theorem pi_listK (h : X.K = K) (hl : PE X l tl) : PI X tg l (iList K tl) := h ▸ pi_list hl
theorem pi_tupK (h : X.K = K) (hl : PE X l tl) : PI X tg l (iTup K tl) := h ▸ pi_tup hl
theorem cr_allK (h : X.K = K) (hc : X.calm = true) : CallR X (.builtin "all") (rAll K) := h ▸ cr_all hc
theorem cr_anyK (h : X.K = K) (hc : X.calm = true) : CallR X (.builtin "any") (rAny K) := h ▸ cr_any hc
theorem cr_sumK (h : X.K = K) (hc : X.calm = true) : CallR X (.builtin "sum") (rSum K) := h ▸ cr_sum hc
theorem cr_maxK (h : X.K = K) (hc : X.calm = true) : CallR X (.builtin "max") (rMax K) := h ▸ cr_max hc
theorem cr_minK (h : X.K = K) (hc : X.calm = true) : CallR X (.builtin "min") (rMin K) := h ▸ cr_min hc
theorem op_in_seqK (h : X.K = K) : OpR X (compareOp .In) (rIn K false) := h ▸ op_in_seq
theorem op_notIn_seqK (h : X.K = K) : OpR X (compareOp .NotIn) (rIn K true) := h ▸ op_notIn_seq
theorem op_eqDK (h : X.K = K) (hu : X.A.units + 64 < cLine) : OpR X (compareOp .Eq) (rEqD K) := h ▸ op_eqD hu
theorem op_neDK (h : X.K = K) (hu : X.A.units + 64 < cLine) : OpR X (compareOp .NotEq) (rNeD K) := h ▸ op_neD hu
theorem pe_fldK (h : X.K = K) (he : PE X e ta) (hb : attributeBase e f X.env (eval e X.env) = eval e X.env) : PE X (.Attribute e f pos) (tFld K ta f) := h ▸ pe_fld he hb
end
theorem s_len {K : PySem.W.Frag} {a : Addr} {xs : List V} {H : Hp} {Q : VK} (h : SqL K H a xs) (q : Q (.int xs.length) H) : rLen K [.ref a] H Q := ⟨a, xs, rfl, .inl h, q⟩
/-! ### bounds of ints -/
theorem Same.new {p : Addr} {o : HO} {H : Hp} (h : H p = none) : Same H (upd H p o) := fun c u e => by rw [upd_ne (ne_of_none e h)]; exact e
theorem Same.rfl' (H : Hp) : Same H H := fun _ _ e => e
theorem Same.tr {A B C : Hp} (x : Same A B) (y : Same B C) : Same A C := fun c u e => y c u (x c u e)
theorem Same.at_ {p : Addr} {o : HO} {H H1 : Hp} (h : H p = none) (s : Same H H1) : Same H (upd H1 p o) := fun c u e => by rw [upd_ne (ne_of_none e h)]; exact s c u e
theorem Same.but {r : Addr} {H H' : Hp} (s : Same H H') : But r H H' := fun c o h _ => s c o h
def Sm (k : Nat) (x : Int) : Prop := x.natAbs < 2 ^ k
instance {k : Nat} {x : Int} : Decidable (Sm k x) := inferInstanceAs (Decidable (_ < _))
theorem Sm.mono {j k : Nat} {x : Int} (h : Sm j x) (l : j ≤ k) : Sm k x := Nat.lt_of_lt_of_le h (Nat.pow_le_pow_right (by decide) l)
theorem Sm.mul {j k : Nat} {x y : Int} (h : Sm j x) (g : Sm k y) : Sm (j + k) (x * y) := by
  unfold Sm at *
  rw [Int.natAbs_mul, Nat.pow_add]
  exact Nat.mul_lt_mul'' h g
theorem Sm.add {k : Nat} {x y : Int} (h : Sm k x) (g : Sm k y) : Sm (k + 1) (x + y) := by
  unfold Sm at *
  rw [Nat.pow_succ]
  omega
theorem Sm.le {k : Nat} {x y : Int} (h0 : 0 ≤ x) (h : x ≤ y) (g : Sm k y) : Sm k x := by
  unfold Sm at *
  omega
theorem Sm.cmul {j k : Nat} {x y : Int} (h : Sm j x) (g : Sm k y) (h0 : 0 < j := by decide) (h1 : 0 < k := by decide) (l : j + k ≤ 1000000 := by decide) : CMulW x y := wide_mul h g h0 h1 l
theorem But.same {x : Addr} {H H1 H' : Hp} (b : But x H1 H') (s : Same H H1) (n : H x = none) : Same H H' := fun c o h => b c o (s c o h) (ne_of_none h n)
theorem lg {k : Nat} {x : Int} (h : Sm k x) (h0 : 0 < k := by decide) (hk : k ≤ 9000 := by decide) : x.natAbs.log2 < 9000 := Nat.lt_of_lt_of_le (PySem.Flt.log2_lt_of h0 h) hk
theorem sm62 {x : Int} (h0 : 0 ≤ x) (h : x < 4611686018427387904) : Sm 62 x := by
  show x.natAbs < 4611686018427387904
  omega
theorem cmul_small {i j : Int} (h0 : 0 ≤ i) (h1 : i < 2147483648) (g0 : 0 ≤ j) (g1 : j < 2147483648) : CMulW i j := wide_mul (a := 31) (b := 31) (by omega) (by omega) (by decide) (by decide) (by decide)
theorem atI_ints {ns : List Int} {k : Int} (h0 : 0 ≤ k) (h : k < (ns.map V.int).length) : ∃ c, atI (ns.map V.int) k = some (.int c) := by
  obtain ⟨j, rfl⟩ : ∃ j : Nat, k = j := ⟨k.toNat, by omega⟩
  rw [List.length_map] at h
  have hj : j < ns.length := by omega
  exact ⟨ns[j], atI_nat (by rw [List.getElem?_map, List.getElem?_eq_getElem hj]; rfl)⟩
theorem Sm.log {k : Nat} {x : Int} (h : Sm k x) (h0 : 0 < k := by decide) : x.natAbs.log2 < k := PySem.Flt.log2_lt_of h0 h
end My

namespace My
open PySem L2 PySem.Spec PyProof.Rows Sem
/-! ### set(xs), xs a list of ints -/
abbrev setO0 (w : World) : Obj := { cls := .type "set", dict := none, data := .set #[] 0 (.fresh 0 0 (!w.params.followText "set-order")) }
section
variable {P : Program} {w : World} {A : Around} {E : Value → Shared → Prop} {s : Shared}
theorem set_ints {l : Addr} {its : Array Value} (ks : List Int) {Q : Value → Shared → Prop} (calm : A.handled = none) (isl : s.heap.IsList l its) (are : IntsAre its.toList ks) (few : ks.length + 1 < scanBound)
    (fin : ∀ (hp : Heap) (tk c : Nat), SetR w hp s.heap.objs.size (fun j => decide (j ∈ ks)) c → c ≤ ks.length → (∀ b o, s.heap.get? b = some o → hp.get? b = some o) → Q (.ref s.heap.objs.size) { s with heap := hp, toks := tk }) :
    wpAny (model P w) A (call (.type "set") [.ref l]) Q E s := by
  have size_eq : its.size = ks.length := by simpa using IntsAre.length are
  have z1 := F.called_set.mro
  have z2 := F.called_set.made
  have z3 := F.called_set.sub
  have z4 := F.called_set.notType
  have z5 := F.called_set.canCreate
  have z6 := F.typeCall_set_1 (.ref l)
  obtain ⟨c0, tl0, mro0⟩ := z1
  apply wpAny_call; apply codeAny_of_tree
  show wpAny _ _ (callAny (Value.type "set") _) _ _ _
  apply wpAny_pure; refine ⟨Code.quiet_builtin _ (by decide +kernel), ?_⟩; apply codeAny_builtin F.entry_type_call
  rw [Around.under_plain (weight_type_call_type "set" [Value.ref l] []) (by rfl)]
  repeat (any_goals (first | assumption | wp_step))
  apply codeAny_mono (code_set_led1 (.ref l) (E := E) (Q₁ := fun v t => v = .ref s.heap.objs.size ∧ t = { s with heap := s.heap.push (setO0 w) }) ⟨rfl, rfl⟩)
  rintro (er | fl) t hq
  · exact hq
  cases fl with
  | ret v =>
    obtain ⟨rfl, rfl⟩ := hq
    have atS : (s.heap.push (setO0 w)).get? s.heap.objs.size = some (setO0 w) := Heap.get?_push_size _ rfl
    have ty : Shared.TypeIs { s with heap := s.heap.push (setO0 w) } (.ref s.heap.objs.size) "set" := ⟨_, atS, rfl⟩
    have i1 := F.called_set.init.lookup
    have i2 := F.called_set.init.bind (.ref s.heap.objs.size)
    repeat (any_goals (first | assumption | wp_step))
    refine codeAny_mono (codeAny_call_builtin (R := wants (fun v t => v = .none ∧ ∃ hp tk c, t = { s with heap := hp, toks := tk } ∧ SetR w hp s.heap.objs.size (fun j => decide (j ∈ ks)) c ∧ c ≤ ks.length ∧
      ∀ b o, s.heap.get? b = some o → hp.get? b = some o) E) F.called_set.init.plain F.entry_set_init (check_set_init_1 ty ?_)) ?_
    · obtain ⟨o1, at1, cls1, n1, dat1⟩ := isl
      obtain ⟨oc, od, odat, osl⟩ := o1
      simp only at cls1 dat1
      subst cls1 dat1
      have at2 : (s.heap.push (setO0 w)).get? l = some { cls := .type "list", dict := od, data := .seq its n1, slots := osl } := Heap.get?_push_of_some _ at1
      have u1 := F.sub_list_set
      have u2 := F.sub_list_frozenset
      have u3 : (Value.type "list" == Value.type "dict") = false := by decide
      have isl2 : (s.heap.push (setO0 w)).IsList l its := ⟨_, at2, rfl, n1, rfl⟩
      unfold Builtin.«set.__init__» noKeywords Builtin.Frozenset.updateFrom
      generalize gPI : pyIter = PI
      wp_walk
      subst gPI
      apply wpAny_pyIter_list isl2
      apply wpAny_bind; apply wpAny_runValue
      have lS : l < s.heap.objs.size := Heap.lt_size at1
      have calm3 : A.in1.in1.in1.handled = none := by simp [calm]
      have lI : l ≠ (s.heap.push (setO0 w)).objs.size := Heap.size_push .. ▸ Nat.ne_of_lt (Nat.lt_succ_of_lt lS)
      have Sf : s.heap.objs.size ∉ [(s.heap.push (setO0 w)).objs.size, l] := by
        rw [Heap.size_push, List.mem_cons, List.mem_singleton]
        rintro (z | z)
        · exact absurd z (Nat.ne_of_lt (Nat.lt_succ_self _))
        · exact absurd z.symm (Nat.ne_of_lt lS)
      have vals : ∀ (i : Nat) (v : Value), its[i]? = some v → ∃ k t, ks[i]? = some k ∧ v = .int k t := fun i v hv => by
        have lt : i < ks.length := size_eq ▸ (Array.getElem?_eq_some_iff.mp hv).1
        obtain ⟨t, e⟩ := IntsAre.int_at are i v (by simpa using hv)
        exact ⟨ks[i], t, List.getElem?_eq_getElem lt, by rw [e, List.getD_eq_getElem?_getD, List.getElem?_eq_getElem lt]; rfl⟩
      refine set_update_ints ((Walks.list calm3 _ l lI its).toS) s.heap.objs.size Sf ks size_eq few vals (its.size - 0) 0 _ (by omega) (Nat.zero_le _) ⟨⟨_, Heap.get?_push_size _ rfl, rfl, rfl⟩, isl2.push _⟩ ⟨0, Nat.le_refl 0, setR_new_at (Heap.get?_push_of_some _ atS)⟩ ?_
      intro t c moved le R
      obtain ⟨hp, gs, dr, tk, os⟩ := t
      have e1 : gs = s.gens := moved.gens
      have e2 : dr = s.drawn := moved.drawn
      have e3 : os = s.os := moved.os
      subst e1 e2 e3
      show wpAny _ _ _ _ _ _
      apply wpAny_pure
      show wpAny _ _ (ret Value.none) _ _ _
      refine wpAny_pure ⟨rfl, hp, tk, c, rfl, R, size_eq ▸ le, fun b o e => ?_⟩
      have b0 : b < s.heap.objs.size := Heap.lt_size e
      refine moved.heap b o ?_ (Heap.get?_push_of_some _ (Heap.get?_push_of_some _ e))
      rw [Heap.size_push]
      simp only [List.mem_cons, List.mem_singleton, List.not_mem_nil, or_false, not_or]
      exact ⟨Nat.ne_of_lt b0, Nat.ne_of_lt (Nat.lt_succ_of_lt b0)⟩
    · rintro (er | fl) t hq
      · exact hq
      cases fl with
      | ret v =>
        obtain ⟨rfl, hp, tk, c, rfl, R, le, keep⟩ := hq
        repeat (any_goals (first | assumption | wp_step))
        exact fin _ _ _ R le keep
      | _ => exact hq.elim
  | _ => exact hq.elim
end
section
variable {X : Cx}
/-- set(xs) of a list of ints: a new set -/
def rSetOfI (K : PySem.W.Frag) (w : World) : List V → Hp → VK → Prop := fun xs H Q => ∃ (l : Addr) (ns : List Int), xs = [.ref l] ∧ SqL K H l (ns.map V.int) ∧ ns.length + 1 < scanBound ∧
  ∀ (p : Addr) (ks : List Int), H p = none → ks.Nodup → (∀ k, k ∈ ks ↔ k ∈ ns) → Q (.ref p) (upd H p (SetO w p (fun j => decide (j ∈ ns)) ks.length))
theorem cr_setOfI (hc : X.calm = true) : CallR X (.type "set") (rSetOfI X.K X.w) := by
  intro pins s σ H xs us Q I r h
  obtain ⟨l, ns, rfl, hl, few, q⟩ := h
  rw [Vals.ref1 r]
  obtain ⟨its, rv, pl, _⟩ := I.list hl
  have fresh : H s.heap.objs.size = none := I.hok.fresh (Nat.le_refl _)
  refine set_ints (P := X.prog) (w := X.w) ns (I.ok.hd hc) pl.isList (by simpa using intsAre_of rv) few fun hp tk c R le keep => ?_
  refine ⟨.ref s.heap.objs.size, upd H s.heap.objs.size (SetO X.w s.heap.objs.size (fun j => decide (j ∈ ns)) c), I.laid (t' := tk) keep (Nat.le_refl _) (setO_new R), rfl, ?_⟩
  obtain ⟨o, es, ep, t, _, _, _, _, nd, hm, _, _, ln, _⟩ := id R
  have e : (es.toList.map keyOf).length = c := by rw [List.length_map, Array.length_toList, ln]
  rw [← e]
  exact q _ _ fresh nd fun k => ((hm k).symm).trans decide_eq_true_iff
end
/-- different numbers below n: at most n -/
theorem nd_len : ∀ (n : Nat) (ks : List Int), ks.Nodup → (∀ k ∈ ks, 0 ≤ k ∧ k < (n : Int)) → ks.length ≤ n
  | 0, ks, _, h => by
    cases ks with
    | nil => exact Nat.le_refl _
    | cons k ks =>
      have := h k (List.mem_cons_self ..)
      omega
  | n + 1, ks, nd, h => by
    by_cases hm : (n : Int) ∈ ks
    · have ih := nd_len n (ks.erase (n : Int)) (nd.erase _) fun k hk => by
        rw [nd.mem_erase_iff] at hk
        have := h k hk.2
        have := hk.1
        omega
      rw [List.length_erase_of_mem hm] at ih
      omega
    · have ih := nd_len n ks nd fun k hk => by
        have := h k hk
        have hne : k ≠ n := fun e => hm (e ▸ hk)
        omega
      omega
end My

namespace My
open PySem L2 PySem.Spec PyProof.Rows Sem
section
variable {X : Cx} {j k : Nat} {f C : Addr} {fd : FuncData} {ps : List Str} {sp : Sp} {dvs : List V} {ds : List Value} {m : Str} {pins : List (Addr × Obj)} {σ : L2.St} {H : Hp} {s : Shared}
/-- a def's call, seen from inside a builtin's run -/
theorem goIn {A : Around} {Q : VK} {us : List Value} {vs : List V} (F : FnG X.prog X.w X.K X.mg X.base CX0 k f fd ps sp) (hr : RoomG k A) (e0 : Env0 X.prog X.w X.K X.mg X.base A X.stack s H) (hb : Binds X.K fd ps ds) (hd : Vals dvs ds)
    (I : Inv X pins σ H s) (r : Vals vs us) (h : sp (vs ++ dvs) H Q E0) : wpAny (model X.prog X.w) A (call (.ref f) us) (EP X pins σ Q) X.xe s := by
  have r2 := r.append hd
  have hl : (us ++ ds).length = ps.length := r2.length.symm.trans (F.len _ _ _ _ h)
  refine wpAny_call (codeAny_mono (F.go A X.stack s H ⟨us, []⟩ (us ++ ds) _ Q E0 hr e0 (hb s us I.kIn hl) r2 h) ?_)
  intro r s' hq
  cases r with
  | error e => exact (show False from hq).elim
  | ok fl => cases fl with
    | ret u => exact I.after hq
    | next => exact (show False from hq).elim
    | brk => exact (show False from hq).elim
    | cont => exact (show False from hq).elim
/-- an object of the class, as the heap has it -/
theorem insAt {a dx : Addr} {fs : List (Str × V)} (I : Inv X pins σ H s) (e : H a = some (.ins C dx fs)) : ∃ ox od, PySem.W.InstAt s.heap a ox C od := by
  obtain ⟨mA, O, _⟩ := ins_get I.hok e
  obtain ⟨od, J, _⟩ := O.look
  exact ⟨_, _, J⟩
/-! ### x in o, o its own __contains__ -/
def rInO (C : Addr) (sp : Sp) (dvs : List V) (g : Bool → Bool) : R2 := fun x y H Q => ∃ a dx fs, y = .ref a ∧ H a = some (.ins C dx fs) ∧ sp (.ref a :: x :: dvs) H (fun v H' => ∃ b, v = .bl b ∧ Q (.bl (g b)) H') E0
theorem or_inO (D : Mtn X.prog X.w X.K X.mg X.base C "__contains__" k ps dvs sp) (hr : RoomG k X.A) : OpR X (compareOp .In) (rInO C sp dvs id) := by
  obtain ⟨f, fd, ds, c, hm, F, hb, hd⟩ := D.ex
  intro pins s σ H x y v u Q I rx ry h
  obtain ⟨a, dx, fs, rfl, ea, q⟩ := h
  obtain rfl : u = Value.ref a := ry
  obtain ⟨ox, od, J⟩ := insAt I ea
  obtain ⟨mf, fr⟩ := I.fr
  refine PySem.W.in_K fr I.mod.kin J hm.at_ hm.fn (wpAny_mono (goIn (us := [.ref a, v]) (vs := [.ref a, x]) F hr I.env0 hb hd I (.cons rfl (.cons rx .nil)) q) (fun w s1 hw => ?_) fun _ _ z => z)
  obtain ⟨t, H1, I1, rt, b, rfl, q1⟩ := hw
  obtain rfl : w = Value.bool b := rt
  exact wpAny_truthy_bool ⟨.bl b, H1, I1, rfl, q1⟩
theorem or_notInO (D : Mtn X.prog X.w X.K X.mg X.base C "__contains__" k ps dvs sp) (hr : RoomG k X.A) : OpR X (compareOp .NotIn) (rInO C sp dvs (!·)) := by
  obtain ⟨f, fd, ds, c, hm, F, hb, hd⟩ := D.ex
  intro pins s σ H x y v u Q I rx ry h
  obtain ⟨a, dx, fs, rfl, ea, q⟩ := h
  obtain rfl : u = Value.ref a := ry
  obtain ⟨ox, od, J⟩ := insAt I ea
  obtain ⟨mf, fr⟩ := I.fr
  refine PySem.W.notIn_K fr I.mod.kin J hm.at_ hm.fn (wpAny_mono (goIn (us := [.ref a, v]) (vs := [.ref a, x]) F hr I.env0 hb hd I (.cons rfl (.cons rx .nil)) q) (fun w s1 hw => ?_) fun _ _ z => z)
  obtain ⟨t, H1, I1, rt, b, rfl, q1⟩ := hw
  obtain rfl : w = Value.bool b := rt
  exact wpAny_truthy_bool ⟨.bl (!b), H1, I1, rfl, q1⟩
/-! ### len(o), repr(o) -/
theorem call_lenO (D : Mtn X.prog X.w X.K X.mg X.base C "__len__" k ps dvs sp) (hr : RoomG (k + 1) X.A) :
    CallR X (.builtin "len") (fun xs H Q => ∃ a dx fs, xs = [.ref a] ∧ H a = some (.ins C dx fs) ∧ sp (.ref a :: dvs) H (fun v H' => ∃ n : Int, v = .int n ∧ 0 ≤ n ∧ n < 2 ^ 63 ∧ Q (.int n) H') E0) := by
  obtain ⟨f, fd, ds, c, hm, F, hb, hd⟩ := D.ex
  intro pins s σ H xs us Q I r h
  obtain ⟨a, dx, fs, rfl, ea, q⟩ := h
  rw [Vals.ref1 r]
  obtain ⟨ox, od, J⟩ := insAt I ea
  obtain ⟨mf, fr⟩ := I.fr
  refine PySem.W.len_K fr I.mod.kin J hm.at_ hm.fn (wpAny_mono (goIn (us := [.ref a]) (vs := [.ref a]) F hr.in1 I.env0.in1 hb hd I (.cons rfl .nil) q) (fun w s1 hw => ?_) fun _ _ z => z)
  obtain ⟨t, H1, I1, rt, n, rfl, n0, n1, q1⟩ := hw
  obtain ⟨tk, rfl⟩ := (show ∃ t, w = Value.int n t from rt)
  exact ⟨⟨n0, n1⟩, .int n, H1, I1.tok _, ⟨_, rfl⟩, q1⟩
theorem call_reprO (D : Mtn X.prog X.w X.K X.mg X.base C "__repr__" k ps dvs sp) (hr : RoomG (k + 1) X.A) :
    CallR X (.builtin "repr") (fun xs H Q => ∃ a dx fs, xs = [.ref a] ∧ H a = some (.ins C dx fs) ∧ sp (.ref a :: dvs) H (fun v H' => ∃ y : Str, v = .str y ∧ Q (.str y) H') E0) := by
  obtain ⟨f, fd, ds, c, hm, F, hb, hd⟩ := D.ex
  intro pins s σ H xs us Q I r h
  obtain ⟨a, dx, fs, rfl, ea, q⟩ := h
  rw [Vals.ref1 r]
  obtain ⟨ox, od, J⟩ := insAt I ea
  obtain ⟨mf, fr⟩ := I.fr
  have hu : X.A.in1.units < cLine := by
    have := hr.in1.units
    omega
  refine PySem.W.repr_K hu fr I.mod.kin J hm.at_ hm.fn (wpAny_mono (goIn (us := [.ref a]) (vs := [.ref a]) F hr.in1 I.env0.in1 hb hd I (.cons rfl .nil) q) (fun w s1 hw => ?_) fun _ _ z => z)
  obtain ⟨t, H1, I1, rt, y, rfl, q1⟩ := hw
  obtain ⟨tk, rfl⟩ := (show ∃ t, w = Value.str y t from rt)
  exact ⟨.str y, H1, I1, ⟨_, rfl⟩, q1⟩
/-! ### o[k] -/
def rIxO (C : Addr) (sp : Sp) (dvs : List V) : R2 := fun x y H Q => ∃ a dx fs, x = .ref a ∧ H a = some (.ins C dx fs) ∧ sp (.ref a :: y :: dvs) H Q E0
theorem pe_ixO {a b : Expr} {ta tb : TE} {pos : Pos} (D : Mtn X.prog X.w X.K X.mg X.base C "__getitem__" k ps dvs sp) (hr : RoomG (k + 1) X.A) (hfn : ∀ f, PySem.W.findIn X.K (.ref C) "__getitem__" = some (some (.ref f)) → PySem.W.fnIn X.K f = true)
    (ha : PE X a ta) (hb : PE X b tb) (hs : ∀ o i, subscripted b true o i = runValue (.builtin "lifetime.subscript" ⟨[o, i], []⟩) := by intros; with_unfolding_all rfl) : PE X (.Subscript a b pos) (tOp (rIxO C sp dvs) ta tb) := by
  obtain ⟨f, fd, ds, c, hm, F, hbd, hd⟩ := D.ex
  refine ⟨fun pins s σ H Q I h => Subscript_ (binT ha hb I h fun v u s2 x y H2 I2 rx ry q => ?_)⟩
  obtain ⟨a, dx, fs, rfl, ea, q⟩ := q
  obtain rfl : v = Value.ref a := rx
  obtain ⟨ox, od, J⟩ := insAt I2 ea
  obtain ⟨mf, fr⟩ := I2.fr
  exact PySem.W.sub_K fr I2.mod.kin J hm.at_ (hfn f hm.at_) hm.fn (goIn (us := [.ref a, u]) (vs := [.ref a, y]) F hr.in1 I2.env0.in1 hbd hd I2 (.cons rfl (.cons ry .nil)) q) (hs _ _)
/-! ### o + p, both of the class -/
def rBinO (C : Addr) (sp : Sp) (dvs : List V) : R2 := fun x y H Q => ∃ a b dx dy fs gs, x = .ref a ∧ y = .ref b ∧ H a = some (.ins C dx fs) ∧ H b = some (.ins C dy gs) ∧ sp (.ref a :: .ref b :: dvs) H Q E0
theorem op_own {op : Operator} {nm : Str} (D : Mtn X.prog X.w X.K X.mg X.base C nm k ps dvs sp) (e : PySem.dunder op.info.2 = nm) (hc : PySem.W.selfFirst X.K C = true) (hr : RoomG k X.A) : OpR X (binaryOp op) (rBinO C sp dvs) := by
  subst e
  obtain ⟨f, fd, ds, c, hm, F, hb, hd⟩ := D.ex
  intro pins s σ H x y v u Q I rx ry h
  obtain ⟨a, b, dx, dy, fs, gs, rfl, rfl, ea, eb, q⟩ := h
  obtain rfl : v = Value.ref a := rx
  obtain rfl : u = Value.ref b := ry
  obtain ⟨ox, od, J⟩ := insAt I ea
  obtain ⟨oy, od2, J2⟩ := insAt I eb
  obtain ⟨mf, fr⟩ := I.fr
  refine PySem.W.binop_K fr I.mod.kin J J2.type hc hm.at_ hm.fn (wpAny_mono (goIn (us := [.ref a, .ref b]) (vs := [.ref a, .ref b]) F hr I.env0 hb hd I (.cons rfl (.cons rfl .nil)) q) (fun w s1 hw => ?_) fun _ _ z => z)
  obtain ⟨t, H1, I1, rt, q1⟩ := hw
  have ni : w ≠ .notImplemented := by
    rintro rfl
    cases t <;> simp [L2.RelV] at rt
  have hw : EP X pins σ Q w s1 := ⟨t, H1, I1, rt, q1⟩
  cases w with
  | notImplemented => exact absurd rfl ni
  | none => exact hw
  | ellipsis => exact hw
  | bool _ => exact hw
  | int _ _ => exact hw
  | float _ _ => exact hw
  | str _ _ => exact hw
  | bytes _ _ => exact hw
  | type _ => exact hw
  | builtin _ => exact hw
  | ref _ => exact hw
/-- a method never gives NotImplemented back -/
theorem back {Q : VK} {w : Value} {s1 : Shared} (hw : EP X pins σ Q w s1) : PySem.W.CmpBack (EP X pins σ Q) w s1 := by
  obtain ⟨t, H1, I1, rt, q1⟩ := id hw
  have ni : w ≠ .notImplemented := by
    rintro rfl
    cases t <;> simp [L2.RelV] at rt
  cases w with
  | notImplemented => exact absurd rfl ni
  | none => exact hw
  | ellipsis => exact hw
  | bool _ => exact hw
  | int _ _ => exact hw
  | float _ _ => exact hw
  | str _ _ => exact hw
  | bytes _ _ => exact hw
  | type _ => exact hw
  | builtin _ => exact hw
  | ref _ => exact hw
/-! ### o == y, o != y, y of any kind -/
def rEqO (C : Addr) (sp : Sp) (dvs : List V) (g : Bool → Bool) : R2 := fun x y H Q => ∃ (K : PySem.W.Frag) (a dx : Addr) (fs : List (Str × V)) (t : Value), x = .ref a ∧ H a = some (.ins C dx fs) ∧ TyX K H y t ∧ PySem.W.notFirst K C t = true ∧ sp (.ref a :: y :: dvs) H (fun v H' => ∃ b, v = .bl b ∧ Q (.bl (g b)) H') E0
theorem or_eqO (D : Mtn X.prog X.w X.K X.mg X.base C "__eq__" k ps dvs sp) (hr : RoomG k X.A) : OpR X (compareOp .Eq) (fun x y H Q => ∃ (a dx : Addr) (fs : List (Str × V)) (t : Value), x = .ref a ∧ H a = some (.ins C dx fs) ∧ TyX X.K H y t ∧ PySem.W.notFirst X.K C t = true ∧ sp (.ref a :: y :: dvs) H Q E0) := by
  obtain ⟨f, fd, ds, c, hm, F, hb, hd⟩ := D.ex
  intro pins s σ H x y v u Q I rx ry h
  obtain ⟨a, dx, fs, t, rfl, ea, ty, nf, q⟩ := h
  obtain rfl : v = Value.ref a := rx
  obtain ⟨ox, od, J⟩ := insAt I ea
  obtain ⟨mf, fr⟩ := I.fr
  obtain ⟨PH, Z, pH, _⟩ := kit_of I ry ty
  have hu : X.A.units < cLine := by
    have := hr.units
    omega
  exact PySem.W.cmp_K (op := .Eq) hu fr I.mod.kin J (Z.ty _ _ I.kIn pH) nf hm.at_ hm.fn (wpAny_mono (goIn (us := [.ref a, u]) (vs := [.ref a, y]) F hr I.env0 hb hd I (.cons rfl (.cons ry .nil)) q) (fun w s1 hw => back hw) fun _ _ z => z)
/-- the comparison by object.__ne__ and an own __eq__ -/
theorem ne_inK {prog : Program} {w : World} {A : Around} {E : Value → Shared → Prop} {s : Shared} {K : PySem.W.Frag} {x C f : Addr} {ox : Obj} {od : Option Obj} {b tb : Value} {Q : Value → Shared → Prop} (hu : A.units + 1 < cLine) (XK : K.In s.heap) (I : PySem.W.InstAt s.heap x ox C od)
    (hb : PySem.W.Looks (model prog w) s.heap (typeOf b) tb) (hn : PySem.W.notFirst K C tb = true) (hne : PySem.W.findIn K (.ref C) "__ne__" = some (some (.builtin "object.__ne__"))) (hob : PySem.W.mroIn K C (.type "object") = some true)
    (hs : PySem.W.findIn K (.ref C) "__eq__" = some (some (.ref f))) (hf : PySem.W.isFn K (.ref f) = true)
    (h : wpAny (model prog w) A.in1 (call (.ref f) [.ref x, b]) (fun v s' => ∃ c, v = .bool c ∧ Q (.bool (!c)) s') E s) : wpAny (model prog w) A (compareOp .NotEq (.ref x) b) Q E s := by
  have one : wpAny (model prog w) A (tryCompare (.ref x) "__ne__" b) (fun r s' => ∃ v, r = some v ∧ Q v s') E s := by
    unfold tryCompare
    refine wpAny_bind ?_
    simp only [callSpecialIfBound?, bindSpecialIfBound?]
    refine wpAny_holding (wpAny_bind (wpAny_bind (wpAny_bind (I.type.here ((PySem.W.looks_findIn XK hne).here ?_)))))
    refine wpAny_bind (wpAny_askSetting (wpAny_ite ?_))
    have body : wpAny (model prog w) A (call (.builtin "object.__ne__") ([.ref x] ++ [b])) (fun v s' => ∃ c, v = .bool c ∧ Q (.bool c) s') E s := by
      refine wpAny_call (codeAny_call_builtin F.cmp_object.ne.plain F.cmpEntry_ne ?_)
      have sub : PySem.W.Looks (model prog w) s.heap (isInstance (.ref x) (.type "object")) true := I.type.andThen (PySem.W.looks_mroIn XK hob)
      refine @PySem.W.check_slot (model prog w) _ _ _ "object.__ne__" "object" "__ne__" (.ref x) [b] [] _ F.cmpKind_ne F.cmpSplit_ne sub (F.cmpArgs_ne _ _) ?_
      unfold Builtin.«object.__ne__»
      refine wpAny_bind (wpAny_of_eq (a := ((Value.ref x : Value), [b])) (by first | rfl | (simp only [slotArgs]; rfl)) ?_)
      have hu1 : A.in1.units < cLine := hu
      refine wpAny_bind (wpAny_cRoomFor hu1 ?_)
      refine wpAny_bind (PySem.W.ifBound_K XK I hs hf (wpAny_mono h (fun v s' hv => ?_) fun _ _ z => z))
      obtain ⟨c, rfl, hq⟩ := hv
      refine wpAny_bind (wpAny_truthy_bool ?_)
      exact wpAny_pure ⟨_, rfl, hq⟩
    have fin : wpAny (model prog w) A (call (.builtin "object.__ne__") ([.ref x] ++ [b]) >>= fun v => Pure.pure (some v)) (fun r s' => ∃ c, r = some (.bool c) ∧ Q (.bool c) s') E s :=
      wpAny_bind (wpAny_mono body (fun v s' z => by
        obtain ⟨c, rfl, q⟩ := z
        exact wpAny_pure ⟨c, rfl, q⟩) fun _ _ z => z)
    rw [F.cmp_object.ne.bind]
    have fin2 : wpAny (model prog w) A (call (.builtin "object.__ne__") ([.ref x] ++ [b]) >>= fun v => Pure.pure (some v)) (fun r s' => wpAny (model prog w) A (match r with | some .notImplemented | none => Pure.pure none | some v => Pure.pure (some v)) (fun r s' => ∃ v, r = some v ∧ Q v s') E s') E s :=
      wpAny_mono fin (fun r s' z => by
        obtain ⟨c, rfl, q⟩ := z
        exact wpAny_pure ⟨_, rfl, q⟩) fun _ _ z => z
    split
    · refine wpAny_bind (wpAny_pure (wpAny_pure ?_))
      exact fin2
    · refine wpAny_tryCatch (wpAny_bind (wpAny_pure (wpAny_pure ?_)))
      exact fin2
  show wpAny (model prog w) A (richCompare .NotEq (.ref x) b) Q E s
  unfold richCompare
  simp only [oneThing_ref]
  have hu0 : A.units < cLine := by omega
  refine wpAny_holding (wpAny_bind (wpAny_cRoomFor hu0 ?_))
  refine wpAny_bind (I.type.here ?_)
  refine wpAny_bind (hb.here ?_)
  split
  · rename_i q
    have e : PySem.W.subIn K tb (.ref C) = some false := by
      rcases Bool.or_eq_true_iff.mp hn with e | e
      · rw [beq_iff_eq.mp e] at q
        simp at q
      · exact beq_iff_eq.mp e
    refine wpAny_bind ((PySem.W.looks_subIn XK e).here ?_)
    rw [if_neg Bool.false_ne_true]
    refine wpAny_bind (wpAny_mono one (fun r s' z => ?_) fun _ _ z => z)
    obtain ⟨v, rfl, q⟩ := z
    exact wpAny_pure q
  · refine wpAny_bind (wpAny_pure ?_)
    rw [if_neg Bool.false_ne_true]
    refine wpAny_bind (wpAny_mono one (fun r s' z => ?_) fun _ _ z => z)
    obtain ⟨v, rfl, q⟩ := z
    exact wpAny_pure q
theorem or_neO (D : Mtn X.prog X.w X.K X.mg X.base C "__eq__" k ps dvs sp) (hne : PySem.W.findIn X.K (.ref C) "__ne__" = some (some (.builtin "object.__ne__"))) (hob : PySem.W.mroIn X.K C (.type "object") = some true) (hr : RoomG (k + 1) X.A) :
    OpR X (compareOp .NotEq) (fun x y H Q => ∃ (a dx : Addr) (fs : List (Str × V)) (t : Value), x = .ref a ∧ H a = some (.ins C dx fs) ∧ TyX X.K H y t ∧ PySem.W.notFirst X.K C t = true ∧ sp (.ref a :: y :: dvs) H (fun v H' => ∃ b, v = .bl b ∧ Q (.bl (!b)) H') E0) := by
  obtain ⟨f, fd, ds, c, hm, F, hb, hd⟩ := D.ex
  intro pins s σ H x y v u Q I rx ry h
  obtain ⟨a, dx, fs, t, rfl, ea, ty, nf, q⟩ := h
  obtain rfl : v = Value.ref a := rx
  obtain ⟨ox, od, J⟩ := insAt I ea
  obtain ⟨PH, Z, pH, _⟩ := kit_of I ry ty
  refine ne_inK (hug hr) I.kIn J (Z.ty _ _ I.kIn pH) nf hne hob hm.at_ hm.fn (wpAny_mono (goIn (us := [.ref a, u]) (vs := [.ref a, y]) F hr.in1 I.env0.in1 hb hd I (.cons rfl (.cons ry .nil)) q) (fun w s1 hw => ?_) fun _ _ z => z)
  obtain ⟨t1, H1, I1, rt, b, rfl, q1⟩ := hw
  obtain rfl : w = Value.bool b := rt
  exact ⟨b, rfl, .bl (!b), H1, I1, rfl, q1⟩
/-! ### o * y, y of a built-in type -/
theorem op_ownT {op : Operator} {nm : Str} {T : String} {fo ro rc : Option Value} (D : Mtn X.prog X.w X.K X.mg X.base C nm k ps dvs sp) (e : PySem.dunder op.info.2 = nm) (hc : PySem.W.selfFirst X.K C = true) (hr : RoomG k X.A)
    (h0 : PySem.W.findIn X.K (.ref C) (dunderR op.info.2) = some rc) (hp : rc = none ∨ ∃ g : Addr, rc = some (.ref g)) (h1 : PySem.W.findIn X.K (.type T) (PySem.dunder op.info.2) = some fo) (h2 : PySem.W.findIn X.K (.type T) (dunderR op.info.2) = some ro) (h3 : PySem.W.subIn X.K (.type T) (.ref C) = some false)
    (hT : ∀ y u, L2.RelV y u → (∃ i, y = .int i) → typeOf u = Pure.pure (.type T)) :
    OpR X (binaryOp op) (fun x y H Q => ∃ a dx fs, x = .ref a ∧ H a = some (.ins C dx fs) ∧ (∃ i, y = .int i) ∧ sp (.ref a :: y :: dvs) H Q E0) := by
  subst e
  obtain ⟨f, fd, ds, c, hm, F, hb, hd⟩ := D.ex
  intro pins s σ H x y v u Q I rx ry h
  obtain ⟨a, dx, fs, rfl, ea, hy, q⟩ := h
  obtain rfl : v = Value.ref a := rx
  obtain ⟨ox, od, J⟩ := insAt I ea
  obtain ⟨mf, fr⟩ := I.fr
  exact PySem.W.ksp_binT fr I.mod.kin J (hT _ _ ry hy) hc hm.at_ hm.fn h0 hp h1 h2 h3 (wpAny_mono (goIn (us := [.ref a, u]) (vs := [.ref a, y]) F hr I.env0 hb hd I (.cons rfl (.cons ry .nil)) q) (fun w s1 hw => back hw) fun _ _ z => z)
theorem typeOf_int {y : V} {u : Value} (r : L2.RelV y u) (h : ∃ i, y = .int i) : typeOf u = Pure.pure (.type "int") := by
  obtain ⟨i, rfl⟩ := h
  obtain ⟨t, rfl⟩ := (show ∃ t, u = Value.int i t from r)
  rfl
/-! ### i * o, by o's own __rmul__ -/
theorem insAt' {a dx : Addr} {fs : List (Str × V)} (I : Inv X pins σ H s) (e : H a = some (.ins C dx fs)) : ∃ od, PySem.W.InstAt s.heap a (PySem.W.instObj C dx) C (some od) := by
  obtain ⟨mA, O, _⟩ := ins_get I.hok e
  obtain ⟨od, J, _⟩ := O.look
  exact ⟨_, J⟩
theorem int_mul_own (i : Int) (t : Tok) (x C dx : Addr) : Meets (Builtin.«int.__mul__» ⟨[.int i t, .ref x], []⟩) (fun _ R s => s.heap.get? x = some (PySem.W.instObj C dx) ∧ R (.ok (.ret Value.notImplemented)) s) :=
  .of_wp fun prog w A R s h => by
    obtain ⟨hp, g, d, tk, os⟩ := s
    obtain ⟨hl, h⟩ := h
    unfold PySem.W.instObj at hl
    wp_walk
    exact ⟨_, rfl, h⟩
theorem rmul_inK {prog : Program} {w : World} {A : Around} {E : Value → Shared → Prop} {s : Shared} {K : PySem.W.Frag} {x C dx f f0 : Addr} {od : Option Obj} {i : Int} {t : Tok} {Q : Value → Shared → Prop} (XK : K.In s.heap) (I : PySem.W.InstAt s.heap x (PySem.W.instObj C dx) C od) (hc : PySem.W.selfFirst K C = true)
    (hs : PySem.W.findIn K (.ref C) "__mul__" = some (some (.ref f0))) (hr : PySem.W.findIn K (.ref C) "__rmul__" = some (some (.ref f))) (hf : PySem.W.isFn K (.ref f) = true) (hsub : PySem.W.subIn K (.ref C) (.type "int") = some false)
    (h : wpAny (model prog w) A (call (.ref f) [.ref x, .int i t]) (PySem.W.CmpBack Q) E s) : wpAny (model prog w) A (binaryOp .Mult (.int i t) (.ref x)) Q E s := by
  obtain ⟨cd, rest, hcd, hm⟩ := PySem.W.ksp_first hc
  have one := PySem.W.ksp_try XK I hr hf h
  have L2 := PySem.W.fills_K (M := model prog w) (nm := "mul") XK hcd hm hs
  unfold binaryOp
  refine wpAny_holding (wpAny_bind ?_)
  simp only [binaryOp1]
  refine wpAny_bind (wpAny_typeOf (typeIs_int s i t) (wpAny_bind (I.type.here (wpAny_bind (wpAny_of_eq F.fills_int_mul ?_)))))
  have hne : (Value.type "int" == Value.ref C) = false := Bool.eq_false_iff.mpr fun q => by cases beq_iff_eq.mp q
  rw [if_neg (by rw [hne]; exact Bool.false_ne_true)]
  refine wpAny_bind (L2.here ?_)
  rw [if_pos (show (true && true) = true from rfl)]
  refine wpAny_bind ((PySem.W.looks_subIn XK hsub).here ?_)
  rw [if_neg Bool.false_ne_true]
  simp only [Bool.not_false, Bool.and_self, if_true]
  have hpy : numberSlotInPython (.type "int") "mul" = Pure.pure false := rfl
  rw [hpy]
  simp only [pure_bind, Bool.false_eq_true, if_false]
  have dec : wpAny (model prog w) A (call (.builtin "int.__mul__") [.int i t, .ref x]) (fun v s' => v = .notImplemented ∧ s' = s) E s :=
    call_meets F.slot_int_mul (typeIs_int s i t) F.entry_int_mul (F.args_int_mul_2 _ _) (int_mul_own i t x C dx) ⟨I.at_, rfl, rfl⟩
  refine wpAny_bind (wpAny_tryMethod_declines (typeIs_int s i t) F.slot_int_mul (wpAny_mono dec (fun v s' z => ⟨z.1, ?_⟩) fun _ _ z => z))
  obtain ⟨_, rfl⟩ := z
  dsimp only
  refine wpAny_bind (wpAny_mono one (fun r s' z => ?_) fun _ _ z => z)
  obtain ⟨v, rfl, q⟩ := z
  refine wpAny_bind (wpAny_rule (wpAny_pure ?_))
  exact wpAny_pure q
theorem op_rmulO (D0 : ∃ f0 : Addr, PySem.W.findIn X.K (.ref C) "__mul__" = some (some (.ref f0))) (D : Mtn X.prog X.w X.K X.mg X.base C "__rmul__" k ps dvs sp) (hc : PySem.W.selfFirst X.K C = true) (hsub : PySem.W.subIn X.K (.ref C) (.type "int") = some false) (hr : RoomG k X.A) :
    OpR X (binaryOp .Mult) (fun x y H Q => ∃ (i : Int) (a dx : Addr) (fs : List (Str × V)), x = .int i ∧ y = .ref a ∧ H a = some (.ins C dx fs) ∧ sp (.ref a :: .int i :: dvs) H Q E0) := by
  obtain ⟨f0, h0⟩ := D0
  obtain ⟨f, fd, ds, c, hm, F, hb, hd⟩ := D.ex
  intro pins s σ H x y v u Q I rx ry h
  obtain ⟨i, a, dx, fs, rfl, rfl, ea, q⟩ := h
  obtain ⟨t, rfl⟩ := (show ∃ t, v = Value.int i t from rx)
  obtain rfl : u = Value.ref a := ry
  obtain ⟨od, J⟩ := insAt' I ea
  exact rmul_inK I.kIn J hc h0 hm.at_ hm.fn hsub (wpAny_mono (goIn (us := [.ref a, .int i t]) (vs := [.ref a, .int i]) F hr I.env0 hb hd I (.cons rfl (.cons ⟨t, rfl⟩ .nil)) q) (fun w s1 hw => back hw) fun _ _ z => z)
end
end My

namespace My
open PySem L2 PySem.Spec PyProof.Rows Sem
/-! ### calls with keywords -/
/-- a method as it is called with n values (itself among them) and keywords ks -/
structure Mtk (P : Program) (w : World) (K : PySem.W.Frag) (mg : Str → Option Value) (base : Heap) (C : Addr) (m : Str) (k : Nat) (n : Nat) (ks : List Str) (gV : List V → List V → List V) (sp : Sp) : Prop where
  ex : ∃ (f : Addr) (fd : FuncData) (ps : List Str) (g : List Value → List Value → List Value), Cls K C ∧ Meth K C m f ∧ FnG P w K mg base CX0 k f fd ps sp ∧ KBn K fd ps n ks g gV
/-- a class likewise, by its __init__ -/
structure Mkk (P : Program) (w : World) (K : PySem.W.Frag) (mg : Str → Option Value) (base : Heap) (x : Str) (C : Addr) (k : Nat) (n : Nat) (ks : List Str) (gV : List V → List V → List V) (sp : Sp) : Prop where
  ex : ∃ (f : Addr) (fd : FuncData) (ps : List Str) (g : List Value → List Value → List Value), Mk K C f ∧ FnG P w K mg base CX0 k f fd ps sp ∧ mg x = some (.ref C) ∧ KBn K fd ps n ks g gV
theorem kbn0 {K : PySem.W.Frag} {x qual : Str} {params : Arguments} {body : List Stmt} {scope : Scope} {f : Addr} {fd : FuncData} {ps : List Str} (F : FunD K x qual params body scope [] [] f fd) (n : Nat) (ks : List Str) (g : {α : Type} → List α → List α → List α)
    (hrel : ∀ {vs zs : List V} {us ws : List Value}, Vals vs us → Vals zs ws → Vals (g vs zs) (g us ws))
    (h : ∀ (kV doc pm : Value) (an : Option Addr) (cdv ct : Value) (us ws : List Value), us.length = n → ws.length = ks.length → bindArgs (PySem.W.fnOf x qual params body scope .none kV doc pm an cdv ct) ⟨us, ks.zip ws⟩ = Pure.pure (ps.zip (g us ws))) :
    KBn K fd ps n ks (fun us ws => g us ws) (fun vs zs => g vs zs) := by
  obtain ⟨oc, od, dV, kV, doc, pm, an, cdv, ct, osl, rfl, lk, hcd, hD, hK⟩ := F.ex
  rcases hD with ⟨_, rfl⟩ | ⟨z, _⟩
  · refine ⟨fun s us ws _ l1 l2 => ?_, fun r1 r2 => hrel r1 r2⟩
    refine BindsTo.of_looks fun M => ?_
    rw [h kV doc pm an cdv ct us ws l1 l2]
    exact .of_pure rfl
  · exact absurd rfl z
section
variable {X : Cx} {j k n : Nat} {C : Addr} {sp : Sp} {m x : Str} {ks : List Str} {gV : List V → List V → List V} {p pos apos : Pos} {o : Expr} {kws : List Keyword} {ta : TE} {t tk : TA} {pins : List (Addr × Obj)} {σ : L2.St} {H : Hp} {s : Shared}
theorem goKw {f : Addr} {fd : FuncData} {ps : List Str} {g : List Value → List Value → List Value} {Q : VK} {us ws : List Value} {vs zs : List V} (F : FnG X.prog X.w X.K X.mg X.base CX0 k f fd ps sp) (hr : RoomG k X.A) (hb : KBn X.K fd ps n ks g gV)
    (I : Inv X pins σ H s) (r : Vals vs us) (rz : Vals zs ws) (l1 : vs.length = n) (l2 : zs.length = ks.length) (h : sp (gV vs zs) H Q E0) : wpAny (model X.prog X.w) X.A (call (.ref f) us (ks.zip ws)) (EP X pins σ Q) X.xe s := by
  refine wpAny_call (codeAny_mono (F.go X.A X.stack s H ⟨us, ks.zip ws⟩ (g us ws) (gV vs zs) Q E0 hr I.env0 (hb.to s us ws I.kIn (r.length.symm.trans l1) (rz.length.symm.trans l2)) (hb.rel r rz) h) fun r s' hq => ?_)
  cases r with
  | error e => exact (show False from hq).elim
  | ok fl => cases fl with
    | ret u => exact I.after hq
    | next => exact (show False from hq).elim
    | brk => exact (show False from hq).elim
    | cont => exact (show False from hq).elim
/-- o.m(k = v, ..) -/
def tMethK (C : Addr) (m : Str) (l : Nat) (sp : Sp) (gV : List V → List V → List V) (ta : TE) (tk : TA) : TE := fun σ H Q => ta σ H fun y H1 => ∃ a dx fs, y = .ref a ∧ H1 a = some (.ins C dx fs) ∧ fs.lookup m = none ∧ tk σ H1 fun zs H2 => zs.length = l ∧ sp (gV [.ref a] zs) H2 Q E0
theorem pe_methK {pl : Sem Bool} (D : Mtk X.prog X.w X.K X.mg X.base C m k 1 ks gV sp) (he : PE X o ta) (hr : RoomG k X.A) (hkw : PK X kws tk) (hall : (backToKw pos (keywordEach kws X.env)).all (·.1.isSome) = true := by rfl) (hks : (backToKw pos (keywordEach kws X.env)).filterMap (·.1) = ks := by rfl)
    (hpl : ((backTo pos (starEach [] X.env)).any (fun q => q.1) || (backToKw pos (keywordEach kws X.env)).any (fun q => q.1.isNone)) = false := by rfl)
    (h3 : eval (.Call (.Attribute o m apos) [] kws pos) X.env = (do
      let v ← eval o X.env
      standAt apos.atName
      let (g, fst) ← holding [v] (getMethod v m pl)
      callWith pos g fst (backTo pos (starEach [] X.env)) (backToKw pos (keywordEach kws X.env))) := by rfl) : PE X (.Call (.Attribute o m apos) [] kws pos) (tMethK C m ks.length sp gV ta tk) := by
  obtain ⟨f, fd, ps, g, c, hm, F, hb⟩ := D.ex
  constructor
  intro pins s σ H Q I h
  refine PySem.W.methodCall_KW (pl := pl) (thn (he.run pins s σ H _ I h) ?_) h3
  rintro u s1 ⟨y, H1, I1, ry, a, dx, fs, rfl, ea, l, q⟩
  obtain rfl : u = Value.ref a := ry
  refine getmeth_ok I1 ea c hm l ?_
  refine PySem.W.callWith_KW0 (first := [.ref a]) (h₀ := X.base) I1.ok.mod.kin hm.kp hall ?_ hpl
  refine thn (hkw.run pos pins s1 σ H1 _ I1 q) fun ws s2 ⟨zs, H2, I2, rz, l2, q2⟩ => ⟨I2.kIn, ?_⟩
  rw [hks]
  exact goKw (us := [.ref a]) (vs := [.ref a]) F hr hb I2 (.cons rfl .nil) rz rfl l2 q2
/-- C(k = v, ..) -/
def tMakeKw (C : Addr) (l : Nat) (sp : Sp) (gV : List V → List V → List V) (tk : TA) : TE := fun σ H Q => tk σ H fun zs H2 => zs.length = l ∧ ∀ x dx, H2 x = none → H2 dx = none → dx ≠ x → sp (gV [.ref x] zs) (upd (upd H2 dx (.own x)) x (.ins C dx [])) (fun v H3 => v = .non ∧ Q (.ref x) H3) E0
theorem pe_makeKw (D : Mkk X.prog X.w X.K X.mg X.base x C k 1 ks gV sp) (hr : RoomG (k + 1) X.A) (hg : Gl X x) (hkw : PK X kws tk)
    (h1 : (backToKw pos (keywordEach kws X.env)).all (fun q => q.1.isSome) = true := by rfl)
    (h2 : (backToKw pos (keywordEach kws X.env)).filterMap (fun q => q.1) = ks := by rfl)
    (h3 : ((backTo pos (starEach [] X.env)).any (fun q => q.1) || (backToKw pos (keywordEach kws X.env)).any (fun q => q.1.isNone)) = false := by rfl) (h4 : (x == ("__debug__" : Str)) = false := by decide) :
    PE X (.Call (.Name x p) [] kws pos) (tMakeKw C ks.length sp gV tk) := by
  obtain ⟨f, fd, ps, g, M, F, hm, hb⟩ := D.ex
  refine ⟨fun pins s σ H Q I h => ?_⟩
  refine wpAny_Call_Name_kw (ld_glob I hg hm ?_ h4)
  have kin := I.ok.mod.kin
  refine PySem.W.callWith_KW0 (first := []) kin M.kp h1 ?_ h3
  refine thn (hkw.run pos pins s σ H _ I h) fun ws s2 ⟨zs, H2, I2, rz, l2, q2⟩ => ⟨I2.kIn, ?_⟩
  rw [h2]
  have hq := q2 (s2.heap.objs.size + 1) s2.heap.objs.size (I2.hok.fresh (Nat.le_succ _)) (I2.hok.fresh (Nat.le_refl _)) (Nat.ne_of_lt (Nat.lt_succ_self _))
  have I3 := Inv.made (C := C) I2
  have hr2 : RoomG k (X.A.under (.builtin "type.__call__" ⟨.ref C :: [], ks.zip ws⟩)) := ⟨hr.r.make C [] (ks.zip ws), hr.g⟩
  have r1 : Vals [V.ref (s2.heap.objs.size + 1)] [Value.ref (s2.heap.objs.size + 1)] := .cons rfl .nil
  refine wpAny_call (make_map (f := f) I2.kIn M.makes M.init (beq_iff_eq.mp M.fn) (codeAny_mono (F.go _ X.stack _ _ ⟨[Value.ref (s2.heap.objs.size + 1)], ks.zip ws⟩ (g [Value.ref (s2.heap.objs.size + 1)] ws) _ _ E0 hr2
    (I3.env0.make C [] (ks.zip ws)) (hb.to _ [Value.ref (s2.heap.objs.size + 1)] ws I3.kIn rfl (rz.length.symm.trans l2)) (hb.rel r1 rz) hq) fun r s' hq' => ?_))
  cases r with
  | error e => exact (show False from hq').elim
  | ok fl => cases fl with
    | ret u =>
      obtain ⟨v, H', I4, rv, ev, q3⟩ := I3.after hq'
      subst ev
      exact ⟨rv, V.ref (s2.heap.objs.size + 1), H', I4, rfl, q3⟩
    | next => exact (show False from hq').elim
    | brk => exact (show False from hq').elim
    | cont => exact (show False from hq').elim
end
end My

namespace My
open PySem L2 PySem.Spec PyProof.Rows Sem
section
variable {X : Cx} {j k n : Nat} {C : Addr} {sp : Sp} {ps : List Str} {dvs : List V} {pins : List (Addr × Obj)} {σ : L2.St} {H : Hp} {s : Shared}
/-! ### bool(o), by o's own __bool__ -/
theorem plain_bool_new : plainId "bool.__new__" = true := by decide +kernel
theorem call_boolO (D : Mtn X.prog X.w X.K X.mg X.base C "__bool__" k ps dvs sp) (hr : RoomG (k + 2) X.A) :
    CallR X (.type "bool") (fun xs H Q => ∃ a dx fs, xs = [.ref a] ∧ H a = some (.ins C dx fs) ∧ sp (.ref a :: dvs) H (fun v H' => ∃ b, v = .bl b ∧ Q (.bl b) H') E0) := by
  obtain ⟨f, fd, ds, c, hm, F, hb, hd⟩ := D.ex
  intro pins s σ H xs us Q I r h
  obtain ⟨a, dx, fs, rfl, ea, q⟩ := h
  rw [Vals.ref1 r]
  obtain ⟨ox, od, J⟩ := insAt I ea
  obtain ⟨mf, fr⟩ := I.fr
  refine callType_codes (Q₁ := fun obj s1 => ∃ b, obj = .bool b ∧ EP X pins σ Q (.bool b) s1) PySem.F.called_bool (PySem.F.typeCall_bool_1 _) PySem.F.entry_object_init ?_ fun obj s1 h1 => ?_
  · refine codeAny_of_tree ?_
    show wpAny _ X.A.in1.in1 (do checkBuiltinCall "bool.__new__" ⟨[.type "bool", .ref a], []⟩; again (.builtin "bool.__new__" ⟨[.type "bool", .ref a], []⟩)) _ _ s
    refine wpAny_bind (wpAny_of_eq (PySem.F.newCall_bool_1 _) (wpAny_pure ⟨plainId_quiet plain_bool_new _, codeAny_builtin PySem.F.entry_bool_new ?_⟩))
    rw [Around.under_plainId plain_bool_new _]
    have f1 := PySem.F.conv_sub_bool
    have tr : ∀ (Q' : Bool → Shared → Prop), (∀ b s', EP X pins σ Q (.bool b) s' → Q' b s') → wpAny (model X.prog X.w) X.A.in1.in1 (truthy (.ref a)) Q' (fun e s' => X.xe e s') s := fun Q' hq =>
      PySem.W.truthy_K fr I.mod.kin J hm.at_ hm.fn (wpAny_mono (goIn (us := [.ref a]) (vs := [.ref a]) F hr.in1.in1 I.env0.in1.in1 hb hd I (.cons rfl .nil) q) (fun w s1 hw => by
        obtain ⟨t, H1, I1, rt, b, rfl, q1⟩ := hw
        obtain rfl : w = Value.bool b := rt
        exact hq b s1 ⟨.bl b, H1, I1, rfl, q1⟩) fun _ _ z => z)
    unfold Builtin.«bool.__new__»
    repeat (any_goals (first | assumption | with_reducible refine wpAny_bind (tr _ ?_) | wp_step))
    intro b s' hb'
    exact wpAny_pure ⟨b, rfl, hb'⟩
  · obtain ⟨b, rfl, q1⟩ := h1
    refine ⟨show Shared.TypeIs s1 (.bool b) "bool" from PySem.typeIs_bool _ _, PySem.F.args_object_init_2 _ _, ?_⟩
    have f2 := PySem.F.called_bool.init.lookup
    have f3 := PySem.F.called_bool.made
    have f4 := PySem.F.newNe_bool
    unfold Builtin.«object.__init__»
    repeat (any_goals (first | assumption | wp_step))
    all_goals exact ⟨rfl, q1⟩
end
end My

namespace My
open PySem L2 PySem.Spec PyProof.Rows PySem.W Builtin Builtin.ObjectAttr
/-! ### own exception objects as values -/
/-- what the written part says of an own exception class with an __init__, over a built-in base -/
structure OexG (K : Frag) (C : Addr) : Prop where
  base : ∃ (B newId initId : String) (bmB : List Value), ExcBaseFacts B newId initId bmB ∧ StoreFacts B bmB "object.__setattr__" "object" ∧ excInitIn K C bmB newId = true ∧ excOver K C bmB = true
  hd : hasDictIn K C = true
  sa : findIn K (.ref C) "__setattr__" = some (some (.builtin "object.__setattr__"))
  kp : keepIn K (.ref C) = true
section
variable {prog : Program} {w : World} {A : Around} {R : Result → Shared → Prop} {hp : Heap} {g : Array GenState} {d : Drawn} {t : Nat} {os : OsState} {K : Frag}
theorem osaNew {B : String} {bmB : List Value} {name : Str} {tk : Tok} {v : Value} {x C : Addr} {fv : Array Value} (SF : StoreFacts B bmB "object.__setattr__" "object") (X : K.In hp) (hx : hp.get? x = some { cls := .ref C, data := .fields fv }) (ov : excOver K C bmB = true) (hh : hasDictIn K C = true)
    (ha : NoAttr K C name)
    (hq : ∀ h' tk' dx, (∀ b o, b ≠ x → hp.get? b = some o → h'.get? b = some o) → hp.objs.size ≤ dx → dx ≠ x → h'.get? x = some { cls := .ref C, dict := some dx, data := .fields fv } → h'.Ns1 dx (fun y => if y = name then some v else none) → R (.ok (.ret .none)) ⟨h', g, d, tk', os⟩) :
    codeAny (model prog w) A (.call (.builtin "object.__setattr__") ⟨[.ref x, .str name tk, v], []⟩) R ⟨hp, g, d, t, os⟩ := by
  have I : InstAt hp x { cls := .ref C, data := .fields fv } C none := ⟨hx, rfl, rfl, trivial⟩
  obtain ⟨cd, hc, hdct⟩ := any_some hh
  have hxs : x ≠ hp.objs.size := Nat.ne_of_lt (Heap.lt_size hx)
  have Lc : Looks (model prog w) hp (classData C) cd := looks_clsIn X hc
  refine osa_openX SF X I ov ha.taker fun b => ?_
  show wpAny _ _ (storeInOwnDict (.ref x) (.ref C) (.str name tk) name v b) _ _ _
  obtain ⟨nm, bs, mro, ns, qn, hd, sn, sb, ab, col, del⟩ := cd
  dsimp only at hdct
  subst hdct
  unfold storeInOwnDict ownDictForStores
  repeat (first | with_reducible refine HandSPX.store_in_new ?_ ?_ | with_reducible refine wpAny_loadPart_at hx ?_ | with_reducible refine Lc.at ?_ | wp_step)
  · exact ⟨_, #[], _, (Heap.get?_update_ne _ _ _ _ hxs.symm).trans (Heap.get?_push_at rfl rfl), rfl, fun e he => absurd he (by simp), fun _ => rfl⟩
  · intro h' tk' hn' hs
    have hx1 : (hp.push { cls := .type "dict", data := .dict #[] }).get? x = some { cls := .ref C, data := .fields fv } := Heap.get?_push_of_some _ hx
    refine hq h' tk' hp.objs.size (fun b o nb ho => ?_) (Nat.le_refl _) hxs.symm ((hs.2 x hxs).trans (Heap.get?_update_self _ hx1 rfl)) hn'
    have nb2 : b ≠ hp.objs.size := Nat.ne_of_lt (Heap.lt_size ho)
    exact (hs.2 b nb2).trans ((Heap.get?_update_ne _ _ _ _ nb).trans (Heap.get?_push_of_some _ ho))
theorem osaOld {B : String} {bmB : List Value} {name : Str} {tk : Tok} {v : Value} {x C dx : Addr} {fv : Array Value} {m0 : Str → Option Value} {nl : List Str} (SF : StoreFacts B bmB "object.__setattr__" "object") (X : K.In hp) (hx : hp.get? x = some { cls := .ref C, dict := some dx, data := .fields fv })
    (hns : hp.Ns1 dx m0) (hw : Within m0 nl) (hz : nl.length ≤ 1000) (ov : excOver K C bmB = true) (hh : hasDictIn K C = true) (ha : NoAttr K C name)
    (hq : ∀ h' tk', (∀ b o, b ≠ dx → hp.get? b = some o → h'.get? b = some o) → h'.Ns1 dx (fun y => if y = name then some v else m0 y) → R (.ok (.ret .none)) ⟨h', g, d, tk', os⟩) :
    codeAny (model prog w) A (.call (.builtin "object.__setattr__") ⟨[.ref x, .str name tk, v], []⟩) R ⟨hp, g, d, t, os⟩ := by
  obtain ⟨oD, esD, epD, hoD, hdD, _⟩ := hns.count hw
  have I : InstAt hp x { cls := .ref C, dict := some dx, data := .fields fv } C (some oD) := ⟨hx, rfl, rfl, hoD⟩
  obtain ⟨cd, hc, hdct⟩ := any_some hh
  have Lc : Looks (model prog w) hp (classData C) cd := looks_clsIn X hc
  refine osa_openX SF X I ov ha.taker fun b => ?_
  show wpAny _ _ (storeInOwnDict (.ref x) (.ref C) (.str name tk) name v b) _ _ _
  obtain ⟨nm, bs, mro, ns, qn, hd, sn, sb, ab, col, del⟩ := cd
  dsimp only at hdct
  subst hdct
  unfold storeInOwnDict ownDictForStores
  repeat (first | with_reducible refine OEX.store_in_old hns hw hz ?_ | with_reducible refine wpAny_loadPart_at hx ?_ | with_reducible refine Lc.at ?_ | wp_step)
  intro h' tk' hn' hs
  exact hq h' tk' (fun b o nb ho => (hs.2 b nb).trans ho) hn'
end
section
variable {X : Cx} {pins : List (Addr × Obj)} {σ : L2.St} {H : Hp} {s : Shared} {a C dx : Addr} {f : Str} {y : V} {u : Value} {fs : List (Str × V)} {Q : Unit → Shared → Prop} {E : Value → Shared → Prop} {A : Around}
/-- a.f = y, the first field -/
theorem ostNew (T : OexG X.K C) (I : Inv X pins σ H s) (e : H a = some (exo a C none)) (hno : NoAttr X.K C f) (ry : L2.RelV y u)
    (h : ∀ dx s', H dx = none → dx ≠ a → Inv X pins σ (L2.upd (L2.upd H dx (exd dx [(f, y)])) a (exo a C (some dx))) s' → Q () s') : wpAny (model X.prog X.w) A (setAttr (.ref a) f u) Q E s := by
  obtain ⟨B, ni, ii, bmB, FB, SF, ini, ov⟩ := T.base
  obtain ⟨t1, ho⟩ := exo_at I.hok e
  obtain ⟨hp, g, d, t, os⟩ := s
  refine set_plain I.kIn (ox := { cls := .ref C, dict := none, data := .fields #[.ref t1, .none, .none, .none, .bool false, .none] }) (od := none) ⟨ho, rfl, rfl, trivial⟩ T.sa ?_
  refine osaNew SF I.kIn ho ov T.hd hno fun h' tk' dx k dn dne hx hn => ?_
  have hnd : H dx = none := I.hok.fresh dn
  have nd : ∀ {b : Addr} {o : Obj}, hp.get? b = some o → b ≠ dx := fun {b o} q => Nat.ne_of_lt (Nat.lt_of_lt_of_le (Heap.lt_size q) dn)
  have na : ∀ {b : Addr}, H b = none → b ≠ a := fun {b} n z => by
    rw [z, e] at n
    cases n
  have U : Un X.fs [] H (L2.upd (L2.upd H dx (exd dx [(f, y)])) a (exo a C (some dx))) hp h' := by
    constructor
    · intro b o q n _ _
      exact k b o (na n) q
    · intro b o q n _ _
      exact ⟨o.slots, k b o (na n) q⟩
    · intro b o q n _
      rw [upd_ne (na n), upd_ne (nd q)]
      exact n
    · intro b o q _
      by_cases hb : b = a
      · exact ⟨_, by rw [hb]; exact hx⟩
      · exact ⟨o, k b o hb q⟩
    · intro b xs q
      rw [upd_ne (at_ne e q exo_tup), upd_ne (ne_of_none q hnd)]
      exact q
    · intro b o v q
      rw [upd_ne (at_ne e q exo_frz), upd_ne (ne_of_none q hnd)]
      exact q
    · intro b ps q
      exact ⟨#[], by rw [upd_ne (at_ne e q exo_tbl), upd_ne (ne_of_none q hnd), q]; simp⟩
  refine h dx _ hnd dne (I.un (t' := tk') U fun b o q => ?_)
  by_cases hb : b = a
  · subst hb
    rw [upd_same] at q
    cases q
    exact exo_ok hx
  rw [upd_ne hb] at q
  by_cases hd : b = dx
  · subst hd
    rw [upd_same] at q
    cases q
    exact exd_ok hn (relO_put (fs := []) ry fun g => True.intro)
  rw [upd_ne hd] at q
  refine (I.hok b o q).stay (fun c v hc z => k c v ?_ z) (fun c hc => ?_) fun c xs hc => ?_
  · rcases hc with hc | hc
    · rw [hc]
      exact hb
    · exact at_ne e hc exo_own
  · rw [upd_ne (at_ne e hc exo_own), upd_ne (ne_of_none hc hnd)]
    exact hc
  · rw [upd_ne (at_ne e hc exo_tup), upd_ne (ne_of_none hc hnd)]
    exact hc
/-- a.f = y, a further field -/
theorem ostOld (T : OexG X.K C) (I : Inv X pins σ H s) (e : H a = some (exo a C (some dx))) (ed : H dx = some (exd dx fs)) (hl : fs.length ≤ 900) (hno : NoAttr X.K C f) (ry : L2.RelV y u)
    (h : ∀ s', Inv X pins σ (L2.upd H dx (exd dx ((f, y) :: fs))) s' → Q () s') : wpAny (model X.prog X.w) A (setAttr (.ref a) f u) Q E s := by
  obtain ⟨B, ni, ii, bmB, FB, SF, ini, ov⟩ := T.base
  obtain ⟨t1, ho⟩ := exo_at I.hok e
  obtain ⟨mA, hns, rel⟩ := exd_at I.hok ed
  have hw := within_of rel
  obtain ⟨hp, g, d, t, os⟩ := s
  obtain ⟨oD, _, _, hoD, _, _⟩ := hns.count hw
  refine set_plain I.kIn (ox := { cls := .ref C, dict := some dx, data := .fields #[.ref t1, .none, .none, .none, .bool false, .none] }) (od := some oD) ⟨ho, rfl, rfl, hoD⟩ T.sa ?_
  refine osaOld SF I.kIn ho hns hw (by rw [List.length_map]; omega) ov T.hd hno fun h' tk' k hn => ?_
  have hd : ∃ o, h'.get? dx = some o := by
    obtain ⟨o, _, _, e', _⟩ := hn
    exact ⟨o, e'⟩
  exact h _ (I.write (t' := tk') (x := dx) (e := dx) (o := exd dx ((f, y) :: fs)) (by rw [ed]; exact True.intro) (.inl rfl) k hd (exd_ok hn (relO_put ry rel)))
end
section
variable {X : Cx} {o e : Expr} {es : List Expr} {to te : TE} {ta tk : TA} {f m : Str} {p p' pos : Pos} {pins : List (Addr × Obj)} {σ : L2.St} {H : Hp} {s : Shared}
/-- self.f = e of an exception that is being made -/
def tOstG (K : Frag) (f : Str) (to te : TE) : TS := fun D σ H => te σ H fun y H1 => to σ H1 fun x H2 => ∃ a C : Addr, x = .ref a ∧ OexG K C ∧ NoAttr K C f ∧
  ((H2 a = some (exo a C none) ∧ ∀ dx, H2 dx = none → dx ≠ a → D.nx σ (L2.upd (L2.upd H2 dx (exd dx [(f, y)])) a (exo a C (some dx)))) ∨
    ∃ (dx : Addr) (fs : List (Str × V)), H2 a = some (exo a C (some dx)) ∧ H2 dx = some (exd dx fs) ∧ fs.length ≤ 900 ∧ D.nx σ (L2.upd H2 dx (exd dx ((f, y) :: fs))))
theorem ps_ostG (ho : PE X o to) (he : PE X e te) (hs : swapsWith e (some (.Attribute o f p')) pos.line X.env = pure false := by rfl) : PS X (.Assign [.Attribute o f p'] e pos) (tOstG X.K f to te) := by
  constructor
  intro pins s σ H D I h
  refine plainObj_wpAny_Assign_Attribute (thn (he.run pins s σ H _ I h) fun v s1 z1 => ?_) hs
  obtain ⟨y, H1, I1, r1, q1⟩ := z1
  refine thn (ho.run pins s1 σ H1 _ I1 q1) fun u s2 z2 => ?_
  obtain ⟨x, H2, I2, r2, a, C, ex, T, hno, q⟩ := z2
  subst ex
  cases (show u = Value.ref a from r2)
  rcases q with ⟨ea, q⟩ | ⟨dx, fs, ea, ed, hl, q⟩
  · exact ostNew T I2 ea hno r1 fun dx s' n ne J => ⟨σ, _, J, q dx n ne⟩
  · exact ostOld T I2 ea ed hl hno r1 fun s' J => ⟨σ, _, J, q⟩
end
/-- an own exception class by its name, with its __init__ -/
structure Exn (P : Program) (w : World) (K : Frag) (mg : Str → Option Value) (base : Heap) (x : Str) (C : Addr) (k : Nat) (ps : List Str) (sp : Sp) : Prop where
  ex : ∃ (f : Addr) (fd : FuncData), OexG K C ∧ findIn K (.ref C) "__init__" = some (some (.ref f)) ∧ isFn K (.ref f) = true ∧ FnG P w K mg base CX0 k f fd ps sp ∧ mg x = some (.ref C) ∧ Binds K fd ps []
/-- C(e, ..): the exception object, then its __init__ -/
def tMkE (C : Addr) (sp : Sp) (ta : TA) : TE := fun σ H Q => ta σ H fun vs H1 => vs.length ≤ 1000 ∧ ∀ a, H1 a = none → sp (.ref a :: vs) (L2.upd H1 a (exo a C none)) (fun v H2 => v = .non ∧ Q (.ref a) H2) E0
section
variable {X : Cx} {k : Nat} {C : Addr} {x : Str} {ps : List Str} {sp : Sp} {e : Expr} {es : List Expr} {ta : TA} {p pos : Pos}
theorem pe_mkE (D : Exn X.prog X.w X.K X.mg X.base x C k ps sp) (hr : RoomG (k + 1) X.A) (hg : Gl X x) (ha : PA X (e :: es) ta)
    (h1 : (x == ("__debug__" : Str)) = false := by decide) (h2 : starEach (e :: es) X.env = (false, eval e X.env) :: starEach es X.env := by rfl) (h3 : (backTo pos (starEach es X.env)).any (fun q => q.1) = false := by rfl) :
    PE X (.Call (.Name x p) (e :: es) [] pos) (tMkE C sp ta) := by
  obtain ⟨f, fd, T, iC, fC, F, hm, hb⟩ := D.ex
  obtain ⟨B, ni, ii, bmB, FB, SF, ini, ov⟩ := T.base
  constructor
  intro pins s σ H Q I h
  refine wpAny_Call_Name_kw (ld_glob I hg hm ?_ h1)
  refine callWith_K (h₀ := X.base) I.ok.mod.kin T.kp (thn (ha.run pos pins s σ H _ I h) fun us s1 z => ?_) h2 h3
  obtain ⟨vs, H1, I1, r1, hz, q1⟩ := z
  refine ⟨I1.kIn, ?_⟩
  show wpAny _ _ (call (.ref C) us) _ _ _
  obtain ⟨hp, g, dr, tk, os⟩ := s1
  obtain ⟨nm, N, qn, bs, bm, hdct, sn, sub, ab, col, dd, k0, k1, k2, k3, k5, hC, hT⟩ := excInit_of I1.kIn ini
  have hsz : hp.objs.size ≤ hp.objs.size + 1 := Nat.le_succ _
  have hn : H1 (hp.objs.size + 1) = none := I1.hok.fresh hsz
  have hq := q1 (hp.objs.size + 1) hn
  have kk : ∀ b o, hp.get? b = some o → ((hp.push (kdv_tup us)).push (HandSPX.excO C hp.objs.size)).get? b = some o := fun b o z => Heap.get?_push_of_some _ (Heap.get?_push_of_some _ z)
  have hget : ((hp.push (kdv_tup us)).push (HandSPX.excO C hp.objs.size)).get? (hp.objs.size + 1) = some (HandSPX.excO C hp.objs.size) := by heap_get
  have I2 : Inv X pins σ (L2.upd H1 (hp.objs.size + 1) (exo (hp.objs.size + 1) C none)) ⟨(hp.push (kdv_tup us)).push (HandSPX.excO C hp.objs.size), g, dr, tk, os⟩ := I1.laid (t' := tk) kk hsz (exo_ok hget)
  have r2 : Vals (V.ref (hp.objs.size + 1) :: vs) (Value.ref (hp.objs.size + 1) :: us) := .cons rfl r1
  have hl : (Value.ref (hp.objs.size + 1) :: us ++ []).length = ps.length := by
    have z := r2.length
    rw [F.len _ _ _ _ hq] at z
    rw [List.append_nil]
    exact z.symm
  have hus : us.length ≤ sizeLine := by
    rw [← r1.length, sizeLine_eq]
    omega
  have bd := hb _ (Value.ref (hp.objs.size + 1) :: us) I2.kIn hl
  rw [List.append_nil] at bd
  have hr2 : RoomG k (X.A.under (.builtin "type.__call__" ⟨.ref C :: us, []⟩)) := ⟨hr.r.make C us [], hr.g⟩
  refine wpAny_call (HandSPX.call_own FB hT hC (looks_findIn I1.kIn iC) (fun self => bind_fn I1.kIn self (beq_iff_eq.mp fC)) hus
    (codeAny_mono (F.go _ X.stack _ _ ⟨Value.ref (hp.objs.size + 1) :: us, []⟩ _ _ _ E0 hr2 (I2.env0.make C us []) bd r2 hq) fun r s' hq' => ?_))
  cases r with
  | error er => exact (show False from hq').elim
  | ok fl => cases fl with
    | ret u =>
      obtain ⟨v, H', I3, rv, ev, q3⟩ := I2.after hq'
      subst ev
      exact ⟨rv, V.ref (hp.objs.size + 1), H', I3, rfl, q3⟩
    | next => exact (show False from hq').elim
    | brk => exact (show False from hq').elim
    | cont => exact (show False from hq').elim
end
end My

namespace My
open PySem L2 PySem.Spec PyProof.Rows PySem.W Builtin Builtin.ObjectAttr
/-! ### an exception class called with keywords alone -/
section
variable {M : Model} {A : Around} {E : Value → Shared → Prop} {h : Heap} {g : Array GenState} {d : Drawn} {t : Nat} {os : OsState}
variable {nm q : Str} {C N : Addr} {bs bm bmB : List Value} {hdct : Bool} {sn : List Str} {sub : List Value} {ab : Bool} {col : Option Bool} {dd : Option Addr} {k0 k1 k2 k3 k5 : Option Value} {B newId initId : String} {kw : List (Str × Value)}
theorem kwCheck (FB : ExcBaseFacts B newId initId bmB) (hT : ∀ X : String, bm.contains (.type X) = bmB.contains (.type X)) {Q : Unit → Shared → Prop}
    (hC : h.get? C = some (excClassObj nm q C N bs bm hdct sn sub ab col dd k0 k1 k2 k3 k5 newId)) (hq : Q () ⟨h, g, d, t, os⟩) : wpAny M A (checkBuiltinCall newId ⟨[.ref C], kw⟩) Q E ⟨h, g, d, t, os⟩ := by
  have hB : (Value.ref C :: bm).contains (.type B) = true := by
    rw [List.contains_cons, hT, FB.hasB, Bool.or_true]
  have st := FB.noStar
  simp only [checkBuiltinCall, FB.newKind, FB.newSplit, FB.newRow]
  repeat (first | refine wpAny_loadPart_at hC ?_ | (refine wpAny_isSubtype_exc hC ?_; rw [hB]) | refine wpAny_staticBase_exc hC ?_ | refine wpAny_madeBy_exc hC ?_ | simp only [bne_self_eq_false, Bool.false_eq_true, if_false] | wp_step)
  exact hq
end
section
variable {prog : Program} {w : World} {A : Around} {E : Value → Shared → Prop} {R : Result → Shared → Prop} {h : Heap} {g : Array GenState} {d : Drawn} {t : Nat} {os : OsState}
variable {nm q : Str} {C N : Addr} {bs bm bmB : List Value} {hdct : Bool} {sn : List Str} {sub : List Value} {ab : Bool} {col : Option Bool} {dd : Option Addr} {k0 k1 k2 k3 k5 : Option Value} {B newId initId : String} {kw : List (Str × Value)}
theorem kwNew (FB : ExcBaseFacts B newId initId bmB) (hT : ∀ X : String, bm.contains (.type X) = bmB.contains (.type X)) (hC : h.get? C = some (excClassObj nm q C N bs bm hdct sn sub ab col dd k0 k1 k2 k3 k5 newId))
    (hq : R (.ok (.ret (.ref (h.objs.size + 1)))) ⟨(h.push (kdv_tup [])).push (HandSPX.excO C h.objs.size), g, d, t, os⟩) :
    codeAny (model prog w) A (.builtin newId ⟨[.ref C], kw⟩) R ⟨h, g, d, t, os⟩ := by
  have en := FB.ends
  have hB : (Value.ref C :: bm).contains (.type B) = true := by
    rw [List.contains_cons, hT, FB.hasB, Bool.or_true]
  have hA : (Value.ref C :: bm).contains (.type "AttributeError") = false := by
    rw [List.contains_cons, hT, FB.noAttr]
    rfl
  have hN : (Value.ref C :: bm).contains (.type "NameError") = false := by
    rw [List.contains_cons, hT, FB.noName]
    rfl
  refine codeAny_builtinAt FB.entry ?_
  unfold Builtin.«BaseException.__new__»
  refine PySem.wpAt_bind ?_
  show PySem.wpAt _ _ _ (stack >>= _) _ _ _
  refine PySem.wpAt_bind (PySem.wpAt_stack fun p below => PySem.wpAt_of_wpAny ?_)
  wp_walk
  refine PySem.wpAt_of_wpAny ?_
  rw [FB.owner]
  repeat (first | with_reducible refine wpAny_madeHere_exc FB.canon hC ?_ | with_reducible refine wpAny_loadPart_at hC ?_ | (with_reducible refine wpAny_isSubtype_exc hC ?_; first | rw [hB] | rw [hA] | rw [hN]) | wp_step)
  show R _ _
  rw [Heap.size_push]
  exact hq
theorem kwType (FB : ExcBaseFacts B newId initId bmB) (hT : ∀ X : String, bm.contains (.type X) = bmB.contains (.type X)) {fI : Addr} {Q : PySem.Fin → Shared → Prop}
    (hC : h.get? C = some (excClassObj nm q C N bs bm hdct sn sub ab col dd k0 k1 k2 k3 k5 newId)) (hi : Looks (model prog w) h (typeLookup (.ref C) "__init__") (some (.ref fI))) (hb : ∀ self, Looks (model prog w) h (bindSpecial (.ref fI) self) (.ref fI, [self]))
    (hq : codeAny (model prog w) A (.call (.ref fI) ⟨[.ref (h.objs.size + 1)], kw⟩) (fun r s' => match r with | .ok (.ret v) => v = .none ∧ Q (.done (.ret (.ref (h.objs.size + 1)))) s' | .ok _ => False | .error e => E e s')
      ⟨(h.push (kdv_tup [])).push (HandSPX.excO C h.objs.size), g, d, t, os⟩) :
    wpAny (model prog w) A (Builtin.«type.__call__» ⟨[.ref C], kw⟩) Q E ⟨h, g, d, t, os⟩ := by
  repeat (first | with_reducible refine wpAny_loadPart_at hC ?_ | with_reducible refine wpAny_madeBy_exc hC ?_ | wp_step)
  refine codeAny_call_builtin_code (Code.quiet_builtin _ FB.quiet) (kwCheck FB hT hC ?_)
  refine kwNew FB hT hC ?_
  show wpAny _ _ _ _ _ _
  have k : ∀ b o, h.get? b = some o → ((h.push (kdv_tup [])).push (HandSPX.excO C h.objs.size)).get? b = some o := fun b o z => Heap.get?_push_of_some _ (Heap.get?_push_of_some _ z)
  have hC1 := k _ _ hC
  have hget : ((h.push (kdv_tup [])).push (HandSPX.excO C h.objs.size)).get? (h.objs.size + 1) = some (HandSPX.excO C h.objs.size) := by heap_get
  have hcC : (Value.ref C :: bm).contains (.ref C) = true := by simp
  have i1 := hi.keeps k
  have b1 := (hb (.ref (h.objs.size + 1))).keeps k
  unfold isInstance
  repeat (first | with_reducible refine wpAny_loadPart_at hget ?_ | (with_reducible refine wpAny_isSubtype_exc hC1 ?_; rw [hcC]) | wp_step)
  show wpAny _ _ (typeLookup (.ref C) _) _ _ _
  refine i1.at (wpAny_holding (wpAny_bind (b1.at ?_)))
  refine wpAny_bind (wpAny_call (codeAny_mono hq fun r s' z => ?_))
  rcases r with e | (v | _ | _ | _) <;> first | exact z | exact z.elim | skip
  obtain ⟨rfl, z⟩ := z
  first
    | exact wpAny_pure (wpAny_pure z)
    | (wp_walk; exact z)
theorem kwTop {Q : Unit → Shared → Prop} (hC : h.get? C = some (excClassObj nm q C N bs bm hdct sn sub ab col dd k0 k1 k2 k3 k5 newId)) (hq : Q () ⟨h, g, d, t, os⟩) : wpAny (model prog w) A (checkBuiltinCall "type.__call__" ⟨[.ref C], kw⟩) Q E ⟨h, g, d, t, os⟩ := by
  have f3 := tc_sub
  have hTy : (⟨h, g, d, t, os⟩ : Shared).TypeIs (.ref C) "type" := ⟨_, hC, rfl⟩
  simp only [checkBuiltinCall, tc_kind, tc_split]
  repeat (any_goals (first | assumption | with_reducible refine wpAny_loadPart_at hC ?_ | with_reducible refine wpAny_onRaise ?_ | with_reducible refine wpAny_map ?_ | wp_step))
theorem kwCall (FB : ExcBaseFacts B newId initId bmB) (hT : ∀ X : String, bm.contains (.type X) = bmB.contains (.type X)) {fI : Addr}
    (hC : h.get? C = some (excClassObj nm q C N bs bm hdct sn sub ab col dd k0 k1 k2 k3 k5 newId)) (hi : Looks (model prog w) h (typeLookup (.ref C) "__init__") (some (.ref fI))) (hb : ∀ self, Looks (model prog w) h (bindSpecial (.ref fI) self) (.ref fI, [self]))
    (hq : codeAny (model prog w) (A.under (.builtin "type.__call__" ⟨[.ref C], kw⟩)) (.call (.ref fI) ⟨[.ref (h.objs.size + 1)], kw⟩) (InitBack (h.objs.size + 1) R) ⟨(h.push (kdv_tup [])).push (HandSPX.excO C h.objs.size), g, d, t, os⟩) :
    codeAny (model prog w) A (.call (.ref C) ⟨[], kw⟩) R ⟨h, g, d, t, os⟩ := by
  have f1 := tc_lookup
  have f2 := tc_bind (.ref C)
  have hTy : (⟨h, g, d, t, os⟩ : Shared).TypeIs (.ref C) "type" := ⟨_, hC, rfl⟩
  refine codeAny_of_tree ?_
  show wpAny _ _ (callAny (.ref C) _) _ _ _
  repeat (any_goals (first | assumption | with_reducible refine wpAny_loadPart_at hC ?_ | wp_step))
  refine ⟨rfl, codeAny_call_builtin_at (Code.quiet_builtin _ (by decide +kernel)) entry_typeCall (kwTop hC (kwType FB hT hC hi hb ?_))⟩
  refine codeAny_mono hq fun r s' z => ?_
  rcases r with e | (v | _ | _ | _) <;> exact z
end
end My

namespace My
open PySem L2 PySem.Spec PyProof.Rows PySem.W Builtin Builtin.ObjectAttr
/-! ### C(k = v, ..) of an exception class -/
structure Exk (P : Program) (w : World) (K : Frag) (mg : Str → Option Value) (base : Heap) (x : Str) (C : Addr) (k : Nat) (ks : List Str) (gV : List V → List V → List V) (sp : Sp) : Prop where
  ex : ∃ (f : Addr) (fd : FuncData) (ps : List Str) (g : List Value → List Value → List Value), OexG K C ∧ findIn K (.ref C) "__init__" = some (some (.ref f)) ∧ isFn K (.ref f) = true ∧ FnG P w K mg base CX0 k f fd ps sp ∧ mg x = some (.ref C) ∧ KBn K fd ps 1 ks g gV
def tMkEK (C : Addr) (l : Nat) (sp : Sp) (gV : List V → List V → List V) (tk : TA) : TE := fun σ H Q => tk σ H fun zs H1 => zs.length = l ∧ ∀ a, H1 a = none → sp (gV [.ref a] zs) (L2.upd H1 a (exo a C none)) (fun v H2 => v = .non ∧ Q (.ref a) H2) E0
section
variable {X : Cx} {k : Nat} {C : Addr} {x : Str} {ks : List Str} {gV : List V → List V → List V} {sp : Sp} {kws : List Keyword} {tk : TA} {p pos : Pos}
theorem pe_mkEK (D : Exk X.prog X.w X.K X.mg X.base x C k ks gV sp) (hr : RoomG (k + 1) X.A) (hg : Gl X x) (hkw : PK X kws tk)
    (h1 : (backToKw pos (keywordEach kws X.env)).all (fun q => q.1.isSome) = true := by rfl)
    (h2 : (backToKw pos (keywordEach kws X.env)).filterMap (fun q => q.1) = ks := by rfl)
    (h3 : ((backTo pos (starEach [] X.env)).any (fun q => q.1) || (backToKw pos (keywordEach kws X.env)).any (fun q => q.1.isNone)) = false := by rfl) (h4 : (x == ("__debug__" : Str)) = false := by decide) :
    PE X (.Call (.Name x p) [] kws pos) (tMkEK C ks.length sp gV tk) := by
  obtain ⟨f, fd, ps, gg, T, iC, fC, F, hm, hb⟩ := D.ex
  obtain ⟨B, ni, ii, bmB, FB, SF, ini, ov⟩ := T.base
  constructor
  intro pins s σ H Q I h
  refine wpAny_Call_Name_kw (ld_glob I hg hm ?_ h4)
  have kin := I.ok.mod.kin
  refine callWith_KW0 (first := []) kin T.kp h1 ?_ h3
  refine thn (hkw.run pos pins s σ H _ I h) fun ws s1 z => ?_
  obtain ⟨zs, H1, I1, rz, l2, q1⟩ := z
  refine ⟨I1.kIn, ?_⟩
  rw [h2]
  obtain ⟨hp, g, dr, tt, os⟩ := s1
  obtain ⟨nm, N, qn, bs, bm, hdct, sn, sub, ab, col, dd, k0, k1, k2, k3, k5, hC, hT⟩ := excInit_of I1.kIn ini
  have hsz : hp.objs.size ≤ hp.objs.size + 1 := Nat.le_succ _
  have hn : H1 (hp.objs.size + 1) = none := I1.hok.fresh hsz
  have hq := q1 (hp.objs.size + 1) hn
  have kk : ∀ b o, hp.get? b = some o → ((hp.push (kdv_tup [])).push (HandSPX.excO C hp.objs.size)).get? b = some o := fun b o z => Heap.get?_push_of_some _ (Heap.get?_push_of_some _ z)
  have hget : ((hp.push (kdv_tup [])).push (HandSPX.excO C hp.objs.size)).get? (hp.objs.size + 1) = some (HandSPX.excO C hp.objs.size) := by heap_get
  have I2 : Inv X pins σ (L2.upd H1 (hp.objs.size + 1) (exo (hp.objs.size + 1) C none)) ⟨(hp.push (kdv_tup [])).push (HandSPX.excO C hp.objs.size), g, dr, tt, os⟩ := I1.laid (t' := tt) kk hsz (exo_ok hget)
  have r1 : Vals [V.ref (hp.objs.size + 1)] [Value.ref (hp.objs.size + 1)] := .cons rfl .nil
  have hr2 : RoomG k (X.A.under (.builtin "type.__call__" ⟨[.ref C], ks.zip ws⟩)) := ⟨hr.r.make C [] (ks.zip ws), hr.g⟩
  refine wpAny_call (kwCall FB hT hC (looks_findIn I1.kIn iC) (fun self => bind_fn I1.kIn self (beq_iff_eq.mp fC))
    (codeAny_mono (F.go _ X.stack _ _ ⟨[Value.ref (hp.objs.size + 1)], ks.zip ws⟩ (gg [Value.ref (hp.objs.size + 1)] ws) _ _ E0 hr2 (I2.env0.make C [] (ks.zip ws)) (hb.to _ [Value.ref (hp.objs.size + 1)] ws I2.kIn rfl (rz.length.symm.trans l2)) (hb.rel r1 rz) hq) fun r s' hq' => ?_))
  cases r with
  | error er => exact (show False from hq').elim
  | ok fl => cases fl with
    | ret u =>
      obtain ⟨v, H', I3, rv, ev, q3⟩ := I2.after hq'
      subst ev
      exact ⟨rv, V.ref (hp.objs.size + 1), H', I3, rfl, q3⟩
    | next => exact (show False from hq').elim
    | brk => exact (show False from hq').elim
    | cont => exact (show False from hq').elim
/-- C() of an exception class without an __init__ of its own -/
theorem pe_mkE0 {bmB : List Value} {B newId initId : String} (FB : ExcBaseFacts B newId initId bmB) (q : excIn X.K C bmB newId = true) (gC : X.mg x = some (.ref C)) (kC : keepIn X.K (.ref C) = true) (hg : Gl X x) (h4 : (x == ("__debug__" : Str)) = false := by decide) :
    PE X (.Call (.Name x p) [] [] pos) (fun _ H Q => ∀ a, H a = none → Q (.ref a) (L2.upd H a (exo a C none))) := by
  constructor
  intro pins s σ H Q I h
  refine wpAny_Call_Name_kw (ld_glob I hg gC (callWith_K0 I.kIn kC ?_) h4)
  show wpAny _ _ (call (.ref C) []) _ _ _
  obtain ⟨bm, N, nm, qn, bs, hdct, sn, sub, ab, col, dd, k0, k1, k2, k3, k5, mN, hC, hN, hni, T⟩ := exc_obj I.kIn q
  refine wpAny_call_exc_subT FB T hC hN hni (fun h' a hm => ?_) (by rw [sizeLine_eq]; exact Nat.zero_le _)
  have hn : H a = none := I.hok.gone hm.new
  obtain ⟨t, ht, _, _⟩ := hm.there
  exact ⟨.ref a, L2.upd H a (exo a C none), I.laidN hm.keeps hm.new hn (exo_ok ht), rfl, h a hn⟩
end
/-! ### its fields -/
/-- o.f, o an exception object with a dict -/
def tXfO (K : Frag) (f : Str) (te : TE) : TE := fun σ H Q => te σ H fun x H1 => ∃ (a C dd : Addr) (fs : List (Str × V)) (v : V), x = .ref a ∧ XfC K C ∧ NoAttr K C f ∧ H1 a = some (exo a C (some dd)) ∧ H1 dd = some (exd dd fs) ∧ fs.lookup f = some v ∧ Q v H1
theorem pe_xfO {X : Cx} {e : Expr} {te : TE} {pos : Pos} {f : Str} (he : PE X e te) (hb : attributeBase e f X.env (eval e X.env) = eval e X.env := by rfl) : PE X (.Attribute e f pos) (tXfO X.K f te) := by
  constructor
  intro pins s σ H Q I h
  refine attr_of hb (thn (he.run pins s σ H _ I h) fun u s1 z => ?_)
  obtain ⟨x, H1, I1, rx, a, C, dd, fs, v, rfl, T, hno, ea, ed, l, q⟩ := z
  cases (show u = Value.ref a from rx)
  obtain ⟨t1, ho⟩ := exo_at I1.hok ea
  obtain ⟨mA, hns1, rel⟩ := exd_at I1.hok ed
  obtain ⟨od, hod, hl⟩ := lookIn_ns hns1
  obtain ⟨u, hu, ru⟩ := RelO.some_of (v := v) (o := mA f) (by rw [← l]; exact rel f)
  have J : InstAt s1.heap a { cls := .ref C, dict := some dd, data := .fields #[.ref t1, .none, .none, .none, .bool false, .none] } C (some od) := ⟨ho, rfl, rfl, hod⟩
  exact HandSPX.exc_get I1.kIn J T.ga T.gg T.exC (findObj_own T.hdC hno rfl (by rw [hl, hu])) (handed_of ru) ⟨v, H1, I1.tok _, ru, q⟩
/-! ### isinstance of an exception object -/
section
variable {prog : Program} {w : World} {A : Around} {E : Value → Shared → Prop} {s : Shared} {K : Frag} {x D : Addr} {ox : Obj} {od : Option Obj}
theorem exClass {Q : Option Value → Shared → Prop} (T : ExcC K D) (X : K.In s.heap) (I : InstAt s.heap x ox D od) (h : Q (some (.ref D)) { s with toks := s.toks + 1 }) : wpAny (model prog w) A (getAttr? (.ref x) "__class__") Q E s := by
  have hf : findObj K D od "__class__" = some (.bind (.builtin "getset_descriptor.__get__") (.builtin "object.__class__")) := by
    have hc : (clsIn K D).isSome = true := by
      obtain ⟨cd, hc, _⟩ := any_some T.hd
      rw [hc]
      rfl
    cases od with
    | none => exact findObj_dataN hc T.ha T.hn T.ht
    | some od => exact findObj_data hc T.ha T.hn T.ht
  obtain ⟨hp, g, d, t, os⟩ := s
  have l0 := I.type (M := model prog w)
  have l1 := looks_findIn (M := model prog w) X T.hg
  have l2 := looks_findIn (M := model prog w) X T.hk
  have l3 := looks_find (M := model prog w) X I hf
  have sub : Looks (model prog w) hp (isInstance (.ref x) (.type "BaseException")) true := l0.andThen (looks_subIn X T.hs)
  have b2 : (Value.builtin "BaseException.__getattribute__" == Value.builtin "object.__getattribute__") = false := by decide +kernel
  have b1 : (onTheHeap (Value.ref D) && Value.builtin "BaseException.__getattribute__" == Value.builtin "object.__getattribute__") = false := by
    rw [b2]
    rfl
  have b0 : (false && onTheHeap (Value.builtin "BaseException.__getattribute__")) = false := rfl
  unfold getAttr? getAttrBy? getAttrBy
  refine wpAny_bind (wpAny_mkText (wpAny_bind (wpAny_attempt (wpAny_holding (wpAny_bind (l0.at (wpAny_bind (l1.at ?_))))))))
  show wpAny _ _ (if (onTheHeap (Value.ref D) && Value.builtin "BaseException.__getattribute__" == Value.builtin "object.__getattribute__") = true then _ else _) _ _ _
  rw [b1, if_neg Bool.false_ne_true]
  unfold getAttrByItsOwn hookBefore
  refine wpAny_bind ?_
  rw [if_pos (show onTheHeap (Value.ref D) = true from rfl)]
  refine l2.at (wpAny_bind (wpAny_attempt (wpAny_holding ?_)))
  unfold callGetattribute
  rw [b0, if_neg Bool.false_ne_true]
  unfold boundAndCalled
  rw [PySem.F.excAttr_ValueError.ga.bind (.ref x)]
  refine wpAny_bind (wpAny_pure ?_)
  show wpAny _ _ (call (.builtin "BaseException.__getattribute__") [.ref x, .str "__class__" t]) _ _ _
  refine wpAny_call (codeAny_call_builtin PySem.F.excAttr_ValueError.ga.plain PySem.F.entry_bexc_ga ?_)
  refine @check_slot (model prog w) _ _ ⟨hp, g, d, t + 1, os⟩ "BaseException.__getattribute__" "BaseException" "__getattribute__" (.ref x) [.str "__class__" t] [] _ (by decide +kernel) (by decide +kernel) sub (PySem.F.args_bexc_ga (.ref x) (.str "__class__" t)) ?_
  unfold Builtin.«object.__getattribute__»
  refine wpAny_bind (wpAny_of_eq (a := ((Value.ref x : Value), [Value.str "__class__" t])) (by first | rfl | (simp only [slotArgs]; rfl)) ?_)
  refine wpAny_bind (wpAny_pure (wpAny_bind (l0.at (wpAny_bind (l3.at ?_)))))
  show wpAny _ _ (holding [Value.builtin "object.__class__"] (call (.builtin "getset_descriptor.__get__") [.builtin "object.__class__", .ref x, .ref D]) >>= ret) _ _ _
  refine wpAny_bind (wpAny_holding (wpAny_call (class_get (s := ⟨hp, g, d, t + 1, os⟩) (ox := ox) (od := od) X I T.hm ?_)))
  refine wpAny_pure ?_
  show wpAny _ _ (handedOut (.ref D)) _ _ _
  rw [handedOut_of (v := .ref D) rfl]
  first
    | exact wpAny_pure (wpAny_pure h)
    | exact wpAny_pure h
    | exact wpAny_pure (wpAny_bind (wpAny_pure (wpAny_pure h)))
theorem exKit (T : ExcC K D) : KitX K (.ref x) (.ref D) (fun h => InstAt h x ox D od) where
  ty := fun _ _ _ I => I.type
  it := fun _ _ X _ => by
    obtain ⟨cdD, hcD, _⟩ := any_some T.hd
    unfold clsIn at hcD
    split at hcD
    · rename_i c' d' cd' sl' ho
      intro A' Q' E' s' k q
      unfold isType loadHead
      exact wpAny_bind (wpAny_loadPart (k _ _ (X _ _ ho)) (wpAny_pure q))
    · cases hcD
  ne := fun h tp dd its n sl X htp => by
    obtain ⟨cdD, hcD, _⟩ := any_some T.hd
    refine Bool.eq_false_iff.mpr fun q => ?_
    have e : D = tp := Value.ref.inj (beq_iff_eq.mp q)
    subst e
    unfold clsIn at hcD
    split at hcD
    · rename_i c' d' cd' sl' ho
      cases (X _ _ ho).symm.trans htp
    · cases hcD
  ca := fun X I k => exClass T X I k
end
/-- an exception object of the class at C: with its dict or without one -/
def IsExo (H : Hp) (a C : Addr) : Prop := H a = some (exo a C none) ∨ ∃ (dd : Addr) (fs : List (Str × V)), H a = some (exo a C (some dd)) ∧ H dd = some (exd dd fs)
def rIsX (K : Frag) : List V → Hp → VK → Prop := fun xs H Q => ∃ (a C : Addr) (c : V) (u : Value) (b : Bool), xs = [.ref a, c] ∧ IsExo H a C ∧ ExcC K C ∧ ClsV c u ∧ kitOne K (.ref C) u = some b ∧ Q (.bl b) H
theorem call_isX {X : Cx} : CallR X (.builtin "isinstance") (rIsX X.K) := by
  intro pins s σ H xs us Q I r h
  obtain ⟨a, C, c, u, b, rfl, hx, T, kc, e, q⟩ := h
  obtain ⟨u1, u2, rfl, r1, r2⟩ := vals2 r
  cases (show u1 = Value.ref a from r1)
  have e2 := kc.eq r2
  subst e2
  obtain ⟨ox, od, J⟩ : ∃ ox od, InstAt s.heap a ox C od := by
    rcases hx with ea | ⟨dd, fs, ea, ed⟩
    · obtain ⟨t1, ho⟩ := exo_at I.hok ea
      exact ⟨_, none, ho, rfl, rfl, trivial⟩
    · obtain ⟨t1, ho⟩ := exo_at I.hok ea
      obtain ⟨mA, hns1, _⟩ := exd_at I.hok ed
      obtain ⟨od, hod, _⟩ := lookIn_ns hns1
      exact ⟨_, some od, ho, rfl, rfl, hod⟩
  exact kia_one (exKit T) I.kIn J e (fun z => nomatch z) fun tk => ⟨.bl b, H, I.tok tk, rfl, q⟩
end My

namespace My
open PySem L2 PySem.Spec PyProof.Rows PySem.W
/-! ### what the written part says of an exception class -/
structure ExF (K : Frag) (C : Addr) (mro : List Value) (newId : String) : Prop where
  look : ∃ (nm qn : Str) (bs sb : List Value) (ns : Addr) (sn : List Str) (ab : Bool) (co : Option Bool) (dd : Option Addr) (k0 k1 k2 k3 k5 : Option Value), K.lookup C = some ⟨.type "type", dd, .cls ⟨nm, bs, mro, ns, qn, true, sn, sb, ab, co, false⟩, #[k0, k1, k2, k3, some (.builtin newId), k5]⟩
  sa : findIn K (.ref C) "__setattr__" = some (some (.builtin "object.__setattr__"))
  kp : keepIn K (.ref C) = true
  ga : findIn K (.ref C) "__getattribute__" = some (some (.builtin "BaseException.__getattribute__"))
  gg : findIn K (.ref C) "__getattr__" = some none
  ca : findIn K (.ref C) "__class__" = some (some (.builtin "object.__class__"))
  ty : typeIn K (.ref C) = some (.type "type")
section
variable {K : Frag} {C D : Addr} {m m' : List Value} {n n' : String}
theorem ExF.cls (x : ExF K C m n) : ∃ cd, clsIn K C = some cd ∧ cd.mro = m ∧ cd.hasDict = true := by
  obtain ⟨nm, qn, bs, sb, ns, sn, ab, co, dd, k0, k1, k2, k3, k5, e⟩ := x.look
  exact ⟨_, by unfold clsIn; rw [e], rfl, rfl⟩
theorem ExF.sub (x : ExF K C m n) (h : m.isEmpty = false) (v : Value) : subIn K (.ref C) v = some (m.contains v) := by
  obtain ⟨cd, e, rfl, _⟩ := x.cls
  show mroIn K C v = _
  unfold mroIn
  rw [e, Option.bind_some, if_neg (by rw [h]; exact Bool.false_ne_true)]
theorem ExF.hd (x : ExF K C m n) : hasDictIn K C = true := by
  obtain ⟨cd, e, _, h⟩ := x.cls
  unfold hasDictIn
  rw [e]
  exact h
/-- an own class over a built-in one -/
structure Ups (C : Addr) (m bm : List Value) : Prop where
  head : ∃ r, m = .ref C :: r ∧ excTail bm r = true
  base : m.contains (.type "BaseException") = true
  obj : m.contains (.type "object") = true
theorem ups (C G : Addr) (b : String) : Ups C (.ref C :: .ref G :: .type b :: [.type "Exception", .type "BaseException", .type "object"]) (.type b :: [.type "Exception", .type "BaseException", .type "object"]) := by
  refine ⟨⟨_, rfl, ?_⟩, ?_, ?_⟩
  · show (Value.type b :: [.type "Exception", .type "BaseException", .type "object"] == _) = true
    exact beq_self_eq_true _
  · simp
  · simp
theorem ups0 (C : Addr) (b : String) : Ups C (.ref C :: .type b :: [.type "Exception", .type "BaseException", .type "object"]) (.type b :: [.type "Exception", .type "BaseException", .type "object"]) := by
  refine ⟨⟨_, rfl, ?_⟩, ?_, ?_⟩
  · show (Value.type b :: [.type "Exception", .type "BaseException", .type "object"] == _) = true
    exact beq_self_eq_true _
  · simp
  · simp
theorem Ups.ne {bm : List Value} (u : Ups C m bm) : m.isEmpty = false := by
  obtain ⟨r, rfl, _⟩ := u.head
  rfl
theorem ExF.oex {bm : List Value} {B ii : String} (x : ExF K C m n) (u : Ups C m bm) (FB : ExcBaseFacts B n ii bm) (SF : StoreFacts B bm "object.__setattr__" "object") : OexG K C := by
  obtain ⟨r, rfl, ht⟩ := u.head
  refine ⟨⟨B, n, ii, bm, FB, SF, ?_, ?_⟩, x.hd, x.sa, x.kp⟩
  · obtain ⟨nm, qn, bs, sb, ns, sn, ab, co, dd, k0, k1, k2, k3, k5, e⟩ := x.look
    unfold excInitIn
    rw [e]
    simp [ht]
  · obtain ⟨cd, e, hm, _⟩ := x.cls
    unfold excOver
    rw [e]
    show (match cd.mro with | .ref C' :: bm' => C' == C && excTail bm bm' | _ => false) = true
    rw [hm]
    simp [ht]
theorem ExF.xf {bm : List Value} (x : ExF K C m n) (u : Ups C m bm) : XfC K C := ⟨x.ga, x.gg, by rw [x.sub u.ne, u.base], x.hd⟩
theorem ExF.exc {bm : List Value} (x : ExF K C m n) (u : Ups C m bm) (h1 : specialIn K (.builtin "object.__class__") "__get__" = some (some (.builtin "getset_descriptor.__get__"))) (h2 : takesIn K (.builtin "object.__class__") = some true) : ExcC K C :=
  ⟨x.ga, x.gg, by rw [x.sub u.ne, u.base], x.hd, x.ca, h1, h2, (x.sub u.ne _).trans (by rw [u.obj])⟩
theorem ExF.kit {bm : List Value} (x : ExF K C m n) (u : Ups C m bm) (y : ExF K D m' n') : kitOne K (.ref C) (.ref D) = some (m.contains (.ref D)) := by
  unfold kitOne
  obtain ⟨r, hm, _⟩ := u.head
  by_cases h : C = D
  · subst h
    rw [if_pos (beq_self_eq_true _), hm]
    simp
  · rw [if_neg (by simpa using h)]
    unfold kitCls
    obtain ⟨cd, e, _, _⟩ := y.cls
    show (if ((clsIn K D).isSome && typeIn K (.ref D) == some (.type "type")) = true then subIn K (.ref C) (.ref D) else none) = _
    rw [e, y.ty, if_pos (by simp), x.sub u.ne]
theorem ExF.kitT {bm : List Value} {T : String} (x : ExF K C m n) (u : Ups C m bm) (h : kitMeta T = true) : kitOne K (.ref C) (.type T) = some (m.contains (.type T)) := by
  unfold kitOne
  rw [if_neg (by simp)]
  show (if kitMeta T = true then subIn K (.ref C) (.type T) else none) = _
  rw [if_pos h, x.sub u.ne]
end
end My

namespace My
open PySem L2 PySem.Spec PyProof.Rows
section
variable {X : Cx} {pins : List (Addr × Obj)} {σ : L2.St} {H : Hp} {s : Shared}
/-! ### new lists, none of them where sys.modules stands -/
def tLstN (t : TA) : TE := fun σ H Q => t σ H fun xs H1 => xs.length ≤ sizeLine ∧ ∀ p, H1 p = none → p ≠ sysModules → Q (.ref p) (L2.upd H1 p (.lst xs))
theorem pe_lstN {es : List Expr} {t : TA} {pos : Pos} (h : PA X es t) : PE X (.List es pos) (tLstN t) := by
  constructor
  intro pins s σ H Q I hq
  refine wpAny_List_spliced (thn (h.run pos pins s σ H _ I hq) fun us s1 y => ?_)
  obtain ⟨xs, H1, I1, r, z, q⟩ := y
  refine ⟨by rw [← r.length]; exact z, ?_⟩
  have hf : H1 s1.heap.objs.size = none := I1.hok.fresh (Nat.le_refl _)
  exact ⟨.ref s1.heap.objs.size, L2.upd H1 s1.heap.objs.size (.lst xs), I1.laid (t' := s1.toks) (fun b u e => Heap.get?_push_of_some _ e) (Nat.le_refl _) ⟨z, us, 0, r, Heap.get?_push_size _ rfl⟩, rfl, q _ hf (Nat.ne_of_gt I1.big)⟩
def rSlN (K : PySem.W.Frag) : V → Option Int → Option Int → Hp → VK → Prop := fun x lo hi H Q => ∃ a xs, x = .ref a ∧ SqL K H a xs ∧ ∀ p, H p = none → p ≠ sysModules → Q (.ref p) (L2.upd H p (.lst (cutV xs lo hi)))
theorem sl_listN : SlR X (rSlN X.K) := by
  intro pins s σ H x v vl vu lo hi sl Q I rx hs pl pu h
  obtain ⟨a, xs, rfl, hx, q⟩ := h
  cases (show v = Value.ref a from rx)
  obtain ⟨its, r, ht, hz⟩ := I.list hx
  have hlen := r.length
  refine ⟨"list", _, slot_list_getitem.lookup, ht.isList.typeIs, ?_⟩
  refine wpAny_getItem_list_slice ht.isList hs pl pu .none (by simp) ?_ (by rw [List.size_toArray] <;> omega)
  rw [slicePick_cut, ← hlen]
  have new : ObjOk X.prog X.w (L2.upd H s.heap.objs.size (.lst (cutV xs lo hi))) (s.heap.push { cls := .type "list", data := .seq ((its.drop (HT.sIx xs.length 0 lo)).take (HT.sIx xs.length xs.length hi - HT.sIx xs.length 0 lo)).toArray }) s.heap.objs.size (.lst (cutV xs lo hi)) :=
    ⟨Nat.le_trans (cutV_length xs lo hi) hz, _, 0, (r.drop (HT.sIx xs.length 0 lo)).take (HT.sIx xs.length xs.length hi - HT.sIx xs.length 0 lo), Heap.get?_push_size _ rfl⟩
  exact ⟨.ref s.heap.objs.size, _, I.laid (t' := s.toks) (fun b ob q => Heap.get?_push_of_some _ q) (Nat.le_refl _) new, rfl, q _ (I.hok.fresh (Nat.le_refl _)) (Nat.ne_of_gt I.big)⟩
/-! ### data with a dict of one entry in it -/
mutual
inductive Dq (H : Hp) : V → PyData → Prop
  | non : Dq H .non .none
  | bl (b : Bool) : Dq H (.bl b) (.bool b)
  | int (i : Int) : Dq H (.int i) (.int i)
  | str (x : Str) : Dq H (.str x) (.str x)
  | lst {a : Addr} {xs : List V} {ds : List PyData} (h : H a = some (.lst xs)) (n : a ≠ sysModules) (r : DqAll H xs ds) : Dq H (.ref a) (.list ds)
  | tup {a : Addr} {xs : List V} {ds : List PyData} (h : H a = some (.tup xs)) (r : DqAll H xs ds) : Dq H (.ref a) (.tuple ds)
  | dct {a : Addr} {x : Str} {i : Int} (h : H a = some (.dK [(.inr x, .int i)])) : Dq H (.ref a) (.dict [(.str x, .int i)])
inductive DqAll (H : Hp) : List V → List PyData → Prop
  | nil : DqAll H [] []
  | cons {x : V} {xs : List V} {d : PyData} {ds : List PyData} (h : Dq H x d) (r : DqAll H xs ds) : DqAll H (x :: xs) (d :: ds)
end
mutual
theorem Dq.same {H H' : Hp} (s : Same H H') : ∀ {v : V} {d : PyData}, Dq H v d → Dq H' v d
  | _, _, .non => .non
  | _, _, .bl b => .bl b
  | _, _, .int i => .int i
  | _, _, .str x => .str x
  | _, _, .lst h n r => .lst (s _ _ h) n (DqAll.same s r)
  | _, _, .tup h r => .tup (s _ _ h) (DqAll.same s r)
  | _, _, .dct h => .dct (s _ _ h)
theorem DqAll.same {H H' : Hp} (s : Same H H') : ∀ {vs : List V} {ds : List PyData}, DqAll H vs ds → DqAll H' vs ds
  | _, _, .nil => .nil
  | _, _, .cons h r => .cons (Dq.same s h) (DqAll.same s r)
end
theorem dctReads {a : Addr} {x : Str} {i : Int} (I : Inv X pins σ H s) (h : H a = some (.dK [(.inr x, .int i)])) : ∃ as, Reads s.heap (.ref a) (.dict [(.str x, .int i)]) as ∧ sysModules ∉ as := by
  obtain ⟨_, hd, vs, kv, o, es, ep, ho, hx, hdt, hk, hp, _⟩ := dk_of I.hok h
  have na : a ≠ sysModules := by simpa using hd
  cases kv with
  | @cons _ p _ ps hkv rest =>
    cases rest
    obtain ⟨k', u⟩ := p
    obtain ⟨ek, ru⟩ := hkv
    obtain ⟨t, rfl⟩ := (show ∃ t, u = Value.int i t from ru)
    dsimp only at ek
    subst ek
    cases he : es.toList with
    | nil =>
      rw [he] at hp
      cases hp
    | cons e1 er =>
      rw [he] at hp
      cases hp with
      | cons h1 h2 h3 =>
        cases h3
        obtain ⟨t2, hk2⟩ : ∃ t2, e1.key = .str x t2 := by
          have h1' : keyIs (Sum.inr x) e1.key = true := h1
          rcases keyIs_shape h1' with ⟨j, t2, z, _⟩ | ⟨y, t2, z, q⟩
          · cases z
          · cases z
            exact ⟨t2, q⟩
        have h2' : e1.val = Value.int i t := h2
        refine ⟨_, Reads.dict ho hx.1 hdt (kvs := [(.str x, .int i)]) (by rw [he]; simp only [List.map_cons, List.map_nil]; rw [hk2]; exact ReadsAll.cons (Reads.str x t2) ReadsAll.nil) (by rw [he]; simp only [List.map_cons, List.map_nil]; rw [h2']; exact ReadsAll.cons (Reads.int i t) ReadsAll.nil), ?_⟩
        simp
        exact na.symm
mutual
theorem Dq.reads (I : Inv X pins σ H s) : ∀ (d : PyData) (v : V) (u : Value), Dq H v d → L2.RelV v u → ∃ as, Reads s.heap u d as ∧ sysModules ∉ as
  | .none, _, _, h, r => by
    cases h
    cases r
    exact ⟨_, Reads.none, by simp⟩
  | .bool b, _, _, h, r => by
    cases h
    cases r
    exact ⟨_, Reads.bool b, by simp⟩
  | .int i, _, _, h, r => by
    cases h
    obtain ⟨t, rfl⟩ := r
    exact ⟨_, Reads.int i t, by simp⟩
  | .str x, _, _, h, r => by
    cases h
    obtain ⟨t, rfl⟩ := r
    exact ⟨_, Reads.str x t, by simp⟩
  | .list ds, _, _, h, r => by
    cases h with
    | lst hs n ha =>
      cases r
      obtain ⟨_, its, m, rv, ho⟩ := I.hok _ _ hs
      obtain ⟨as, hr, hn⟩ := DqAll.reads I ds _ its ha rv
      exact ⟨_, Reads.list ho rfl rfl hr, by
        rw [List.mem_cons, not_or]
        exact ⟨n.symm, hn⟩⟩
  | .tuple ds, _, _, h, r => by
    cases h with
    | tup hs ha =>
      cases r
      obtain ⟨_, its, rv, o, ho, hc, m, hd⟩ := I.hok _ _ hs
      obtain ⟨as, hr, hn⟩ := DqAll.reads I ds _ its ha rv
      exact ⟨_, Reads.tuple ho hc hd hr, hn⟩
  | .dict kvs, _, _, h, r => by
    cases h with
    | dct hs =>
      cases r
      exact dctReads I hs
theorem DqAll.reads (I : Inv X pins σ H s) : ∀ (ds : List PyData) (vs : List V) (us : List Value), DqAll H vs ds → Vals vs us → ∃ as, ReadsAll s.heap us ds as ∧ sysModules ∉ as
  | [], _, _, h, r => by
    cases h
    cases r
    exact ⟨_, ReadsAll.nil, by simp⟩
  | d :: ds, _, _, h, r => by
    cases h with
    | cons h1 h2 =>
      cases r with
      | cons r1 r2 =>
        obtain ⟨as, q1, n1⟩ := Dq.reads I d _ _ h1 r1
        obtain ⟨bs, q2, n2⟩ := DqAll.reads I ds _ _ h2 r2
        exact ⟨_, ReadsAll.cons q1 q2, by
          rw [List.mem_append, not_or]
          exact ⟨n1, n2⟩⟩
end
end
section
variable {X : Cx} {k : Nat}
theorem call_reprQ (hr : RoomG k X.A) : CallR X (.builtin "repr") (fun xs H Q => ∃ y d, xs = [y] ∧ Dq H y d ∧ d.depth ≤ 64 ∧ d.showable = true ∧ d.shown.length ≤ sizeLine ∧ Q (.str d.shown) H) := by
  intro pins s σ H xs us Q I r h
  obtain ⟨y, d, rfl, hd, hdp, hw, hz, q⟩ := h
  obtain ⟨u, rfl, ru⟩ := vals1 r
  obtain ⟨as, rd, nm⟩ := Dq.reads I d y u hd ru
  have hA : X.A.units + (d.depth + 1) < cLine := by
    have := hr.r.un
    omega
  have fin : ∀ {t : Tok} {s' : Shared}, Inv X pins σ H s' → EP X pins σ Q (.str d.shown t) s' := fun J => ⟨.str d.shown, H, J, ⟨_, rfl⟩, q⟩
  cases rd with
  | none => exact PySem.P.repr_of_none (fin (I.tok _))
  | bool b => exact PySem.P.repr_of_bool (fin (I.tok _))
  | int i t => exact PySem.P.repr_of_int (of_decide_eq_true hw) (fin (I.tok _))
  | str z t => exact PySem.P.repr_of_str (fin (I.tok _)) hz
  | list h1 h2 h3 h4 => exact PySem.repr_of_reads' (.list h1 h2 h3 h4) hw (fun _ => nm) hr.g hA (fun _ _ e => e) (fun h' t tk hk => fin (I.kept hk)) hz
  | tuple h1 h2 h3 h4 => exact PySem.repr_of_reads' (.tuple h1 h2 h3 h4) hw (fun _ => nm) hr.g hA (fun _ _ e => e) (fun h' t tk hk => fin (I.kept hk)) hz
  | dict h1 h2 h3 h4 h5 => exact PySem.repr_of_reads' (.dict h1 h2 h3 h4 h5) hw (fun _ => nm) hr.g hA (fun _ _ e => e) (fun h' t tk hk => fin (I.kept hk)) hz
end
section
variable {σ : L2.St} {H : Hp} {D : Ends} {Q : VK} {K : PySem.W.Frag} {C : Addr} {sp : Sp} {f : Str} {l : Nat} {gV : List V → List V → List V} {to te : TE} {ta tk : TA}
theorem s_ostG (h : te σ H fun y H1 => to σ H1 fun x H2 => ∃ a C : Addr, x = .ref a ∧ OexG K C ∧ NoAttr K C f ∧
  ((H2 a = some (exo a C none) ∧ ∀ dx, H2 dx = none → dx ≠ a → D.nx σ (L2.upd (L2.upd H2 dx (exd dx [(f, y)])) a (exo a C (some dx)))) ∨
    ∃ (dx : Addr) (fs : List (Str × V)), H2 a = some (exo a C (some dx)) ∧ H2 dx = some (exd dx fs) ∧ fs.length ≤ 900 ∧ D.nx σ (L2.upd H2 dx (exd dx ((f, y) :: fs))))) : tOstG K f to te D σ H := h
theorem s_mkE (h : ta σ H fun vs H1 => vs.length ≤ 1000 ∧ ∀ a, H1 a = none → sp (.ref a :: vs) (L2.upd H1 a (exo a C none)) (fun v H2 => v = .non ∧ Q (.ref a) H2) E0) : tMkE C sp ta σ H Q := h
theorem s_mkEK (h : tk σ H fun zs H1 => zs.length = l ∧ ∀ a, H1 a = none → sp (gV [.ref a] zs) (L2.upd H1 a (exo a C none)) (fun v H2 => v = .non ∧ Q (.ref a) H2) E0) : tMkEK C l sp gV tk σ H Q := h
theorem s_xf (h : te σ H fun x H1 => ∃ (a C dd : Addr) (fs : List (Str × V)) (v : V), x = .ref a ∧ XfC K C ∧ NoAttr K C f ∧ H1 a = some (exo a C (some dd)) ∧ H1 dd = some (exd dd fs) ∧ fs.lookup f = some v ∧ Q v H1) : tXfO K f te σ H Q := h
theorem s_lstN (h : ta σ H fun xs H1 => xs.length ≤ sizeLine ∧ ∀ p, H1 p = none → p ≠ sysModules → Q (.ref p) (L2.upd H1 p (.lst xs))) : tLstN ta σ H Q := h
end
end My

namespace My
open PySem L2 PySem.Spec PyProof.Rows
/-! ### dicts from texts to ints -/
def dk (d : List (Str × Int)) : List (Key × V) := d.map fun p => (.inr p.1, .int p.2)
def look : List (Str × Int) → Str → Option Int
  | [], _ => none
  | p :: r, k => if p.1 = k then some p.2 else look r k
theorem valV_dk (d : List (Str × Int)) (k : Str) : valV (dk d) (.inr k) = (look d k).map V.int := by
  induction d with
  | nil => rfl
  | cons p r ih =>
    unfold look
    by_cases h : p.1 = k
    · rw [if_pos h]
      exact valV_pos (congrArg Sum.inr h)
    · rw [if_neg h]
      exact (valV_neg (fun z => h (Sum.inr.inj z))).trans ih
theorem dk_length (d : List (Str × Int)) : (dk d).length = d.length := List.length_map ..
/-- all of d is in e -/
def subD (d e : List (Str × Int)) : Bool := d.all fun p => decide (look e p.1 = some p.2)
section
variable {X : Cx} {pins : List (Addr × Obj)} {σ : L2.St} {H : Hp} {s : Shared}
theorem hits_dk {A : Around} {e : List (Str × Int)} {vb : List (Key × Value)} (rb : KV (dk e) vb) : ∀ {d : List (Str × Int)} {va : List (Key × Value)}, KV (dk d) va → PySem.W.KeqHits A s vb va (subD d e) := by
  intro d
  induction d with
  | nil =>
    intro va ra
    cases ra
    exact .nil
  | cons p r ih =>
    intro va ra
    cases ra with
    | @cons _ q _ qs h t =>
      obtain ⟨h1, h2⟩ := h
      obtain ⟨k, v⟩ := q
      obtain ⟨tk, h3⟩ := (show ∃ tk, v = Value.int p.2 tk from h2)
      have h4 : (Sum.inr p.1 : Key) = k := h1
      clear h1 h2
      subst h4
      subst h3
      have rr := rb.val (Sum.inr p.1)
      rw [valV_dk] at rr
      cases hl : look e p.1 with
      | none =>
        rw [hl] at rr
        have e0 : subD (p :: r) e = false := by
          unfold subD
          rw [List.all_cons, hl]
          rfl
        rw [e0]
        refine .miss ?_
        cases hv : valueAt vb (Sum.inr p.1) with
        | none => rfl
        | some y =>
          rw [hv] at rr
          exact rr.elim
      | some i =>
        rw [hl] at rr
        obtain ⟨y, hy, ry⟩ := rr.some_of
        obtain ⟨tk2, rz⟩ := (show ∃ tk, y = Value.int i tk from ry)
        clear ry
        subst rz
        have e1 : subD (p :: r) e = ((p.2 == i) && subD r e) := by
          unfold subD
          rw [List.all_cons, hl]
          congr 1
          by_cases z : p.2 = i
          · rw [z]
            simp
          · rw [decide_eq_false (fun q => z (Option.some.inj q).symm)]
            exact (beq_false_of_ne z).symm
        rw [e1]
        refine .hit hy ?_ (ih t)
        have q := PySem.W.keq_flat (A := A) (s := s) (v := .int p.2 tk) (y := .int i tk2) (d := .int p.2) (e := .int i) (fun h => .int _ _) (fun h => .int _ _)
        rw [show PyData.eqv (.int p.2) (.int i) = (p.2 == i) by simp [PyData.eqv]] at q
        exact q
def eqD (d e : List (Str × Int)) : Bool := d.length == e.length && subD d e
/-- a == b, both dicts from texts to ints -/
def rEqDD (g : Bool → Bool) : R2 := fun x y H Q => ∃ a b d e, x = .ref a ∧ y = .ref b ∧ H a = some (.dK (dk d)) ∧ H b = some (.dK (dk e)) ∧ Q (.bl (g (eqD d e))) H
theorem op_eqDD (hu : X.A.units + 1 < cLine) : OpR X (compareOp .Eq) (rEqDD id) := by
  intro pins s σ H x y v u Q I rx ry h
  obtain ⟨a, b, d, e, rfl, rfl, ea, eb, q⟩ := h
  cases (show v = Value.ref a from rx)
  cases (show u = Value.ref b from ry)
  obtain ⟨_, ya, va, ra, da⟩ := dk_of I.hok ea
  obtain ⟨_, yb, vb, rb, db⟩ := dk_of I.hok eb
  refine PySem.W.keq_eq (r := subD d e) ya yb da db (by omega) (fun _ => hits_dk rb ra) (fin_bl I q ?_)
  unfold eqD
  rw [← ra.length, ← rb.length, dk_length, dk_length]
  rfl
theorem op_neDD (hu : X.A.units + 1 < cLine) : OpR X (compareOp .NotEq) (rEqDD (!·)) := by
  intro pins s σ H x y v u Q I rx ry h
  obtain ⟨a, b, d, e, rfl, rfl, ea, eb, q⟩ := h
  cases (show v = Value.ref a from rx)
  cases (show u = Value.ref b from ry)
  obtain ⟨_, ya, va, ra, da⟩ := dk_of I.hok ea
  obtain ⟨_, yb, vb, rb, db⟩ := dk_of I.hok eb
  refine PySem.W.keq_ne (r := subD d e) ya yb da db (by omega) (fun _ => hits_dk rb ra) (fin_bl I q ?_)
  unfold eqD
  rw [← ra.length, ← rb.length, dk_length, dk_length]
/-! ### the text of such a dict -/
def dP (d : List (Str × Int)) : PyData := .dict (d.map fun p => (.str p.1, .int p.2))
theorem pairs_reads {h : Heap} {P : Program} {w : World} : ∀ {d : List (Str × Int)} {va : List (Key × Value)} {es : List DictEntry}, KV (dk d) va → Pairs (mixKind P w) es va →
    ReadsAll h (es.map (·.key)) ((d.map fun p => ((PyData.str p.1, PyData.int p.2) : PyData × PyData)).map (·.1)) [] ∧ ReadsAll h (es.map (·.val)) ((d.map fun p => ((PyData.str p.1, PyData.int p.2) : PyData × PyData)).map (·.2)) [] := by
  intro d
  induction d with
  | nil =>
    intro va es ra pr
    cases ra
    cases pr
    exact ⟨.nil, .nil⟩
  | cons p r ih =>
    intro va es ra pr
    cases ra with
    | @cons _ q _ qs h1 t =>
      obtain ⟨h1, h2⟩ := h1
      obtain ⟨k, v⟩ := q
      obtain ⟨tk, h3⟩ := (show ∃ tk, v = Value.int p.2 tk from h2)
      have h4 : (Sum.inr p.1 : Key) = k := h1
      clear h1 h2
      subst h4
      subst h3
      cases pr with
      | @cons e1 _ er _ k1 k2 k3 =>
        obtain ⟨i1, i2⟩ := ih t k3
        have k1' : keyIs (Sum.inr p.1) e1.key = true := k1
        obtain ⟨t2, hk2⟩ : ∃ t2, e1.key = .str p.1 t2 := by
          rcases keyIs_shape k1' with ⟨j, t2, z, _⟩ | ⟨y, t2, z, q⟩
          · cases z
          · cases z
            exact ⟨t2, q⟩
        have k2' : e1.val = Value.int p.2 tk := k2
        refine ⟨?_, ?_⟩
        · rw [List.map_cons, hk2]
          exact ReadsAll.cons (Reads.str _ _) i1
        · rw [List.map_cons, k2']
          exact ReadsAll.cons (Reads.int _ _) i2
theorem dk_reads {a : Addr} {d : List (Str × Int)} (I : Inv X pins σ H s) (h : H a = some (.dK (dk d))) : ∃ as, Reads s.heap (.ref a) (dP d) as ∧ sysModules ∉ as := by
  obtain ⟨_, hd, vs, kv, o, es, ep, ho, hx, hdt, hk, hp, _⟩ := dk_of I.hok h
  have na : a ≠ sysModules := by simpa using hd
  obtain ⟨r1, r2⟩ := pairs_reads (h := s.heap) kv hp
  refine ⟨_, Reads.dict ho hx.1 hdt r1 r2, ?_⟩
  simp
  exact na.symm
end
section
variable {X : Cx} {k : Nat} {e : Expr} {te : TE} {pos : Pos}
/-- {x!r}, x a dict from texts to ints -/
def tFmtRD (te : TE) : TE := fun σ H Q => te σ H fun x H1 => ∃ a d, x = .ref a ∧ H1 a = some (.dK (dk d)) ∧ (dP d).showable = true ∧ (dP d).shown.length ≤ sizeLine ∧ Q (.str (dP d).shown) H1
theorem pe_fmtRD (hr : RoomG k X.A) (he : PE X e te) : PE X (.FormattedValue e 114 none pos) (tFmtRD te) := by
  constructor
  intro pins s σ H Q I h
  refine wpAny_FormattedValue_repr (thn (he.run pins s σ H _ I h) ?_)
  rintro v s1 ⟨x, H1, I1, rx, a, d, rfl, ea, hw, hz, q⟩
  cases (show v = Value.ref a from rx)
  obtain ⟨as, rd, nm⟩ := dk_reads I1 ea
  have hdep : (dP d).depth ≤ 1 := by
    unfold dP
    simp only [PyData.depth]
    have : ∀ d : List (Str × Int), PyData.depthKv (d.map fun p => (PyData.str p.1, PyData.int p.2)) = 0 := by
      intro d
      induction d with
      | nil => simp [PyData.depthKv]
      | cons p r ih => simp [PyData.depthKv, PyData.depth, ih]
    rw [this]
    exact Nat.le_refl _
  have hA : X.A.units + (dP d).depth < cLine := by
    have := hr.r.un
    omega
  refine pyReprObj_of_reads rd hw (fun _ => nm) hr.g hA (fun _ _ e => e) (fun h' u tk hk => ?_) hz
  exact wpAny_formatField_str ⟨.str (dP d).shown, H1, I1.kept (t' := tk) hk, ⟨_, rfl⟩, q⟩ ⟨.str (dP d).shown, H1, (I1.kept (t' := tk) hk).tok _, ⟨_, rfl⟩, q⟩ hz
end
end My

namespace My
open PySem L2 PySem.Spec PyProof.Rows Sem
section
variable {prog : Program} {w : World} {A : Around} {E : Value → Shared → Prop} {s : Shared}
theorem wpAny_putDict {d : Addr} {kvs : List (Key × Value)} {k : Key} {key v : Value} {Q : Unit → Shared → Prop} (hkey : (mixKind prog w).is k key = true) (hm : s.heap.DictOf (mixKind prog w) d kvs)
    (hQ : ∀ h', h'.DictOf (mixKind prog w) d (stored kvs k v) → Heap.SameBut d s.heap h' → Q () { s with heap := h' }) (hsz : kvs.length ≤ sizeLine) :
    wpAny (model prog w) A (dictPut d ((mixKind prog w).hash k) key v) Q E s := by
  obtain ⟨o, es, ep, ho, hc, hd, hk, hp, hn⟩ := hm
  have hes : es.size ≤ sizeLine := by
    have e1 := hp.length
    have e2 : es.toList.length = es.size := by simp
    omega
  have hidx : (es.findIdx? fun e => (mixKind prog w).is k e.key) = kvs.findIdx? fun kv => decide (kv.1 = k) := by
    rw [← hp.findIdx k]
    obtain ⟨l⟩ := es
    simp
  unfold dictPut
  refine wpAny_bind (wpAny_dictFind_of hkey ho hd hk ?_)
  cases hi : es.findIdx? fun e => (mixKind prog w).is k e.key with
  | some i =>
    have hany := any_of_findIdx_some (hidx ▸ hi)
    refine wpAny_updateDict ho hd (hQ _ ⟨_, _, ep, Heap.get?_update_self _ ho (Obj.isFreed_of_dict (Obj.data_mapDict hd _)), hc.mapDict _, Obj.data_mapDict hd _, hk.modify _ _, ?_, ?_⟩ (Heap.SameBut.update ..))
    · have hl : (es.toList.findIdx? fun e => (mixKind prog w).is k e.key) = some i := by
        rw [← hi]
        obtain ⟨l⟩ := es
        simp
      have := hp.modify hn hl v
      rw [stored, if_pos hany]
      obtain ⟨l⟩ := es
      simpa using this
    · rw [stored, if_pos hany, keys_map_store]
      exact hn
  | none =>
    have hnot : k ∉ kvs.map (·.1) := not_mem_of_findIdx_none (hidx ▸ hi)
    have hany : ¬ (kvs.any fun kv => decide (kv.1 = k)) = true := by
      intro z
      obtain ⟨kv, hkv, he⟩ := List.any_eq_true.mp z
      exact hnot (List.mem_map.mpr ⟨kv, hkv, of_decide_eq_true he⟩)
    refine wpAny_updateDictKeys (hz := hes) ho hd (hQ _ ⟨_, _, ep + 1, Heap.get?_update_self _ ho (Obj.isFreed_of_dict (Obj.data_mapDictKeys hd _)), hc.mapDictKeys _, Obj.data_mapDictKeys hd _, hk.push hkey _, ?_, ?_⟩ (Heap.SameBut.update ..))
    · have := hp.append hkey ((mixKind prog w).hash k) v
      rw [stored, if_neg hany]
      obtain ⟨l⟩ := es
      simpa using this
    · rw [stored, if_neg hany, List.map_append, List.nodup_append]
      refine ⟨hn, by simp, fun a ha b hb => ?_⟩
      simp only [List.map_cons, List.map_nil, List.mem_singleton] at hb
      rw [hb]
      exact fun e => hnot (e ▸ ha)
theorem loop_none {es : Array DictEntry} (hk : KeysOf (mixKind prog w) es) : ∀ e ∈ es.toList, ∀ a : Addr, e.key ≠ .ref a := by
  intro e he a z
  obtain ⟨k, h1, _⟩ := hk e (by simpa using he)
  have h1' : keyIs k e.key = true := h1
  rcases keyIs_shape h1' with ⟨j, t2, z1, q⟩ | ⟨y, t2, z1, q⟩
  · rw [z] at q
    cases q
  · rw [z] at q
    cases q
theorem wpAny_mergeDD {d o : Addr} {kvs more : List (Key × Value)} {Q : Unit → Shared → Prop} (hdo : d ≠ o) (hoS : (o == sysModules) = false) (hd : s.heap.DictOf (mixKind prog w) d kvs) (ho : s.heap.DictOf (mixKind prog w) o more)
    (hQ : ∀ h', h'.DictOf (mixKind prog w) d (merged kvs more) → Heap.SameBut d s.heap h' → Q () { s with heap := h' }) (hsz : kvs.length + more.length ≤ sizeLine) :
    wpAny (model prog w) A (mergeMapping d (.ref o) false) Q E s := by
  obtain ⟨od, esd, epd, hod, hcd, hdd, hkd, hpd, hnd⟩ := id hd
  obtain ⟨oo, eso, epo, hoo, hco, hdo', hko, hpo, hno⟩ := id ho
  have hlen : more.length = eso.size := by
    rw [← hpo.length]
    simp
  have loop : wpAny (model prog w) A (do
      let l ← dictEntries o
      let epoch ← dictEpoch o
      forIn (List.range l.size) PUnit.unit fun i (_ : PUnit) => (do
          let l' ← dictEntries o
          match l'[i]? with
            | some e => do
              holding [e.key, e.val] (dictPut d e.hash e.key e.val)
              let ep' ← dictEpoch o
              if (ep' != epoch) = true then do
                  (PySem.unsupported "dict.changed-during-merge" : Sem PUnit)
                  Pure.pure (ForInStep.yield PUnit.unit)
                else Pure.pure (ForInStep.yield PUnit.unit)
            | _ => do
              (PySem.unsupported "dict.changed-during-merge" : Sem PUnit)
              Pure.pure (ForInStep.yield PUnit.unit) : Sem (ForInStep PUnit))
      Pure.pure ()) Q E s := by
    refine wpAny_bind (wpAny_dictEntries hoo hdo' (wpAny_bind (wpAny_dictEpoch hoo hdo' (wpAny_bind ?_))))
    rw [List.range_eq_range']
    refine wpAny_forIn_list _ (fun rest _ s' => ∃ h' i, s' = { s with heap := h' } ∧ rest = List.range' i (eso.size - i) ∧ i ≤ eso.size ∧ h'.DictOf (mixKind prog w) d (merged kvs (more.take i)) ∧ h'.get? o = some oo ∧ Heap.SameBut d s.heap h') _ ?_ ?_ _ _
      ⟨s.heap, 0, rfl, by simp, Nat.zero_le _, by simpa [merged] using hd, hoo, Heap.SameBut.refl _ _⟩
    · rintro x rest b s' ⟨h', i, rfl, hr, hi, hd', hoo', hs'⟩
      have hlt : i < eso.size := by
        rcases Nat.lt_or_ge i eso.size with h | h
        · exact h
        · rw [Nat.sub_eq_zero_of_le h] at hr
          simp at hr
      have e1 : eso.size - i = (eso.size - (i + 1)) + 1 := by omega
      rw [e1, List.range'_succ] at hr
      injection hr with hx hrest
      subst hx
      obtain ⟨kv, hkv⟩ : ∃ kv, more[x]? = some kv := ⟨more[x]'(by rw [hlen]; exact hlt), List.getElem?_eq_getElem _⟩
      obtain ⟨k, v⟩ := kv
      obtain ⟨hkey, hval⟩ := hpo.get? (e := eso[x]) (by simp [hlt]) hkv
      obtain ⟨k', hkey', hhash⟩ := hko eso[x] (Array.getElem_mem hlt)
      have ek : k' = k := (mixKind prog w).inj _ _ _ hkey' hkey
      subst ek
      refine wpAny_bind (wpAny_dictEntries hoo' hdo' ?_)
      rw [Array.getElem?_eq_getElem hlt]
      show wpAny _ _ (holding [eso[x].key, eso[x].val] (dictPut d eso[x].hash eso[x].key eso[x].val) >>= _) _ _ _
      rw [hhash, hval]
      have hmx : (merged kvs (more.take x)).length ≤ sizeLine := by
        have l1 := merged_length_le kvs (more.take x)
        have l2 : (more.take x).length ≤ more.length := by
          rw [List.length_take]
          omega
        omega
      refine wpAny_bind (wpAny_holding (wpAny_putDict hkey hd' (fun h2 hd2 hs2 => ?_) hmx))
      have hoo2 : h2.get? o = some oo := (hs2.2 o (Ne.symm hdo)).trans hoo'
      refine wpAny_bind (wpAny_dictEpoch hoo2 hdo' ?_)
      rw [if_neg (by simp)]
      exact wpAny_pure ⟨h2, x + 1, rfl, hrest, hlt, by rw [merged_take_succ kvs more x (k', v) hkv]; exact hd2, hoo2, hs'.trans hs2⟩
    · rintro b s' ⟨h', i, rfl, hr, hi, hd', hoo', hs'⟩
      have hin : i = eso.size := by
        rcases Nat.lt_or_ge i eso.size with h | h
        · have e1 : eso.size - i = (eso.size - (i + 1)) + 1 := by omega
          rw [e1, List.range'_succ] at hr
          exact nomatch hr
        · exact Nat.le_antisymm hi h
      rw [hin, ← hlen, List.take_length] at hd'
      exact wpAny_pure (hQ h' hd' hs')
  unfold mergeMapping
  refine wpAny_bind (wpAny_isInstance (T := "dict") ho.typeIs PySem.F.sub_dict_dict ?_)
  rw [if_pos rfl]
  refine wpAny_bind (wpAny_specialOf ho.typeIs PySem.F.slot_dict_iter.lookup (wpAny_bind (wpAny_pure ?_)))
  simp only [beq_self_eq_true]
  rw [if_neg (by rw [hoS]; exact Bool.false_ne_true)]
  refine wpAny_bind (wpAny_dictEntries hod hdd ?_)
  split
  · refine wpAny_bind (wpAny_dictEntries hoo hdo' (wpAny_bind ?_))
    have nr := loop_none hko
    refine wpAny_forIn_array' _ (fun l _ s' => s' = s ∧ ∀ e ∈ l, ∀ a : Addr, e.key ≠ .ref a) _ (fun e rest b s1 hI => ?_) (fun b s1 hI => ?_) _ _ ⟨rfl, nr⟩
    · obtain ⟨rfl, hI⟩ := hI
      have ne := hI e List.mem_cons_self
      cases hk : e.key with
      | ref a => exact absurd hk (ne a)
      | _ =>
        dsimp only
        exact wpAny_pure ⟨rfl, fun e' h' => hI e' (List.mem_cons_of_mem _ h')⟩
    · obtain ⟨rfl, _⟩ := hI
      exact loop
  · exact loop
end
end My

namespace My
open PySem L2 PySem.Spec PyProof.Rows Sem
/-- {**d, k: v}, keys ints and texts -/
def tSplat (td tk tv : TE) : TE := fun σ H Q => ∀ p, H p = none → td σ (L2.upd H p (.dK [])) fun x H1 => ∃ (a : Addr) (kvs : List (Key × V)), x = .ref a ∧ a ≠ p ∧ H1 p = some (.dK []) ∧ Rd H1 a (.dK kvs) ∧
  ∀ q, q ≠ p → (L2.upd H1 p (.dK (mergeK [] kvs))) q = none → tk σ (L2.upd (L2.upd H1 p (.dK (mergeK [] kvs))) q (.dK [])) fun y H2 => tv σ H2 fun z H3 => ∃ (k : Key) (ms : List (Key × V)), y = kV k ∧ H3 q = some (.dK []) ∧ H3 p = some (.dK ms) ∧ ms.length < sizeLine ∧
    Q (.ref p) (L2.upd (L2.upd H3 q (.dK [(k, z)])) p (.dK (mergeK ms [(k, z)])))
section
variable {X : Cx} {d k v : Expr} {td tk tv : TE} {pos : Pos}
theorem pe_splat (hd : PE X d td) (hk : PE X k tk) (hv : PE X v tv) : PE X (.Dict [none, some k] [d, v] pos) (tSplat td tk tv) := by
  constructor
  intro pins s σ H Q I h
  rw [arm_eval_Dict]
  refine wpAny_bind (wpAny_standAt ?_)
  have e1 : (evalEachOpt [none, some k] X.env).zip ((evalEach [d, v] X.env).map fun v => do let x ← v; standAt pos; Pure.pure x) = [(none, (do let x ← eval d X.env; standAt pos; Pure.pure x)), (some (eval k X.env), (do let x ← eval v X.env; standAt pos; Pure.pure x))] := by
    rfl
  rw [e1]
  unfold dictDisplay
  simp only [List.forIn_cons, List.forIn_nil, List.isEmpty_nil, if_true]
  have hn := I.hok.fresh (Nat.le_refl s.heap.objs.size)
  have I1 := I.laid (a := s.heap.objs.size) (o := .dK []) (h' := s.heap.push { cls := .type "dict", data := .dict #[] }) (t' := s.toks) (fun _ _ q => Heap.get?_push_of_some _ q) (Nat.le_refl _) (dk_empty s.heap I.big)
  refine wpAny_bind (wpAny_bind (wpAny_bind (wpAny_bind (wpAny_pure ?_))))
  refine wpAny_pure ?_
  dsimp only
  refine wpAny_bind (wpAny_alloc ?_)
  refine wpAny_bind (wpAny_holding (wpAny_bind (thn (hd.run pins _ σ _ _ I1 (h _ hn)) ?_)))
  rintro u s2 ⟨x, H1, I2, rx, a, kvs, rfl, nap, hp, ha, q⟩
  cases (show u = Value.ref a from rx)
  refine wpAny_bind (wpAny_standAt (wpAny_pure ?_))
  obtain ⟨zl, ya, va, ra, da⟩ := dk_rd I2.hok ha
  obtain ⟨_, yp, vp, rp, dp⟩ := dk_of I2.hok hp
  cases rp
  have hl := ra.length
  refine wpAny_bind (wpAny_onRaise (wpAny_tryCatch (wpAny_onRaise (wpAny_holding (wpAny_mergeDD (Ne.symm nap) ya dp da (fun h3 d3 s3 => ?_) (by simp; omega))))))
  have lm := length_mergeK kvs []
  rw [List.length_nil] at lm
  have he3 : ∃ z, h3.get? s.heap.objs.size = some z := let ⟨z, _, _, hz, _⟩ := d3; ⟨z, hz⟩
  have I3 := d_write (t' := s2.toks) I2 (by rw [hp]; exact True.intro) s3 he3 (dk_new (by omega) yp (ra.merge .nil) d3)
  have big3 := I3.big
  have pl : s.heap.objs.size < h3.objs.size := by
    obtain ⟨z, hz⟩ := he3
    exact Heap.lt_size hz
  have n4 := I3.hok.fresh (Nat.le_refl h3.objs.size)
  have I4 := I3.laid (a := h3.objs.size) (o := .dK []) (h' := h3.push { cls := .type "dict", data := .dict #[] }) (t' := s2.toks) (fun _ _ q => Heap.get?_push_of_some _ q) (Nat.le_refl _) (dk_empty h3 I3.big)
  have q' := q h3.objs.size (Nat.ne_of_gt pl) n4
  refine wpAny_pure ?_
  dsimp only
  rw [if_neg (by simp)]
  refine wpAny_bind (wpAny_pure ?_)
  dsimp only
  refine wpAny_pure ?_
  rw [if_neg (by simp)]
  dsimp only
  refine wpAny_bind (wpAny_bind (wpAny_holding (wpAny_subDict (knd := mixKind X.prog X.w) (by simp) ?_)))
  refine evalPairs_cons (thn (hk.run pins _ σ _ _ I4 q') ?_)
  rintro yv s5 ⟨y, H5, I5, ry, q5⟩
  refine wpAny_bind (thn (hv.run pins s5 σ H5 _ I5 q5) ?_)
  rintro zv s6 ⟨z, H6, I6, rz, ky, ms, rfl, eq, ep, lms, q6⟩
  refine wpAny_bind (wpAny_standAt (wpAny_pure (evalPairs_nil ?_)))
  obtain ⟨_, yq, vq, rq, dq⟩ := dk_of I6.hok eq
  cases rq
  refine ⟨[(ky, zv)], ⟨kV_is ry, rfl, True.intro⟩, dq, fun h7 d7 s7 => ?_⟩
  have he7 : ∃ z, h7.get? h3.objs.size = some z := let ⟨z, _, _, hz, _⟩ := d7; ⟨z, hz⟩
  have k1 : KV [(ky, z)] [(ky, zv)] := .cons ⟨rfl, rz⟩ .nil
  have I7 := d_write (t' := s6.toks + 1) I6 (by rw [eq]; exact True.intro) s7 he7 (dk_new (by rw [sizeLine_eq]; show 1 ≤ 16777216; decide) yq (k1.merge .nil) d7)
  have ep7 : (L2.upd H6 h3.objs.size (.dK (mergeK [] [(ky, z)]))) s.heap.objs.size = some (.dK ms) := (upd_ne (Nat.ne_of_lt pl)).trans ep
  obtain ⟨_, yp7, vp7, rp7, dp7⟩ := dk_of I7.hok ep7
  have lp7 := rp7.length
  refine wpAny_bind (wpAny_onRaise (wpAny_holding (wpAny_mergeDD (Nat.ne_of_lt pl) yq dp7 d7 (fun h8 d8 s8 => ?_) (by rw [← lp7]; show ms.length + 1 ≤ sizeLine; omega))))
  have he8 : ∃ z, h8.get? s.heap.objs.size = some z := let ⟨z, _, _, hz, _⟩ := d8; ⟨z, hz⟩
  have lm8 := length_mergeK [(ky, z)] ms
  have I8 := d_write (t' := s6.toks + 1) I7 (by rw [ep7]; exact True.intro) s8 he8 (dk_new (by rw [List.length_singleton] at lm8; omega) yp7 (k1.merge rp7) d8)
  refine wpAny_pure ?_
  dsimp only
  refine wpAny_pure ⟨.ref s.heap.objs.size, _, I8, rfl, ?_⟩
  exact q6
end
end My

namespace My
open PySem L2 PySem.Spec PyProof.Rows Sem
/-! ### a def with **kw: what it gathers -/
def kwK (ex : List (Str × Value)) : List (Key × Value) := ex.map fun x => (.inr x.1, x.2)
section
variable {prog : Program} {w : World} {A : Around} {E : Value → Shared → Prop} {d : Addr}
theorem nsSet_at {s : Shared} {es : List DictEntry} {n : Nat} {k : Str} {v : Value} {Q : Unit → Shared → Prop} (D : s.heap.get? d = some (PySem.W.dictOf es n)) (hs : ∀ e ∈ es, e.key.isStr k = false) (hr : ∀ e ∈ es, e.refKey = false)
    (h : ∀ h', h'.get? d = some (PySem.W.dictOf (es ++ [⟨PyData.keyHash w.params k, .str k s.toks, v⟩]) (n + 1)) → Heap.SameBut d s.heap h' → Q () { s with heap := h', toks := s.toks + 1 }) : wpAny (model prog w) A (nsSet d k v) Q E s := by
  have e1 : es.any (·.key.isStr k) = false := by
    rw [Bool.eq_false_iff]
    intro q
    obtain ⟨e, he, z⟩ := List.any_eq_true.mp q
    rw [hs e he] at z
    cases z
  have e2 : es.any (·.refKey) = false := by
    rw [Bool.eq_false_iff]
    intro q
    obtain ⟨e, he, z⟩ := List.any_eq_true.mp q
    rw [hr e he] at z
    cases z
  have put : Obj.putName k (PyData.keyHash w.params k) (.str k s.toks) v (PySem.W.dictOf es n) = PySem.W.dictOf (es ++ [⟨PyData.keyHash w.params k, .str k s.toks, v⟩]) (n + 1) := by
    rw [PySem.W.putName_dict, PySem.W.putL_new hs]
    show PySem.W.dictOf _ (if es.any (·.key.isStr k) then n else n + 1) = _
    rw [e1, if_neg Bool.false_ne_true]
  have c : aRefKeyMayBeTheName k es.toArray = false := by
    rw [aRefKeyMayBeTheName_at, ← Array.any_toList, ← Array.any_toList]
    show (!es.any (·.key.isStr k) && es.any (·.refKey)) = false
    rw [e2, Bool.and_false]
  unfold nsSet
  refine wpAny_bind (wpAny_bind (wpAny_askSetting (wpAny_pure (wpAny_bind (wpAny_mkText (wpAny_bind (wpAny_loadPart D ?_)))))))
  dsimp only
  rw [c]
  refine wpAny_updatePart D (h _ ?_ (Heap.SameBut.update ..))
  rw [← put]
  exact Heap.get?_update_self _ D ((congrArg Obj.isFreed put).trans rfl)
theorem fill_at {Q : PUnit → Shared → Prop} : ∀ (ex : List (Str × Value)) (s : Shared) (es : List DictEntry) (n : Nat), s.heap.get? d = some (PySem.W.dictOf es n) → (∀ e ∈ es, ∀ x ∈ ex, e.key.isStr x.1 = false) → (∀ e ∈ es, e.refKey = false) → (ex.map (·.1)).Nodup →
    (∀ h', h'.get? d = some (PySem.W.dictOf (es ++ PySem.W.kwEs w.params s.toks ex) (n + ex.length)) → Heap.SameBut d s.heap h' → Q ⟨⟩ { s with heap := h', toks := s.toks + ex.length }) →
    wpAny (model prog w) A (forIn ex PUnit.unit fun x _ => (nsSet d x.1 x.2 >>= fun _ => Pure.pure (ForInStep.yield PUnit.unit))) Q E s := by
  intro ex
  induction ex with
  | nil =>
    intro s es n D _ _ _ h
    rw [List.forIn_nil]
    refine wpAny_pure (h s.heap ?_ (Heap.SameBut.refl _ _))
    show s.heap.get? d = some (PySem.W.dictOf (es ++ []) (n + 0))
    rw [List.append_nil]
    exact D
  | cons x r ih =>
    intro s es n D h1 h2 h3 h
    rw [List.map_cons, List.nodup_cons] at h3
    rw [List.forIn_cons]
    refine wpAny_bind (wpAny_bind (nsSet_at D (fun e he => h1 e he x List.mem_cons_self) h2 fun h' D' s' => wpAny_pure ?_))
    refine ih { s with heap := h', toks := s.toks + 1 } _ _ D' (fun e he y hy => ?_) (fun e he => ?_) h3.2 fun h5 D5 s5 => ?_
    · rcases List.mem_append.mp he with z | z
      · exact h1 e z y (List.mem_cons_of_mem _ hy)
      · rw [List.mem_singleton.mp z]
        show (x.1 == y.1) = false
        exact beq_false_of_ne fun q => h3.1 (List.mem_map.mpr ⟨y, hy, q.symm⟩)
    · rcases List.mem_append.mp he with z | z
      · exact h2 e z
      · rw [List.mem_singleton.mp z]
        rfl
    · have q := h h5 (by
        rw [D5, List.append_assoc]
        show _ = some (PySem.W.dictOf _ (n + (r.length + 1)))
        rw [show n + 1 + r.length = n + (r.length + 1) by omega]
        rfl) (s'.trans s5)
      have e : s.toks + 1 + r.length = s.toks + (r.length + 1) := by omega
      show Q _ { s with heap := h5, toks := s.toks + 1 + r.length }
      rw [e]
      exact q
theorem kwEs_mix : ∀ (ex : List (Str × Value)) (t : Tok), Pairs (mixKind prog w) (PySem.W.kwEs w.params t ex) (kwK ex)
  | [], _ => Pairs.nil
  | x :: r, t => Pairs.cons (kV_is (P := prog) (w := w) (k := .inr x.1) ⟨t, rfl⟩) rfl (kwEs_mix r (t + 1))
theorem kw_dict {h : Heap} {ex : List (Str × Value)} {t : Tok} {n : Nat} (e : h.get? d = some (PySem.W.dictOf (PySem.W.kwEs w.params t ex) n)) (nd : (ex.map (·.1)).Nodup) : h.DictOf (mixKind prog w) d (kwK ex) := by
  refine ⟨_, _, n, e, ⟨rfl, rfl, rfl⟩, rfl, fun e he => ?_, by simpa using kwEs_mix ex t, ?_⟩
  · obtain ⟨k, u, hk, hh⟩ := PySem.W.kwEs_key ex t e (List.mem_toArray.mp he)
    refine ⟨.inr k, ?_, ?_⟩
    · rw [hk]
      exact kV_is (P := prog) (w := w) (k := .inr k) ⟨u, rfl⟩
    · exact hh.trans rfl
  · unfold kwK
    rw [List.map_map]
    have e2 : ((fun x : Key × Value => x.1) ∘ fun x : Str × Value => ((Sum.inr x.1, x.2) : Key × Value)) = (Sum.inr : Str → Key) ∘ fun x : Str × Value => x.1 := rfl
    rw [e2, ← List.map_map]
    exact List.Pairwise.map _ (fun a b (h : a ≠ b) q => h (Sum.inr.inj q)) nd
end
section
variable {prog : Program} {w : World} {A : Around} {E : Value → Shared → Prop}
theorem gather (kw : List (Str × Value)) (g : Str × Value → List (Str × Value) × List (Str × Value) → Sem (ForInStep (List (Str × Value) × List (Str × Value)))) (hg : ∀ x e, g x ([], e) = Pure.pure (.yield ([], e ++ [x]))) :
    ∀ e : List (Str × Value), forIn kw (([], e) : List (Str × Value) × List (Str × Value)) g = Pure.pure ([], e ++ kw) := by
  induction kw with
  | nil =>
    intro e
    rw [List.forIn_nil, List.append_nil]
  | cons x r ih =>
    intro e
    rw [List.forIn_cons, hg, pure_bind]
    show forIn r ([], e ++ [x]) g = _
    rw [ih, List.append_assoc]
    rfl
theorem bind_kw {fd : FuncData} {kw : List (Str × Value)} {p : Arg} {s : Shared} {Q : List (Str × Value) → Shared → Prop} (h1 : fd.params = { posonlyargs := [], args := [], vararg := none, kwonlyargs := [], kw_defaults := [], kwarg := some p, defaults := [] }) (h2 : fd.defaults = .none) (nd : (kw.map (·.1)).Nodup) (hz : kw.length ≤ 1000)
    (h : ∀ h' tk, h'.DictOf (mixKind prog w) s.heap.objs.size (kwK kw) → (∀ b o, s.heap.get? b = some o → h'.get? b = some o) → Q [(p.arg, .ref s.heap.objs.size)] { s with heap := h', toks := tk }) :
    wpAny (model prog w) A (bindArgs fd ⟨[], kw⟩) Q E s := by
  unfold bindArgs
  rw [h1, h2]
  simp only [List.map_nil, List.append_nil, List.length_nil, List.zip_nil_left, List.contains_nil, Bool.false_or, Option.isSome_some, if_true, Bool.false_eq_true, if_false]
  rw [gather kw _ (fun x e => rfl) [], pure_bind, List.nil_append]
  have e0 : (seqItems? Value.none : Sem (Option (Array Value))) = Pure.pure none := rfl
  rw [e0, pure_bind]
  simp only [Option.getD_none, List.drop_nil, List.take_nil, List.filter_nil, List.isEmpty_nil, List.length_nil, List.zip_nil_left, List.forIn_nil, pure_bind, Bool.not_true, Bool.false_eq_true, if_false, List.filterMap_nil, List.nil_append]
  rw [if_neg (by decide), if_neg (by rw [sizeLine_eq]; omega)]
  refine wpAny_bind (wpAny_alloc (wpAny_bind ?_))
  have D0 : (s.heap.push { cls := Value.type "dict", data := Data.dict #[] }).get? s.heap.objs.size = some (PySem.W.dictOf [] 0) := Heap.get?_push_size _ rfl
  refine fill_at kw { s with heap := s.heap.push { cls := Value.type "dict", data := Data.dict #[] } } [] 0 D0 (fun e he => nomatch he) (fun e he => nomatch he) nd fun h' D' s' => wpAny_pure ?_
  rw [List.nil_append] at D'
  refine h h' (s.toks + kw.length) (kw_dict D' nd) fun b o e => ?_
  have nb : b ≠ s.heap.objs.size := Nat.ne_of_lt (Heap.lt_size e)
  exact (s'.2 b nb).trans (Heap.get?_push_of_some _ e)
/-! ### C.m(k = v, ..), m a staticmethod with **kw alone -/
end
section
variable {X : Cx} {pins : List (Addr × Obj)} {σ : L2.St} {H : Hp} {s : Shared} {C p f : Addr} {m : Str} {mc : Value} {k : Nat}
/-- C.m is a staticmethod: its record at p, its def at f -/
structure StaM (K : PySem.W.Frag) (C : Addr) (m : Str) (f : Addr) : Prop where
  ex : ∃ (mc : Value) (p : Addr) (rest : List Value), PySem.W.readsIn K C mc = true ∧ PySem.W.specialIn K (.ref C) "__getattribute__" = some (some (.builtin "type.__getattribute__")) ∧
    PySem.W.findCls K (.ref C) mc m = some (.get (.builtin "staticmethod.__get__") (.ref p) .none (.ref C)) ∧ PySem.W.recIn K p "staticmethod" = some (.ref f :: rest)
  kp : PySem.W.keepIn K (.ref f) = true
theorem getsta {pl : Sem Bool} {A : Around} {E : Value → Shared → Prop} {Q : Value × List Value → Shared → Prop} (I : Inv X pins σ H s) (r : StaM X.K C m f) (h : ∀ s', Inv X pins σ H s' → Q (.ref f, []) s') : wpAny (model X.prog X.w) A (getMethod (.ref C) m pl) Q E s := by
  obtain ⟨mc, p, rest, r1, r2, r3, r4⟩ := r.ex
  refine PySem.W.method_cls I.kIn r2 (PySem.W.cls_bind I.kIn r1 r3 (wpAny_call (PySem.W.sm_get (s := { s with toks := s.toks + 1 }) I.kIn r4 (PySem.W.handed_on rfl ?_))))
  exact h _ (I.tok _)
/-- the promise of a def whose one parameter is **kw: the pairs handed in -/
def keyV (ks : List Str) (zs : List V) : List (Key × V) := (ks.zip zs).map fun x => (.inr x.1, x.2)
theorem kv_zip : ∀ {ks : List Str} {zs : List V} {us : List Value}, Vals zs us → KV (keyV ks zs) (kwK (ks.zip us))
  | [], _, _, _ => by
    show KV ([] : List (Key × V)) ([] : List (Key × Value))
    exact .nil
  | _ :: _, _, _, .nil => by
    show KV ([] : List (Key × V)) ([] : List (Key × Value))
    exact .nil
  | k :: ks, _, _, .cons r t => .cons ⟨rfl, r⟩ (kv_zip t)
end
end My

namespace My
open PySem L2 PySem.Spec PyProof.Rows Sem
theorem pe_globE {X : Cx} {x : Str} {v : V} {pos : Pos} (hg : Gl X x) (h : ∃ u, X.mg x = some u ∧ RelV v u) (hdb : (x == ("__debug__" : Str)) = false := by decide) : PE X (.Name x pos) (tC v) := by
  obtain ⟨u, h1, h2⟩ := h
  exact pe_glob hg h1 h2 hdb
section
variable {X : Cx} {pins : List (Addr × Obj)} {σ : L2.St} {H : Hp} {s : Shared} {C f : Addr} {fd : FuncData} {m x qual : Str} {k : Nat} {st : Stmt} {N : List Str} {p : Arg} {ks : List Str}
theorem zip_keys : ∀ {ks : List Str} {us : List Value}, us.length = ks.length → (ks.zip us).map (·.1) = ks
  | [], _, _ => rfl
  | k :: ks, [], h => by simp at h
  | k :: ks, u :: us, h => by
    show k :: (ks.zip us).map (·.1) = _
    rw [zip_keys (by simpa using h)]
/-- the promise of such a def: where its dict will stand, the heap with it -/
abbrev SpK := List V → Hp → VK → Prop
theorem go_kw {zs : List V} {us : List Value} {Q : VK} (F : FunD X.K x qual (defArgs st) (defBody st) (defScope st) [] [] f fd) (S : FnScope N [p.arg] (defScope st)) (hp : defArgs st = { posonlyargs := [], args := [], vararg := none, kwonlyargs := [], kw_defaults := [], kwarg := some p, defaults := [] })
    (nd : ks.Nodup) (hz : ks.length ≤ 1000) (hr : RoomG (k + 1) X.A) (I : Inv X pins σ H s) (rz : Vals zs us) (hl : zs.length = ks.length)
    (hb : ∀ (cdv : Value) (s1 : Shared) (d : Addr), H d = none → RoomG k (X.A.deeper (envOfC qual (defScope st) s1.heap.objs.size f cdv)) → ∃ t, PSs (cxOf CX0 X.prog X.w X.K X.mg X.base N qual (defScope st) f cdv X.A X.stack s1 (L2.upd H d (.dK (keyV ks zs))) E0) (defBody st) t ∧
      t { nx := fun _ H' => Q .non H', rt := Q } (L2.start N [.ref d]) (L2.upd H d (.dK (keyV ks zs)))) :
    wpAny (model X.prog X.w) X.A (call (.ref f) [] (ks.zip us)) (EP X pins σ Q) X.xe s := by
  obtain ⟨oc, od, dV, kV, doc, pm, an, cdv, ct, osl, rfl, lk, hcd, hD, _⟩ := F.ex
  have dV0 : dV = .none := by
    rcases hD with ⟨_, z⟩ | ⟨z, _⟩
    · exact z
    · exact absurd rfl z
  subst dV0
  have hlu : us.length = ks.length := rz.length.symm.trans hl
  have ndz : ((ks.zip us).map (·.1)).Nodup := by
    rw [zip_keys hlu]
    exact nd
  have lz : (ks.zip us).length ≤ 1000 := by
    rw [List.length_zip]
    omega
  refine wpAny_call (codeAny_mono (R := fun r s' => match r with | .ok (.ret u) => EP X pins σ Q u s' | _ => False) ?_ fun r s' hq => ?_)
  · refine codeAny_call_function hr.r.depth (I.kIn _ _ lk) rfl S.co S.gen rfl (PySem.W.codeRec_of I.kIn hcd) (bind_kw (by exact hp) rfl ndz lz fun h' tk hd hk => ?_)
    have nH := I.hok.fresh (Nat.le_refl s.heap.objs.size)
    have rel : KV (keyV ks zs) (kwK (ks.zip us)) := kv_zip rz
    have zl : (keyV ks zs).length ≤ sizeLine := by
      unfold keyV
      rw [List.length_map, List.length_zip, sizeLine_eq]
      omega
    have I1 := I.laid (a := s.heap.objs.size) (t' := tk) hk (Nat.le_refl _) (o := .dK (keyV ks zs)) ⟨zl, beq_eq_false_iff_ne.mpr (Ne.symm (Nat.ne_of_lt I.big)), _, rel, hd⟩
    have e0 := I1.env0
    refine wpAny_newFunctionEnv_cells S.kind ?_ fun env he s1 xx => ?_
    · rintro ⟨n, v⟩ hy
      have hn : n = p.arg := (show n = p.arg ∧ v = Value.ref s.heap.objs.size by simpa using hy).1
      subst hn
      cases S.par _ (List.mem_singleton.mpr rfl) with
      | inl q => exact Or.inl q
      | inr q => exact Or.inr ⟨q, PySem.W.cellsFrom_some _ _ _ (Or.inl q)⟩
    · subst he
      refine ⟨(I1.nolimit).keeps xx.toInCall.keep, codeAny_func ?_⟩
      obtain ⟨t, ht, hq⟩ := hb cdv { s with heap := h', toks := tk } s.heap.objs.size nH ⟨hr.r.deeper _, hr.g⟩
      have I0 := inv_start (CX := CX0) (P := X.prog) (E := E0) (ps := [p.arg]) (us := [.ref s.heap.objs.size]) (vs := [.ref s.heap.objs.size]) S hr.r.hd e0 rfl (.cons rfl .nil) xx
      refine wpAny_mono (ht.run [] s1 (L2.start N [.ref s.heap.objs.size]) _ _ I0 hq) ?_ (fun _ _ z => ?_)
      · intro fl s' hs
        have fin : ∀ {u : Value} {v : V} {H' : Hp} {σ' : L2.St}, Inv (cxOf CX0 X.prog X.w X.K X.mg X.base N qual (defScope st) f cdv X.A X.stack { s with heap := h', toks := tk } (L2.upd H s.heap.objs.size (.dK (keyV ks zs))) E0) [] σ' H' s' → RelV v u → Q v H' → EP X pins σ Q u s' := fun {u v H' σ'} J rv q => I1.after ⟨v, H', J.os, J.bare, J.base, J.hok, rv, q⟩
        cases fl with
        | ret u => obtain ⟨v, σ', H', J, rv, q⟩ := hs; exact fin J rv q
        | next => obtain ⟨σ', H', J, q⟩ := hs; exact fin (v := V.non) J rfl q
        | brk => exact hs.elim fun _ z => z.elim fun _ y => y.2.elim
        | cont => exact hs.elim fun _ z => z.elim fun _ y => y.2.elim
      · exact z
  · cases r with
    | error e => exact (show False from hq).elim
    | ok fl => cases fl with
      | ret u => exact hq
      | next => exact (show False from hq).elim
      | brk => exact (show False from hq).elim
      | cont => exact (show False from hq).elim
/-- C.m(k = v, ..) -/
def tStaK (l : Nat) (sp : SpK) (tk : TA) : TE := fun σ H Q => tk σ H fun zs H1 => zs.length = l ∧ sp zs H1 Q
/-- a staticmethod with **kw by its class's name -/
structure StaK (P : Program) (w : World) (K : PySem.W.Frag) (mg : Str → Option Value) (base : Heap) (y : Str) (C : Addr) (m : Str) (k : Nat) (ks : List Str) (sp : SpK) : Prop where
  ex : ∃ (f : Addr) (fd : FuncData) (qual : Str) (st : Stmt) (N : List Str) (p : Arg), mg y = some (.ref C) ∧ StaM K C m f ∧ FunD K m qual (defArgs st) (defBody st) (defScope st) [] [] f fd ∧ FnScope N [p.arg] (defScope st) ∧
    defArgs st = { posonlyargs := [], args := [], vararg := none, kwonlyargs := [], kw_defaults := [], kwarg := some p, defaults := [] } ∧ ks.Nodup ∧ ks.length ≤ 1000 ∧
    ∀ (cdv : Value) (A : Around) (outer : List Env) (s1 : Shared) (H : Hp) (zs : List V) (Q : VK) (d : Addr), zs.length = ks.length → H d = none → sp zs H Q → RoomG k (A.deeper (envOfC qual (defScope st) s1.heap.objs.size f cdv)) →
      ∃ t, PSs (cxOf CX0 P w K mg base N qual (defScope st) f cdv A outer s1 (L2.upd H d (.dK (keyV ks zs))) E0) (defBody st) t ∧ t { nx := fun _ H' => Q .non H', rt := Q } (L2.start N [.ref d]) (L2.upd H d (.dK (keyV ks zs)))
theorem pe_staK {y : Str} {sp : SpK} {tk : TA} {kws : List Keyword} {p1 pos apos : Pos} {pl : Sem Bool} (D : StaK X.prog X.w X.K X.mg X.base y C m k ks sp) (hr : RoomG (k + 1) X.A) (hg : Gl X y) (hkw : PK X kws tk)
    (hall : (backToKw pos (keywordEach kws X.env)).all (·.1.isSome) = true := by rfl) (hks : (backToKw pos (keywordEach kws X.env)).filterMap (·.1) = ks := by rfl)
    (hpl : ((backTo pos (starEach [] X.env)).any (fun q => q.1) || (backToKw pos (keywordEach kws X.env)).any (fun q => q.1.isNone)) = false := by rfl)
    (h3 : eval (.Call (.Attribute (.Name y p1) m apos) [] kws pos) X.env = (do
      let v ← eval (.Name y p1) X.env
      standAt apos.atName
      let (g, fst) ← holding [v] (getMethod v m pl)
      callWith pos g fst (backTo pos (starEach [] X.env)) (backToKw pos (keywordEach kws X.env))) := by rfl) (hdb : (y == ("__debug__" : Str)) = false := by decide) : PE X (.Call (.Attribute (.Name y p1) m apos) [] kws pos) (tStaK ks.length sp tk) := by
  obtain ⟨f, fd, qual, st, N, p, hm, hS, F, S, hp, nd, hz, hb⟩ := D.ex
  constructor
  intro pins s σ H Q I h
  refine PySem.W.methodCall_KW (pl := pl) (ld_glob I hg hm ?_ hdb) h3
  refine getsta I hS fun s1 I1 => ?_
  refine PySem.W.callWith_KW0 (first := []) (h₀ := X.base) I1.ok.mod.kin hS.kp hall ?_ hpl
  refine thn (hkw.run pos pins s1 σ H _ I1 h) fun ws s2 ⟨zs, H2, I2, rz, l2, q2⟩ => ⟨I2.kIn, ?_⟩
  rw [hks]
  exact go_kw F S hp nd hz hr I2 rz l2 fun cdv s3 d nd' hr' => hb cdv X.A X.stack s3 H2 zs Q d l2 nd' q2 hr'
end
end My

namespace My
open PySem L2 PySem.Spec PyProof.Rows PySem.W
/-! ### an end by one run of the top -/
theorem walkGE {l : OpenLaw} {n k : Nat} {q : Program} {loose : List Str} {XP : (Str → Option Value) → Heap → Prop} {YP : World → Heap → Prop} {d : DefRec} {x : Str} (hn : l.most = some n) (hn2 : n ≤ sizeLine) (hdf : d.params.defaults = []) (hr : RoomG k callerA)
    (F : ∀ (w : World) (mg : Str → Option Value) (fa : Addr) (h : Heap), YP w h → h.Ns mainGlobals mg → mg d.name = some (.ref fa) → ∃ (K : Frag) (fd : FuncData) (sp : Sp), K.In h ∧ (∀ (s : Shared) (u : Value), BindsTo s fd ⟨[u], []⟩ [(x, u)]) ∧
      (∀ (H : Hp) (a : Addr) (ns : List Int), ns.length ≤ n → Only H → SqL K H a (ns.map V.int) → sp [.ref a] H (fun v _ => v = .bl true) E0) ∧ ∀ base : Heap, K.In base → base.Ns mainGlobals mg → FnG l.prog w K mg base CX0 k fa fd [x] sp) :
    WalkO q loose XP YP l.row.toRowW d [] (fun f vs => PySem.call f vs) := by
  refine Att.attach_call hn hdf ?_
  intro w s₀ s₁ mg mb fa o pm cd doc a vs ns G Y ho hd hcd hmg hobj hints hlen hg
  obtain ⟨K, fd, sp, KX, hb, hsp, hF⟩ := F w mg fa _ Y G.T.g hmg
  exact lawG KX G.T.g G.T.b G.T.builtins G.T.nolimit hg hobj hints (Nat.le_trans hlen hn2) hr hF hb fun H h1 h2 => hsp H a ns hlen h1 h2
/-! ### the facts of an exception class as one test -/
def exfB (K : Frag) (C : Addr) (mro : List Value) (newId : String) : Bool :=
  match K.lookup C with
    | some ⟨c, _, .cls cd, sl⟩ => decide (c = .type "type") && (decide (cd.mro = mro) && (cd.hasDict && (!cd.hasDel && (decide (sl.toList.length = 6) && decide (sl.toList[4]? = some (some (.builtin newId)))))))
    | _ => false
theorem exfB_ok {K : Frag} {C : Addr} {mro : List Value} {newId : String} (h : exfB K C mro newId = true) : ∃ (nm qn : Str) (bs sb : List Value) (ns : Addr) (sn : List Str) (ab : Bool) (co : Option Bool) (dd : Option Addr) (k0 k1 k2 k3 k5 : Option Value),
    K.lookup C = some ⟨.type "type", dd, .cls ⟨nm, bs, mro, ns, qn, true, sn, sb, ab, co, false⟩, #[k0, k1, k2, k3, some (.builtin newId), k5]⟩ := by
  unfold exfB at h
  split at h
  · rename_i c dd cd sl e
    simp only [Bool.and_eq_true, decide_eq_true_eq, Bool.not_eq_true'] at h
    obtain ⟨h1, h2, h3, h4, h5, h6⟩ := h
    obtain ⟨nm, bs, mr, ns, qn, hd, sn, sb, ab, co, hl⟩ := cd
    obtain ⟨l⟩ := sl
    dsimp only at h1 h2 h3 h4 h5 h6
    subst h1
    subst h2
    subst h3
    subst h4
    match l, h5, h6 with
    | [a0, a1, a2, a3, a4, a5], _, h6 =>
      have e4 : a4 = some (.builtin newId) := Option.some.inj h6
      subst e4
      exact ⟨nm, qn, bs, sb, ns, sn, ab, co, dd, a0, a1, a2, a3, a5, e⟩
  · cases h
def eqO (a b : Option (Option Value)) : Bool := decide (a = b)
def excB (K : Frag) (C : Addr) (mro : List Value) (newId : String) : Bool :=
  exfB K C mro newId && (eqO (findIn K (.ref C) "__setattr__") (some (some (.builtin "object.__setattr__"))) && (keepIn K (.ref C) && (eqO (findIn K (.ref C) "__getattribute__") (some (some (.builtin "BaseException.__getattribute__"))) &&
    (eqO (findIn K (.ref C) "__getattr__") (some none) && (eqO (findIn K (.ref C) "__class__") (some (some (.builtin "object.__class__"))) && decide (typeIn K (.ref C) = some (.type "type")))))))
theorem excB_ok {K : Frag} {C : Addr} {mro : List Value} {newId : String} (h : excB K C mro newId = true) : ExF K C mro newId := by
  unfold excB eqO at h
  simp only [Bool.and_eq_true, decide_eq_true_eq] at h
  obtain ⟨h1, h2, h3, h4, h5, h6, h7⟩ := h
  exact ⟨exfB_ok h1, h2, h3, h4, h5, h6, h7⟩
/-- an own __init__ -/
def iniB (K : Frag) (C : Addr) : Bool := eqO (findIn K (.ref C) "__init__") (some (some (.ref (He.ma K C "__init__")))) && isFn K (.ref (He.ma K C "__init__"))
theorem iniB_ok {K : Frag} {C : Addr} (h : iniB K C = true) : findIn K (.ref C) "__init__" = some (some (.ref (He.ma K C "__init__"))) ∧ isFn K (.ref (He.ma K C "__init__")) = true := by
  unfold iniB eqO at h
  simp only [Bool.and_eq_true, decide_eq_true_eq] at h
  exact h
/-- tests one behind the other, each found again by its place -/
theorem all_at {ts : List Bool} (h : (ts.all id) = true) (i : Nat) {b : Bool} (e : ts[i]? = some b) : b = true := by
  exact List.all_eq_true.mp h b (List.mem_of_getElem? e)
end My

namespace My
open PySem L2 PySem.Spec PyProof.Rows PySem.W
/-! ### defs that stand elsewhere: a staticmethod's, a property's -/
def fnA (K : Frag) (a : Addr) : He.FnW := match K.lookup a with
  | some ⟨_, _, .func fd, _⟩ => some (fd.name, fd.qualname, fd.params, fd.body, fd.scope, fd.globals, fd.closure, fd.builtins)
  | _ => none
def okA (K : Frag) (a : Addr) (d : He.DefD) : Bool := keepIn K (.ref a) && (match K.lookup a with
  | some ⟨_, _, .func fd, _⟩ => codeIn K fd.code d.qual && (He.dflB K fd.defaults (d.dvs K) && He.kwdB K fd.kwdefaults (d.kws K))
  | _ => false)
theorem funA {K : Frag} {a : Addr} {d : He.DefD} (e : fnA K a = d.val) (c : okA K a d = true) : ∃ fd, FunD K d.name d.qual d.params d.body d.scope (d.dvs K) (d.kws K) a fd := by
  obtain ⟨kp, c2⟩ := He.ba c
  unfold fnA at e
  cases q : K.lookup a with
  | none =>
    rw [q] at c2
    cases c2
  | some o =>
    obtain ⟨oc, od, dt, osl⟩ := o
    rw [q] at c2 e
    cases dt with
    | func fd =>
      obtain ⟨n1, n2, n3, n4, n5, n6, n7, n8, n9, n10, n11, n12, n13, n14, n15⟩ := fd
      have e2 : (some (n1, n2, n3, n4, n5, n6, n7, n15) : He.FnW) = some (d.name, d.qual, d.params, .stmts d.body, d.scope, mainGlobals, [], builtinsNs) := e
      simp only [Option.some.injEq, Prod.mk.injEq] at e2
      obtain ⟨h1, h2, h3, h4, h5, h6, h7, h8⟩ := e2
      subst h1 h2 h3 h4 h5 h6 h7 h8
      obtain ⟨k1, k2⟩ := He.ba (show (codeIn K n13 d.qual && (He.dflB K n8 (d.dvs K) && He.kwdB K n9 (d.kws K))) = true from c2)
      obtain ⟨k3, k4⟩ := He.ba k2
      exact ⟨_, ⟨oc, od, n8, n9, n10, n11, n12, n13, n14, osl, rfl, q, k1, He.dflB_ok k3, He.kwdB_ok k4⟩, kp⟩
    | _ => cases c2
abbrev AtD : Type := (Frag → Addr) × He.DefD
abbrev AlY : Type := He.AlD × (Bool × List He.FnW)
def obsY (fa : List He.Fa) (fn : List He.DefD) (ad : List AtD) (ex : Frag → Bool) (K : Frag) : AlY := (He.obsD fa fn K, (ex K && ad.all fun d => okA K (d.1 K) d.2, ad.map fun d => fnA K (d.1 K)))
def valY (fn : List He.DefD) (ad : List AtD) : AlY := (He.valD fn, (true, ad.map fun d => d.2.val))
def SaysY (fa : List He.Fa) (fn : List He.DefD) (ad : List AtD) (ex : Frag → Bool) (K : Frag) : Prop := obsY fa fn ad ex K = valY fn ad
def obsYG (n : Nat) (fa : List He.Fa) (fn : List He.DefD) (ad : List AtD) (ex : Frag → Bool) (g : Addr → Option Obj) : AlY := obsY fa fn ad ex (He.frG g (He.asD g n ++ [cStatics]))
def hookY (n : Nat) (fa : List He.Fa) (fn : List He.DefD) (ad : List AtD) (ex : Frag → Bool) : Hook where
  α := AlY
  obs := fun s => obsYG n fa fn ad ex s.heap.get?
  val := fun _ => valY fn ad
  says := fun _ h => ∃ K : Frag, K.In h ∧ SaysY fa fn ad ex K
  of := fun _ _ e => ⟨_, He.frG_in, e⟩
  keeps := fun _ _ _ ⟨K, hK, c⟩ k => ⟨K, Frag.In.keeps hK k, c⟩
theorem obsYG_eq {n : Nat} {fa : List He.Fa} {fn : List He.DefD} {ad : List AtD} {ex : Frag → Bool} {g : Addr → Option Obj} {s : Shared} (h : ∀ a, g a = s.heap.get? a) : obsYG n fa fn ad ex g = (hookY n fa fn ad ex).obs s := by
  have e : g = s.heap.get? := funext h
  rw [e]
  rfl
section
variable {fa : List He.Fa} {fn : List He.DefD} {ad : List AtD} {ex : Frag → Bool} {K : Frag}
theorem SaysY.d (c : SaysY fa fn ad ex K) : He.SaysD fa fn K := congrArg (fun z : AlY => z.1) c
theorem SaysY.more (c : SaysY fa fn ad ex K) : ex K = true ∧ (ad.all fun d => okA K (d.1 K) d.2) = true := He.ba (congrArg (fun z : AlY => z.2.1) c)
theorem SaysY.at_ (c : SaysY fa fn ad ex K) (i : Nat) {d : AtD} (h : ad[i]? = some d) : ∃ fd, FunD K d.2.name d.2.qual d.2.params d.2.body d.2.scope (d.2.dvs K) (d.2.kws K) (d.1 K) fd := by
  have e : (ad.map fun d => fnA K (d.1 K)) = ad.map fun d => d.2.val := congrArg (fun z : AlY => z.2.2) c
  have e2 := congrArg (fun l => l[i]?) e
  simp only [List.getElem?_map, h, Option.map_some, Option.some.injEq] at e2
  exact funA e2 (List.all_eq_true.mp c.more.2 d (List.mem_of_getElem? h))
end
/-! ### staticmethods -/
def staP (K : Frag) (C : Addr) (m : Str) : Addr := match findCls K (.ref C) (.type "type") m with
  | some (.get _ (.ref p) _ _) => p
  | _ => 0
def staF (K : Frag) (C : Addr) (m : Str) : Addr := match recIn K (staP K C m) "staticmethod" with
  | some (.ref f :: _) => f
  | _ => 0
def staB (K : Frag) (C : Addr) (m : Str) : Bool := readsIn K C (.type "type") && (eqO (specialIn K (.ref C) "__getattribute__") (some (some (.builtin "type.__getattribute__"))) && (match findCls K (.ref C) (.type "type") m with
  | some (.get g (.ref _) o t) => decide (g = .builtin "staticmethod.__get__") && (decide (o = .none) && (decide (t = .ref C) && (match recIn K (staP K C m) "staticmethod" with
    | some (.ref _ :: _) => keepIn K (.ref (staF K C m))
    | _ => false)))
  | _ => false))
theorem staB_ok {K : Frag} {C : Addr} {m : Str} (h : staB K C m = true) : StaM K C m (staF K C m) := by
  obtain ⟨h1, h2⟩ := He.ba h
  obtain ⟨h3, h4⟩ := He.ba h2
  have h5 : specialIn K (.ref C) "__getattribute__" = some (some (.builtin "type.__getattribute__")) := of_decide_eq_true h3
  have key : ∀ g p o t, findCls K (.ref C) (.type "type") m = some (.get g (.ref p) o t) → StaM K C m (staF K C m) := by
    intro g p o t e
    have ep : staP K C m = p := by
      unfold staP
      rw [e]
    rw [e] at h4
    obtain ⟨k1, k2⟩ := He.ba (show (decide (g = .builtin "staticmethod.__get__") && _) = true from h4)
    obtain ⟨k3, k4⟩ := He.ba k2
    obtain ⟨k5, k6⟩ := He.ba k4
    have g1 := of_decide_eq_true k1
    have g2 := of_decide_eq_true k3
    have g3 := of_decide_eq_true k5
    subst g1
    subst g2
    subst g3
    rw [ep] at k6
    split at k6
    · rename_i f rest er
      have ef : staF K C m = f := by
        unfold staF
        rw [ep, er]
      rw [ef]
      rw [ef] at k6
      exact ⟨⟨_, p, rest, h1, h5, e, er⟩, k6⟩
    · cases k6
  revert h4
  split
  · rename_i g p o t e
    intro _
    exact key g p o t e
  · intro z
    cases z
theorem int_okE {K : Frag} {h : Heap} {mg : Str → Option Value} (X : K.In h) (G : h.Ns mainGlobals mg) {x : Str} {i : Int} (c : (He.Fa.int x i).ok K = true) : ∃ u, mg x = some u ∧ RelV (.int i) u := by
  obtain ⟨t, e⟩ := He.int_ok X G c
  exact ⟨_, e, ⟨t, rfl⟩⟩
theorem str_okE {K : Frag} {h : Heap} {mg : Str → Option Value} (X : K.In h) (G : h.Ns mainGlobals mg) {x z : Str} (c : (He.Fa.str x z).ok K = true) : ∃ u, mg x = some u ∧ RelV (.str z) u := by
  obtain ⟨t, e⟩ := He.str_ok X G c
  exact ⟨_, e, ⟨t, rfl⟩⟩
/-- an own object's class, as isinstance sees it -/
theorem ins_ok {K : Frag} {C : Addr} (k : Cls K C) (ha : findIn K (.ref C) "__class__" = some (some (.builtin "object.__class__"))) (hn : specialIn K (.builtin "object.__class__") "__get__" = some (some (.builtin "getset_descriptor.__get__"))) (ht : takesIn K (.builtin "object.__class__") = some true)
    (hm : mroIn K C (.type "object") = some true) : ∀ {H : Hp} {a dx : Addr} {fs : List (Str × V)}, H a = some (.ins C dx fs) → TyOf K H (.ref a) (.ref C) := fun e => .ins e k ha hn ht hm
end My

namespace My
open PySem L2 PySem.Spec PyProof.Rows PySem.W
/-! ### displays over a dict's keys, over texts -/
theorem dc_it {J : It} {n : Nat} {G : Hp → Prop} {Y : Nat → Hp → V → Hp → Prop} (w : Walk J n G Y) {g : TG} {tt : TT} {tk tv : TE} {vs : List Nat} {σ : L2.St} {H1 : Hp} {D : Addr} {Qd : Hp → Prop} (Pv : Nat → Hp → Prop) (h0 : Pv 0 (L2.upd H1 D (.dK []))) (hG : ∀ i H, i ≤ n → Pv i H → G H)
    (hs : ∀ i x H H', i < n → Pv i H → Y i H x H' → g x (wipe σ vs) H' fun σ2 H2 => wipe σ2 vs = wipe σ vs ∧ tt σ2 H2 fun b H3 =>
      if b = true then tk σ2 H3 fun y H4 => tv σ2 H4 fun z H5 => ∃ kvs k, y = kV k ∧ H5 D = some (.dK kvs) ∧ kvs.length < sizeLine ∧ Pv (i + 1) (L2.upd H5 D (.dK (putK kvs k z))) else Pv (i + 1) H3) (hd : ∀ H, Pv n H → Qd H) :
    ∃ W : Nat → Nat → Hp → Prop, (∃ m, W 0 m (L2.upd H1 D (.dK []))) ∧ ∀ i m H, W i m H →
      (J.stop i H ∧ Qd H) ∨ (J.go i H ∧ ∃ Nx : Hp → Prop, (∀ H', Nx H' → ∃ m', m' < m ∧ W (i + 1) m' H') ∧ ∀ x H', J.yld i H x H' → g x (wipe σ vs) H' fun σ2 H2 => wipe σ2 vs = wipe σ vs ∧ tt σ2 H2 fun b H3 =>
        if b = true then tk σ2 H3 fun y H4 => tv σ2 H4 fun z H5 => ∃ kvs k, y = kV k ∧ H5 D = some (.dK kvs) ∧ kvs.length < sizeLine ∧ Nx (L2.upd H5 D (.dK (putK kvs k z))) else Nx H3) := by
  refine ⟨fun i m H => m = n - i ∧ (i ≤ n ∧ Pv i H), ⟨n, ⟨by simp, Nat.zero_le _, h0⟩⟩, fun i m H hW => ?_⟩
  obtain ⟨rfl, hi, p⟩ := hW
  have q := hG i H hi p
  rcases Nat.lt_or_ge i n with hlt | hge
  · exact .inr ⟨w.goes i H hlt q, Pv (i + 1), fun H' p' => ⟨n - (i + 1), by omega, ⟨rfl, hlt, p'⟩⟩, fun x H' y => hs i x H H' hlt p (w.yields i H x H' hlt q y)⟩
  · obtain rfl : i = n := Nat.le_antisymm hi hge
    exact .inl ⟨w.stops H q, hd H p⟩
theorem putK_new {κ : Type} [DecidableEq κ] {kvs : List (κ × V)} {k : κ} {v : V} (h : ∀ p ∈ kvs, p.1 ≠ k) : putK kvs k v = kvs ++ [(k, v)] := by
  unfold putK
  rw [if_neg]
  intro z
  obtain ⟨p, hp, e⟩ := List.any_eq_true.mp z
  exact h p hp (of_decide_eq_true e)
theorem dk_append (a b : List (Str × Int)) : dk (a ++ b) = dk a ++ dk b := List.map_append
theorem dk_at {d : List (Str × Int)} {i : Nat} {k : Key} {v : V} (h : (dk d)[i]? = some (k, v)) : ∃ p, d[i]? = some p ∧ k = .inr p.1 := by
  unfold dk at h
  rw [List.getElem?_map] at h
  cases e : d[i]? with
  | none => rw [e] at h; cases h
  | some p =>
    rw [e] at h
    have h2 := Option.some.inj h
    exact ⟨p, rfl, (congrArg Prod.fst h2).symm⟩
/-- one more, at its end, in the dict of the first i -/
theorem putK_dk {d : List (Str × Int)} {i : Nat} {p : Str × Int} (nd : (d.map (·.1)).Nodup) (h : d[i]? = some p) : putK (dk (d.take i)) (.inr p.1) (.int p.2) = dk (d.take (i + 1)) := by
  rw [putK_new]
  · rw [List.take_add_one, h, dk_append]
    rfl
  · intro q hq e
    obtain ⟨r, hr, rfl⟩ := List.mem_map.mp hq
    have e2 : r.1 = p.1 := Sum.inr.inj e
    obtain ⟨j, hj, ej⟩ := List.getElem_of_mem hr
    rw [List.length_take] at hj
    obtain ⟨hi, ei⟩ := List.getElem?_eq_some_iff.mp h
    have hj2 : j < d.length := by omega
    rw [List.getElem_take] at ej
    have hne := (List.nodup_iff_pairwise_ne.mp nd)
    have := List.pairwise_iff_getElem.mp hne j i (by simpa using hj2) (by simpa using hi) (by omega)
    simp only [List.getElem_map] at this
    rw [ej, ei] at this
    exact this e2
section
variable {K : PySem.W.Frag} {d : List (Str × Int)} {q : Addr} {g : TG} {te tk tv td : TE} {vs : List Nat} {σ : L2.St} {H : Hp} {Q : VK}
/-- [e for k in d]: Rel by the list's place, the turn, the value -/
theorem lock_lcR (Rel : Addr → Nat → V → Hp → Prop) (hq : H q = some (.dK (dk d))) (hl : d.length < 1000)
    (hm : ∀ D i v H1 H2, (∀ x o, x ≠ q → x ≠ D → H1 x = some o → H2 x = some o) → Rel D i v H1 → Rel D i v H2)
    (ht : ∀ (H' : Hp) (R : VK), (∀ x, x ≠ q → H' x = H x) → R (.ref q) H' → td σ H' R)
    (hs : ∀ (od : Obj) (D : Addr) (i : Nat) (p : Str × Int) (H' : Hp) (R : VK) (F : Hp → Prop), d[i]? = some p → H D = none → D ≠ q → H' q = some (.frz od (.dK (dk d))) → (∀ x o, x ≠ q → H x = some o → H' x = some o) → H' D ≠ none →
      (∀ v H5, L2.Same H' H5 → Rel D i v H5 → R v H5) → g (.str p.1) (wipe σ vs) H' fun σ2 H2 => wipe σ2 vs = wipe σ vs ∧ tYes σ2 H2 fun b H3 => if b = true then te σ2 H3 R else F H3)
    (hQ : ∀ D H' xs, H D = none → L2.Same H H' → H' D = some (.lst xs) → xs.length = d.length → (∀ i v, xs[i]? = some v → Rel D i v H') → Q (.ref D) H') : tLockE (tLc (iKeys td) g tYes te vs) σ H Q := by
  refine ⟨q, _, hq, True.intro, fun od => ?_⟩
  refine s_lc ?_
  refine ht _ _ (fun x e => upd_ne e) ?_
  refine ⟨q, od, rfl, .inl ⟨_, upd_same, fun D nD => ?_⟩⟩
  have hDq : D ≠ q := fun e => by
    rw [e, upd_same] at nD
    cases nD
  have nD0 : H D = none := by
    rw [upd_ne hDq] at nD
    exact nD
  refine L2.lc_it walk_keys (fun i H' => H' q = some (.frz od (.dK (dk d))) ∧ (∀ x o, x ≠ q → H x = some o → H' x = some o) ∧ ∃ xs, H' D = some (.lst xs) ∧ xs.length = i ∧ ∀ j v, xs[j]? = some v → Rel D j v H') ?_ (fun _ _ _ h => h.1) ?_ ?_
  · refine ⟨(upd_ne hDq.symm).trans upd_same, fun x o hx e => ?_, [], upd_same, rfl, fun j v e => by cases e⟩
    have hxD : x ≠ D := fun z => by
      rw [z, nD0] at e
      cases e
    exact (upd_ne hxD).trans ((upd_ne hx).trans e)
  · rintro i x H1 H2 hi ⟨h1, h2, xs, hD, hlen, hr⟩ ⟨rfl, k, v, hk, rfl⟩
    obtain ⟨p, hp, rfl⟩ := dk_at hk
    refine hs od D i p H2 _ _ hp nD0 hDq h1 h2 (by rw [hD]; simp) (fun y H5 s5 r5 => ⟨xs, s5 _ _ hD, ?_, ?_⟩)
    · rw [dk_length] at hi
      rw [sizeLine_eq]
      omega
    · have up : ∀ x o, x ≠ q → x ≠ D → H5 x = some o → (L2.upd H5 D (.lst (xs ++ [y]))) x = some o := fun x o _ hx e => (upd_ne hx).trans e
      refine ⟨(upd_ne hDq.symm).trans (s5 _ _ h1), fun x o hx e => ?_, _, upd_same, by rw [List.length_append, hlen]; rfl, fun j z ez => ?_⟩
      · have hxD : x ≠ D := fun z => by
          rw [z, nD0] at e
          cases e
        exact (upd_ne hxD).trans (s5 _ _ (h2 x o hx e))
      · rcases Nat.lt_or_ge j xs.length with hj | hj
        · rw [List.getElem?_append_left hj] at ez
          exact hm D j z _ _ up (hm D j z _ _ (fun x o _ _ e => s5 x o e) (hr j z ez))
        · rw [List.getElem?_append_right hj] at ez
          have ej : j = i := by
            rcases Nat.eq_or_lt_of_le hj with e | e
            · omega
            · rw [List.getElem?_eq_none (by simp; omega)] at ez
              cases ez
          subst ej
          rw [hlen, Nat.sub_self] at ez
          have e2 : y = z := Option.some.inj ez
          subst e2
          exact hm D j y _ _ up r5
  · rintro H1 ⟨h1, h2, xs, hD, hlen, hr⟩
    refine ⟨h1, hQ D _ xs nD0 (fun x o e => ?_) ((upd_ne hDq).trans hD) (hlen.trans (dk_length d)) fun i v e => hm D i v _ _ (fun x o hx _ e => (upd_ne hx).trans e) (hr i v e)⟩
    by_cases hx : x = q
    · subst hx
      rw [upd_same, ← hq]
      exact e
    · exact (upd_ne hx).trans (h2 x o hx e)
/-- .. whose values are no new things -/
theorem lock_lc (f : Str × Int → V) (hq : H q = some (.dK (dk d))) (hl : d.length < 1000)
    (ht : ∀ (H' : Hp) (R : VK), (∀ x, x ≠ q → H' x = H x) → R (.ref q) H' → td σ H' R)
    (hs : ∀ (od : Obj) (D : Addr) (i : Nat) (p : Str × Int) (H' : Hp) (R : VK) (F : Hp → Prop), d[i]? = some p → H D = none → D ≠ q → H' q = some (.frz od (.dK (dk d))) → (∀ x o, x ≠ q → H x = some o → H' x = some o) → H' D ≠ none →
      (∀ H5, L2.Same H' H5 → R (f p) H5) → g (.str p.1) (wipe σ vs) H' fun σ2 H2 => wipe σ2 vs = wipe σ vs ∧ tYes σ2 H2 fun b H3 => if b = true then te σ2 H3 R else F H3)
    (hQ : ∀ D H', H D = none → L2.Same H H' → H' D = some (.lst (d.map f)) → Q (.ref D) H') : tLockE (tLc (iKeys td) g tYes te vs) σ H Q := by
  refine lock_lcR (fun _ i v _ => d[i]?.map f = some v) hq hl (fun _ _ _ _ _ _ h => h) ht (fun od D i p H' R F h1 h2 h3 h4 h5 h6 h7 => hs od D i p H' R F h1 h2 h3 h4 h5 h6 fun H5 s5 => h7 _ H5 s5 (by rw [h1]; rfl)) fun D H' xs h1 h2 h3 h4 h5 => hQ D H' h1 h2 ?_
  rw [h3]
  congr 2
  refine List.ext_getElem (by rw [h4, List.length_map]) fun i hi hj => ?_
  have := h5 i xs[i] (List.getElem?_eq_getElem hi)
  rw [List.getElem?_eq_getElem (by rw [← h4]; exact hi)] at this
  rw [List.getElem_map]
  exact (Option.some.inj this).symm
/-- {k: e for k in d} -/
theorem lock_dc (f : Str × Int → Int) (hq : H q = some (.dK (dk d))) (hl : d.length < 1000) (nd : (d.map (·.1)).Nodup)
    (ht : ∀ (H' : Hp) (R : VK), (∀ x, x ≠ q → H' x = H x) → R (.ref q) H' → td σ H' R)
    (hs : ∀ (od : Obj) (D : Addr) (i : Nat) (p : Str × Int) (H' : Hp) (R : V → V → Hp → Prop) (F : Hp → Prop), d[i]? = some p → H D = none → D ≠ q → H' q = some (.frz od (.dK (dk d))) → (∀ x o, x ≠ q → H x = some o → H' x = some o) → H' D ≠ none →
      (∀ H5, L2.Same H' H5 → R (.str p.1) (.int (f p)) H5) → g (.str p.1) (wipe σ vs) H' fun σ2 H2 => wipe σ2 vs = wipe σ vs ∧ tYes σ2 H2 fun b H3 => if b = true then tk σ2 H3 fun y H4 => tv σ2 H4 fun z H5 => R y z H5 else F H3)
    (hQ : ∀ D H', H D = none → L2.Same H H' → H' D = some (.dK (dk (d.map fun p => (p.1, f p)))) → Q (.ref D) H') : tLockE (tDc (iKeys td) g tYes tk tv vs) σ H Q := by
  refine ⟨q, _, hq, True.intro, fun od => ?_⟩
  refine ht _ _ (fun x e => upd_ne e) ?_
  refine ⟨q, od, rfl, .inl ⟨_, upd_same, fun D nD => ?_⟩⟩
  have hDq : D ≠ q := fun e => by
    rw [e, upd_same] at nD
    cases nD
  have nD0 : H D = none := by
    rw [upd_ne hDq] at nD
    exact nD
  have nd2 : ((d.map fun p => (p.1, f p)).map (·.1)).Nodup := by
    rw [List.map_map]
    exact nd
  refine dc_it walk_keys (fun i H' => H' q = some (.frz od (.dK (dk d))) ∧ (∀ x o, x ≠ q → H x = some o → H' x = some o) ∧ H' D = some (.dK (dk ((d.map fun p => (p.1, f p)).take i)))) ?_ (fun _ _ _ h => h.1) ?_ ?_
  · refine ⟨(upd_ne hDq.symm).trans upd_same, fun x o hx e => ?_, upd_same⟩
    have hxD : x ≠ D := fun z => by
      rw [z, nD0] at e
      cases e
    exact (upd_ne hxD).trans ((upd_ne hx).trans e)
  · rintro i x H1 H2 hi ⟨h1, h2, hD⟩ ⟨rfl, k, v, hk, rfl⟩
    obtain ⟨p, hp, rfl⟩ := dk_at hk
    refine hs od D i p H2 (fun y z H5 => ∃ kvs k, y = kV k ∧ H5 D = some (.dK kvs) ∧ kvs.length < sizeLine ∧ _) _ hp nD0 hDq h1 h2 (by rw [hD]; simp) (fun H5 s5 => ⟨_, .inr p.1, rfl, s5 _ _ hD, ?_, ?_⟩)
    · rw [dk_length, List.length_take, List.length_map, sizeLine_eq]
      omega
    · rw [putK_dk (p := (p.1, f p)) nd2 (by rw [List.getElem?_map, hp]; rfl)]
      refine ⟨(upd_ne hDq.symm).trans (s5 _ _ h1), fun x o hx e => ?_, upd_same⟩
      have hxD : x ≠ D := fun z => by
        rw [z, nD0] at e
        cases e
      exact (upd_ne hxD).trans (s5 _ _ (h2 x o hx e))
  · rintro H1 ⟨h1, h2, hD⟩
    rw [dk_length, List.take_of_length_le (by rw [List.length_map]; exact Nat.le_refl _)] at hD
    refine ⟨h1, hQ D _ nD0 (fun x o e => ?_) ((upd_ne hDq).trans hD)⟩
    by_cases hx : x = q
    · subst hx
      rw [upd_same, ← hq]
      exact e
    · exact (upd_ne hx).trans (h2 x o hx e)
theorem s_tdc {wi : TI} {tt : TT} (h : wi σ H fun J H1 => ∀ D, H1 D = none → ∃ W : Nat → Nat → Hp → Prop, (∃ m, W 0 m (L2.upd H1 D (.dK []))) ∧ ∀ i m H, W i m H →
  (J.stop i H ∧ Q (.ref D) H) ∨ (J.go i H ∧ ∃ Nx : Hp → Prop, (∀ H', Nx H' → ∃ m', m' < m ∧ W (i + 1) m' H') ∧ ∀ x H', J.yld i H x H' → g x (wipe σ vs) H' fun σ2 H2 => wipe σ2 vs = wipe σ vs ∧ tt σ2 H2 fun b H3 =>
    if b = true then tk σ2 H3 fun y H4 => tv σ2 H4 fun z H5 => ∃ kvs k, y = kV k ∧ H5 D = some (.dK kvs) ∧ kvs.length < sizeLine ∧ Nx (L2.upd H5 D (.dK (putK kvs k z))) else Nx H3)) : tDc wi g tt tk tv vs σ H Q := h
/-- {y: e for y in ys}, ys texts of which Cond holds -/
theorem list_dc {ta : TE} (Cond : List Str → Prop) (f : Str → Int) (hc : ∀ ys, Cond ys → ys.length < 1000 ∧ ys.Nodup)
    (ht : ∀ R : VK, (∀ ys p H', Cond ys → SqL K H' p (ys.map V.str) → L2.Same H H' → R (.ref p) H') → ta σ H R)
    (hs : ∀ (ys : List Str) (D : Addr) (i : Nat) (y : Str) (H' : Hp) (R : V → V → Hp → Prop) (F : Hp → Prop), Cond ys → ys[i]? = some y → H D = none → L2.Same H H' → H' D ≠ none →
      (∀ H5, L2.Same H' H5 → R (.str y) (.int (f y)) H5) → g (.str y) (wipe σ vs) H' fun σ2 H2 => wipe σ2 vs = wipe σ vs ∧ tYes σ2 H2 fun b H3 => if b = true then tk σ2 H3 fun y H4 => tv σ2 H4 fun z H5 => R y z H5 else F H3)
    (hQ : ∀ ys D H', Cond ys → H D = none → L2.Same H H' → H' D = some (.dK (dk (ys.map fun y => (y, f y)))) → Q (.ref D) H') : tDc (iList K ta) g tYes tk tv vs σ H Q := by
  refine ht _ fun ys p H0 cy e0 s0 => ?_
  obtain ⟨hl, nd⟩ := hc ys cy
  refine ⟨p, rfl, ⟨_, e0⟩, fun D nD => ?_⟩
  have nD0 : H D = none := L2.Same.free s0 nD
  have nd2 : ((ys.map fun y => (y, f y)).map (·.1)).Nodup := by
    rw [List.map_map]
    exact (List.map_id'' (fun _ => rfl) ys).symm ▸ nd
  refine dc_it (walk_list (xs := ys.map V.str)) (fun i H' => L2.Same H0 H' ∧ H' D = some (.dK (dk ((ys.map fun y => (y, f y)).take i)))) ⟨My.Same.new nD, upd_same⟩ (fun _ _ _ h => L2.Same.seq h.1 e0) ?_ ?_
  · rintro i x H1 H2 hi ⟨h2, hD⟩ ⟨rfl, hx⟩
    rw [List.getElem?_map] at hx
    cases ey : ys[i]? with
    | none => rw [ey] at hx; cases hx
    | some y =>
      rw [ey] at hx
      cases hx
      refine hs ys D i y H2 (fun y z H5 => ∃ kvs k, y = kV k ∧ H5 D = some (.dK kvs) ∧ kvs.length < sizeLine ∧ _) _ cy ey nD0 (My.Same.tr s0 h2) (by rw [hD]; simp) (fun H5 s5 => ⟨_, .inr y, rfl, s5 _ _ hD, ?_, ?_⟩)
      · rw [dk_length, List.length_take, List.length_map, sizeLine_eq]
        omega
      · rw [putK_dk (p := (y, f y)) nd2 (by rw [List.getElem?_map, ey]; rfl)]
        exact ⟨My.Same.at_ nD (My.Same.tr h2 s5), upd_same⟩
  · rintro H1 ⟨h2, hD⟩
    rw [List.length_map, List.take_of_length_le (by rw [List.length_map]; exact Nat.le_refl _)] at hD
    exact hQ ys D _ cy nD0 (My.Same.tr s0 h2) hD
/-- [e for x in xs], xs at a -/
theorem list_lcW {a D : Addr} {xs : List V} {H1 : Hp} {Qd : Hp → Prop} (Rel : Nat → V → Hp → Prop) (e0 : SqL K H1 a xs) (nD : H1 D = none) (hl : xs.length < 1000)
    (hm : ∀ i v H H', (∀ x o, x ≠ D → H x = some o → H' x = some o) → Rel i v H → Rel i v H')
    (hs : ∀ (i : Nat) (x : V) (H' : Hp) (R : VK) (F : Hp → Prop), xs[i]? = some x → L2.Same H1 H' → H' D ≠ none → (∀ v H5, L2.Same H' H5 → Rel i v H5 → R v H5) →
      g x (wipe σ vs) H' fun σ2 H2 => wipe σ2 vs = wipe σ vs ∧ tYes σ2 H2 fun b H3 => if b = true then te σ2 H3 R else F H3)
    (hQ : ∀ H' zs, L2.Same H1 H' → H' D = some (.lst zs) → zs.length = xs.length → (∀ i v, zs[i]? = some v → Rel i v H') → Qd H') :
    ∃ W : Nat → Nat → Hp → Prop, (∃ m, W 0 m (L2.upd H1 D (.lst []))) ∧ ∀ i m H, W i m H →
      ((Itl K a).stop i H ∧ Qd H) ∨ ((Itl K a).go i H ∧ ∃ Nx : Hp → Prop, (∀ H', Nx H' → ∃ m', m' < m ∧ W (i + 1) m' H') ∧ ∀ x H', (Itl K a).yld i H x H' → g x (wipe σ vs) H' fun σ2 H2 => wipe σ2 vs = wipe σ vs ∧ tYes σ2 H2 fun b H3 =>
        if b = true then te σ2 H3 fun y H4 => ∃ acc, H4 D = some (.lst acc) ∧ acc.length < sizeLine ∧ Nx (L2.upd H4 D (.lst (acc ++ [y]))) else Nx H3) := by
  refine L2.lc_it (walk_list (xs := xs)) (fun i H' => L2.Same H1 H' ∧ ∃ zs, H' D = some (.lst zs) ∧ zs.length = i ∧ ∀ j v, zs[j]? = some v → Rel j v H') ⟨My.Same.new nD, [], upd_same, rfl, fun j v e => by cases e⟩ (fun _ _ _ h => L2.Same.seq h.1 e0) ?_ ?_
  · rintro i x H0 H2 hi ⟨h2, zs, hD, hlen, hr⟩ ⟨rfl, hx⟩
    refine hs i x H2 _ _ hx h2 (by rw [hD]; simp) (fun y H5 s5 r5 => ⟨zs, s5 _ _ hD, ?_, ?_⟩)
    · rw [sizeLine_eq]
      omega
    · have up : ∀ x o, x ≠ D → H5 x = some o → (L2.upd H5 D (.lst (zs ++ [y]))) x = some o := fun x o hx e => (upd_ne hx).trans e
      refine ⟨My.Same.at_ nD (My.Same.tr h2 s5), _, upd_same, by rw [List.length_append, hlen]; rfl, fun j z ez => ?_⟩
      rcases Nat.lt_or_ge j zs.length with hj | hj
      · rw [List.getElem?_append_left hj] at ez
        exact hm j z _ _ up (hm j z _ _ (fun x o _ e => s5 x o e) (hr j z ez))
      · rw [List.getElem?_append_right hj] at ez
        have ej : j = i := by
          rcases Nat.eq_or_lt_of_le hj with e | e
          · omega
          · rw [List.getElem?_eq_none (by simp; omega)] at ez
            cases ez
        subst ej
        rw [hlen, Nat.sub_self] at ez
        have e2 : y = z := Option.some.inj ez
        subst e2
        exact hm j y _ _ up r5
  · rintro H0 ⟨h2, zs, hD, hlen, hr⟩
    exact hQ H0 zs h2 hD hlen hr
/-- .. whose values are no new things -/
theorem list_lcF {a D : Addr} {xs : List V} {H1 : Hp} {Qd : Hp → Prop} (f : Nat → V) (e0 : SqL K H1 a xs) (nD : H1 D = none) (hl : xs.length < 1000)
    (hs : ∀ (i : Nat) (x : V) (H' : Hp) (R : VK) (F : Hp → Prop), xs[i]? = some x → L2.Same H1 H' → H' D ≠ none → (∀ H5, L2.Same H' H5 → R (f i) H5) →
      g x (wipe σ vs) H' fun σ2 H2 => wipe σ2 vs = wipe σ vs ∧ tYes σ2 H2 fun b H3 => if b = true then te σ2 H3 R else F H3)
    (hQ : ∀ H', L2.Same H1 H' → H' D = some (.lst ((List.range xs.length).map f)) → Qd H') :
    ∃ W : Nat → Nat → Hp → Prop, (∃ m, W 0 m (L2.upd H1 D (.lst []))) ∧ ∀ i m H, W i m H →
      ((Itl K a).stop i H ∧ Qd H) ∨ ((Itl K a).go i H ∧ ∃ Nx : Hp → Prop, (∀ H', Nx H' → ∃ m', m' < m ∧ W (i + 1) m' H') ∧ ∀ x H', (Itl K a).yld i H x H' → g x (wipe σ vs) H' fun σ2 H2 => wipe σ2 vs = wipe σ vs ∧ tYes σ2 H2 fun b H3 =>
        if b = true then te σ2 H3 fun y H4 => ∃ acc, H4 D = some (.lst acc) ∧ acc.length < sizeLine ∧ Nx (L2.upd H4 D (.lst (acc ++ [y]))) else Nx H3) := by
  refine list_lcW (fun i v _ => f i = v) e0 nD hl (fun _ _ _ _ _ h => h) (fun i x H' R F h1 h2 h3 h7 => hs i x H' R F h1 h2 h3 fun H5 s5 => h7 _ H5 s5 rfl) (fun H' zs h2 h3 h4 h5 => hQ H' h2 ?_)
  rw [h3]
  congr 2
  refine List.ext_getElem (by simp [h4]) fun i hi hj => ?_
  have := h5 i zs[i] (List.getElem?_eq_getElem hi)
  rw [List.getElem_map, List.getElem_range]
  exact this.symm
theorem s_tdget {td ty : TE} (h : td σ H fun x H1 => ty σ H1 fun y H2 => ∃ a v, x = .ref a ∧ DGet H2 a y (some v) ∧ Q v H2) : tDGet td ty σ H Q := h
theorem s_tdin {td ty : TE} (h : ty σ H fun y H1 => td σ H1 fun x H2 => ∃ a o, x = .ref a ∧ DGet H2 a y o ∧ Q (.bl o.isSome) H2) : tDIn ty td σ H Q := h
theorem s_din {P : V → Prop} {a : Addr} {k : Str} (h : Rd H a (.dK (dk d))) (q : P (.bl (look d k).isSome)) : ∃ b o, V.ref a = .ref b ∧ DGet H b (.str k) o ∧ P (.bl o.isSome) :=
  ⟨a, (look d k).map V.int, rfl, .inl ⟨_, .inr k, h, rfl, by rw [valV_dk]⟩, by rw [Option.isSome_map]; exact q⟩
theorem s_dget {P : V → Prop} {a : Addr} {k : Str} {i : Int} (h : Rd H a (.dK (dk d))) (e : look d k = some i) (q : P (.int i)) : ∃ b v, V.ref a = .ref b ∧ DGet H b (.str k) (some v) ∧ P v :=
  ⟨a, .int i, rfl, .inl ⟨_, .inr k, h, rfl, by rw [valV_dk, e]; rfl⟩, q⟩
end
/-! ### an own class's methods behind * and [] -/
section
variable {K : PySem.W.Frag} {C : Addr} {m q : Str} {params : Arguments} {body : List Stmt} {scope : Scope} {dvs : List V}
theorem hasM (e : ∃ (f : Addr) (fd : FuncData), Meth K C m f ∧ FunD K m q params body scope dvs [] f fd) : ∃ g : Addr, PySem.W.findIn K (.ref C) m = some (some (.ref g)) := by
  obtain ⟨f, fd, h, F⟩ := e
  exact ⟨f, h.at_⟩
theorem gi_of (e : ∃ (f : Addr) (fd : FuncData), Meth K C m f ∧ FunD K m q params body scope dvs [] f fd) : ∀ f, PySem.W.findIn K (.ref C) m = some (some (.ref f)) → PySem.W.fnIn K f = true := by
  obtain ⟨f, fd, h, F⟩ := e
  intro g hg
  rw [h.at_] at hg
  cases hg
  obtain ⟨oc, od, dV, kV, doc, pm, an, cdv, ct, osl, rfl, lk, _⟩ := F.ex
  unfold PySem.W.fnIn
  rw [lk]
end
section
variable {X : Cx} {C : Addr} {k : Nat} {ps : List Str} {dvs : List V} {sp : Sp}
theorem op_mulT (hm : ∃ g : Addr, PySem.W.findIn X.K (.ref C) "__rmul__" = some (some (.ref g))) (D : Mtn X.prog X.w X.K X.mg X.base C "__mul__" k ps dvs sp) (hc : PySem.W.selfFirst X.K C = true)
    (h1 : PySem.W.findIn X.K (.type "int") "__mul__" = some (some (.builtin "int.__mul__"))) (h2 : PySem.W.findIn X.K (.type "int") "__rmul__" = some (some (.builtin "int.__rmul__"))) (h3 : PySem.W.subIn X.K (.type "int") (.ref C) = some false) (hr : RoomG k X.A) :
    OpR X (binaryOp .Mult) (fun x y H Q => ∃ a dx fs, x = .ref a ∧ H a = some (.ins C dx fs) ∧ (∃ i, y = .int i) ∧ sp (.ref a :: y :: dvs) H Q E0) := by
  obtain ⟨g, hg⟩ := hm
  refine op_ownT (T := "int") D rfl hc hr hg (.inr ⟨g, rfl⟩) h1 h2 h3 fun y u r e => ?_
  obtain ⟨i, rfl⟩ := e
  obtain ⟨t, rfl⟩ := (show ∃ t, u = Value.int i t from r)
  rfl
end
end My

namespace My
open PySem L2 PySem.Spec PyProof.Rows
/-! ### rules within a comprehension: repr -/
def rReprD (K : PySem.W.Frag) : List V → Hp → VK → Prop := fun xs H Q => ∃ y d, xs = [y] ∧ Dp K H y d ∧ SeqAt.shaped d = true ∧ d.showable = true ∧ d.hasDict = false ∧ d.shown.length ≤ sizeLine ∧ Q (.str d.shown) H
theorem call_reprDK {X : Cx} {K : PySem.W.Frag} {k : Nat} (h : X.K = K) (hr : RoomG k X.A) : CallR X (.builtin "repr") (rReprD K) := by
  subst h
  exact call_reprD hr
theorem pg_tupK {X : Cx} {K : PySem.W.Frag} {es : List Expr} {k : Nat} {t : TGs} {n : Nat} {pos : Pos} (hK : X.K = K) (hc : X.calm = true) (h : PGs X es t)
    (hn : (assignEach es X.env).length = n := by rfl) (hst : (assignEach es X.env).findIdx? (·.1) = none := by rfl) : PG X (.Tuple es k pos) (gTup K n t) := by
  subst hK
  exact pg_tup hc h hn hst
end My

section

namespace My
open PySem L2
def top (i : Nat) : Stmt := PySem.Challenge.pw_howmanyeach_k50_sizes_made_and_asked.main.body.getD i (.Pass ⟨0, 0, 0, 0⟩)
abbrev st_is_integer : Stmt := top 8
abbrev N_is_integer : List Str := ["value"]
abbrev P_is_integer : List Str := ["value"]
theorem sc_is_integer : FnScope N_is_integer P_is_integer (defScope st_is_integer) := ⟨rfl, rfl, rfl, by decide +kernel, rfl, by decide +kernel, by decide +kernel⟩
abbrev st_is_count : Stmt := top 9
abbrev N_is_count : List Str := ["value"]
abbrev P_is_count : List Str := ["value"]
theorem sc_is_count : FnScope N_is_count P_is_count (defScope st_is_count) := ⟨rfl, rfl, rfl, by decide +kernel, rfl, by decide +kernel, by decide +kernel⟩
abbrev st_is_name : Stmt := top 10
abbrev N_is_name : List Str := ["value", "letter"]
abbrev P_is_name : List Str := ["value"]
theorem sc_is_name : FnScope N_is_name P_is_name (defScope st_is_name) := ⟨rfl, rfl, rfl, by decide +kernel, rfl, by decide +kernel, by decide +kernel⟩
abbrev st_check_kind : Stmt := top 12
abbrev N_check_kind : List Str := ["holder", "kind"]
abbrev P_check_kind : List Str := ["holder", "kind"]
theorem sc_check_kind : FnScope N_check_kind P_check_kind (defScope st_check_kind) := ⟨rfl, rfl, rfl, by decide +kernel, rfl, by decide +kernel, by decide +kernel⟩
abbrev st_check_count : Stmt := top 13
abbrev N_check_count : List Str := ["count"]
abbrev P_check_count : List Str := ["count"]
theorem sc_check_count : FnScope N_check_count P_check_count (defScope st_check_count) := ⟨rfl, rfl, rfl, by decide +kernel, rfl, by decide +kernel, by decide +kernel⟩
abbrev st__are_counts : Stmt := top 16
abbrev N__are_counts : List Str := ["value", "kind"]
abbrev P__are_counts : List Str := ["value"]
theorem sc__are_counts : FnScope N__are_counts P__are_counts (defScope st__are_counts) := ⟨rfl, rfl, rfl, by decide +kernel, rfl, by decide +kernel, by decide +kernel⟩
abbrev st__law_pot : Stmt := top 18
abbrev N__law_pot : List Str := ["_law_script", "_law_k", "_law_cell"]
abbrev P__law_pot : List Str := ["_law_script", "_law_k"]
theorem sc__law_pot : FnScope N__law_pot P__law_pot (defScope st__law_pot) := ⟨rfl, rfl, rfl, by decide +kernel, rfl, by decide +kernel, by decide +kernel⟩
abbrev st__law_draw : Stmt := top 19
abbrev N__law_draw : List Str := ["_law_pot_here", "_law_size", "_law_digit"]
abbrev P__law_draw : List Str := ["_law_pot_here", "_law_size"]
theorem sc__law_draw : FnScope N__law_draw P__law_draw (defScope st__law_draw) := ⟨rfl, rfl, rfl, by decide +kernel, rfl, by decide +kernel, by decide +kernel⟩
abbrev st__law_pick : Stmt := top 20
abbrev N__law_pick : List Str := ["_law_pot_here", "_law_some"]
abbrev P__law_pick : List Str := ["_law_pot_here", "_law_some"]
theorem sc__law_pick : FnScope N__law_pick P__law_pick (defScope st__law_pick) := ⟨rfl, rfl, rfl, by decide +kernel, rfl, by decide +kernel, by decide +kernel⟩
abbrev st__law_mixed : Stmt := top 21
abbrev N__law_mixed : List Str := ["_law_pot_here", "_law_some", "_law_left", "_law_found", "_law_turn"]
abbrev P__law_mixed : List Str := ["_law_pot_here", "_law_some"]
theorem sc__law_mixed : FnScope N__law_mixed P__law_mixed (defScope st__law_mixed) := ⟨rfl, rfl, rfl, by decide +kernel, rfl, by decide +kernel, by decide +kernel⟩
abbrev st__law_names : Stmt := top 22
abbrev N__law_names : List Str := ["_law_pot_here", "_law_amount_here", "_law_found", "_law_at", "_law_start", "_law_turn"]
abbrev P__law_names : List Str := ["_law_pot_here", "_law_amount_here"]
theorem sc__law_names : FnScope N__law_names P__law_names (defScope st__law_names) := ⟨rfl, rfl, rfl, by decide +kernel, rfl, by decide +kernel, by decide +kernel⟩
abbrev st__law_far : Stmt := top 23
abbrev N__law_far : List Str := ["_law_pot_here", "_law_found", "_law_turn"]
abbrev P__law_far : List Str := ["_law_pot_here"]
theorem sc__law_far : FnScope N__law_far P__law_far (defScope st__law_far) := ⟨rfl, rfl, rfl, by decide +kernel, rfl, by decide +kernel, by decide +kernel⟩
abbrev st__law_amount : Stmt := top 24
abbrev N__law_amount : List Str := ["_law_pot_here", "_law_way"]
abbrev P__law_amount : List Str := ["_law_pot_here"]
theorem sc__law_amount : FnScope N__law_amount P__law_amount (defScope st__law_amount) := ⟨rfl, rfl, rfl, by decide +kernel, rfl, by decide +kernel, by decide +kernel⟩
abbrev st__law_text : Stmt := top 25
abbrev N__law_text : List Str := ["_law_held", "_law_word"]
abbrev P__law_text : List Str := ["_law_held"]
theorem sc__law_text : FnScope N__law_text P__law_text (defScope st__law_text) := ⟨rfl, rfl, rfl, by decide +kernel, rfl, by decide +kernel, by decide +kernel⟩
abbrev st__law_shown_right : Stmt := top 26
abbrev N__law_shown_right : List Str := ["_law_thing", "_law_held", "_law_words", "_law_shown", "_law_odd", "_law_is_some", "_law_word", "_law_some"]
abbrev P__law_shown_right : List Str := ["_law_thing", "_law_held"]
theorem sc__law_shown_right : FnScope N__law_shown_right P__law_shown_right (defScope st__law_shown_right) := ⟨rfl, rfl, rfl, by decide +kernel, rfl, by decide +kernel, by decide +kernel⟩
abbrev st__law_pair_right : Stmt := top 27
abbrev N__law_pair_right : List Str := ["_law_first", "_law_second", "_law_held", "_law_more", "_law_due", "_law_lesser", "_law_greater", "_law_found", "_law_is_less", "_law_word", "_law_thing", "_law_rows"]
abbrev P__law_pair_right : List Str := ["_law_first", "_law_second", "_law_held", "_law_more"]
theorem sc__law_pair_right : FnScope N__law_pair_right P__law_pair_right (defScope st__law_pair_right) := ⟨rfl, rfl, rfl, by decide +kernel, rfl, by decide +kernel, by decide +kernel⟩
abbrev st__law_others_right : Stmt := top 28
abbrev N__law_others_right : List Str := ["_law_pot_here", "_law_thing", "_law_held", "_law_by", "_law_due", "_law_spot", "_law_amount_here", "_law_changed", "_law_wider", "_law_plain", "_law_fixed", "_law_word"]
abbrev P__law_others_right : List Str := ["_law_pot_here", "_law_thing", "_law_held"]
theorem sc__law_others_right : FnScope N__law_others_right P__law_others_right (defScope st__law_others_right) := ⟨rfl, rfl, rfl, by decide +kernel, rfl, by decide +kernel, by decide +kernel⟩
abbrev st__law_right : Stmt := top 29
abbrev N__law_right : List Str := ["_law_pot_here", "_law_words", "_law_held", "_law_more", "_law_passed", "_law_first", "_law_second", "_law_again", "_law_word"]
abbrev P__law_right : List Str := ["_law_pot_here"]
theorem sc__law_right : FnScope N__law_right P__law_right (defScope st__law_right) := ⟨rfl, rfl, rfl, by decide +kernel, rfl, by decide +kernel, by decide +kernel⟩
abbrev st_Sizes___init__ : Stmt := inClass (top 15) 0
abbrev N_Sizes___init__ : List Str := ["self", "counts", "kind"]
abbrev P_Sizes___init__ : List Str := ["self", "counts"]
theorem sc_Sizes___init__ : FnScope N_Sizes___init__ P_Sizes___init__ (defScope st_Sizes___init__) := ⟨rfl, rfl, rfl, by decide +kernel, rfl, by decide +kernel, by decide +kernel⟩
abbrev st_Sizes_kinds : Stmt := inClass (top 15) 2
abbrev N_Sizes_kinds : List Str := ["self"]
abbrev P_Sizes_kinds : List Str := ["self"]
theorem sc_Sizes_kinds : FnScope N_Sizes_kinds P_Sizes_kinds (defScope st_Sizes_kinds) := ⟨rfl, rfl, rfl, by decide +kernel, rfl, by decide +kernel, by decide +kernel⟩
abbrev st_Sizes_counts : Stmt := inClass (top 15) 3
abbrev N_Sizes_counts : List Str := ["self", "kind"]
abbrev P_Sizes_counts : List Str := ["self"]
theorem sc_Sizes_counts : FnScope N_Sizes_counts P_Sizes_counts (defScope st_Sizes_counts) := ⟨rfl, rfl, rfl, by decide +kernel, rfl, by decide +kernel, by decide +kernel⟩
abbrev st_Sizes_is_within : Stmt := inClass (top 15) 4
abbrev N_Sizes_is_within : List Str := ["self", "other", "kind"]
abbrev P_Sizes_is_within : List Str := ["self", "other"]
theorem sc_Sizes_is_within : FnScope N_Sizes_is_within P_Sizes_is_within (defScope st_Sizes_is_within) := ⟨rfl, rfl, rfl, by decide +kernel, rfl, by decide +kernel, by decide +kernel⟩
abbrev st_Sizes_with_count : Stmt := inClass (top 15) 5
abbrev N_Sizes_with_count : List Str := ["self", "kind", "count"]
abbrev P_Sizes_with_count : List Str := ["self", "kind", "count"]
theorem sc_Sizes_with_count : FnScope N_Sizes_with_count P_Sizes_with_count (defScope st_Sizes_with_count) := ⟨rfl, rfl, rfl, by decide +kernel, rfl, by decide +kernel, by decide +kernel⟩
abbrev st_Sizes___getitem__ : Stmt := inClass (top 15) 6
abbrev N_Sizes___getitem__ : List Str := ["self", "kind"]
abbrev P_Sizes___getitem__ : List Str := ["self", "kind"]
theorem sc_Sizes___getitem__ : FnScope N_Sizes___getitem__ P_Sizes___getitem__ (defScope st_Sizes___getitem__) := ⟨rfl, rfl, rfl, by decide +kernel, rfl, by decide +kernel, by decide +kernel⟩
abbrev st_Sizes___add__ : Stmt := inClass (top 15) 8
abbrev N_Sizes___add__ : List Str := ["self", "other", "kind"]
abbrev P_Sizes___add__ : List Str := ["self", "other"]
theorem sc_Sizes___add__ : FnScope N_Sizes___add__ P_Sizes___add__ (defScope st_Sizes___add__) := ⟨rfl, rfl, rfl, by decide +kernel, rfl, by decide +kernel, by decide +kernel⟩
abbrev st_Sizes___and__ : Stmt := inClass (top 15) 9
abbrev N_Sizes___and__ : List Str := ["self", "other", "kind"]
abbrev P_Sizes___and__ : List Str := ["self", "other"]
theorem sc_Sizes___and__ : FnScope N_Sizes___and__ P_Sizes___and__ (defScope st_Sizes___and__) := ⟨rfl, rfl, rfl, by decide +kernel, rfl, by decide +kernel, by decide +kernel⟩
abbrev st_Sizes___or__ : Stmt := inClass (top 15) 10
abbrev N_Sizes___or__ : List Str := ["self", "other", "kind"]
abbrev P_Sizes___or__ : List Str := ["self", "other"]
theorem sc_Sizes___or__ : FnScope N_Sizes___or__ P_Sizes___or__ (defScope st_Sizes___or__) := ⟨rfl, rfl, rfl, by decide +kernel, rfl, by decide +kernel, by decide +kernel⟩
abbrev st_Sizes___mul__ : Stmt := inClass (top 15) 11
abbrev N_Sizes___mul__ : List Str := ["self", "times", "kind"]
abbrev P_Sizes___mul__ : List Str := ["self", "times"]
theorem sc_Sizes___mul__ : FnScope N_Sizes___mul__ P_Sizes___mul__ (defScope st_Sizes___mul__) := ⟨rfl, rfl, rfl, by decide +kernel, rfl, by decide +kernel, by decide +kernel⟩
abbrev st_Sizes___rmul__ : Stmt := inClass (top 15) 12
abbrev N_Sizes___rmul__ : List Str := ["self", "times"]
abbrev P_Sizes___rmul__ : List Str := ["self", "times"]
theorem sc_Sizes___rmul__ : FnScope N_Sizes___rmul__ P_Sizes___rmul__ (defScope st_Sizes___rmul__) := ⟨rfl, rfl, rfl, by decide +kernel, rfl, by decide +kernel, by decide +kernel⟩
abbrev st_Sizes___bool__ : Stmt := inClass (top 15) 13
abbrev N_Sizes___bool__ : List Str := ["self", "kind"]
abbrev P_Sizes___bool__ : List Str := ["self"]
theorem sc_Sizes___bool__ : FnScope N_Sizes___bool__ P_Sizes___bool__ (defScope st_Sizes___bool__) := ⟨rfl, rfl, rfl, by decide +kernel, rfl, by decide +kernel, by decide +kernel⟩
abbrev st_Sizes___contains__ : Stmt := inClass (top 15) 14
abbrev N_Sizes___contains__ : List Str := ["self", "value"]
abbrev P_Sizes___contains__ : List Str := ["self", "value"]
theorem sc_Sizes___contains__ : FnScope N_Sizes___contains__ P_Sizes___contains__ (defScope st_Sizes___contains__) := ⟨rfl, rfl, rfl, by decide +kernel, rfl, by decide +kernel, by decide +kernel⟩
abbrev st_Sizes___len__ : Stmt := inClass (top 15) 15
abbrev N_Sizes___len__ : List Str := ["self"]
abbrev P_Sizes___len__ : List Str := ["self"]
theorem sc_Sizes___len__ : FnScope N_Sizes___len__ P_Sizes___len__ (defScope st_Sizes___len__) := ⟨rfl, rfl, rfl, by decide +kernel, rfl, by decide +kernel, by decide +kernel⟩
abbrev st_Sizes___eq__ : Stmt := inClass (top 15) 16
abbrev N_Sizes___eq__ : List Str := ["self", "other"]
abbrev P_Sizes___eq__ : List Str := ["self", "other"]
theorem sc_Sizes___eq__ : FnScope N_Sizes___eq__ P_Sizes___eq__ (defScope st_Sizes___eq__) := ⟨rfl, rfl, rfl, by decide +kernel, rfl, by decide +kernel, by decide +kernel⟩
abbrev st_Sizes___repr__ : Stmt := inClass (top 15) 17
abbrev N_Sizes___repr__ : List Str := ["self"]
abbrev P_Sizes___repr__ : List Str := ["self"]
theorem sc_Sizes___repr__ : FnScope N_Sizes___repr__ P_Sizes___repr__ (defScope st_Sizes___repr__) := ⟨rfl, rfl, rfl, by decide +kernel, rfl, by decide +kernel, by decide +kernel⟩
abbrev st_Sizes__check_like : Stmt := inClass (top 15) 18
abbrev N_Sizes__check_like : List Str := ["self", "other"]
abbrev P_Sizes__check_like : List Str := ["self", "other"]
theorem sc_Sizes__check_like : FnScope N_Sizes__check_like P_Sizes__check_like (defScope st_Sizes__check_like) := ⟨rfl, rfl, rfl, by decide +kernel, rfl, by decide +kernel, by decide +kernel⟩
abbrev st_Sizes_of : Stmt := inClass (top 15) 1
abbrev N_Sizes_of : List Str := ["counts"]
abbrev P_Sizes_of : List Str := ["counts"]
theorem sc_Sizes_of : FnScope N_Sizes_of P_Sizes_of (defScope st_Sizes_of) := ⟨rfl, rfl, rfl, by decide +kernel, rfl, by decide +kernel, by decide +kernel⟩
abbrev st_law : Stmt := top 30
abbrev N_law : List Str := ["_law_script", "_law_k"]
abbrev P_law : List Str := ["_law_script"]
theorem sc_law : FnScope N_law P_law (defScope st_law) := ⟨rfl, rfl, rfl, by decide +kernel, rfl, by decide +kernel, by decide +kernel⟩
structure Md (K : PySem.W.Frag) (mg : Str → Option Value) (C_Sizes : Addr) : Prop where
  b_isinstance : mg "isinstance" = none
  b_int : mg "int" = none
  b_str : mg "str" = none
  b_bool : mg "bool" = none
  b_dict : mg "dict" = none
  b_max : mg "max" = none
  b_min : mg "min" = none
  b_abs : mg "abs" = none
  b_divmod : mg "divmod" = none
  b_len : mg "len" = none
  b_range : mg "range" = none
  b_all : mg "all" = none
  b_any : mg "any" = none
  b_repr : mg "repr" = none
  b_list : mg "list" = none
  b_sorted : mg "sorted" = none
  f_is_integer : ∃ (f : Addr) (fd : FuncData), FunD K "is_integer" "is_integer" (defArgs st_is_integer) (defBody st_is_integer) (defScope st_is_integer) [] [] f fd ∧ mg "is_integer" = some (.ref f)
  f_is_count : ∃ (f : Addr) (fd : FuncData), FunD K "is_count" "is_count" (defArgs st_is_count) (defBody st_is_count) (defScope st_is_count) [] [] f fd ∧ mg "is_count" = some (.ref f)
  f_is_name : ∃ (f : Addr) (fd : FuncData), FunD K "is_name" "is_name" (defArgs st_is_name) (defBody st_is_name) (defScope st_is_name) [] [] f fd ∧ mg "is_name" = some (.ref f)
  f_check_kind : ∃ (f : Addr) (fd : FuncData), FunD K "check_kind" "check_kind" (defArgs st_check_kind) (defBody st_check_kind) (defScope st_check_kind) [] [] f fd ∧ mg "check_kind" = some (.ref f)
  f_check_count : ∃ (f : Addr) (fd : FuncData), FunD K "check_count" "check_count" (defArgs st_check_count) (defBody st_check_count) (defScope st_check_count) [] [] f fd ∧ mg "check_count" = some (.ref f)
  f__are_counts : ∃ (f : Addr) (fd : FuncData), FunD K "_are_counts" "_are_counts" (defArgs st__are_counts) (defBody st__are_counts) (defScope st__are_counts) [] [] f fd ∧ mg "_are_counts" = some (.ref f)
  f__law_pot : ∃ (f : Addr) (fd : FuncData), FunD K "_law_pot" "_law_pot" (defArgs st__law_pot) (defBody st__law_pot) (defScope st__law_pot) [] [] f fd ∧ mg "_law_pot" = some (.ref f)
  f__law_draw : ∃ (f : Addr) (fd : FuncData), FunD K "_law_draw" "_law_draw" (defArgs st__law_draw) (defBody st__law_draw) (defScope st__law_draw) [] [] f fd ∧ mg "_law_draw" = some (.ref f)
  f__law_pick : ∃ (f : Addr) (fd : FuncData), FunD K "_law_pick" "_law_pick" (defArgs st__law_pick) (defBody st__law_pick) (defScope st__law_pick) [] [] f fd ∧ mg "_law_pick" = some (.ref f)
  f__law_mixed : ∃ (f : Addr) (fd : FuncData), FunD K "_law_mixed" "_law_mixed" (defArgs st__law_mixed) (defBody st__law_mixed) (defScope st__law_mixed) [] [] f fd ∧ mg "_law_mixed" = some (.ref f)
  f__law_names : ∃ (f : Addr) (fd : FuncData), FunD K "_law_names" "_law_names" (defArgs st__law_names) (defBody st__law_names) (defScope st__law_names) [] [] f fd ∧ mg "_law_names" = some (.ref f)
  f__law_far : ∃ (f : Addr) (fd : FuncData), FunD K "_law_far" "_law_far" (defArgs st__law_far) (defBody st__law_far) (defScope st__law_far) [] [] f fd ∧ mg "_law_far" = some (.ref f)
  f__law_amount : ∃ (f : Addr) (fd : FuncData), FunD K "_law_amount" "_law_amount" (defArgs st__law_amount) (defBody st__law_amount) (defScope st__law_amount) [] [] f fd ∧ mg "_law_amount" = some (.ref f)
  f__law_text : ∃ (f : Addr) (fd : FuncData), FunD K "_law_text" "_law_text" (defArgs st__law_text) (defBody st__law_text) (defScope st__law_text) [] [] f fd ∧ mg "_law_text" = some (.ref f)
  f__law_shown_right : ∃ (f : Addr) (fd : FuncData), FunD K "_law_shown_right" "_law_shown_right" (defArgs st__law_shown_right) (defBody st__law_shown_right) (defScope st__law_shown_right) [] [] f fd ∧ mg "_law_shown_right" = some (.ref f)
  f__law_pair_right : ∃ (f : Addr) (fd : FuncData), FunD K "_law_pair_right" "_law_pair_right" (defArgs st__law_pair_right) (defBody st__law_pair_right) (defScope st__law_pair_right) [] [] f fd ∧ mg "_law_pair_right" = some (.ref f)
  f__law_others_right : ∃ (f : Addr) (fd : FuncData), FunD K "_law_others_right" "_law_others_right" (defArgs st__law_others_right) (defBody st__law_others_right) (defScope st__law_others_right) [] [] f fd ∧ mg "_law_others_right" = some (.ref f)
  f__law_right : ∃ (f : Addr) (fd : FuncData), FunD K "_law_right" "_law_right" (defArgs st__law_right) (defBody st__law_right) (defScope st__law_right) [] [] f fd ∧ mg "_law_right" = some (.ref f)
  g_MOST_LETTERS : ∃ u, mg "MOST_LETTERS" = some u ∧ RelV (.int 8) u
  m_Sizes : mg "Sizes" = some (.ref C_Sizes)
  k_Sizes : Cls K C_Sizes
  i_Sizes : ∃ (f : Addr) (fd : FuncData), Mk K C_Sizes f ∧ FunD K "__init__" "Sizes.__init__" (defArgs st_Sizes___init__) (defBody st_Sizes___init__) (defScope st_Sizes___init__) [] [] f fd
  z_Sizes : ∀ {H : Hp} {a dx : Addr} {fs : List (Str × V)}, H a = some (.ins C_Sizes dx fs) → TyOf K H (.ref a) (.ref C_Sizes)
  n_Sizes__counts : NoAttr K C_Sizes "_counts"
  e_Sizes_kinds : ∃ (f : Addr) (fd : FuncData), Meth K C_Sizes "kinds" f ∧ FunD K "kinds" "Sizes.kinds" (defArgs st_Sizes_kinds) (defBody st_Sizes_kinds) (defScope st_Sizes_kinds) [] [] f fd
  e_Sizes_counts : ∃ (f : Addr) (fd : FuncData), Meth K C_Sizes "counts" f ∧ FunD K "counts" "Sizes.counts" (defArgs st_Sizes_counts) (defBody st_Sizes_counts) (defScope st_Sizes_counts) [] [] f fd
  e_Sizes_is_within : ∃ (f : Addr) (fd : FuncData), Meth K C_Sizes "is_within" f ∧ FunD K "is_within" "Sizes.is_within" (defArgs st_Sizes_is_within) (defBody st_Sizes_is_within) (defScope st_Sizes_is_within) [] [] f fd
  e_Sizes_with_count : ∃ (f : Addr) (fd : FuncData), Meth K C_Sizes "with_count" f ∧ FunD K "with_count" "Sizes.with_count" (defArgs st_Sizes_with_count) (defBody st_Sizes_with_count) (defScope st_Sizes_with_count) [] [] f fd
  e_Sizes___getitem__ : ∃ (f : Addr) (fd : FuncData), Meth K C_Sizes "__getitem__" f ∧ FunD K "__getitem__" "Sizes.__getitem__" (defArgs st_Sizes___getitem__) (defBody st_Sizes___getitem__) (defScope st_Sizes___getitem__) [] [] f fd
  e_Sizes___add__ : ∃ (f : Addr) (fd : FuncData), Meth K C_Sizes "__add__" f ∧ FunD K "__add__" "Sizes.__add__" (defArgs st_Sizes___add__) (defBody st_Sizes___add__) (defScope st_Sizes___add__) [] [] f fd
  e_Sizes___and__ : ∃ (f : Addr) (fd : FuncData), Meth K C_Sizes "__and__" f ∧ FunD K "__and__" "Sizes.__and__" (defArgs st_Sizes___and__) (defBody st_Sizes___and__) (defScope st_Sizes___and__) [] [] f fd
  e_Sizes___or__ : ∃ (f : Addr) (fd : FuncData), Meth K C_Sizes "__or__" f ∧ FunD K "__or__" "Sizes.__or__" (defArgs st_Sizes___or__) (defBody st_Sizes___or__) (defScope st_Sizes___or__) [] [] f fd
  e_Sizes___mul__ : ∃ (f : Addr) (fd : FuncData), Meth K C_Sizes "__mul__" f ∧ FunD K "__mul__" "Sizes.__mul__" (defArgs st_Sizes___mul__) (defBody st_Sizes___mul__) (defScope st_Sizes___mul__) [] [] f fd
  e_Sizes___rmul__ : ∃ (f : Addr) (fd : FuncData), Meth K C_Sizes "__rmul__" f ∧ FunD K "__rmul__" "Sizes.__rmul__" (defArgs st_Sizes___rmul__) (defBody st_Sizes___rmul__) (defScope st_Sizes___rmul__) [] [] f fd
  e_Sizes___bool__ : ∃ (f : Addr) (fd : FuncData), Meth K C_Sizes "__bool__" f ∧ FunD K "__bool__" "Sizes.__bool__" (defArgs st_Sizes___bool__) (defBody st_Sizes___bool__) (defScope st_Sizes___bool__) [] [] f fd
  e_Sizes___contains__ : ∃ (f : Addr) (fd : FuncData), Meth K C_Sizes "__contains__" f ∧ FunD K "__contains__" "Sizes.__contains__" (defArgs st_Sizes___contains__) (defBody st_Sizes___contains__) (defScope st_Sizes___contains__) [] [] f fd
  e_Sizes___len__ : ∃ (f : Addr) (fd : FuncData), Meth K C_Sizes "__len__" f ∧ FunD K "__len__" "Sizes.__len__" (defArgs st_Sizes___len__) (defBody st_Sizes___len__) (defScope st_Sizes___len__) [] [] f fd
  e_Sizes___eq__ : ∃ (f : Addr) (fd : FuncData), Meth K C_Sizes "__eq__" f ∧ FunD K "__eq__" "Sizes.__eq__" (defArgs st_Sizes___eq__) (defBody st_Sizes___eq__) (defScope st_Sizes___eq__) [] [] f fd
  e_Sizes___repr__ : ∃ (f : Addr) (fd : FuncData), Meth K C_Sizes "__repr__" f ∧ FunD K "__repr__" "Sizes.__repr__" (defArgs st_Sizes___repr__) (defBody st_Sizes___repr__) (defScope st_Sizes___repr__) [] [] f fd
  e_Sizes__check_like : ∃ (f : Addr) (fd : FuncData), Meth K C_Sizes "_check_like" f ∧ FunD K "_check_like" "Sizes._check_like" (defArgs st_Sizes__check_like) (defBody st_Sizes__check_like) (defScope st_Sizes__check_like) [] [] f fd
  sf_Sizes : PySem.W.selfFirst K C_Sizes = true
  ne_Sizes : PySem.W.findIn K (.ref C_Sizes) "__ne__" = some (some (.builtin "object.__ne__"))
  mo_Sizes : PySem.W.mroIn K C_Sizes (.type "object") = some true
  im_Sizes : PySem.W.findIn K (.type "int") "__mul__" = some (some (.builtin "int.__mul__"))
  ir_Sizes : PySem.W.findIn K (.type "int") "__rmul__" = some (some (.builtin "int.__rmul__"))
  is_Sizes : PySem.W.subIn K (.type "int") (.ref C_Sizes) = some false
  ks_Sizes : PySem.W.kitOne K (.ref C_Sizes) (.type "str") = some false
  kd_Sizes : PySem.W.kitOne K (.type "dict") (.ref C_Sizes) = some false
  kt_Sizes : PySem.W.kitOne K (.type "str") (.ref C_Sizes) = some false
  kl_Sizes : PySem.W.kitOne K (.type "list") (.ref C_Sizes) = some false
  ud_Sizes : PySem.W.subIn K (.type "dict") (.ref C_Sizes) = some false
  ut_Sizes : PySem.W.subIn K (.type "str") (.ref C_Sizes) = some false
  ul_Sizes : PySem.W.subIn K (.type "list") (.ref C_Sizes) = some false
  si_Sizes : PySem.W.subIn K (.ref C_Sizes) (.type "int") = some false
  t_Sizes_of : ∃ (f : Addr) (fd : FuncData), StaM K C_Sizes "of" f ∧ FunD K "of" "Sizes.of" (defArgs st_Sizes_of) (defBody st_Sizes_of) (defScope st_Sizes_of) [] [] f fd
end My
open My L2 PySem
open My L2 PySem
local macro_rules | `(tactic| walk_at "as") => `(tactic| with_reducible assumption)
local macro_rules | `(tactic| walk_at "hp") => `(tactic| first
  | walk_at "as" | exact upd_same
  | (rw [upd_ne (by walk_at "ne")]; walk_at "hp")
  | (refine But.get (by walk_at "as") ?hp1 ?hp2; (case hp1 => walk_at "hp"); (case hp2 => walk_at "ne"))
  | (refine My.Same.get (by walk_at "as") ?hp1; (case hp1 => walk_at "hp")))
local macro_rules | `(tactic| walk_at "ne") => `(tactic| first
  | walk_at "as" | exact Ne.symm (by walk_at "as")
  | (refine' ne_of_none ?ne1 ?ne2; (case ne2 => walk_at "as"); (case ne1 => walk_at "hp"))
  | (refine' Ne.symm (ne_of_none ?ne1 ?ne2); (case ne2 => walk_at "as"); (case ne1 => walk_at "hp"))
  | exact ne_of (by walk_at "hp") (by walk_at "hp") (by intro z; cases z))
local macro_rules | `(tactic| walk_at "sd") => `(tactic| first
  | walk_at "as" | omega | decide | exact ⟨by omega, by omega⟩ | exact .inl ⟨by omega, by omega⟩ | exact .inr ⟨by omega, by omega⟩ | exact divp_wide (by walk_at "as") (by walk_at "as") | exact Sm.cmul (by walk_at "as") (by walk_at "as") | exact cmul_small (by omega) (by omega) (by omega) (by omega) | exact ⟨by omega, by decide⟩)
local macro_rules | `(tactic| walk_at "bt") => `(tactic| first
  | walk_at "as" | exact But.refl _ _ | exact Same.but (by walk_at "as")
  | (refine But.trans ?bt1 But.at; (case bt1 => walk_at "bt"))
  | (refine But.trans ?bt1 (But.new (by first | walk_at "as" | walk_at "hp")); (case bt1 => walk_at "bt"))
  | (refine But.trans ?bt1 (by walk_at "as"); (case bt1 => walk_at "bt"))
  | (refine But.trans ?bt1 (Same.but (by walk_at "as")); (case bt1 => walk_at "bt")))
local macro_rules | `(tactic| walk_at "sm") => `(tactic| first
  | walk_at "as" | exact My.Same.rfl' _
  | (refine' My.Same.at_ ?sm1 ?sm2; (case sm1 => walk_at "as"); (case sm2 => walk_at "sm"))
  | (refine' My.Same.tr ?sm1 (My.Same.new ?sm2); (case sm2 => walk_at "as"); (case sm1 => walk_at "sm"))
  | (refine' My.Same.tr ?sm1 ?sm2; (case sm2 => walk_at "as"); (case sm1 => walk_at "sm")))
local macro_rules | `(tactic| walk_at "sz") => `(tactic| first
  | assumption | exact lt_size (by rfl) | exact le_size (by rfl) | (rw [sizeLine_eq]; omega)
  | (rw [sizeLine_eq]; simp only [List.length_append, List.length_map, List.length_cons, List.length_nil]; omega))
local macro_rules | `(tactic| walk_at "few") => `(tactic| (repeat refine few_put ?_); exact few0)
local macro_rules | `(tactic| walk_at "rd1") => `(tactic| first
  | (with_reducible show tVar _ _ _ _); refine s_var rfl ?_
  | with_reducible refine s_c ?_ | with_reducible refine s_op ?_ | with_reducible refine s_un ?_
  | with_reducible refine s_cons ?_ | with_reducible refine s_nil ?_ | with_reducible refine s_cb ?_
  | with_reducible refine s_test ?_ | with_reducible refine s_B ?_ | with_reducible refine s_not ?_ | with_reducible refine s_and ?_ | with_reducible refine s_or ?_
  | with_reducible refine s_if ?_ | with_reducible refine s_notV ?_ | with_reducible refine s_andV ?_ | with_reducible refine s_orV ?_
  | with_reducible refine s_orT ?_ | with_reducible refine s_andT ?_ | with_reducible refine s_chain ?_
  | with_reducible refine s_isi_int ?_ | with_reducible refine s_isi_int_bool ?_ | with_reducible refine s_isi_str ?_
  | with_reducible refine iteT ?_ | with_reducible refine iteF ?_ | with_reducible refine iteNT ?_ | with_reducible refine iteNF ?_
  | with_reducible refine s_isN ?_ | with_reducible refine s_notN ?_
  | ((with_reducible refine' s_2setE ?g1 ?_); (case g1 => first | (dsimp only [List.set, L2.wipe, List.map, List.foldl]; done) | (dsimp only [List.set, L2.wipe, List.map, List.foldl]; rfl)))
  | with_reducible refine s_seq ?_ | with_reducible refine s_ifS ?_ | with_reducible refine s_asg ?_ | with_reducible refine s_ret ?_ | with_reducible refine s_drop ?_ | with_reducible refine s_next ?_
  | ((with_reducible refine' s_gnameE ?g1 ?_); (case g1 => first | (dsimp only [List.set, L2.wipe, List.map, List.foldl]; done) | (dsimp only [List.set, L2.wipe, List.map, List.foldl]; rfl)))
  | with_reducible refine s_gsub ?_ | with_reducible refine s_gcons ?_ | with_reducible refine s_gnil ?_
  | (with_reducible show gTup _ _ _ _ _ _ _); refine s_gtup (by walk_at "hp") rfl ?_
  | with_reducible refine s_eqI ?_ | with_reducible refine s_neI ?_ | with_reducible refine s_eqS ?_ | with_reducible refine s_neB ?_ | with_reducible refine s_eqB ?_ | with_reducible refine s_neSr ?_ | with_reducible refine s_neS ?_
  | with_reducible refine s_I0 ?_
  | (with_reducible show rI _ _ _ _ _ _); refine s_I (by walk_at "sd") ?_
  | (with_reducible show rIxL _ _ _ _ _); refine s_ixL (by walk_at "hp") rfl ?_
  | (with_reducible show rIxT _ _ _ _ _); refine s_ixT (by walk_at "hp") rfl ?_
  | (with_reducible show rSetL _ _ _ _ _); refine s_setL (by walk_at "hp") rfl ?_
  | with_reducible refine s_prop ?_
  | (with_reducible show _ ≤ sizeLine ∧ _); refine ⟨le_size (by rfl), ?_⟩
  | with_reducible refine ite_NN ?_ | with_reducible refine ite_IN ?_ | with_reducible refine ite_nNN ?_ | with_reducible refine ite_nIN ?_ | with_reducible refine ite_RN ?_ | with_reducible refine ite_nRN ?_
  | with_reducible refine s_sfld ?_
  | ((with_reducible refine' ⟨_, _, _, _, rfl, ?fp1, ?fp2, ?fp3, ?fp4, ?_⟩); (case fp1 => walk_at "hp"); (case fp2 => assumption); (case fp3 => assumption); (case fp4 => walk_at "few"))
  | with_reducible refine s_fldE ?_
  | ((with_reducible refine' ⟨_, _, _, _, _, rfl, ?fp1, ?fp2, ?fp3, ?fp4, ?_⟩); (case fp1 => walk_at "hp"); (case fp2 => assumption); (case fp3 => assumption); (case fp4 => rfl))
  | with_reducible refine s_bm ?_ | with_reducible refine s_bm0 ?_
  | ((with_reducible refine' s_tyL ?ty1 ?_); (case ty1 => walk_at "hp"))
  | ((with_reducible refine' s_append ?ap1 ?ap2 ?_); (case ap1 => walk_at "hp"); (case ap2 => walk_at "sz"))
  | ((with_reducible refine' s_extend ?ap1 ?ap2 ?ap3 ?_); (case ap1 => walk_at "hp"); (case ap2 => walk_at "hp"); (case ap3 => walk_at "sz"))
  | with_reducible refine s_for (fun _ _ => ?_) | with_reducible refine s_lc ?_ | with_reducible refine s_iList ?_ | with_reducible refine s_iTup ?_ | with_reducible refine s_iRng1 ?_ | with_reducible refine s_iRng2 ?_
  | with_reducible refine s_yes ?_ | with_reducible refine s_par ?_
  | with_reducible refine s_make ?_ | with_reducible refine s_meth ?_
  | with_reducible refine s_tup ?_ | with_reducible refine s_lst ?_ | with_reducible refine s_call ?_
  | with_reducible refine ⟨rfl, ?_⟩
  | with_reducible refine ⟨_, rfl, ?_⟩
  | ((with_reducible refine' ⟨_, _, rfl, ?sd1, ?_⟩); (case sd1 => walk_at "sd"))
  | with_reducible refine ⟨_, _, rfl, ?_⟩
  | with_reducible refine .inl ⟨_, rfl, ?_⟩
  | dsimp only [List.set]
  | walk_at "rdx"
  | (refine fun _ _ => ?_))
local macro_rules | `(tactic| walk_at "rd") => `(tactic| repeat (first
  | (with_reducible show tVar _ _ _ _); refine s_var rfl ?_
  | with_reducible refine s_c ?_ | with_reducible refine s_op ?_ | with_reducible refine s_un ?_
  | with_reducible refine s_cons ?_ | with_reducible refine s_nil ?_ | with_reducible refine s_cb ?_
  | with_reducible refine s_test ?_ | with_reducible refine s_B ?_ | with_reducible refine s_not ?_ | with_reducible refine s_and ?_ | with_reducible refine s_or ?_
  | with_reducible refine s_if ?_ | with_reducible refine s_notV ?_ | with_reducible refine s_andV ?_ | with_reducible refine s_orV ?_
  | with_reducible refine s_orT ?_ | with_reducible refine s_andT ?_ | with_reducible refine s_chain ?_
  | with_reducible refine s_isi_int ?_ | with_reducible refine s_isi_int_bool ?_ | with_reducible refine s_isi_str ?_
  | with_reducible refine iteT ?_ | with_reducible refine iteF ?_ | with_reducible refine iteNT ?_ | with_reducible refine iteNF ?_
  | with_reducible refine s_isN ?_ | with_reducible refine s_notN ?_
  | ((with_reducible refine' s_2setE ?g1 ?_); (case g1 => first | (dsimp only [List.set, L2.wipe, List.map, List.foldl]; done) | (dsimp only [List.set, L2.wipe, List.map, List.foldl]; rfl)))
  | with_reducible refine s_seq ?_ | with_reducible refine s_ifS ?_ | with_reducible refine s_asg ?_ | with_reducible refine s_ret ?_ | with_reducible refine s_drop ?_ | with_reducible refine s_next ?_
  | ((with_reducible refine' s_gnameE ?g1 ?_); (case g1 => first | (dsimp only [List.set, L2.wipe, List.map, List.foldl]; done) | (dsimp only [List.set, L2.wipe, List.map, List.foldl]; rfl)))
  | with_reducible refine s_gsub ?_ | with_reducible refine s_gcons ?_ | with_reducible refine s_gnil ?_
  | (with_reducible show gTup _ _ _ _ _ _ _); refine s_gtup (by walk_at "hp") rfl ?_
  | with_reducible refine s_eqI ?_ | with_reducible refine s_neI ?_ | with_reducible refine s_eqS ?_ | with_reducible refine s_neB ?_ | with_reducible refine s_eqB ?_ | with_reducible refine s_neSr ?_ | with_reducible refine s_neS ?_
  | with_reducible refine s_I0 ?_
  | (with_reducible show rI _ _ _ _ _ _); refine s_I (by walk_at "sd") ?_
  | (with_reducible show rIxL _ _ _ _ _); refine s_ixL (by walk_at "hp") rfl ?_
  | (with_reducible show rIxT _ _ _ _ _); refine s_ixT (by walk_at "hp") rfl ?_
  | (with_reducible show rSetL _ _ _ _ _); refine s_setL (by walk_at "hp") rfl ?_
  | with_reducible refine s_prop ?_
  | (with_reducible show _ ≤ sizeLine ∧ _); refine ⟨le_size (by rfl), ?_⟩
  | with_reducible refine ite_NN ?_ | with_reducible refine ite_IN ?_ | with_reducible refine ite_nNN ?_ | with_reducible refine ite_nIN ?_ | with_reducible refine ite_RN ?_ | with_reducible refine ite_nRN ?_
  | with_reducible refine s_sfld ?_
  | ((with_reducible refine' ⟨_, _, _, _, rfl, ?fp1, ?fp2, ?fp3, ?fp4, ?_⟩); (case fp1 => walk_at "hp"); (case fp2 => assumption); (case fp3 => assumption); (case fp4 => walk_at "few"))
  | with_reducible refine s_fldE ?_
  | ((with_reducible refine' ⟨_, _, _, _, _, rfl, ?fp1, ?fp2, ?fp3, ?fp4, ?_⟩); (case fp1 => walk_at "hp"); (case fp2 => assumption); (case fp3 => assumption); (case fp4 => rfl))
  | with_reducible refine s_bm ?_ | with_reducible refine s_bm0 ?_
  | ((with_reducible refine' s_tyL ?ty1 ?_); (case ty1 => walk_at "hp"))
  | ((with_reducible refine' s_append ?ap1 ?ap2 ?_); (case ap1 => walk_at "hp"); (case ap2 => walk_at "sz"))
  | ((with_reducible refine' s_extend ?ap1 ?ap2 ?ap3 ?_); (case ap1 => walk_at "hp"); (case ap2 => walk_at "hp"); (case ap3 => walk_at "sz"))
  | with_reducible refine s_for (fun _ _ => ?_) | with_reducible refine s_lc ?_ | with_reducible refine s_iList ?_ | with_reducible refine s_iTup ?_ | with_reducible refine s_iRng1 ?_ | with_reducible refine s_iRng2 ?_
  | with_reducible refine s_yes ?_ | with_reducible refine s_par ?_
  | with_reducible refine s_make ?_ | with_reducible refine s_meth ?_
  | with_reducible refine s_tup ?_ | with_reducible refine s_lst ?_ | with_reducible refine s_call ?_
  | with_reducible refine ⟨rfl, ?_⟩
  | with_reducible refine ⟨_, rfl, ?_⟩
  | ((with_reducible refine' ⟨_, _, rfl, ?sd1, ?_⟩); (case sd1 => walk_at "sd"))
  | with_reducible refine ⟨_, _, rfl, ?_⟩
  | with_reducible refine .inl ⟨_, rfl, ?_⟩
  | dsimp only [List.set]
  | walk_at "rdx"
  | (refine fun _ _ => ?_)))
end
section

namespace My
open PySem L2 PySem.W
def dd_is_integer : He.DefD := ⟨("is_integer", none), "is_integer", "is_integer", defArgs st_is_integer, defBody st_is_integer, defScope st_is_integer, [], []⟩
def dd_is_count : He.DefD := ⟨("is_count", none), "is_count", "is_count", defArgs st_is_count, defBody st_is_count, defScope st_is_count, [], []⟩
def dd_is_name : He.DefD := ⟨("is_name", none), "is_name", "is_name", defArgs st_is_name, defBody st_is_name, defScope st_is_name, [], []⟩
def dd_check_kind : He.DefD := ⟨("check_kind", none), "check_kind", "check_kind", defArgs st_check_kind, defBody st_check_kind, defScope st_check_kind, [], []⟩
def dd_check_count : He.DefD := ⟨("check_count", none), "check_count", "check_count", defArgs st_check_count, defBody st_check_count, defScope st_check_count, [], []⟩
def dd__are_counts : He.DefD := ⟨("_are_counts", none), "_are_counts", "_are_counts", defArgs st__are_counts, defBody st__are_counts, defScope st__are_counts, [], []⟩
def dd__law_pot : He.DefD := ⟨("_law_pot", none), "_law_pot", "_law_pot", defArgs st__law_pot, defBody st__law_pot, defScope st__law_pot, [], []⟩
def dd__law_draw : He.DefD := ⟨("_law_draw", none), "_law_draw", "_law_draw", defArgs st__law_draw, defBody st__law_draw, defScope st__law_draw, [], []⟩
def dd__law_pick : He.DefD := ⟨("_law_pick", none), "_law_pick", "_law_pick", defArgs st__law_pick, defBody st__law_pick, defScope st__law_pick, [], []⟩
def dd__law_mixed : He.DefD := ⟨("_law_mixed", none), "_law_mixed", "_law_mixed", defArgs st__law_mixed, defBody st__law_mixed, defScope st__law_mixed, [], []⟩
def dd__law_names : He.DefD := ⟨("_law_names", none), "_law_names", "_law_names", defArgs st__law_names, defBody st__law_names, defScope st__law_names, [], []⟩
def dd__law_far : He.DefD := ⟨("_law_far", none), "_law_far", "_law_far", defArgs st__law_far, defBody st__law_far, defScope st__law_far, [], []⟩
def dd__law_amount : He.DefD := ⟨("_law_amount", none), "_law_amount", "_law_amount", defArgs st__law_amount, defBody st__law_amount, defScope st__law_amount, [], []⟩
def dd__law_text : He.DefD := ⟨("_law_text", none), "_law_text", "_law_text", defArgs st__law_text, defBody st__law_text, defScope st__law_text, [], []⟩
def dd__law_shown_right : He.DefD := ⟨("_law_shown_right", none), "_law_shown_right", "_law_shown_right", defArgs st__law_shown_right, defBody st__law_shown_right, defScope st__law_shown_right, [], []⟩
def dd__law_pair_right : He.DefD := ⟨("_law_pair_right", none), "_law_pair_right", "_law_pair_right", defArgs st__law_pair_right, defBody st__law_pair_right, defScope st__law_pair_right, [], []⟩
def dd__law_others_right : He.DefD := ⟨("_law_others_right", none), "_law_others_right", "_law_others_right", defArgs st__law_others_right, defBody st__law_others_right, defScope st__law_others_right, [], []⟩
def dd__law_right : He.DefD := ⟨("_law_right", none), "_law_right", "_law_right", defArgs st__law_right, defBody st__law_right, defScope st__law_right, [], []⟩
def dd_Sizes___init__ : He.DefD := ⟨("Sizes", some "__init__"), "__init__", "Sizes.__init__", defArgs st_Sizes___init__, defBody st_Sizes___init__, defScope st_Sizes___init__, [], []⟩
def dd_Sizes_kinds : He.DefD := ⟨("Sizes", some "kinds"), "kinds", "Sizes.kinds", defArgs st_Sizes_kinds, defBody st_Sizes_kinds, defScope st_Sizes_kinds, [], []⟩
def dd_Sizes_counts : He.DefD := ⟨("Sizes", some "counts"), "counts", "Sizes.counts", defArgs st_Sizes_counts, defBody st_Sizes_counts, defScope st_Sizes_counts, [], []⟩
def dd_Sizes_is_within : He.DefD := ⟨("Sizes", some "is_within"), "is_within", "Sizes.is_within", defArgs st_Sizes_is_within, defBody st_Sizes_is_within, defScope st_Sizes_is_within, [], []⟩
def dd_Sizes_with_count : He.DefD := ⟨("Sizes", some "with_count"), "with_count", "Sizes.with_count", defArgs st_Sizes_with_count, defBody st_Sizes_with_count, defScope st_Sizes_with_count, [], []⟩
def dd_Sizes___getitem__ : He.DefD := ⟨("Sizes", some "__getitem__"), "__getitem__", "Sizes.__getitem__", defArgs st_Sizes___getitem__, defBody st_Sizes___getitem__, defScope st_Sizes___getitem__, [], []⟩
def dd_Sizes___add__ : He.DefD := ⟨("Sizes", some "__add__"), "__add__", "Sizes.__add__", defArgs st_Sizes___add__, defBody st_Sizes___add__, defScope st_Sizes___add__, [], []⟩
def dd_Sizes___and__ : He.DefD := ⟨("Sizes", some "__and__"), "__and__", "Sizes.__and__", defArgs st_Sizes___and__, defBody st_Sizes___and__, defScope st_Sizes___and__, [], []⟩
def dd_Sizes___or__ : He.DefD := ⟨("Sizes", some "__or__"), "__or__", "Sizes.__or__", defArgs st_Sizes___or__, defBody st_Sizes___or__, defScope st_Sizes___or__, [], []⟩
def dd_Sizes___mul__ : He.DefD := ⟨("Sizes", some "__mul__"), "__mul__", "Sizes.__mul__", defArgs st_Sizes___mul__, defBody st_Sizes___mul__, defScope st_Sizes___mul__, [], []⟩
def dd_Sizes___rmul__ : He.DefD := ⟨("Sizes", some "__rmul__"), "__rmul__", "Sizes.__rmul__", defArgs st_Sizes___rmul__, defBody st_Sizes___rmul__, defScope st_Sizes___rmul__, [], []⟩
def dd_Sizes___bool__ : He.DefD := ⟨("Sizes", some "__bool__"), "__bool__", "Sizes.__bool__", defArgs st_Sizes___bool__, defBody st_Sizes___bool__, defScope st_Sizes___bool__, [], []⟩
def dd_Sizes___contains__ : He.DefD := ⟨("Sizes", some "__contains__"), "__contains__", "Sizes.__contains__", defArgs st_Sizes___contains__, defBody st_Sizes___contains__, defScope st_Sizes___contains__, [], []⟩
def dd_Sizes___len__ : He.DefD := ⟨("Sizes", some "__len__"), "__len__", "Sizes.__len__", defArgs st_Sizes___len__, defBody st_Sizes___len__, defScope st_Sizes___len__, [], []⟩
def dd_Sizes___eq__ : He.DefD := ⟨("Sizes", some "__eq__"), "__eq__", "Sizes.__eq__", defArgs st_Sizes___eq__, defBody st_Sizes___eq__, defScope st_Sizes___eq__, [], []⟩
def dd_Sizes___repr__ : He.DefD := ⟨("Sizes", some "__repr__"), "__repr__", "Sizes.__repr__", defArgs st_Sizes___repr__, defBody st_Sizes___repr__, defScope st_Sizes___repr__, [], []⟩
def dd_Sizes__check_like : He.DefD := ⟨("Sizes", some "_check_like"), "_check_like", "Sizes._check_like", defArgs st_Sizes__check_like, defBody st_Sizes__check_like, defScope st_Sizes__check_like, [], []⟩
def dd_law : He.DefD := ⟨("law", none), "law", "law", defArgs st_law, defBody st_law, defScope st_law, [], []⟩
def dd_Sizes_of : He.DefD := ⟨("Sizes", some "of"), "of", "Sizes.of", defArgs st_Sizes_of, defBody st_Sizes_of, defScope st_Sizes_of, [], []⟩
def fnL : List He.DefD := ([dd_is_integer, dd_is_count, dd_is_name, dd_check_kind, dd_check_count, dd__are_counts, dd__law_pot, dd__law_draw, dd__law_pick, dd__law_mixed, dd__law_names, dd__law_far, dd__law_amount, dd__law_text, dd__law_shown_right, dd__law_pair_right, dd__law_others_right, dd__law_right, dd_Sizes___init__, dd_Sizes_kinds, dd_Sizes_counts, dd_Sizes_is_within, dd_Sizes_with_count, dd_Sizes___getitem__, dd_Sizes___add__, dd_Sizes___and__, dd_Sizes___or__, dd_Sizes___mul__, dd_Sizes___rmul__, dd_Sizes___bool__] : List He.DefD) ++ ([dd_Sizes___contains__, dd_Sizes___len__, dd_Sizes___eq__, dd_Sizes___repr__, dd_Sizes__check_like, dd_law] : List He.DefD)
def adL : List AtD := ([(fun K => staF K (He.ga K "Sizes") "of", dd_Sizes_of)] : List AtD)
def faL : List He.Fa := ([.glo "is_integer", .glo "is_count", .glo "is_name", .glo "check_kind", .glo "check_count", .glo "_are_counts", .glo "_law_pot", .glo "_law_draw", .glo "_law_pick", .glo "_law_mixed", .glo "_law_names", .glo "_law_far", .glo "_law_amount", .glo "_law_text", .glo "_law_shown_right", .glo "_law_pair_right", .glo "_law_others_right", .glo "_law_right", .glo "Sizes", .glo "law", .free "isinstance", .free "int", .free "str", .free "bool", .free "dict", .free "max", .free "min", .free "abs", .free "divmod", .free "len"] : List He.Fa) ++ ([.free "range", .free "all", .free "any", .free "repr", .free "list", .free "sorted", .int "MOST_LETTERS" (8), .cls "Sizes", .mkr "Sizes", .noat "Sizes" "_counts", .meth "Sizes" "kinds", .meth "Sizes" "counts", .meth "Sizes" "is_within", .meth "Sizes" "with_count", .meth "Sizes" "__getitem__", .meth "Sizes" "__add__", .meth "Sizes" "__and__", .meth "Sizes" "__or__", .meth "Sizes" "__mul__", .meth "Sizes" "__rmul__", .meth "Sizes" "__bool__", .meth "Sizes" "__contains__", .meth "Sizes" "__len__", .meth "Sizes" "__eq__", .meth "Sizes" "__repr__", .meth "Sizes" "_check_like"] : List He.Fa)
def tests (K : PySem.W.Frag) : List Bool := ([decide (specialIn K (.builtin "object.__class__") "__get__" = some (some (.builtin "getset_descriptor.__get__"))), decide (takesIn K (.builtin "object.__class__") = some true), eqO (findIn K (.ref (He.ga K "Sizes")) "__class__") (some (some (.builtin "object.__class__"))), decide (mroIn K (He.ga K "Sizes") (.type "object") = some true), staB K (He.ga K "Sizes") "of", decide (PySem.W.selfFirst K (He.ga K "Sizes") = true), decide (PySem.W.findIn K (.ref (He.ga K "Sizes")) "__ne__" = some (some (.builtin "object.__ne__"))), decide (PySem.W.mroIn K (He.ga K "Sizes") (.type "object") = some true), decide (PySem.W.findIn K (.type "int") "__mul__" = some (some (.builtin "int.__mul__"))), decide (PySem.W.findIn K (.type "int") "__rmul__" = some (some (.builtin "int.__rmul__"))), decide (PySem.W.subIn K (.type "int") (.ref (He.ga K "Sizes")) = some false), decide (PySem.W.kitOne K (.ref (He.ga K "Sizes")) (.type "str") = some false), decide (PySem.W.kitOne K (.type "dict") (.ref (He.ga K "Sizes")) = some false), decide (PySem.W.kitOne K (.type "str") (.ref (He.ga K "Sizes")) = some false), decide (PySem.W.kitOne K (.type "list") (.ref (He.ga K "Sizes")) = some false), decide (PySem.W.subIn K (.type "dict") (.ref (He.ga K "Sizes")) = some false), decide (PySem.W.subIn K (.type "str") (.ref (He.ga K "Sizes")) = some false), decide (PySem.W.subIn K (.type "list") (.ref (He.ga K "Sizes")) = some false), decide (PySem.W.subIn K (.ref (He.ga K "Sizes")) (.type "int") = some false)] : List Bool)
def exB (K : PySem.W.Frag) : Bool := (tests K).all id
def looseL : List PySem.Str := (["EachError", "InvalidCount", "InvalidSizes", "MissingError", "UnknownKind", "MOST_LETTERS", "is_integer", "is_count", "is_name", "check_kind", "check_count", "Sizes", "_are_counts", "_law_pot", "_law_draw", "_law_pick", "_law_mixed", "_law_names", "_law_far", "_law_amount", "_law_text", "_law_shown_right", "_law_pair_right", "_law_others_right", "_law_right"] : List PySem.Str)
abbrev rowR : PySem.W.OpenRow := PySem.W.OpenLaw.row PySem.Challenge.rw_howmanyeach_k50_sizes_made_and_asked
abbrev hkL : PySem.W.Hook := hookY 5 faL fnL adL exB
def obL (s : PySem.W.SharedT) : AlY := obsYG 5 faL fnL adL exB (HandSHeadRun.getT s)
theorem obL_eq (s : PySem.W.SharedT) : obL s = hkL.obs s.abs := obsYG_eq (HandSHeadRun.getT_eq s)
theorem runL (w : World) : HandSHeadRun.RunEq rowR (PySem.W.view rowR.prog [30]) hkL obL 6000 looseL w := by
  intro os
  kernel_rfl
end My
end
section

namespace My
open PySem L2 PyProof.Rows PySem.Spec
/-! ### texts in order -/
def leT (a b : Str) : Prop := ltCps b.cps.toList a.cps.toList = false
theorem lt_irr : ∀ a : List Nat, ltCps a a = false
  | [] => rfl
  | x :: r => by
    simp [ltCps, lt_irr r]
theorem lt_asym : ∀ {a b : List Nat}, ltCps a b = true → ltCps b a = false
  | [], [], h => by cases h
  | [], _ :: _, _ => rfl
  | _ :: _, [], h => by cases h
  | x :: r, y :: t, h => by
    simp only [ltCps, Bool.or_eq_true, Bool.and_eq_true, decide_eq_true_eq, beq_iff_eq] at h
    rcases h with h | ⟨rfl, h⟩
    · simp only [ltCps, Bool.or_eq_false_iff, decide_eq_false_iff_not, Bool.and_eq_false_iff, beq_eq_false_iff_ne]
      exact ⟨by omega, .inl (by omega)⟩
    · simp only [ltCps, Bool.or_eq_false_iff, decide_eq_false_iff_not, Bool.and_eq_false_iff]
      exact ⟨by omega, .inr (lt_asym h)⟩
theorem lt_anti : ∀ {a b : List Nat}, ltCps a b = false → ltCps b a = false → a = b
  | [], [], _, _ => rfl
  | [], _ :: _, h, _ => by cases h
  | _ :: _, [], _, h => by cases h
  | x :: r, y :: t, h, g => by
    simp only [ltCps, Bool.or_eq_false_iff, decide_eq_false_iff_not, Bool.and_eq_false_iff, beq_eq_false_iff_ne] at h g
    have e : x = y := by omega
    subst e
    rw [lt_anti (a := r) (b := t) (by rcases h.2 with z | z; exact absurd rfl z; exact z) (by rcases g.2 with z | z; exact absurd rfl z; exact z)]
theorem lt_tr : ∀ {a b c : List Nat}, ltCps b a = false → ltCps c b = false → ltCps c a = false
  | [], _, [], _, _ => rfl
  | [], [], _ :: _, _, _ => rfl
  | [], _ :: _, _ :: _, _, _ => rfl
  | _ :: _, [], _, h, _ => by cases h
  | _ :: _, _ :: _, [], _, g => by cases g
  | x :: r, y :: t, z :: u, h, g => by
    simp only [ltCps, Bool.or_eq_false_iff, decide_eq_false_iff_not, Bool.and_eq_false_iff, beq_eq_false_iff_ne] at h g ⊢
    refine ⟨by omega, ?_⟩
    by_cases e : z = x
    · subst e
      have e2 : y = z := by omega
      subst e2
      exact .inr (lt_tr (by rcases h.2 with q | q; exact absurd rfl q; exact q) (by rcases g.2 with q | q; exact absurd rfl q; exact q))
    · exact .inl e
theorem leT.antisymm {a b : Str} (h : leT a b) (g : leT b a) : a = b := by
  obtain ⟨a⟩ := a
  obtain ⟨b⟩ := b
  have e : a.toList = b.toList := lt_anti g h
  rw [Array.toList_inj.mp e]
theorem leT.trans {a b c : Str} (h : leT a b) (g : leT b c) : leT a c := lt_tr h g
theorem rising_pw : ∀ {l : List Str} {p : Str}, risingS p l = true → (p :: l).Pairwise leT
  | [], p, _ => List.pairwise_singleton _ _
  | x :: r, p, h => by
    have h' : (!ltCps x.cps.toList p.cps.toList && risingS x r) = true := h
    rw [Bool.and_eq_true, Bool.not_eq_true'] at h'
    have ih := rising_pw h'.2
    refine List.pairwise_cons.mpr ⟨fun y hy => ?_, ih⟩
    rcases List.mem_cons.mp hy with rfl | hy
    · exact h'.1
    · exact leT.trans h'.1 ((List.pairwise_cons.mp ih).1 y hy)
theorem sorted_pw {l : List Str} (h : sortedS l = true) : l.Pairwise leT := by
  cases l with
  | nil => exact List.Pairwise.nil
  | cons x r => exact rising_pw h
theorem sorted_uniq : ∀ {l m : List Str}, l.Pairwise leT → m.Pairwise leT → l.Perm m → l = m
  | [], m, _, _, p => p.nil_eq
  | x :: r, [], _, _, p => absurd p.symm.nil_eq (by simp)
  | x :: r, y :: t, h, g, p => by
    have hx := List.pairwise_cons.mp h
    have gy := List.pairwise_cons.mp g
    have e : x = y := by
      have m1 : x ∈ y :: t := p.mem_iff.mp List.mem_cons_self
      have m2 : y ∈ x :: r := p.mem_iff.mpr List.mem_cons_self
      rcases List.mem_cons.mp m1 with z | z
      · exact z
      · rcases List.mem_cons.mp m2 with q | q
        · exact q.symm
        · exact leT.antisymm (hx.1 y q) (gy.1 x z)
    subst e
    rw [sorted_uniq hx.2 gy.2 (List.Perm.cons_inv p)]
/-! ### what a Sizes holds -/
def names (d : List (Str × Int)) : List Str := d.map (·.1)
/-- sign by sign between a and z -/
def letS (s : Str) : Bool := s.cps.toList.all fun c => decide (97 ≤ c ∧ c ≤ 122)
def nameB (s : Str) : Bool := decide (1 ≤ s.length) && decide (s.length ≤ 8) && letS s
structure GoodD (d : List (Str × Int)) : Prop where
  nd : (names d).Nodup
  nm : ∀ p ∈ d, nameB p.1 = true
  nn : ∀ p ∈ d, 0 ≤ p.2
  sm : ∀ p ∈ d, Sm 600 p.2
  ne : d ≠ []
  few : d.length ≤ 12
theorem names_perm {d e : List (Str × Int)} (p : d.Perm e) : (names d).Perm (names e) := p.map _
theorem GoodD.perm {d e : List (Str × Int)} (g : GoodD e) (p : d.Perm e) : GoodD d where
  nd := (names_perm p).nodup_iff.mpr g.nd
  nm := fun x h => g.nm x (p.mem_iff.mp h)
  nn := fun x h => g.nn x (p.mem_iff.mp h)
  sm := fun x h => g.sm x (p.mem_iff.mp h)
  ne := fun z => g.ne (by rw [z] at p; exact p.symm.eq_nil)
  few := by rw [p.length_eq]; exact g.few
theorem look_mem {d : List (Str × Int)} (nd : (names d).Nodup) {p : Str × Int} (h : p ∈ d) : look d p.1 = some p.2 := by
  induction d with
  | nil => cases h
  | cons q r ih =>
    have nd' : q.1 ∉ names r ∧ (names r).Nodup := List.nodup_cons.mp nd
    unfold look
    rcases List.mem_cons.mp h with rfl | h
    · rw [if_pos rfl]
    · rw [if_neg (fun z => nd'.1 (List.mem_map.mpr ⟨p, h, z.symm⟩))]
      exact ih nd'.2 h
theorem look_some {d : List (Str × Int)} {k : Str} {i : Int} (h : look d k = some i) : (k, i) ∈ d := by
  induction d with
  | nil => cases h
  | cons q r ih =>
    unfold look at h
    by_cases e : q.1 = k
    · rw [if_pos e] at h
      have e2 := Option.some.inj h
      subst e
      subst e2
      exact List.mem_cons_self
    · rw [if_neg e] at h
      exact List.mem_cons_of_mem _ (ih h)
theorem look_in {d : List (Str × Int)} {k : Str} (h : k ∈ names d) : ∃ i, look d k = some i := by
  induction d with
  | nil => cases h
  | cons q r ih =>
    unfold look
    by_cases e : q.1 = k
    · exact ⟨_, if_pos e⟩
    · rw [if_neg e]
      rcases List.mem_cons.mp h with z | z
      · exact absurd z.symm e
      · exact ih z
theorem look_none {d : List (Str × Int)} {k : Str} (h : k ∉ names d) : look d k = none := by
  cases e : look d k with
  | none => rfl
  | some i => exact absurd (List.mem_map.mpr ⟨(k, i), look_some e, rfl⟩) h
theorem look_perm {d e : List (Str × Int)} (p : d.Perm e) (nd : (names e).Nodup) (k : Str) : look d k = look e k := by
  have nd' : (names d).Nodup := (names_perm p).nodup_iff.mpr nd
  by_cases h : k ∈ names d
  · obtain ⟨i, hi⟩ := look_in h
    have m := p.mem_iff.mp (look_some hi)
    rw [hi]
    exact (look_mem nd m).symm
  · rw [look_none h, look_none (fun z => h ((names_perm p).mem_iff.mpr z))]
/-- d by the names ys -/
def byN (d : List (Str × Int)) (ys : List Str) : List (Str × Int) := ys.map fun y => (y, (look d y).getD 0)
theorem byN_names (d : List (Str × Int)) (ys : List Str) : names (byN d ys) = ys := by
  unfold names byN
  rw [List.map_map]
  exact List.map_id'' (fun _ => rfl) ys
theorem byN_self {d : List (Str × Int)} (nd : (names d).Nodup) : byN d (names d) = d := by
  unfold byN names
  rw [List.map_map]
  have : ∀ p ∈ d, ((fun y => (y, (look d y).getD 0)) ∘ fun x : Str × Int => x.1) p = p := fun p h => by
    show (p.1, (look d p.1).getD 0) = p
    rw [look_mem nd h]
    rfl
  rw [List.map_congr_left this, List.map_id']
theorem byN_perm {d : List (Str × Int)} {ys : List Str} (nd : (names d).Nodup) (p : ys.Perm (names d)) : (byN d ys).Perm d := by
  have h : (byN d ys).Perm (byN d (names d)) := p.map _
  rw [byN_self nd] at h
  exact h
theorem byN_congr {d e : List (Str × Int)} {ys : List Str} (h : ∀ y ∈ ys, look d y = look e y) : byN d ys = byN e ys := by
  unfold byN
  exact List.map_congr_left fun y hy => by rw [h y hy]
/-- d is sorted by its names -/
def Srt (d : List (Str × Int)) : Prop := (names d).Pairwise leT
theorem Srt.uniq {d e : List (Str × Int)} (h : Srt d) (g : Srt e) (nd : (names e).Nodup) (p : d.Perm e) : d = e := by
  have nd' : (names d).Nodup := (names_perm p).nodup_iff.mpr nd
  have n : names d = names e := sorted_uniq h g (names_perm p)
  rw [← byN_self nd', ← byN_self nd, n]
  exact byN_congr fun y _ => look_perm p nd y
/-- the Sizes at a -/
def SzAt (C : Addr) (H : Hp) (a : Addr) (d : List (Str × Int)) : Prop := ∃ (dx q : Addr), H a = some (.ins C dx [("_counts", .ref q)]) ∧ H q = some (.dK (dk d)) ∧ GoodD d ∧ Srt d
theorem SzAt.same {C : Addr} {H H' : Hp} {a : Addr} {d : List (Str × Int)} (h : SzAt C H a d) (s : Same H H') : SzAt C H' a d := by
  obtain ⟨dx, q, h1, h2, h3⟩ := h
  exact ⟨dx, q, s _ _ h1, s _ _ h2, h3⟩
theorem sz_fields (C dx : Addr) (a : V) : some (HO.ins C dx (putF "_counts" a [])) = some (HO.ins C dx [("_counts", a)]) := by
  rw [putF_nil]
end My
end
section

open My L2 PySem
open My L2 PySem
local macro_rules | `(tactic| walk_at "as") => `(tactic| with_reducible assumption)
local macro_rules | `(tactic| walk_at "hp") => `(tactic| first
  | walk_at "as" | exact upd_same
  | (rw [upd_ne (by walk_at "ne")]; walk_at "hp")
  | (refine But.get (by walk_at "as") ?hp1 ?hp2; (case hp1 => walk_at "hp"); (case hp2 => walk_at "ne"))
  | (refine My.Same.get (by walk_at "as") ?hp1; (case hp1 => walk_at "hp")))
local macro_rules | `(tactic| walk_at "ne") => `(tactic| first
  | walk_at "as" | exact Ne.symm (by walk_at "as")
  | (refine' ne_of_none ?ne1 ?ne2; (case ne2 => walk_at "as"); (case ne1 => walk_at "hp"))
  | (refine' Ne.symm (ne_of_none ?ne1 ?ne2); (case ne2 => walk_at "as"); (case ne1 => walk_at "hp"))
  | exact ne_of (by walk_at "hp") (by walk_at "hp") (by intro z; cases z))
local macro_rules | `(tactic| walk_at "sd") => `(tactic| first
  | walk_at "as" | omega | decide | exact ⟨by omega, by omega⟩ | exact .inl ⟨by omega, by omega⟩ | exact .inr ⟨by omega, by omega⟩ | exact divp_wide (by walk_at "as") (by walk_at "as") | exact Sm.cmul (by walk_at "as") (by walk_at "as") | exact cmul_small (by omega) (by omega) (by omega) (by omega) | exact ⟨by omega, by decide⟩)
local macro_rules | `(tactic| walk_at "bt") => `(tactic| first
  | walk_at "as" | exact But.refl _ _ | exact Same.but (by walk_at "as")
  | (refine But.trans ?bt1 But.at; (case bt1 => walk_at "bt"))
  | (refine But.trans ?bt1 (But.new (by first | walk_at "as" | walk_at "hp")); (case bt1 => walk_at "bt"))
  | (refine But.trans ?bt1 (by walk_at "as"); (case bt1 => walk_at "bt"))
  | (refine But.trans ?bt1 (Same.but (by walk_at "as")); (case bt1 => walk_at "bt")))
local macro_rules | `(tactic| walk_at "sm") => `(tactic| first
  | walk_at "as" | exact My.Same.rfl' _
  | (refine' My.Same.at_ ?sm1 ?sm2; (case sm1 => walk_at "as"); (case sm2 => walk_at "sm"))
  | (refine' My.Same.tr ?sm1 (My.Same.new ?sm2); (case sm2 => walk_at "as"); (case sm1 => walk_at "sm"))
  | (refine' My.Same.tr ?sm1 ?sm2; (case sm2 => walk_at "as"); (case sm1 => walk_at "sm")))
local macro_rules | `(tactic| walk_at "sz") => `(tactic| first
  | assumption | exact lt_size (by rfl) | exact le_size (by rfl) | (rw [sizeLine_eq]; omega)
  | (rw [sizeLine_eq]; simp only [List.length_append, List.length_map, List.length_cons, List.length_nil]; omega))
local macro_rules | `(tactic| walk_at "few") => `(tactic| (repeat refine few_put ?_); exact few0)
local macro_rules | `(tactic| walk_at "rd1") => `(tactic| first
  | (with_reducible show tVar _ _ _ _); refine s_var rfl ?_
  | with_reducible refine s_c ?_ | with_reducible refine s_op ?_ | with_reducible refine s_un ?_
  | with_reducible refine s_cons ?_ | with_reducible refine s_nil ?_ | with_reducible refine s_cb ?_
  | with_reducible refine s_test ?_ | with_reducible refine s_B ?_ | with_reducible refine s_not ?_ | with_reducible refine s_and ?_ | with_reducible refine s_or ?_
  | with_reducible refine s_if ?_ | with_reducible refine s_notV ?_ | with_reducible refine s_andV ?_ | with_reducible refine s_orV ?_
  | with_reducible refine s_orT ?_ | with_reducible refine s_andT ?_ | with_reducible refine s_chain ?_
  | with_reducible refine s_isi_int ?_ | with_reducible refine s_isi_int_bool ?_ | with_reducible refine s_isi_str ?_
  | with_reducible refine iteT ?_ | with_reducible refine iteF ?_ | with_reducible refine iteNT ?_ | with_reducible refine iteNF ?_
  | with_reducible refine s_isN ?_ | with_reducible refine s_notN ?_
  | ((with_reducible refine' s_2setE ?g1 ?_); (case g1 => first | (dsimp only [List.set, L2.wipe, List.map, List.foldl]; done) | (dsimp only [List.set, L2.wipe, List.map, List.foldl]; rfl)))
  | with_reducible refine s_seq ?_ | with_reducible refine s_ifS ?_ | with_reducible refine s_asg ?_ | with_reducible refine s_ret ?_ | with_reducible refine s_drop ?_ | with_reducible refine s_next ?_
  | ((with_reducible refine' s_gnameE ?g1 ?_); (case g1 => first | (dsimp only [List.set, L2.wipe, List.map, List.foldl]; done) | (dsimp only [List.set, L2.wipe, List.map, List.foldl]; rfl)))
  | with_reducible refine s_gsub ?_ | with_reducible refine s_gcons ?_ | with_reducible refine s_gnil ?_
  | (with_reducible show gTup _ _ _ _ _ _ _); refine s_gtup (by walk_at "hp") rfl ?_
  | with_reducible refine s_eqI ?_ | with_reducible refine s_neI ?_ | with_reducible refine s_eqS ?_ | with_reducible refine s_neB ?_ | with_reducible refine s_eqB ?_ | with_reducible refine s_neSr ?_ | with_reducible refine s_neS ?_
  | with_reducible refine s_I0 ?_
  | (with_reducible show rI _ _ _ _ _ _); refine s_I (by walk_at "sd") ?_
  | (with_reducible show rIxL _ _ _ _ _); refine s_ixL (by walk_at "hp") rfl ?_
  | (with_reducible show rIxT _ _ _ _ _); refine s_ixT (by walk_at "hp") rfl ?_
  | (with_reducible show rSetL _ _ _ _ _); refine s_setL (by walk_at "hp") rfl ?_
  | with_reducible refine s_prop ?_
  | (with_reducible show _ ≤ sizeLine ∧ _); refine ⟨le_size (by rfl), ?_⟩
  | with_reducible refine ite_NN ?_ | with_reducible refine ite_IN ?_ | with_reducible refine ite_nNN ?_ | with_reducible refine ite_nIN ?_ | with_reducible refine ite_RN ?_ | with_reducible refine ite_nRN ?_
  | with_reducible refine s_sfld ?_
  | ((with_reducible refine' ⟨_, _, _, _, rfl, ?fp1, ?fp2, ?fp3, ?fp4, ?_⟩); (case fp1 => walk_at "hp"); (case fp2 => assumption); (case fp3 => assumption); (case fp4 => walk_at "few"))
  | with_reducible refine s_fldE ?_
  | ((with_reducible refine' ⟨_, _, _, _, _, rfl, ?fp1, ?fp2, ?fp3, ?fp4, ?_⟩); (case fp1 => walk_at "hp"); (case fp2 => assumption); (case fp3 => assumption); (case fp4 => rfl))
  | with_reducible refine s_bm ?_ | with_reducible refine s_bm0 ?_
  | ((with_reducible refine' s_tyL ?ty1 ?_); (case ty1 => walk_at "hp"))
  | ((with_reducible refine' s_append ?ap1 ?ap2 ?_); (case ap1 => walk_at "hp"); (case ap2 => walk_at "sz"))
  | ((with_reducible refine' s_extend ?ap1 ?ap2 ?ap3 ?_); (case ap1 => walk_at "hp"); (case ap2 => walk_at "hp"); (case ap3 => walk_at "sz"))
  | with_reducible refine s_for (fun _ _ => ?_) | with_reducible refine s_lc ?_ | with_reducible refine s_iList ?_ | with_reducible refine s_iTup ?_ | with_reducible refine s_iRng1 ?_ | with_reducible refine s_iRng2 ?_
  | with_reducible refine s_yes ?_ | with_reducible refine s_par ?_
  | with_reducible refine s_make ?_ | with_reducible refine s_meth ?_
  | with_reducible refine s_tup ?_ | with_reducible refine s_lst ?_ | with_reducible refine s_call ?_
  | with_reducible refine ⟨rfl, ?_⟩
  | with_reducible refine ⟨_, rfl, ?_⟩
  | ((with_reducible refine' ⟨_, _, rfl, ?sd1, ?_⟩); (case sd1 => walk_at "sd"))
  | with_reducible refine ⟨_, _, rfl, ?_⟩
  | with_reducible refine .inl ⟨_, rfl, ?_⟩
  | dsimp only [List.set]
  | walk_at "rdx"
  | (refine fun _ _ => ?_))
local macro_rules | `(tactic| walk_at "rd") => `(tactic| repeat (first
  | (with_reducible show tVar _ _ _ _); refine s_var rfl ?_
  | with_reducible refine s_c ?_ | with_reducible refine s_op ?_ | with_reducible refine s_un ?_
  | with_reducible refine s_cons ?_ | with_reducible refine s_nil ?_ | with_reducible refine s_cb ?_
  | with_reducible refine s_test ?_ | with_reducible refine s_B ?_ | with_reducible refine s_not ?_ | with_reducible refine s_and ?_ | with_reducible refine s_or ?_
  | with_reducible refine s_if ?_ | with_reducible refine s_notV ?_ | with_reducible refine s_andV ?_ | with_reducible refine s_orV ?_
  | with_reducible refine s_orT ?_ | with_reducible refine s_andT ?_ | with_reducible refine s_chain ?_
  | with_reducible refine s_isi_int ?_ | with_reducible refine s_isi_int_bool ?_ | with_reducible refine s_isi_str ?_
  | with_reducible refine iteT ?_ | with_reducible refine iteF ?_ | with_reducible refine iteNT ?_ | with_reducible refine iteNF ?_
  | with_reducible refine s_isN ?_ | with_reducible refine s_notN ?_
  | ((with_reducible refine' s_2setE ?g1 ?_); (case g1 => first | (dsimp only [List.set, L2.wipe, List.map, List.foldl]; done) | (dsimp only [List.set, L2.wipe, List.map, List.foldl]; rfl)))
  | with_reducible refine s_seq ?_ | with_reducible refine s_ifS ?_ | with_reducible refine s_asg ?_ | with_reducible refine s_ret ?_ | with_reducible refine s_drop ?_ | with_reducible refine s_next ?_
  | ((with_reducible refine' s_gnameE ?g1 ?_); (case g1 => first | (dsimp only [List.set, L2.wipe, List.map, List.foldl]; done) | (dsimp only [List.set, L2.wipe, List.map, List.foldl]; rfl)))
  | with_reducible refine s_gsub ?_ | with_reducible refine s_gcons ?_ | with_reducible refine s_gnil ?_
  | (with_reducible show gTup _ _ _ _ _ _ _); refine s_gtup (by walk_at "hp") rfl ?_
  | with_reducible refine s_eqI ?_ | with_reducible refine s_neI ?_ | with_reducible refine s_eqS ?_ | with_reducible refine s_neB ?_ | with_reducible refine s_eqB ?_ | with_reducible refine s_neSr ?_ | with_reducible refine s_neS ?_
  | with_reducible refine s_I0 ?_
  | (with_reducible show rI _ _ _ _ _ _); refine s_I (by walk_at "sd") ?_
  | (with_reducible show rIxL _ _ _ _ _); refine s_ixL (by walk_at "hp") rfl ?_
  | (with_reducible show rIxT _ _ _ _ _); refine s_ixT (by walk_at "hp") rfl ?_
  | (with_reducible show rSetL _ _ _ _ _); refine s_setL (by walk_at "hp") rfl ?_
  | with_reducible refine s_prop ?_
  | (with_reducible show _ ≤ sizeLine ∧ _); refine ⟨le_size (by rfl), ?_⟩
  | with_reducible refine ite_NN ?_ | with_reducible refine ite_IN ?_ | with_reducible refine ite_nNN ?_ | with_reducible refine ite_nIN ?_ | with_reducible refine ite_RN ?_ | with_reducible refine ite_nRN ?_
  | with_reducible refine s_sfld ?_
  | ((with_reducible refine' ⟨_, _, _, _, rfl, ?fp1, ?fp2, ?fp3, ?fp4, ?_⟩); (case fp1 => walk_at "hp"); (case fp2 => assumption); (case fp3 => assumption); (case fp4 => walk_at "few"))
  | with_reducible refine s_fldE ?_
  | ((with_reducible refine' ⟨_, _, _, _, _, rfl, ?fp1, ?fp2, ?fp3, ?fp4, ?_⟩); (case fp1 => walk_at "hp"); (case fp2 => assumption); (case fp3 => assumption); (case fp4 => rfl))
  | with_reducible refine s_bm ?_ | with_reducible refine s_bm0 ?_
  | ((with_reducible refine' s_tyL ?ty1 ?_); (case ty1 => walk_at "hp"))
  | ((with_reducible refine' s_append ?ap1 ?ap2 ?_); (case ap1 => walk_at "hp"); (case ap2 => walk_at "sz"))
  | ((with_reducible refine' s_extend ?ap1 ?ap2 ?ap3 ?_); (case ap1 => walk_at "hp"); (case ap2 => walk_at "hp"); (case ap3 => walk_at "sz"))
  | with_reducible refine s_for (fun _ _ => ?_) | with_reducible refine s_lc ?_ | with_reducible refine s_iList ?_ | with_reducible refine s_iTup ?_ | with_reducible refine s_iRng1 ?_ | with_reducible refine s_iRng2 ?_
  | with_reducible refine s_yes ?_ | with_reducible refine s_par ?_
  | with_reducible refine s_make ?_ | with_reducible refine s_meth ?_
  | with_reducible refine s_tup ?_ | with_reducible refine s_lst ?_ | with_reducible refine s_call ?_
  | with_reducible refine ⟨rfl, ?_⟩
  | with_reducible refine ⟨_, rfl, ?_⟩
  | ((with_reducible refine' ⟨_, _, rfl, ?sd1, ?_⟩); (case sd1 => walk_at "sd"))
  | with_reducible refine ⟨_, _, rfl, ?_⟩
  | with_reducible refine .inl ⟨_, rfl, ?_⟩
  | dsimp only [List.set]
  | walk_at "rdx"
  | (refine fun _ _ => ?_)))

namespace My
open PySem L2
section
variable {P : Program} {w : World} {K : PySem.W.Frag} {mg : Str → Option Value} {base : Heap} {C_Sizes : Addr} (M : Md K mg C_Sizes)
include M
omit M
def spIsI : Sp := fun vs H Q _ => ∃ i : Int, vs = [.int i] ∧ Q (.bl true) H
def spIsC : Sp := fun vs H Q _ => ∃ i : Int, vs = [.int i] ∧ 0 ≤ i ∧ Q (.bl true) H
def spChkC : Sp := fun vs H Q _ => ∃ i : Int, vs = [.int i] ∧ 0 ≤ i ∧ Q .non H
theorem lt_a {c : Nat} : ({ cps := #[c] } : Str).cps.toList < (Str.ofString "a").cps.toList ↔ c < 97 := by
  have e : (Str.ofString "a").cps.toList = [97] := by decide +kernel
  rw [e]
  simp [List.cons_lt_cons_iff]
theorem lt_z {c : Nat} : (Str.ofString "z").cps.toList < ({ cps := #[c] } : Str).cps.toList ↔ 122 < c := by
  have e : (Str.ofString "z").cps.toList = [122] := by decide +kernel
  rw [e]
  simp [List.cons_lt_cons_iff]
/-- a text, or what is none -/
def spIsName (K : PySem.W.Frag) : Sp := fun vs H Q _ => ∃ v, vs = [v] ∧ ((∃ s, v = .str s ∧ s.length ≤ 1000 ∧ ∀ H', Same H H' → Q (.bl (nameB s)) H') ∨ ∃ t, TyX K H v t ∧ PySem.W.kitOne K t (.type "str") = some false ∧ Q (.bl false) H)
include M
theorem c_is_integer : Dn P w K mg base "is_integer" 1 ["value"] [] spIsI := by
  refine dnN M.f_is_integer (fun F => ?_) (fun _ _ _ _ _ _ us hl => match us, hl with | [_], _ => rfl)
  refine fnG_body F sc_is_integer (fun vs H Q E h => ?_) (fun cdv A outer s H vs Q E hr h => ?_)
  · obtain ⟨i, rfl, _⟩ := h
    rfl
  · obtain ⟨i, rfl, q⟩ := h
    refine ⟨_, (pss_one (ps_ret (pe_and (pe_callB call_isi (by rfl) M.b_isinstance (by decide +kernel) (pa_cons (pv 0) (pa_cons (pe_bltn (v := .ty "int") (u := .type "int") (by rfl) M.b_int (by decide +kernel) rfl) pa_nil))) (pe_one (pe_not (pe_callB call_isi (by rfl) M.b_isinstance (by decide +kernel) (pa_cons (pv 0) (pa_cons (pe_bltn (v := .ty "bool") (u := .type "bool") (by rfl) M.b_bool (by decide +kernel) rfl) pa_nil)))))))), ?_⟩
    refine st_eq (σ := [some _]) rfl ?_
    walk_at "rd"
    exact q
theorem c_is_count : Dn P w K mg base "is_count" 2 ["value"] [] spIsC := by
  refine dnN M.f_is_count (fun F => ?_) (fun _ _ _ _ _ _ us hl => match us, hl with | [_], _ => rfl)
  have c_is_integer := c_is_integer (P := P) (w := w) (base := base) M
  refine fnG_body F sc_is_count (fun vs H Q E h => ?_) (fun cdv A outer s H vs Q E hr h => ?_)
  · obtain ⟨i, rfl, _⟩ := h
    rfl
  · obtain ⟨i, rfl, h0, q⟩ := h
    refine ⟨_, (pss_one (ps_ret (pe_and (pe_callD c_is_integer (hr.mono (by decide)) rfl (pa_cons (pv 0) pa_nil)) (pe_one (pe_cmpR op_ge (pv 0) pe_int (nomark _)))))), ?_⟩
    refine st_eq (σ := [some _]) rfl ?_
    walk_at "rd"
    refine ⟨i, rfl, ?_⟩
    walk_at "rd"
    rw [decide_eq_true h0]
    exact q
theorem c_check_count : Dn P w K mg base "check_count" 3 ["count"] [] spChkC := by
  have c_is_count := c_is_count (P := P) (w := w) (base := base) M
  refine dnN M.f_check_count (fun F => ?_) (fun _ _ _ _ _ _ us hl => match us, hl with | [_], _ => rfl)
  refine fnG_body F sc_check_count (fun vs H Q E h => ?_) (fun cdv A outer s H vs Q E hr h => ?_)
  · obtain ⟨i, rfl, _⟩ := h
    rfl
  · obtain ⟨i, rfl, h0, q⟩ := h
    refine ⟨_, (pss_one (ps_if (pt_not (pt_val (pe_callD c_is_count (hr.mono (by decide)) rfl (pa_cons (pv 0) pa_nil)))) (pss_one ps_never) pss_nil)), ?_⟩
    refine st_eq (σ := [some _]) rfl ?_
    walk_at "rd"
    refine ⟨i, rfl, h0, ?_⟩
    walk_at "rd"
    exact q
theorem c_is_name : Dn P w K mg base "is_name" 1 ["value"] [] (spIsName K) := by
  refine dnN M.f_is_name (fun F => ?_) (fun _ _ _ _ _ _ us hl => match us, hl with | [_], _ => rfl)
  refine fnG_body F sc_is_name (fun vs H Q E h => ?_) (fun cdv A outer s H vs Q E hr h => ?_)
  · obtain ⟨v, rfl, _⟩ := h
    rfl
  · obtain ⟨v, rfl, h⟩ := h
    refine ⟨_, (pss_cons (ps_if (PW.pt (pw_or (pt_not (pt_val (pe_callB call_isi (by rfl) M.b_isinstance (by decide +kernel) (pa_cons (pv 0) (pa_cons (pe_bltn (v := .ty "str") (u := .type "str") (by rfl) M.b_str (by decide +kernel) rfl) pa_nil))))) (pw_or1 (pt_not (pt_chain op_le op_le pe_int (pe_callB call_len_str (by rfl) M.b_len (by decide +kernel) (pa_cons (pv 0) pa_nil)) (pe_globE rfl M.g_MOST_LETTERS)))))) (pss_one (ps_ret pe_bl)) pss_nil) (pss_one (ps_ret (pe_callB (cr_all rfl) (by rfl) M.b_all (by decide +kernel) (pa_cons (pe_lc (own := [("letter", 1)]) (g := gName 1) (tt := tYes) (by rfl) sc_is_name.nd (pi_str (pv 0)) (blkOk_by (own := [("letter", 1)]) (N := N_is_name) (sc := defScope st_is_name) (by decide +kernel)) (fun _ _ _ _ _ => pg_name (i := 1) sc_is_name.nd rfl (by first | exact Or.inl rfl | exact Or.inr rfl)) (fun _ _ _ _ _ => pts_nil) (fun _ _ _ _ _ => (pe_chain op_le_str op_le_str pe_str (pv 1) pe_str))) pa_nil))))), ?_⟩
    refine st_eq (σ := [some _, none]) rfl ?_
    rcases h with ⟨x, rfl, hl, q⟩ | ⟨t, ht, hk, q⟩
    · walk_at "rd"
      refine ⟨by rw [sizeLine_eq]; omega, ?_⟩
      walk_at "rd"
      refine ite_d (fun h1 => ?_) (fun h1 => ?_)
      · walk_at "rd"
        refine ite_n (fun h2 => ?_) (fun h2 => ?_)
        · walk_at "rd"
          have e : nameB x = false := by
            unfold nameB
            rw [decide_eq_false (show ¬ x.length ≤ 8 by omega), Bool.and_false, Bool.false_and]
          rw [← e]
          exact q _ (My.Same.rfl' _)
        · walk_at "rd"
          refine ⟨_, rfl, x, rfl, fun D nD => lc_it walk_str (fun i H' => Same H H' ∧ H' D = some (.lst ((x.cps.toList.take i).map fun c => V.bl (decide (97 ≤ c ∧ c ≤ 122))))) ?_ (fun _ _ _ _ => True.intro) ?_ ?_⟩
          · exact ⟨My.Same.new nD, upd_same⟩
          · rintro i y H1 H2 hi ⟨s1, hD⟩ ⟨rfl, c, hc, rfl⟩
            walk_at "rd"
            have hc2 : x.cps.toList[i]? = some c := by rw [Array.getElem?_toList]; exact hc
            refine ⟨_, _, rfl, rfl, _, rfl, ?_⟩
            have st : ∀ b : Bool, b = decide (97 ≤ c ∧ c ≤ 122) → ∃ acc, H2 D = some (.lst acc) ∧ acc.length < sizeLine ∧ Same H (L2.upd H2 D (.lst (acc ++ [V.bl b]))) ∧ (L2.upd H2 D (.lst (acc ++ [V.bl b]))) D = some (.lst ((x.cps.toList.take (i + 1)).map fun c => V.bl (decide (97 ≤ c ∧ c ≤ 122)))) := by
              intro b eb
              refine ⟨_, hD, ?_, My.Same.at_ nD s1, ?_⟩
              · rw [List.length_map, List.length_take, sizeLine_eq]
                have : x.length = x.cps.size := rfl
                omega
              · rw [upd_same, List.take_add_one, hc2, eb, List.map_append]
                rfl
            refine ite_n (fun g1 => ?_) (fun g1 => ?_)
            · rw [lt_a] at g1
              refine ⟨_, _, rfl, rfl, st _ ?_⟩
              by_cases g2 : c ≤ 122
              · rw [decide_eq_true (show 97 ≤ c ∧ c ≤ 122 by omega), decide_eq_false (by rw [lt_z]; omega)]
                rfl
              · rw [decide_eq_false (show ¬ (97 ≤ c ∧ c ≤ 122) by omega), decide_eq_true (by rw [lt_z]; omega)]
                rfl
            · rw [lt_a] at g1
              exact st _ (decide_eq_false (by omega)).symm
          · rintro H1 ⟨s1, hD⟩
            walk_at "rd"
            have e0 : x.cps.toList.take x.cps.size = x.cps.toList := List.take_of_length_le (by simp)
            rw [e0] at hD
            refine ⟨_, x.cps.toList.map fun c => decide (97 ≤ c ∧ c ≤ 122), rfl, SqL.of (by rw [List.map_map]; exact hD), ?_⟩
            have e : nameB x = ((x.cps.toList.map fun c => decide (97 ≤ c ∧ c ≤ 122)).all id) := by
              unfold nameB letS
              rw [decide_eq_true (show 1 ≤ x.length by omega), decide_eq_true (show x.length ≤ 8 by omega), List.all_map]
              rfl
            rw [← e]
            exact q _ s1
      · walk_at "rd"
        have e : nameB x = false := by
          unfold nameB
          rw [decide_eq_false (show ¬ 1 ≤ x.length by omega), Bool.false_and, Bool.false_and]
        rw [← e]
        exact q _ (My.Same.rfl' _)
    · walk_at "rd"
      refine ⟨_, _, _, _, false, rfl, .ty _, ht, hk, ?_⟩
      walk_at "rd"
      exact q
end
end My
end
section

open My L2 PySem
open My L2 PySem
local macro_rules | `(tactic| walk_at "as") => `(tactic| with_reducible assumption)
local macro_rules | `(tactic| walk_at "hp") => `(tactic| first
  | walk_at "as" | exact upd_same
  | (rw [upd_ne (by walk_at "ne")]; walk_at "hp")
  | (refine But.get (by walk_at "as") ?hp1 ?hp2; (case hp1 => walk_at "hp"); (case hp2 => walk_at "ne"))
  | (refine My.Same.get (by walk_at "as") ?hp1; (case hp1 => walk_at "hp")))
local macro_rules | `(tactic| walk_at "ne") => `(tactic| first
  | walk_at "as" | exact Ne.symm (by walk_at "as")
  | (refine' ne_of_none ?ne1 ?ne2; (case ne2 => walk_at "as"); (case ne1 => walk_at "hp"))
  | (refine' Ne.symm (ne_of_none ?ne1 ?ne2); (case ne2 => walk_at "as"); (case ne1 => walk_at "hp"))
  | exact ne_of (by walk_at "hp") (by walk_at "hp") (by intro z; cases z))
local macro_rules | `(tactic| walk_at "sd") => `(tactic| first
  | walk_at "as" | omega | decide | exact ⟨by omega, by omega⟩ | exact .inl ⟨by omega, by omega⟩ | exact .inr ⟨by omega, by omega⟩ | exact divp_wide (by walk_at "as") (by walk_at "as") | exact Sm.cmul (by walk_at "as") (by walk_at "as") | exact cmul_small (by omega) (by omega) (by omega) (by omega) | exact ⟨by omega, by decide⟩)
local macro_rules | `(tactic| walk_at "bt") => `(tactic| first
  | walk_at "as" | exact But.refl _ _ | exact Same.but (by walk_at "as")
  | (refine But.trans ?bt1 But.at; (case bt1 => walk_at "bt"))
  | (refine But.trans ?bt1 (But.new (by first | walk_at "as" | walk_at "hp")); (case bt1 => walk_at "bt"))
  | (refine But.trans ?bt1 (by walk_at "as"); (case bt1 => walk_at "bt"))
  | (refine But.trans ?bt1 (Same.but (by walk_at "as")); (case bt1 => walk_at "bt")))
local macro_rules | `(tactic| walk_at "sm") => `(tactic| first
  | walk_at "as" | exact My.Same.rfl' _
  | (refine' My.Same.at_ ?sm1 ?sm2; (case sm1 => walk_at "as"); (case sm2 => walk_at "sm"))
  | (refine' My.Same.tr ?sm1 (My.Same.new ?sm2); (case sm2 => walk_at "as"); (case sm1 => walk_at "sm"))
  | (refine' My.Same.tr ?sm1 ?sm2; (case sm2 => walk_at "as"); (case sm1 => walk_at "sm")))
local macro_rules | `(tactic| walk_at "sz") => `(tactic| first
  | assumption | exact lt_size (by rfl) | exact le_size (by rfl) | (rw [sizeLine_eq]; omega)
  | (rw [sizeLine_eq]; simp only [List.length_append, List.length_map, List.length_cons, List.length_nil]; omega))
local macro_rules | `(tactic| walk_at "few") => `(tactic| (repeat refine few_put ?_); exact few0)
local macro_rules | `(tactic| walk_at "rd1") => `(tactic| first
  | (with_reducible show tVar _ _ _ _); refine s_var rfl ?_
  | with_reducible refine s_c ?_ | with_reducible refine s_op ?_ | with_reducible refine s_un ?_
  | with_reducible refine s_cons ?_ | with_reducible refine s_nil ?_ | with_reducible refine s_cb ?_
  | with_reducible refine s_test ?_ | with_reducible refine s_B ?_ | with_reducible refine s_not ?_ | with_reducible refine s_and ?_ | with_reducible refine s_or ?_
  | with_reducible refine s_if ?_ | with_reducible refine s_notV ?_ | with_reducible refine s_andV ?_ | with_reducible refine s_orV ?_
  | with_reducible refine s_orT ?_ | with_reducible refine s_andT ?_ | with_reducible refine s_chain ?_
  | with_reducible refine s_isi_int ?_ | with_reducible refine s_isi_int_bool ?_ | with_reducible refine s_isi_str ?_
  | with_reducible refine iteT ?_ | with_reducible refine iteF ?_ | with_reducible refine iteNT ?_ | with_reducible refine iteNF ?_
  | with_reducible refine s_isN ?_ | with_reducible refine s_notN ?_
  | ((with_reducible refine' s_2setE ?g1 ?_); (case g1 => first | (dsimp only [List.set, L2.wipe, List.map, List.foldl]; done) | (dsimp only [List.set, L2.wipe, List.map, List.foldl]; rfl)))
  | with_reducible refine s_seq ?_ | with_reducible refine s_ifS ?_ | with_reducible refine s_asg ?_ | with_reducible refine s_ret ?_ | with_reducible refine s_drop ?_ | with_reducible refine s_next ?_
  | ((with_reducible refine' s_gnameE ?g1 ?_); (case g1 => first | (dsimp only [List.set, L2.wipe, List.map, List.foldl]; done) | (dsimp only [List.set, L2.wipe, List.map, List.foldl]; rfl)))
  | with_reducible refine s_gsub ?_ | with_reducible refine s_gcons ?_ | with_reducible refine s_gnil ?_
  | (with_reducible show gTup _ _ _ _ _ _ _); refine s_gtup (by walk_at "hp") rfl ?_
  | with_reducible refine s_eqI ?_ | with_reducible refine s_neI ?_ | with_reducible refine s_eqS ?_ | with_reducible refine s_neB ?_ | with_reducible refine s_eqB ?_ | with_reducible refine s_neSr ?_ | with_reducible refine s_neS ?_
  | with_reducible refine s_I0 ?_
  | (with_reducible show rI _ _ _ _ _ _); refine s_I (by walk_at "sd") ?_
  | (with_reducible show rIxL _ _ _ _ _); refine s_ixL (by walk_at "hp") rfl ?_
  | (with_reducible show rIxT _ _ _ _ _); refine s_ixT (by walk_at "hp") rfl ?_
  | (with_reducible show rSetL _ _ _ _ _); refine s_setL (by walk_at "hp") rfl ?_
  | with_reducible refine s_prop ?_
  | (with_reducible show _ ≤ sizeLine ∧ _); refine ⟨le_size (by rfl), ?_⟩
  | with_reducible refine ite_NN ?_ | with_reducible refine ite_IN ?_ | with_reducible refine ite_nNN ?_ | with_reducible refine ite_nIN ?_ | with_reducible refine ite_RN ?_ | with_reducible refine ite_nRN ?_
  | with_reducible refine s_sfld ?_
  | ((with_reducible refine' ⟨_, _, _, _, rfl, ?fp1, ?fp2, ?fp3, ?fp4, ?_⟩); (case fp1 => walk_at "hp"); (case fp2 => assumption); (case fp3 => assumption); (case fp4 => walk_at "few"))
  | with_reducible refine s_fldE ?_
  | ((with_reducible refine' ⟨_, _, _, _, _, rfl, ?fp1, ?fp2, ?fp3, ?fp4, ?_⟩); (case fp1 => walk_at "hp"); (case fp2 => assumption); (case fp3 => assumption); (case fp4 => rfl))
  | with_reducible refine s_bm ?_ | with_reducible refine s_bm0 ?_
  | ((with_reducible refine' s_tyL ?ty1 ?_); (case ty1 => walk_at "hp"))
  | ((with_reducible refine' s_append ?ap1 ?ap2 ?_); (case ap1 => walk_at "hp"); (case ap2 => walk_at "sz"))
  | ((with_reducible refine' s_extend ?ap1 ?ap2 ?ap3 ?_); (case ap1 => walk_at "hp"); (case ap2 => walk_at "hp"); (case ap3 => walk_at "sz"))
  | with_reducible refine s_for (fun _ _ => ?_) | with_reducible refine s_lc ?_ | with_reducible refine s_iList ?_ | with_reducible refine s_iTup ?_ | with_reducible refine s_iRng1 ?_ | with_reducible refine s_iRng2 ?_
  | with_reducible refine s_yes ?_ | with_reducible refine s_par ?_
  | with_reducible refine s_make ?_ | with_reducible refine s_meth ?_
  | with_reducible refine s_tup ?_ | with_reducible refine s_lst ?_ | with_reducible refine s_call ?_
  | with_reducible refine ⟨rfl, ?_⟩
  | with_reducible refine ⟨_, rfl, ?_⟩
  | ((with_reducible refine' ⟨_, _, rfl, ?sd1, ?_⟩); (case sd1 => walk_at "sd"))
  | with_reducible refine ⟨_, _, rfl, ?_⟩
  | with_reducible refine .inl ⟨_, rfl, ?_⟩
  | dsimp only [List.set]
  | walk_at "rdx"
  | (refine fun _ _ => ?_))
local macro_rules | `(tactic| walk_at "rd") => `(tactic| repeat (first
  | (with_reducible show tVar _ _ _ _); refine s_var rfl ?_
  | with_reducible refine s_c ?_ | with_reducible refine s_op ?_ | with_reducible refine s_un ?_
  | with_reducible refine s_cons ?_ | with_reducible refine s_nil ?_ | with_reducible refine s_cb ?_
  | with_reducible refine s_test ?_ | with_reducible refine s_B ?_ | with_reducible refine s_not ?_ | with_reducible refine s_and ?_ | with_reducible refine s_or ?_
  | with_reducible refine s_if ?_ | with_reducible refine s_notV ?_ | with_reducible refine s_andV ?_ | with_reducible refine s_orV ?_
  | with_reducible refine s_orT ?_ | with_reducible refine s_andT ?_ | with_reducible refine s_chain ?_
  | with_reducible refine s_isi_int ?_ | with_reducible refine s_isi_int_bool ?_ | with_reducible refine s_isi_str ?_
  | with_reducible refine iteT ?_ | with_reducible refine iteF ?_ | with_reducible refine iteNT ?_ | with_reducible refine iteNF ?_
  | with_reducible refine s_isN ?_ | with_reducible refine s_notN ?_
  | ((with_reducible refine' s_2setE ?g1 ?_); (case g1 => first | (dsimp only [List.set, L2.wipe, List.map, List.foldl]; done) | (dsimp only [List.set, L2.wipe, List.map, List.foldl]; rfl)))
  | with_reducible refine s_seq ?_ | with_reducible refine s_ifS ?_ | with_reducible refine s_asg ?_ | with_reducible refine s_ret ?_ | with_reducible refine s_drop ?_ | with_reducible refine s_next ?_
  | ((with_reducible refine' s_gnameE ?g1 ?_); (case g1 => first | (dsimp only [List.set, L2.wipe, List.map, List.foldl]; done) | (dsimp only [List.set, L2.wipe, List.map, List.foldl]; rfl)))
  | with_reducible refine s_gsub ?_ | with_reducible refine s_gcons ?_ | with_reducible refine s_gnil ?_
  | (with_reducible show gTup _ _ _ _ _ _ _); refine s_gtup (by walk_at "hp") rfl ?_
  | with_reducible refine s_eqI ?_ | with_reducible refine s_neI ?_ | with_reducible refine s_eqS ?_ | with_reducible refine s_neB ?_ | with_reducible refine s_eqB ?_ | with_reducible refine s_neSr ?_ | with_reducible refine s_neS ?_
  | with_reducible refine s_I0 ?_
  | (with_reducible show rI _ _ _ _ _ _); refine s_I (by walk_at "sd") ?_
  | (with_reducible show rIxL _ _ _ _ _); refine s_ixL (by walk_at "hp") rfl ?_
  | (with_reducible show rIxT _ _ _ _ _); refine s_ixT (by walk_at "hp") rfl ?_
  | (with_reducible show rSetL _ _ _ _ _); refine s_setL (by walk_at "hp") rfl ?_
  | with_reducible refine s_prop ?_
  | (with_reducible show _ ≤ sizeLine ∧ _); refine ⟨le_size (by rfl), ?_⟩
  | with_reducible refine ite_NN ?_ | with_reducible refine ite_IN ?_ | with_reducible refine ite_nNN ?_ | with_reducible refine ite_nIN ?_ | with_reducible refine ite_RN ?_ | with_reducible refine ite_nRN ?_
  | with_reducible refine s_sfld ?_
  | ((with_reducible refine' ⟨_, _, _, _, rfl, ?fp1, ?fp2, ?fp3, ?fp4, ?_⟩); (case fp1 => walk_at "hp"); (case fp2 => assumption); (case fp3 => assumption); (case fp4 => walk_at "few"))
  | with_reducible refine s_fldE ?_
  | ((with_reducible refine' ⟨_, _, _, _, _, rfl, ?fp1, ?fp2, ?fp3, ?fp4, ?_⟩); (case fp1 => walk_at "hp"); (case fp2 => assumption); (case fp3 => assumption); (case fp4 => rfl))
  | with_reducible refine s_bm ?_ | with_reducible refine s_bm0 ?_
  | ((with_reducible refine' s_tyL ?ty1 ?_); (case ty1 => walk_at "hp"))
  | ((with_reducible refine' s_append ?ap1 ?ap2 ?_); (case ap1 => walk_at "hp"); (case ap2 => walk_at "sz"))
  | ((with_reducible refine' s_extend ?ap1 ?ap2 ?ap3 ?_); (case ap1 => walk_at "hp"); (case ap2 => walk_at "hp"); (case ap3 => walk_at "sz"))
  | with_reducible refine s_for (fun _ _ => ?_) | with_reducible refine s_lc ?_ | with_reducible refine s_iList ?_ | with_reducible refine s_iTup ?_ | with_reducible refine s_iRng1 ?_ | with_reducible refine s_iRng2 ?_
  | with_reducible refine s_yes ?_ | with_reducible refine s_par ?_
  | with_reducible refine s_make ?_ | with_reducible refine s_meth ?_
  | with_reducible refine s_tup ?_ | with_reducible refine s_lst ?_ | with_reducible refine s_call ?_
  | with_reducible refine ⟨rfl, ?_⟩
  | with_reducible refine ⟨_, rfl, ?_⟩
  | ((with_reducible refine' ⟨_, _, rfl, ?sd1, ?_⟩); (case sd1 => walk_at "sd"))
  | with_reducible refine ⟨_, _, rfl, ?_⟩
  | with_reducible refine .inl ⟨_, rfl, ?_⟩
  | dsimp only [List.set]
  | walk_at "rdx"
  | (refine fun _ _ => ?_)))

namespace My
open PySem L2
section
variable {P : Program} {w : World} {K : PySem.W.Frag} {mg : Str → Option Value} {base : Heap} {C_Sizes : Addr} (M : Md K mg C_Sizes)
include M
local macro_rules | `(tactic| walk_at "rdx") => `(tactic| first | with_reducible refine s_tdget ?_ | with_reducible refine s_tdin ?_)
omit M
/-! ### Sizes made -/
def spCnt : Sp := fun vs H Q _ => ∃ a d, vs = [.ref a] ∧ H a = some (.dK (dk d)) ∧ GoodD d ∧ ∀ H', L2.Same H H' → Q (.bl true) H'
def spSInit (C : Addr) : Sp := fun vs H Q _ => ∃ x dx a d, vs = [.ref x, .ref a] ∧ H x = some (.ins C dx []) ∧ H a = some (.dK (dk d)) ∧ GoodD d ∧ ∀ H' e, But x H H' → SzAt C H' x e → e.Perm d → (∃ dx q : Addr, H' x = some (.ins C dx [("_counts", .ref q)]) ∧ H q = none) → Q .non H'
theorem few1 {d : List (Str × Int)} (g : GoodD d) : d.length < 1000 := Nat.lt_of_le_of_lt g.few (by decide)
theorem ite_b' {b : Bool} {A B : Prop} (e : b = true) (h : A) : if b = true then A else B := by
  rw [if_pos e]
  exact h
include M
theorem c__are_counts : Dn P w K mg base "_are_counts" 3 ["value"] [] spCnt := by
  refine dnN M.f__are_counts (fun F => ?_) (fun _ _ _ _ _ _ us hl => match us, hl with | [_], _ => rfl)
  have c_is_name := c_is_name (P := P) (w := w) (base := base) M
  have c_is_count := c_is_count (P := P) (w := w) (base := base) M
  refine fnG_body F sc__are_counts (fun vs H Q E h => ?_) (fun cdv A outer s H vs Q E hr h => ?_)
  · obtain ⟨a, d, rfl, _⟩ := h
    rfl
  · obtain ⟨a, d, rfl, hd, g, q⟩ := h
    refine ⟨_, (pss_cons (ps_if (PW.pt (pw_or (pt_not (pt_val (pe_callB call_isi (by rfl) M.b_isinstance (by decide +kernel) (pa_cons (pv 0) (pa_cons (pe_bltn (v := .ty "dict") (u := .type "dict") (by rfl) M.b_dict (by decide +kernel) rfl) pa_nil))))) (pw_or1 (pt_not (pt_truth (pv 0) (by intro _; rfl)))))) (pss_one (ps_ret pe_bl)) pss_nil) (pss_one (ps_ret (pe_callB (cr_all rfl) (by rfl) M.b_all (by decide +kernel) (pa_cons (pe_lock (pe_lc (own := [("kind", 1)]) (g := gName 1) (tt := tYes) (by rfl) sc__are_counts.nd (pi_keys (pv 0)) (blkOk_by (own := [("kind", 1)]) (N := N__are_counts) (sc := defScope st__are_counts) (by decide +kernel)) (fun _ _ _ _ _ => pg_name (i := 1) sc__are_counts.nd rfl (by first | exact Or.inl rfl | exact Or.inr rfl)) (fun _ _ _ _ _ => pts_nil) (fun _ _ _ _ _ => (pe_and (pe_callD c_is_name (hr.mono (by decide)) rfl (pa_cons (pv 1) pa_nil)) (pe_one (pe_callD c_is_count (hr.mono (by decide)) rfl (pa_cons (pe_dget (hug hr) (pv 0) (pv 1) (fun _ _ => rfl)) pa_nil))))))) pa_nil))))), ?_⟩
    refine st_eq (σ := [some _, none]) rfl ?_
    walk_at "rd"
    refine ⟨_, _, _, _, true, rfl, .ty _, .base (.dK hd), kit_ty (by decide +kernel), ?_⟩
    walk_at "rd"
    refine ⟨true, .inr (.inr ⟨_, hd, ?_⟩), ?_⟩
    · have := g.ne
      cases d with
      | nil => exact absurd rfl this
      | cons p r => rfl
    walk_at "rd"
    refine lock_lc (d := d) (q := a) (fun _ => .bl true) hd (few1 g) ?_ ?_ ?_
    · intro H' R _ q
      walk_at "rd"
      exact q
    · intro od D i p H' R F hp nD hDq hq hs hD q
      walk_at "rd"
      refine ⟨_, rfl, .inl ⟨_, rfl, ?_, fun H5 s5 => ?_⟩⟩
      · have := g.nm p (List.mem_of_getElem? hp)
        unfold nameB at this
        simp only [Bool.and_eq_true, decide_eq_true_eq] at this
        omega
      · refine ⟨_, rfl, ite_b' (g.nm p (List.mem_of_getElem? hp)) ?_⟩
        walk_at "rd"
        refine s_dget (d := d) (.inr ⟨od, s5 _ _ hq⟩) (look_mem g.nd (List.mem_of_getElem? hp)) ?_
        walk_at "rd"
        refine ⟨_, rfl, g.nn p (List.mem_of_getElem? hp), ?_⟩
        exact q H5 s5
    · intro D H' nD s e
      walk_at "rd"
      refine ⟨_, d.map fun _ => true, rfl, SqL.of (by rw [List.map_map]; exact e), ?_⟩
      have e1 : ((d.map fun _ => true).all id) = true := List.all_eq_true.mpr fun b hb => by
        obtain ⟨_, _, rfl⟩ := List.mem_map.mp hb
        rfl
      rw [e1]
      exact q _ s
theorem ok_sinit {f : Addr} {fd : FuncData} (F : FunD K "__init__" "Sizes.__init__" (defArgs st_Sizes___init__) (defBody st_Sizes___init__) (defScope st_Sizes___init__) [] [] f fd) : FnG P w K mg base CX0 4 f fd ["self", "counts"] (spSInit C_Sizes) := by
  have c__are_counts := c__are_counts (P := P) (w := w) (base := base) M
  refine fnG_body F sc_Sizes___init__ (fun vs H Q E h => ?_) (fun cdv A outer s H vs Q E hr h => ?_)
  · obtain ⟨x, dx, a, d, rfl, _⟩ := h
    rfl
  · obtain ⟨x, dx, a, d, rfl, hx, hd, g, q⟩ := h
    refine ⟨_, (pss_cons (ps_if (pt_not (pt_val (pe_callD c__are_counts (hr.mono (by decide)) rfl (pa_cons (pv 1) pa_nil)))) (pss_one ps_never) pss_nil) (pss_one (ps_fld (pv 0) (pe_dc (own := [("kind", 2)]) (g := gName 2) (tt := tYes) (by rfl) sc_Sizes___init__.nd (pi_list (pe_callB (call_sortedD rfl) (by rfl) M.b_sorted (by decide +kernel) (pa_cons (pv 1) pa_nil))) (blkOk_by (own := [("kind", 2)]) (N := N_Sizes___init__) (sc := defScope st_Sizes___init__) (by decide +kernel)) (fun _ _ _ _ _ => pg_name (i := 2) sc_Sizes___init__.nd rfl (by first | exact Or.inl rfl | exact Or.inr rfl)) (fun _ _ _ _ _ => pts_nil) (fun _ _ _ _ _ => (pv 2)) (fun _ _ _ _ _ => (pe_dget (hug hr) (pv 1) (pv 2) (fun _ _ => rfl)))) rfl))), ?_⟩
    refine st_eq (σ := [some _, some _, none]) rfl ?_
    have kS := M.k_Sizes
    have nS := M.n_Sizes__counts
    walk_at "rd"
    refine ⟨a, d, rfl, hd, g, fun H1 s1 => ?_⟩
    walk_at "rd"
    have hx1 := s1 _ _ hx
    have hd1 := s1 _ _ hd
    have hnl : (names d).length < 64 := by
      unfold names
      rw [List.length_map]
      exact Nat.lt_of_le_of_lt g.few (by decide)
    refine list_dc (fun ys => ys.Perm (names d) ∧ PyProof.Rows.sortedS ys = true) (fun y => (look d y).getD 0) (fun ys h => ⟨by rw [h.1.length_eq]; omega, h.1.nodup_iff.mpr g.nd⟩) ?_ ?_ ?_
    · intro R q
      walk_at "rd"
      refine ⟨a, _, names d, rfl, .inl hd1, ?_, hnl, fun ys p hp hsort np => q ys p _ ⟨hp, hsort⟩ (SqL.of upd_same) (My.Same.new np)⟩
      unfold names dk
      rw [List.map_map, List.map_map]
      rfl
    · intro ys D i y H' R F hc hy nD hs hD q
      have hd2 : H' a = some (.dK (dk d)) := hs _ _ hd1
      obtain ⟨v, hv⟩ := look_in (hc.1.mem_iff.mp (List.mem_of_getElem? hy))
      walk_at "rd"
      refine s_dget (d := d) (.inl hd2) hv ?_
      have q2 := q H' (L2.Same.refl _)
      rw [hv] at q2
      exact q2
    · intro ys D H' hc nD hs hD
      obtain ⟨hp, hsort⟩ := hc
      have hx2 : H' x = some (.ins C_Sizes dx []) := hs _ _ hx1
      walk_at "rd"
      have hs2 : L2.Same H H' := My.Same.tr s1 hs
      have pm : (byN d ys).Perm d := byN_perm g.nd hp
      refine q _ (byN d ys) ((Same.but hs2).trans But.at) ⟨dx, D, upd_same.trans (sz_fields _ _ _), (upd_ne ?_).trans hD, g.perm pm, ?_⟩ pm ⟨dx, D, upd_same.trans (sz_fields _ _ _), L2.Same.free s1 nD⟩
      · intro z
        rw [z, hx2] at hD
        cases hD
      · unfold Srt
        rw [byN_names]
        exact sorted_pw hsort
end
end My
end
section

namespace My
open PySem L2 PySem.Spec PyProof.Rows
/-! ### data in lists -/
theorem vals_rev : ∀ {xs : List V} {us : List Value}, Vals xs us → Vals xs.reverse us.reverse
  | _, _, .nil => .nil
  | _, _, .cons r t => by
    rw [List.reverse_cons, List.reverse_cons]
    exact (vals_rev t).append (.cons r .nil)
theorem dp_strs {K : PySem.W.Frag} {H : Hp} : ∀ ks : List Str, DpAll K H (ks.map V.str) (ks.map PyData.str)
  | [] => .nil
  | k :: r => .cons (.str k) (dp_strs r)
theorem eqv_strs : ∀ as bs : List Str, PyData.eqvAll (as.map PyData.str) (bs.map PyData.str) = decide (as = bs)
  | [], [] => by simp [PyData.eqvAll]
  | [], _ :: _ => by simp [PyData.eqvAll]
  | _ :: _, [] => by simp [PyData.eqvAll]
  | a :: r, b :: t => by
    show (PyData.eqv (.str a) (.str b) && PyData.eqvAll (r.map PyData.str) (t.map PyData.str)) = _
    rw [eqv_strs r t]
    show ((a == b) && decide (r = t)) = _
    by_cases h : a = b
    · subst h
      simp
    · rw [beq_false_of_ne h]
      simp [h]
theorem cps_ok {s : Str} (h : letS s = true) : PyData.strOk s = true := by
  unfold letS at h
  unfold PyData.strOk
  rw [← Array.all_toList]
  rw [List.all_eq_true] at h ⊢
  intro c hc
  have := of_decide_eq_true (h c hc)
  exact decide_eq_true (by omega)
theorem name_ok {s : Str} (h : nameB s = true) : PyData.strOk s = true := by
  unfold nameB at h
  simp only [Bool.and_eq_true] at h
  exact cps_ok h.2
theorem lay_strs : ∀ ks : List Str, (∀ k ∈ ks, nameB k = true) → PyData.canLayAll0 (ks.map PyData.str) = true
  | [], _ => rfl
  | k :: r, h => by
    show (PyData.strOk k && PyData.canLayAll0 (r.map PyData.str)) = true
    rw [name_ok (h k List.mem_cons_self), lay_strs r fun x hx => h x (List.mem_cons_of_mem _ hx)]
    rfl
theorem depth_strs : ∀ ks : List Str, PyData.depthAll (ks.map PyData.str) ≤ 1
  | [] => by simp [PyData.depthAll]
  | k :: r => by
    have := depth_strs r
    simp [PyData.depthAll, PyData.depth]
    exact this
theorem shaped_strs {ks : List Str} (h : ∀ k ∈ ks, nameB k = true) : SeqAt.shaped (.list (ks.map PyData.str)) = true := by
  have h1 := lay_strs ks h
  have h2 := depth_strs ks
  unfold SeqAt.shaped
  rw [show (PyData.list (ks.map PyData.str)).canLay0 = PyData.canLayAll0 (ks.map PyData.str) from rfl, h1]
  simp [PyData.depth]
  omega
/-- two lists of names are compared -/
theorem s_neStrs {K : PySem.W.Frag} {H : Hp} {Q : VK} {a b : Addr} {ks : List Str} (n : ∀ k ∈ ks, nameB k = true) (h1 : H a = some (.lst (ks.map V.str))) (h2 : H b = some (.lst (ks.map V.str))) (q : Q (.bl false) H) : rNeD K (.ref a) (.ref b) H Q := by
  refine ⟨.list (ks.map .str), .list (ks.map .str), .lst (SqL.of h1) (dp_strs ks), .lst (SqL.of h2) (dp_strs ks), shaped_strs n, shaped_strs n, ?_⟩
  rw [show PyData.eqv (.list (ks.map .str)) (.list (ks.map .str)) = true from by
    show PyData.eqvAll _ _ = true
    rw [eqv_strs]
    exact decide_eq_true rfl]
  exact q
/-! ### Sizes asked: what is told -/
def mapN (d : List (Str × Int)) (f : Str × Int → Int) : List (Str × Int) := d.map fun p => (p.1, f p)
theorem mapN_names (d : List (Str × Int)) (f : Str × Int → Int) : names (mapN d f) = names d := by
  unfold names mapN
  rw [List.map_map]
  rfl
theorem Srt.map {d : List (Str × Int)} (h : Srt d) (f : Str × Int → Int) : Srt (mapN d f) := by
  unfold Srt
  rw [mapN_names]
  exact h
abbrev lk (d : List (Str × Int)) (k : Str) : Int := (look d k).getD 0
theorem lk_of {d e : List (Str × Int)} (n : names d = names e) {p : Str × Int} (h : p ∈ d) : look e p.1 = some (lk e p.1) := by
  obtain ⟨i, hi⟩ := look_in (d := e) (k := p.1) (n ▸ List.mem_map.mpr ⟨p, h, rfl⟩)
  unfold lk
  rw [hi]
  rfl
theorem rd_lock {H H' : Hp} {q qe : Addr} {od : Obj} {d e : List (Str × Int)} (hq : H' q = some (.frz od (.dK (dk d)))) (oth : ∀ x o, x ≠ q → H x = some o → H' x = some o) (h0 : H q = some (.dK (dk d))) (he : H qe = some (.dK (dk e))) : Rd H' qe (.dK (dk e)) := by
  by_cases h : qe = q
  · subst h
    have e2 : HO.dK (dk d) = HO.dK (dk e) := Option.some.inj (h0.symm.trans he)
    exact .inr ⟨od, by rw [← e2]; exact hq⟩
  · exact .inl (oth _ _ h he)
theorem mk_sizes {C D : Addr} {d : List (Str × Int)} {H : Hp} {Q : VK} {E : XK} (hD : H D = some (.dK (dk d))) (g : GoodD d) (q : ∀ x e H', L2.Same H H' → SzAt C H' x e → e.Perm d → Q (.ref x) H') :
    ∀ x dx, H x = none → H dx = none → dx ≠ x → spSInit C (.ref x :: ([V.ref D] ++ [])) (L2.upd (L2.upd H dx (.own x)) x (.ins C dx [])) (fun v H2 => v = .non ∧ Q (.ref x) H2) E := by
  intro x dx nx nd ne
  have n1 : D ≠ x := ne_of_none hD nx
  have n2 : D ≠ dx := ne_of_none hD nd
  exact ⟨x, dx, D, d, rfl, upd_same, (upd_ne n1).trans ((upd_ne n2).trans hD), g, fun H' e b z p _ => ⟨rfl, q x e H' (b.same (My.Same.at_ nx (My.Same.new nd)) nx) z p⟩⟩
theorem s_mcall {C a dx : Addr} {fs : List (Str × V)} {m : Str} {sp : Sp} {dvs : List V} {E : XK} {t : TA} {σ : L2.St} {H : Hp} {Q : VK} (h : H a = some (.ins C dx fs)) (l : fs.lookup m = none) (q : t σ H fun vs H2 => sp (.ref a :: (vs ++ dvs)) H2 Q E) :
    ∃ a' dx fs, V.ref a = .ref a' ∧ H a' = some (.ins C dx fs) ∧ fs.lookup m = none ∧ t σ H fun vs H2 => sp (.ref a :: (vs ++ dvs)) H2 Q E := ⟨a, dx, fs, rfl, h, l, q⟩
theorem SzAt.eqp {C : Addr} {H : Hp} {x : Addr} {e m : List (Str × Int)} (z : SzAt C H x e) (p : e.Perm m) (s : Srt m) : SzAt C H x m := by
  obtain ⟨dx, q, h1, h2, g, s2⟩ := id z
  have nd : (names m).Nodup := (names_perm p).nodup_iff.mp g.nd
  have e2 := Srt.uniq s2 s nd p
  rw [← e2]
  exact z
theorem szk {H : Hp} {Q : VK} {C : Addr} {d : List (Str × Int)} {H0 : Hp} (s : Srt d) (k : ∀ x H', L2.Same H0 H' → SzAt C H' x d → Q (.ref x) H') (s0 : L2.Same H0 H) : ∀ x e H', L2.Same H H' → SzAt C H' x e → e.Perm d → Q (.ref x) H' :=
  fun x e H' s1 z p => k x H' (My.Same.tr s0 s1) (z.eqp p s)
theorem has_ok {d : List (Str × Int)} (g : GoodD d) (k : Str) (h : nameB k = false) : (look d k).isSome = false := by
  cases e : look d k with
  | none => rfl
  | some i =>
    have := g.nm _ (look_some e)
    rw [h] at this
    cases this
def spKinds (C : Addr) : Sp := fun vs H Q _ => ∃ a d, vs = [.ref a] ∧ SzAt C H a d ∧ ∀ p H', L2.Same H H' → H p = none → H' p = some (.lst ((names d).map V.str)) → Q (.ref p) H'
def spCounts (C : Addr) : Sp := fun vs H Q _ => ∃ a d, vs = [.ref a] ∧ SzAt C H a d ∧ ∀ p H', L2.Same H H' → H p = none → H' p = some (.dK (dk d)) → Q (.ref p) H'
def spLike (C : Addr) : Sp := fun vs H Q _ => ∃ a b d e, vs = [.ref a, .ref b] ∧ SzAt C H a d ∧ SzAt C H b e ∧ names d = names e ∧ ∀ H', L2.Same H H' → Q .non H'
def leD (d e : List (Str × Int)) : Bool := d.all fun p => decide (p.2 ≤ lk e p.1)
def spWithin (C : Addr) : Sp := fun vs H Q _ => ∃ a b d e, vs = [.ref a, .ref b] ∧ SzAt C H a d ∧ SzAt C H b e ∧ names d = names e ∧ ∀ H', L2.Same H H' → Q (.bl (leD d e)) H'
def spBin (C : Addr) (f : Int → Int → Int) : Sp := fun vs H Q _ => ∃ a b d e, vs = [.ref a, .ref b] ∧ SzAt C H a d ∧ SzAt C H b e ∧ names d = names e ∧ GoodD (d.map fun p => (p.1, f p.2 (lk e p.1))) ∧ ∀ x H', L2.Same H H' → SzAt C H' x (d.map fun p => (p.1, f p.2 (lk e p.1))) → Q (.ref x) H'
def spTimes (C : Addr) : Sp := fun vs H Q _ => ∃ a n d, vs = [.ref a, .int n] ∧ SzAt C H a d ∧ 0 ≤ n ∧ Sm 100 n ∧ GoodD (d.map fun p => (p.1, p.2 * n)) ∧ ∀ x H', L2.Same H H' → SzAt C H' x (d.map fun p => (p.1, p.2 * n)) → Q (.ref x) H'
def spHas (K : PySem.W.Frag) (C : Addr) : Sp := fun vs H Q _ => ∃ a v d, vs = [.ref a, v] ∧ SzAt C H a d ∧ ((∃ s, v = .str s ∧ s.length ≤ 1000 ∧ ∀ H', L2.Same H H' → Q (.bl (look d s).isSome) H') ∨ ∃ t, TyX K H v t ∧ PySem.W.kitOne K t (.type "str") = some false ∧ Q (.bl false) H)
def spKey (C : Addr) : Sp := fun vs H Q _ => ∃ a k d, vs = [.ref a, .str k] ∧ SzAt C H a d ∧ k ∈ names d ∧ ∀ H', L2.Same H H' → Q .non H'
def spAt (C : Addr) : Sp := fun vs H Q _ => ∃ a k d i, vs = [.ref a, .str k] ∧ SzAt C H a d ∧ look d k = some i ∧ ∀ H', L2.Same H H' → Q (.int i) H'
def setN (d : List (Str × Int)) (k : Str) (n : Int) : List (Str × Int) := d.map fun p => (p.1, if p.1 = k then n else p.2)
def spWith (C : Addr) : Sp := fun vs H Q _ => ∃ a k n d, vs = [.ref a, .str k, .int n] ∧ SzAt C H a d ∧ k ∈ names d ∧ 0 ≤ n ∧ GoodD (setN d k n) ∧ ∀ x H', L2.Same H H' → SzAt C H' x (setN d k n) → Q (.ref x) H'
def spSome (C : Addr) : Sp := fun vs H Q _ => ∃ a d, vs = [.ref a] ∧ SzAt C H a d ∧ ∀ H', L2.Same H H' → Q (.bl (d.any fun p => decide (p.2 > 0))) H'
def spLen (C : Addr) : Sp := fun vs H Q _ => ∃ a d, vs = [.ref a] ∧ SzAt C H a d ∧ Q (.int d.length) H
def spEq (K : PySem.W.Frag) (C : Addr) : Sp := fun vs H Q _ => ∃ a v d, vs = [.ref a, v] ∧ SzAt C H a d ∧ ((∃ b e, v = .ref b ∧ SzAt C H b e ∧ Q (.bl (eqD d e)) H) ∨ ∃ t, TyX K H v t ∧ PySem.W.kitOne K t (.ref C) = some false ∧ Q (.bl false) H)
def shownD (d : List (Str × Int)) : Str := Str.empty ++ "Sizes(" ++ (dP d).shown ++ ")"
def spRepr (C : Addr) : Sp := fun vs H Q _ => ∃ a d, vs = [.ref a] ∧ SzAt C H a d ∧ Q (.str (shownD d)) H
end My
end
section

open My L2 PySem
open My L2 PySem
local macro_rules | `(tactic| walk_at "as") => `(tactic| with_reducible assumption)
local macro_rules | `(tactic| walk_at "hp") => `(tactic| first
  | walk_at "as" | exact upd_same
  | (rw [upd_ne (by walk_at "ne")]; walk_at "hp")
  | (refine But.get (by walk_at "as") ?hp1 ?hp2; (case hp1 => walk_at "hp"); (case hp2 => walk_at "ne"))
  | (refine My.Same.get (by walk_at "as") ?hp1; (case hp1 => walk_at "hp")))
local macro_rules | `(tactic| walk_at "ne") => `(tactic| first
  | walk_at "as" | exact Ne.symm (by walk_at "as")
  | (refine' ne_of_none ?ne1 ?ne2; (case ne2 => walk_at "as"); (case ne1 => walk_at "hp"))
  | (refine' Ne.symm (ne_of_none ?ne1 ?ne2); (case ne2 => walk_at "as"); (case ne1 => walk_at "hp"))
  | exact ne_of (by walk_at "hp") (by walk_at "hp") (by intro z; cases z))
local macro_rules | `(tactic| walk_at "sd") => `(tactic| first
  | walk_at "as" | omega | decide | exact ⟨by omega, by omega⟩ | exact .inl ⟨by omega, by omega⟩ | exact .inr ⟨by omega, by omega⟩ | exact divp_wide (by walk_at "as") (by walk_at "as") | exact Sm.cmul (by walk_at "as") (by walk_at "as") | exact cmul_small (by omega) (by omega) (by omega) (by omega) | exact ⟨by omega, by decide⟩)
local macro_rules | `(tactic| walk_at "bt") => `(tactic| first
  | walk_at "as" | exact But.refl _ _ | exact Same.but (by walk_at "as")
  | (refine But.trans ?bt1 But.at; (case bt1 => walk_at "bt"))
  | (refine But.trans ?bt1 (But.new (by first | walk_at "as" | walk_at "hp")); (case bt1 => walk_at "bt"))
  | (refine But.trans ?bt1 (by walk_at "as"); (case bt1 => walk_at "bt"))
  | (refine But.trans ?bt1 (Same.but (by walk_at "as")); (case bt1 => walk_at "bt")))
local macro_rules | `(tactic| walk_at "sm") => `(tactic| first
  | walk_at "as" | exact My.Same.rfl' _
  | (refine' My.Same.at_ ?sm1 ?sm2; (case sm1 => walk_at "as"); (case sm2 => walk_at "sm"))
  | (refine' My.Same.tr ?sm1 (My.Same.new ?sm2); (case sm2 => walk_at "as"); (case sm1 => walk_at "sm"))
  | (refine' My.Same.tr ?sm1 ?sm2; (case sm2 => walk_at "as"); (case sm1 => walk_at "sm")))
local macro_rules | `(tactic| walk_at "sz") => `(tactic| first
  | assumption | exact lt_size (by rfl) | exact le_size (by rfl) | (rw [sizeLine_eq]; omega)
  | (rw [sizeLine_eq]; simp only [List.length_append, List.length_map, List.length_cons, List.length_nil]; omega))
local macro_rules | `(tactic| walk_at "few") => `(tactic| (repeat refine few_put ?_); exact few0)
local macro_rules | `(tactic| walk_at "rd1") => `(tactic| first
  | (with_reducible show tVar _ _ _ _); refine s_var rfl ?_
  | with_reducible refine s_c ?_ | with_reducible refine s_op ?_ | with_reducible refine s_un ?_
  | with_reducible refine s_cons ?_ | with_reducible refine s_nil ?_ | with_reducible refine s_cb ?_
  | with_reducible refine s_test ?_ | with_reducible refine s_B ?_ | with_reducible refine s_not ?_ | with_reducible refine s_and ?_ | with_reducible refine s_or ?_
  | with_reducible refine s_if ?_ | with_reducible refine s_notV ?_ | with_reducible refine s_andV ?_ | with_reducible refine s_orV ?_
  | with_reducible refine s_orT ?_ | with_reducible refine s_andT ?_ | with_reducible refine s_chain ?_
  | with_reducible refine s_isi_int ?_ | with_reducible refine s_isi_int_bool ?_ | with_reducible refine s_isi_str ?_
  | with_reducible refine iteT ?_ | with_reducible refine iteF ?_ | with_reducible refine iteNT ?_ | with_reducible refine iteNF ?_
  | with_reducible refine s_isN ?_ | with_reducible refine s_notN ?_
  | ((with_reducible refine' s_2setE ?g1 ?_); (case g1 => first | (dsimp only [List.set, L2.wipe, List.map, List.foldl]; done) | (dsimp only [List.set, L2.wipe, List.map, List.foldl]; rfl)))
  | with_reducible refine s_seq ?_ | with_reducible refine s_ifS ?_ | with_reducible refine s_asg ?_ | with_reducible refine s_ret ?_ | with_reducible refine s_drop ?_ | with_reducible refine s_next ?_
  | ((with_reducible refine' s_gnameE ?g1 ?_); (case g1 => first | (dsimp only [List.set, L2.wipe, List.map, List.foldl]; done) | (dsimp only [List.set, L2.wipe, List.map, List.foldl]; rfl)))
  | with_reducible refine s_gsub ?_ | with_reducible refine s_gcons ?_ | with_reducible refine s_gnil ?_
  | (with_reducible show gTup _ _ _ _ _ _ _); refine s_gtup (by walk_at "hp") rfl ?_
  | with_reducible refine s_eqI ?_ | with_reducible refine s_neI ?_ | with_reducible refine s_eqS ?_ | with_reducible refine s_neB ?_ | with_reducible refine s_eqB ?_ | with_reducible refine s_neSr ?_ | with_reducible refine s_neS ?_
  | with_reducible refine s_I0 ?_
  | (with_reducible show rI _ _ _ _ _ _); refine s_I (by walk_at "sd") ?_
  | (with_reducible show rIxL _ _ _ _ _); refine s_ixL (by walk_at "hp") rfl ?_
  | (with_reducible show rIxT _ _ _ _ _); refine s_ixT (by walk_at "hp") rfl ?_
  | (with_reducible show rSetL _ _ _ _ _); refine s_setL (by walk_at "hp") rfl ?_
  | with_reducible refine s_prop ?_
  | (with_reducible show _ ≤ sizeLine ∧ _); refine ⟨le_size (by rfl), ?_⟩
  | with_reducible refine ite_NN ?_ | with_reducible refine ite_IN ?_ | with_reducible refine ite_nNN ?_ | with_reducible refine ite_nIN ?_ | with_reducible refine ite_RN ?_ | with_reducible refine ite_nRN ?_
  | with_reducible refine s_sfld ?_
  | ((with_reducible refine' ⟨_, _, _, _, rfl, ?fp1, ?fp2, ?fp3, ?fp4, ?_⟩); (case fp1 => walk_at "hp"); (case fp2 => assumption); (case fp3 => assumption); (case fp4 => walk_at "few"))
  | with_reducible refine s_fldE ?_
  | ((with_reducible refine' ⟨_, _, _, _, _, rfl, ?fp1, ?fp2, ?fp3, ?fp4, ?_⟩); (case fp1 => walk_at "hp"); (case fp2 => assumption); (case fp3 => assumption); (case fp4 => rfl))
  | with_reducible refine s_bm ?_ | with_reducible refine s_bm0 ?_
  | ((with_reducible refine' s_tyL ?ty1 ?_); (case ty1 => walk_at "hp"))
  | ((with_reducible refine' s_append ?ap1 ?ap2 ?_); (case ap1 => walk_at "hp"); (case ap2 => walk_at "sz"))
  | ((with_reducible refine' s_extend ?ap1 ?ap2 ?ap3 ?_); (case ap1 => walk_at "hp"); (case ap2 => walk_at "hp"); (case ap3 => walk_at "sz"))
  | with_reducible refine s_for (fun _ _ => ?_) | with_reducible refine s_lc ?_ | with_reducible refine s_iList ?_ | with_reducible refine s_iTup ?_ | with_reducible refine s_iRng1 ?_ | with_reducible refine s_iRng2 ?_
  | with_reducible refine s_yes ?_ | with_reducible refine s_par ?_
  | with_reducible refine s_make ?_ | with_reducible refine s_meth ?_
  | with_reducible refine s_tup ?_ | with_reducible refine s_lst ?_ | with_reducible refine s_call ?_
  | with_reducible refine ⟨rfl, ?_⟩
  | with_reducible refine ⟨_, rfl, ?_⟩
  | ((with_reducible refine' ⟨_, _, rfl, ?sd1, ?_⟩); (case sd1 => walk_at "sd"))
  | with_reducible refine ⟨_, _, rfl, ?_⟩
  | with_reducible refine .inl ⟨_, rfl, ?_⟩
  | dsimp only [List.set]
  | walk_at "rdx"
  | (refine fun _ _ => ?_))
local macro_rules | `(tactic| walk_at "rd") => `(tactic| repeat (first
  | (with_reducible show tVar _ _ _ _); refine s_var rfl ?_
  | with_reducible refine s_c ?_ | with_reducible refine s_op ?_ | with_reducible refine s_un ?_
  | with_reducible refine s_cons ?_ | with_reducible refine s_nil ?_ | with_reducible refine s_cb ?_
  | with_reducible refine s_test ?_ | with_reducible refine s_B ?_ | with_reducible refine s_not ?_ | with_reducible refine s_and ?_ | with_reducible refine s_or ?_
  | with_reducible refine s_if ?_ | with_reducible refine s_notV ?_ | with_reducible refine s_andV ?_ | with_reducible refine s_orV ?_
  | with_reducible refine s_orT ?_ | with_reducible refine s_andT ?_ | with_reducible refine s_chain ?_
  | with_reducible refine s_isi_int ?_ | with_reducible refine s_isi_int_bool ?_ | with_reducible refine s_isi_str ?_
  | with_reducible refine iteT ?_ | with_reducible refine iteF ?_ | with_reducible refine iteNT ?_ | with_reducible refine iteNF ?_
  | with_reducible refine s_isN ?_ | with_reducible refine s_notN ?_
  | ((with_reducible refine' s_2setE ?g1 ?_); (case g1 => first | (dsimp only [List.set, L2.wipe, List.map, List.foldl]; done) | (dsimp only [List.set, L2.wipe, List.map, List.foldl]; rfl)))
  | with_reducible refine s_seq ?_ | with_reducible refine s_ifS ?_ | with_reducible refine s_asg ?_ | with_reducible refine s_ret ?_ | with_reducible refine s_drop ?_ | with_reducible refine s_next ?_
  | ((with_reducible refine' s_gnameE ?g1 ?_); (case g1 => first | (dsimp only [List.set, L2.wipe, List.map, List.foldl]; done) | (dsimp only [List.set, L2.wipe, List.map, List.foldl]; rfl)))
  | with_reducible refine s_gsub ?_ | with_reducible refine s_gcons ?_ | with_reducible refine s_gnil ?_
  | (with_reducible show gTup _ _ _ _ _ _ _); refine s_gtup (by walk_at "hp") rfl ?_
  | with_reducible refine s_eqI ?_ | with_reducible refine s_neI ?_ | with_reducible refine s_eqS ?_ | with_reducible refine s_neB ?_ | with_reducible refine s_eqB ?_ | with_reducible refine s_neSr ?_ | with_reducible refine s_neS ?_
  | with_reducible refine s_I0 ?_
  | (with_reducible show rI _ _ _ _ _ _); refine s_I (by walk_at "sd") ?_
  | (with_reducible show rIxL _ _ _ _ _); refine s_ixL (by walk_at "hp") rfl ?_
  | (with_reducible show rIxT _ _ _ _ _); refine s_ixT (by walk_at "hp") rfl ?_
  | (with_reducible show rSetL _ _ _ _ _); refine s_setL (by walk_at "hp") rfl ?_
  | with_reducible refine s_prop ?_
  | (with_reducible show _ ≤ sizeLine ∧ _); refine ⟨le_size (by rfl), ?_⟩
  | with_reducible refine ite_NN ?_ | with_reducible refine ite_IN ?_ | with_reducible refine ite_nNN ?_ | with_reducible refine ite_nIN ?_ | with_reducible refine ite_RN ?_ | with_reducible refine ite_nRN ?_
  | with_reducible refine s_sfld ?_
  | ((with_reducible refine' ⟨_, _, _, _, rfl, ?fp1, ?fp2, ?fp3, ?fp4, ?_⟩); (case fp1 => walk_at "hp"); (case fp2 => assumption); (case fp3 => assumption); (case fp4 => walk_at "few"))
  | with_reducible refine s_fldE ?_
  | ((with_reducible refine' ⟨_, _, _, _, _, rfl, ?fp1, ?fp2, ?fp3, ?fp4, ?_⟩); (case fp1 => walk_at "hp"); (case fp2 => assumption); (case fp3 => assumption); (case fp4 => rfl))
  | with_reducible refine s_bm ?_ | with_reducible refine s_bm0 ?_
  | ((with_reducible refine' s_tyL ?ty1 ?_); (case ty1 => walk_at "hp"))
  | ((with_reducible refine' s_append ?ap1 ?ap2 ?_); (case ap1 => walk_at "hp"); (case ap2 => walk_at "sz"))
  | ((with_reducible refine' s_extend ?ap1 ?ap2 ?ap3 ?_); (case ap1 => walk_at "hp"); (case ap2 => walk_at "hp"); (case ap3 => walk_at "sz"))
  | with_reducible refine s_for (fun _ _ => ?_) | with_reducible refine s_lc ?_ | with_reducible refine s_iList ?_ | with_reducible refine s_iTup ?_ | with_reducible refine s_iRng1 ?_ | with_reducible refine s_iRng2 ?_
  | with_reducible refine s_yes ?_ | with_reducible refine s_par ?_
  | with_reducible refine s_make ?_ | with_reducible refine s_meth ?_
  | with_reducible refine s_tup ?_ | with_reducible refine s_lst ?_ | with_reducible refine s_call ?_
  | with_reducible refine ⟨rfl, ?_⟩
  | with_reducible refine ⟨_, rfl, ?_⟩
  | ((with_reducible refine' ⟨_, _, rfl, ?sd1, ?_⟩); (case sd1 => walk_at "sd"))
  | with_reducible refine ⟨_, _, rfl, ?_⟩
  | with_reducible refine .inl ⟨_, rfl, ?_⟩
  | dsimp only [List.set]
  | walk_at "rdx"
  | (refine fun _ _ => ?_)))

namespace My
open PySem L2
section
variable {P : Program} {w : World} {K : PySem.W.Frag} {mg : Str → Option Value} {base : Heap} {C_Sizes : Addr} (M : Md K mg C_Sizes)
include M
local macro_rules | `(tactic| walk_at "rdx") => `(tactic| first
  | with_reducible refine s_tdget ?_ | with_reducible refine s_tdin ?_
  | ((with_reducible refine' s_mcall ?mc1 ?mc2 ?_); (case mc1 => walk_at "hp"); (case mc2 => rfl))
  | ((with_reducible refine' mk_sizes ?mc1 ?mc2 ?_); (case mc1 => walk_at "hp"); (case mc2 => walk_at "as")))
theorem c_Sizes_1 : Mkn P w K mg base "Sizes" C_Sizes 4 ["self", "counts"] [] (spSInit C_Sizes) := mkN M.i_Sizes M.m_Sizes (fun F => ok_sinit M F) (fun _ _ _ _ _ _ us hl => match us, hl with | [_, _], _ => rfl)
theorem c_Sizes_kinds : Mtn P w K mg base C_Sizes "kinds" 1 ["self"] [] (spKinds C_Sizes) := by
  refine mtN M.e_Sizes_kinds M.k_Sizes (fun F => ?_) (fun _ _ _ _ _ _ us hl => match us, hl with | [_], _ => rfl)
  refine fnG_body F sc_Sizes_kinds (fun vs H Q E h => ?_) (fun cdv A outer s H vs Q E hr h => ?_)
  · obtain ⟨a, d, rfl, _⟩ := h
    rfl
  · obtain ⟨a, d, rfl, ⟨dx, qa, a1, a2, ga, sa⟩, k⟩ := h
    refine ⟨_, (pss_one (ps_ret (pe_callTy (call_listD rfl) (by rfl) M.b_list (by decide +kernel) (pa_cons (pe_fld (pv 0) rfl) pa_nil)))), ?_⟩
    refine st_eq (σ := [some _]) rfl ?_
    have kS := M.k_Sizes
    have nS := M.n_Sizes__counts
    walk_at "rd"
    refine ⟨qa, _, rfl, .inl a2, fun p np => ?_⟩
    walk_at "rd"
    refine k p _ (My.Same.new np) np (upd_same.trans ?_)
    unfold names dk
    rw [List.map_map, List.map_map]
    rfl
theorem c_Sizes_counts : Mtn P w K mg base C_Sizes "counts" 1 ["self"] [] (spCounts C_Sizes) := by
  refine mtN M.e_Sizes_counts M.k_Sizes (fun F => ?_) (fun _ _ _ _ _ _ us hl => match us, hl with | [_], _ => rfl)
  refine fnG_body F sc_Sizes_counts (fun vs H Q E h => ?_) (fun cdv A outer s H vs Q E hr h => ?_)
  · obtain ⟨a, d, rfl, _⟩ := h
    rfl
  · obtain ⟨a, d, rfl, ⟨dx, qa, a1, a2, ga, sa⟩, k⟩ := h
    refine ⟨_, (pss_one (ps_ret (pe_lock (pe_dc (own := [("kind", 1)]) (g := gName 1) (tt := tYes) (by rfl) sc_Sizes_counts.nd (pi_keys (pe_fld (pv 0) rfl)) (blkOk_by (own := [("kind", 1)]) (N := N_Sizes_counts) (sc := defScope st_Sizes_counts) (by decide +kernel)) (fun _ _ _ _ _ => pg_name (i := 1) sc_Sizes_counts.nd rfl (by first | exact Or.inl rfl | exact Or.inr rfl)) (fun _ _ _ _ _ => pts_nil) (fun _ _ _ _ _ => (pv 1)) (fun _ _ _ _ _ => (pe_dget (hug hr) (pe_fldK (K := K) rfl (pv 0) rfl) (pv 1) (fun _ _ => rfl))))))), ?_⟩
    refine st_eq (σ := [some _, none]) rfl ?_
    have kS := M.k_Sizes
    have nS := M.n_Sizes__counts
    have na : a ≠ qa := by walk_at "ne"
    walk_at "rd"
    refine lock_dc (d := d) (q := qa) (fun p => p.2) a2 (few1 ga) ga.nd ?_ ?_ ?_
    · intro H' R hh q'
      have ax := (hh _ na).trans a1
      walk_at "rd"
      exact q'
    · intro od D i p H' R F hp nD hDq hq hs hD q'
      have ax := hs _ _ na a1
      have hm := List.mem_of_getElem? hp
      walk_at "rd"
      refine s_dget (d := d) (.inr ⟨od, hq⟩) (look_mem ga.nd hm) ?_
      exact q' H' (L2.Same.refl _)
    · intro D H' nD hs hD
      walk_at "rd"
      refine k D H' hs nD (hD.trans ?_)
      rw [List.map_id']
theorem c_Sizes__check_like : Mtn P w K mg base C_Sizes "_check_like" 2 ["self", "other"] [] (spLike C_Sizes) := by
  have c_Sizes_kinds := c_Sizes_kinds (P := P) (w := w) (base := base) M
  refine mtN M.e_Sizes__check_like M.k_Sizes (fun F => ?_) (fun _ _ _ _ _ _ us hl => match us, hl with | [_, _], _ => rfl)
  refine fnG_body F sc_Sizes__check_like (fun vs H Q E h => ?_) (fun cdv A outer s H vs Q E hr h => ?_)
  · obtain ⟨a, b, d, e, rfl, _⟩ := h
    rfl
  · obtain ⟨a, b, d, e, rfl, ha, hb, n, k⟩ := h
    obtain ⟨dx, qa, a1, a2, ga, sa⟩ := id ha
    obtain ⟨dy, qb, b1, b2, gb, sb⟩ := id hb
    refine ⟨_, (pss_one (ps_if (PW.pt (pw_or (pt_not (pt_val (pe_callB call_isi (by rfl) M.b_isinstance (by decide +kernel) (pa_cons (pv 1) (pa_cons (pe_glob (v := .ref C_Sizes) rfl M.m_Sizes rfl) pa_nil))))) (pw_or1 (pt_cmpR (op_neD hr.units) (pe_meth0D c_Sizes_kinds (pv 1) (hr.mono (by decide))) (pe_meth0D c_Sizes_kinds (pv 0) (hr.mono (by decide))) (nomark _))))) (pss_one ps_never) pss_nil)), ?_⟩
    refine st_eq (σ := [some _, some _]) rfl ?_
    walk_at "rd"
    refine s_isi_own (M.z_Sizes b1) ?_
    walk_at "rd"
    refine ⟨b, e, rfl, hb, fun p1 H1 s1 n1 l1 => ?_⟩
    have a11 := s1 _ _ a1
    walk_at "rd"
    refine ⟨a, d, rfl, ha.same s1, fun p2 H2 s2 n2 l2 => ?_⟩
    rw [n] at l2
    walk_at "rd"
    refine s_neStrs (fun x hx => ?_) (s2 _ _ l1) l2 ?_
    · obtain ⟨p, hp, rfl⟩ := List.mem_map.mp hx
      exact gb.nm p hp
    walk_at "rd"
    exact k _ (My.Same.tr s1 s2)
theorem ok_is_within {f : Addr} {fd : FuncData} (F : FunD K "is_within" "Sizes.is_within" (defArgs st_Sizes_is_within) (defBody st_Sizes_is_within) (defScope st_Sizes_is_within) [] [] f fd) : FnG P w K mg base CX0 3 f fd ["self", "other"] (spWithin C_Sizes) := by
  have c_Sizes__check_like := c_Sizes__check_like (P := P) (w := w) (base := base) M
  refine fnG_body F sc_Sizes_is_within (fun vs H Q E h => ?_) (fun cdv A outer s H vs Q E hr h => ?_)
  · obtain ⟨a, b, d, e, rfl, _⟩ := h
    rfl
  · obtain ⟨a, b, d, e, rfl, ha, hb, n, k⟩ := h
    obtain ⟨dx, qa, a1, a2, ga, sa⟩ := id ha
    obtain ⟨dy, qb, b1, b2, gb, sb⟩ := id hb
    refine ⟨_, (pss_cons (ps_expr (pe_methD c_Sizes__check_like (pv 0) (hr.mono (by decide)) (pa_cons (pv 1) pa_nil))) (pss_one (ps_ret (pe_callB (cr_all rfl) (by rfl) M.b_all (by decide +kernel) (pa_cons (pe_lock (pe_lc (own := [("kind", 2)]) (g := gName 2) (tt := tYes) (by rfl) sc_Sizes_is_within.nd (pi_keys (pe_fld (pv 0) rfl)) (blkOk_by (own := [("kind", 2)]) (N := N_Sizes_is_within) (sc := defScope st_Sizes_is_within) (by decide +kernel)) (fun _ _ _ _ _ => pg_name (i := 2) sc_Sizes_is_within.nd rfl (by first | exact Or.inl rfl | exact Or.inr rfl)) (fun _ _ _ _ _ => pts_nil) (fun _ _ _ _ _ => (pe_cmpR op_le (pe_dget (hug hr) (pe_fldK (K := K) rfl (pv 0) rfl) (pv 2) (fun _ _ => rfl)) (pe_dget (hug hr) (pe_fldK (K := K) rfl (pv 1) rfl) (pv 2) (fun _ _ => rfl)) (nomark _))))) pa_nil))))), ?_⟩
    refine st_eq (σ := [some _, some _, none]) rfl ?_
    have kS := M.k_Sizes
    have nS := M.n_Sizes__counts
    have na : a ≠ qa := by walk_at "ne"
    have nb : b ≠ qa := by walk_at "ne"
    walk_at "rd"
    refine ⟨a, b, d, e, rfl, ha, hb, n, fun H1 s1 => ?_⟩
    walk_at "rd"
    refine lock_lc (d := d) (q := qa) (fun p => .bl (decide (p.2 ≤ lk e p.1))) (s1 _ _ a2) (few1 ga) ?_ ?_ ?_
    · intro H' R hh q'
      have ax := (hh _ na).trans (s1 _ _ a1)
      walk_at "rd"
      exact q'
    · intro od D i p H' R F hp nD hDq hq hs hD q'
      have ax := hs _ _ na (s1 _ _ a1)
      have bx := hs _ _ nb (s1 _ _ b1)
      have hm := List.mem_of_getElem? hp
      walk_at "rd"
      refine s_dget (d := d) (.inr ⟨od, hq⟩) (look_mem ga.nd hm) ?_
      walk_at "rd"
      refine s_dget (d := e) (rd_lock hq hs (s1 _ _ a2) (s1 _ _ b2)) (lk_of n hm) ?_
      walk_at "rd"
      exact q' H' (L2.Same.refl _)
    · intro D H' nD hs hD
      walk_at "rd"
      refine ⟨_, d.map fun p => decide (p.2 ≤ lk e p.1), rfl, SqL.of (by rw [List.map_map]; exact hD), ?_⟩
      rw [show ((d.map fun p => decide (p.2 ≤ lk e p.1)).all id) = leD d e from by rw [List.all_map]; rfl]
      exact k _ (My.Same.tr s1 hs)
theorem c_Sizes_is_within : Mtn P w K mg base C_Sizes "is_within" 3 ["self", "other"] [] (spWithin C_Sizes) := mtN M.e_Sizes_is_within M.k_Sizes (fun F => ok_is_within M F) (fun _ _ _ _ _ _ us hl => match us, hl with | [_, _], _ => rfl)
theorem k_Sizes_is_within : Mtk P w K mg base C_Sizes "is_within" 3 1 ["other"] (fun vs zs => vs ++ zs.reverse) (spWithin C_Sizes) := by
  obtain ⟨f, fd, hm, F⟩ := M.e_Sizes_is_within
  exact ⟨f, fd, _, _, M.k_Sizes, hm, ok_is_within M F, kbn0 F 1 ["other"] (fun vs zs => vs ++ zs.reverse) (fun r1 r2 => r1.append (vals_rev r2)) fun _ _ _ _ _ _ us ws l1 l2 => match us, ws, l1, l2 with | [_], [_], _, _ => rfl⟩
theorem k_Sizes : Mkk P w K mg base "Sizes" C_Sizes 4 1 ["counts"] (fun vs zs => vs ++ zs.reverse) (spSInit C_Sizes) := by
  obtain ⟨f, fd, hm, F⟩ := M.i_Sizes
  exact ⟨f, fd, _, _, hm, ok_sinit M F, M.m_Sizes, kbn0 F 1 ["counts"] (fun vs zs => vs ++ zs.reverse) (fun r1 r2 => r1.append (vals_rev r2)) fun _ _ _ _ _ _ us ws l1 l2 => match us, ws, l1, l2 with | [_], [_], _, _ => rfl⟩
theorem c_Sizes___bool__ : Mtn P w K mg base C_Sizes "__bool__" 1 ["self"] [] (spSome C_Sizes) := by
  refine mtN M.e_Sizes___bool__ M.k_Sizes (fun F => ?_) (fun _ _ _ _ _ _ us hl => match us, hl with | [_], _ => rfl)
  refine fnG_body F sc_Sizes___bool__ (fun vs H Q E h => ?_) (fun cdv A outer s H vs Q E hr h => ?_)
  · obtain ⟨a, d, rfl, _⟩ := h
    rfl
  · obtain ⟨a, d, rfl, ⟨dx, qa, a1, a2, ga, sa⟩, k⟩ := h
    refine ⟨_, (pss_one (ps_ret (pe_callB (cr_any rfl) (by rfl) M.b_any (by decide +kernel) (pa_cons (pe_lock (pe_lc (own := [("kind", 1)]) (g := gName 1) (tt := tYes) (by rfl) sc_Sizes___bool__.nd (pi_keys (pe_fld (pv 0) rfl)) (blkOk_by (own := [("kind", 1)]) (N := N_Sizes___bool__) (sc := defScope st_Sizes___bool__) (by decide +kernel)) (fun _ _ _ _ _ => pg_name (i := 1) sc_Sizes___bool__.nd rfl (by first | exact Or.inl rfl | exact Or.inr rfl)) (fun _ _ _ _ _ => pts_nil) (fun _ _ _ _ _ => (pe_cmpR op_gt (pe_dget (hug hr) (pe_fldK (K := K) rfl (pv 0) rfl) (pv 1) (fun _ _ => rfl)) pe_int (nomark _))))) pa_nil)))), ?_⟩
    refine st_eq (σ := [some _, none]) rfl ?_
    have kS := M.k_Sizes
    have nS := M.n_Sizes__counts
    have na : a ≠ qa := by walk_at "ne"
    walk_at "rd"
    refine lock_lc (d := d) (q := qa) (fun p => .bl (decide (p.2 > 0))) a2 (few1 ga) ?_ ?_ ?_
    · intro H' R hh q'
      have ax := (hh _ na).trans a1
      walk_at "rd"
      exact q'
    · intro od D i p H' R F hp nD hDq hq hs hD q'
      have ax := hs _ _ na a1
      have hm := List.mem_of_getElem? hp
      walk_at "rd"
      refine s_dget (d := d) (.inr ⟨od, hq⟩) (look_mem ga.nd hm) ?_
      walk_at "rd"
      exact q' H' (L2.Same.refl _)
    · intro D H' nD hs hD
      walk_at "rd"
      refine ⟨_, d.map fun p => decide (p.2 > 0), rfl, SqL.of (by rw [List.map_map]; exact hD), ?_⟩
      rw [show ((d.map fun p => decide (p.2 > 0)).any id) = (d.any fun p => decide (p.2 > 0)) from by rw [List.any_map]; rfl]
      exact k _ hs
theorem c_Sizes___contains__ : Mtn P w K mg base C_Sizes "__contains__" 2 ["self", "value"] [] (spHas K C_Sizes) := by
  have c_is_name := c_is_name (P := P) (w := w) (base := base) M
  refine mtN M.e_Sizes___contains__ M.k_Sizes (fun F => ?_) (fun _ _ _ _ _ _ us hl => match us, hl with | [_, _], _ => rfl)
  refine fnG_body F sc_Sizes___contains__ (fun vs H Q E h => ?_) (fun cdv A outer s H vs Q E hr h => ?_)
  · obtain ⟨a, v, d, rfl, _⟩ := h
    rfl
  · obtain ⟨a, v, d, rfl, ⟨dx, qa, a1, a2, ga, sa⟩, k⟩ := h
    refine ⟨_, (pss_one (ps_ret (pe_and (pe_callD c_is_name (hr.mono (by decide)) rfl (pa_cons (pv 1) pa_nil)) (pe_one (pe_cmp (pc_din (hug hr) (pv 1) (pe_fld (pv 0) rfl)) (by first | exact nomark _ | rfl)))))), ?_⟩
    refine st_eq (σ := [some _, some _]) rfl ?_
    have kS := M.k_Sizes
    have nS := M.n_Sizes__counts
    walk_at "rd"
    rcases k with ⟨x, rfl, hl, k⟩ | ⟨t, ht, hk, k⟩
    · refine ⟨_, rfl, .inl ⟨x, rfl, hl, fun H1 s1 => ?_⟩⟩
      have a11 := s1 _ _ a1
      refine ⟨_, rfl, ?_⟩
      cases e : nameB x with
      | false =>
        walk_at "rd"
        have := k H1 s1
        rw [has_ok ga x e] at this
        exact this
      | true =>
        walk_at "rd"
        refine s_din (P := fun v => Q v H1) (d := d) (.inl (s1 _ _ a2)) ?_
        exact k H1 s1
    · refine ⟨_, rfl, .inr ⟨t, ht, hk, ?_⟩⟩
      walk_at "rd"
      exact k
theorem c_check_kind : Dn P w K mg base "check_kind" 3 ["holder", "kind"] [] (spKey C_Sizes) := by
  have c_Sizes___contains__ := c_Sizes___contains__ (P := P) (w := w) (base := base) M
  refine dnN M.f_check_kind (fun F => ?_) (fun _ _ _ _ _ _ us hl => match us, hl with | [_, _], _ => rfl)
  refine fnG_body F sc_check_kind (fun vs H Q E h => ?_) (fun cdv A outer s H vs Q E hr h => ?_)
  · obtain ⟨a, x, d, rfl, _⟩ := h
    rfl
  · obtain ⟨a, x, d, rfl, ha, hk, k⟩ := h
    obtain ⟨dx, qa, a1, a2, ga, sa⟩ := id ha
    refine ⟨_, (pss_one (ps_if (pt_cmpR (or_notInO c_Sizes___contains__ (hr.mono (by decide))) (pv 1) (pv 0) (by first | exact nomark _ | rfl)) (pss_one ps_never) pss_nil)), ?_⟩
    refine st_eq (σ := [some _, some _]) rfl ?_
    obtain ⟨p, hp, rfl⟩ := List.mem_map.mp hk
    have nm := ga.nm p hp
    unfold nameB at nm
    simp only [Bool.and_eq_true, decide_eq_true_eq] at nm
    walk_at "rd"
    refine ⟨a, dx, _, rfl, a1, a, _, d, rfl, ha, .inl ⟨p.1, rfl, by omega, fun H1 s1 => ⟨_, rfl, ?_⟩⟩⟩
    rw [look_mem ga.nd hp]
    walk_at "rd"
    exact k H1 s1
theorem c_Sizes___getitem__ : Mtn P w K mg base C_Sizes "__getitem__" 4 ["self", "kind"] [] (spAt C_Sizes) := by
  have c_check_kind := c_check_kind (P := P) (w := w) (base := base) M
  refine mtN M.e_Sizes___getitem__ M.k_Sizes (fun F => ?_) (fun _ _ _ _ _ _ us hl => match us, hl with | [_, _], _ => rfl)
  refine fnG_body F sc_Sizes___getitem__ (fun vs H Q E h => ?_) (fun cdv A outer s H vs Q E hr h => ?_)
  · obtain ⟨a, x, d, i, rfl, _⟩ := h
    rfl
  · obtain ⟨a, x, d, i, rfl, ha, hi, k⟩ := h
    obtain ⟨dx, qa, a1, a2, ga, sa⟩ := id ha
    refine ⟨_, (pss_cons (ps_expr (pe_callD c_check_kind (hr.mono (by decide)) rfl (pa_cons (pv 0) (pa_cons (pv 1) pa_nil)))) (pss_one (ps_ret (pe_dget (hug hr) (pe_fld (pv 0) rfl) (pv 1) (fun _ _ => rfl))))), ?_⟩
    refine st_eq (σ := [some _, some _]) rfl ?_
    have kS := M.k_Sizes
    have nS := M.n_Sizes__counts
    walk_at "rd"
    refine ⟨a, x, d, rfl, ha, List.mem_map.mpr ⟨_, look_some hi, rfl⟩, fun H1 s1 => ?_⟩
    have a11 := s1 _ _ a1
    walk_at "rd"
    refine s_dget (d := d) (.inl (s1 _ _ a2)) hi ?_
    exact k H1 s1
end
end My
end
section

open My L2 PySem
open My L2 PySem
local macro_rules | `(tactic| walk_at "as") => `(tactic| with_reducible assumption)
local macro_rules | `(tactic| walk_at "hp") => `(tactic| first
  | walk_at "as" | exact upd_same
  | (rw [upd_ne (by walk_at "ne")]; walk_at "hp")
  | (refine But.get (by walk_at "as") ?hp1 ?hp2; (case hp1 => walk_at "hp"); (case hp2 => walk_at "ne"))
  | (refine My.Same.get (by walk_at "as") ?hp1; (case hp1 => walk_at "hp")))
local macro_rules | `(tactic| walk_at "ne") => `(tactic| first
  | walk_at "as" | exact Ne.symm (by walk_at "as")
  | (refine' ne_of_none ?ne1 ?ne2; (case ne2 => walk_at "as"); (case ne1 => walk_at "hp"))
  | (refine' Ne.symm (ne_of_none ?ne1 ?ne2); (case ne2 => walk_at "as"); (case ne1 => walk_at "hp"))
  | exact ne_of (by walk_at "hp") (by walk_at "hp") (by intro z; cases z))
local macro_rules | `(tactic| walk_at "sd") => `(tactic| first
  | walk_at "as" | omega | decide | exact ⟨by omega, by omega⟩ | exact .inl ⟨by omega, by omega⟩ | exact .inr ⟨by omega, by omega⟩ | exact divp_wide (by walk_at "as") (by walk_at "as") | exact Sm.cmul (by walk_at "as") (by walk_at "as") | exact cmul_small (by omega) (by omega) (by omega) (by omega) | exact ⟨by omega, by decide⟩)
local macro_rules | `(tactic| walk_at "bt") => `(tactic| first
  | walk_at "as" | exact But.refl _ _ | exact Same.but (by walk_at "as")
  | (refine But.trans ?bt1 But.at; (case bt1 => walk_at "bt"))
  | (refine But.trans ?bt1 (But.new (by first | walk_at "as" | walk_at "hp")); (case bt1 => walk_at "bt"))
  | (refine But.trans ?bt1 (by walk_at "as"); (case bt1 => walk_at "bt"))
  | (refine But.trans ?bt1 (Same.but (by walk_at "as")); (case bt1 => walk_at "bt")))
local macro_rules | `(tactic| walk_at "sm") => `(tactic| first
  | walk_at "as" | exact My.Same.rfl' _
  | (refine' My.Same.at_ ?sm1 ?sm2; (case sm1 => walk_at "as"); (case sm2 => walk_at "sm"))
  | (refine' My.Same.tr ?sm1 (My.Same.new ?sm2); (case sm2 => walk_at "as"); (case sm1 => walk_at "sm"))
  | (refine' My.Same.tr ?sm1 ?sm2; (case sm2 => walk_at "as"); (case sm1 => walk_at "sm")))
local macro_rules | `(tactic| walk_at "sz") => `(tactic| first
  | assumption | exact lt_size (by rfl) | exact le_size (by rfl) | (rw [sizeLine_eq]; omega)
  | (rw [sizeLine_eq]; simp only [List.length_append, List.length_map, List.length_cons, List.length_nil]; omega))
local macro_rules | `(tactic| walk_at "few") => `(tactic| (repeat refine few_put ?_); exact few0)
local macro_rules | `(tactic| walk_at "rd1") => `(tactic| first
  | (with_reducible show tVar _ _ _ _); refine s_var rfl ?_
  | with_reducible refine s_c ?_ | with_reducible refine s_op ?_ | with_reducible refine s_un ?_
  | with_reducible refine s_cons ?_ | with_reducible refine s_nil ?_ | with_reducible refine s_cb ?_
  | with_reducible refine s_test ?_ | with_reducible refine s_B ?_ | with_reducible refine s_not ?_ | with_reducible refine s_and ?_ | with_reducible refine s_or ?_
  | with_reducible refine s_if ?_ | with_reducible refine s_notV ?_ | with_reducible refine s_andV ?_ | with_reducible refine s_orV ?_
  | with_reducible refine s_orT ?_ | with_reducible refine s_andT ?_ | with_reducible refine s_chain ?_
  | with_reducible refine s_isi_int ?_ | with_reducible refine s_isi_int_bool ?_ | with_reducible refine s_isi_str ?_
  | with_reducible refine iteT ?_ | with_reducible refine iteF ?_ | with_reducible refine iteNT ?_ | with_reducible refine iteNF ?_
  | with_reducible refine s_isN ?_ | with_reducible refine s_notN ?_
  | ((with_reducible refine' s_2setE ?g1 ?_); (case g1 => first | (dsimp only [List.set, L2.wipe, List.map, List.foldl]; done) | (dsimp only [List.set, L2.wipe, List.map, List.foldl]; rfl)))
  | with_reducible refine s_seq ?_ | with_reducible refine s_ifS ?_ | with_reducible refine s_asg ?_ | with_reducible refine s_ret ?_ | with_reducible refine s_drop ?_ | with_reducible refine s_next ?_
  | ((with_reducible refine' s_gnameE ?g1 ?_); (case g1 => first | (dsimp only [List.set, L2.wipe, List.map, List.foldl]; done) | (dsimp only [List.set, L2.wipe, List.map, List.foldl]; rfl)))
  | with_reducible refine s_gsub ?_ | with_reducible refine s_gcons ?_ | with_reducible refine s_gnil ?_
  | (with_reducible show gTup _ _ _ _ _ _ _); refine s_gtup (by walk_at "hp") rfl ?_
  | with_reducible refine s_eqI ?_ | with_reducible refine s_neI ?_ | with_reducible refine s_eqS ?_ | with_reducible refine s_neB ?_ | with_reducible refine s_eqB ?_ | with_reducible refine s_neSr ?_ | with_reducible refine s_neS ?_
  | with_reducible refine s_I0 ?_
  | (with_reducible show rI _ _ _ _ _ _); refine s_I (by walk_at "sd") ?_
  | (with_reducible show rIxL _ _ _ _ _); refine s_ixL (by walk_at "hp") rfl ?_
  | (with_reducible show rIxT _ _ _ _ _); refine s_ixT (by walk_at "hp") rfl ?_
  | (with_reducible show rSetL _ _ _ _ _); refine s_setL (by walk_at "hp") rfl ?_
  | with_reducible refine s_prop ?_
  | (with_reducible show _ ≤ sizeLine ∧ _); refine ⟨le_size (by rfl), ?_⟩
  | with_reducible refine ite_NN ?_ | with_reducible refine ite_IN ?_ | with_reducible refine ite_nNN ?_ | with_reducible refine ite_nIN ?_ | with_reducible refine ite_RN ?_ | with_reducible refine ite_nRN ?_
  | with_reducible refine s_sfld ?_
  | ((with_reducible refine' ⟨_, _, _, _, rfl, ?fp1, ?fp2, ?fp3, ?fp4, ?_⟩); (case fp1 => walk_at "hp"); (case fp2 => assumption); (case fp3 => assumption); (case fp4 => walk_at "few"))
  | with_reducible refine s_fldE ?_
  | ((with_reducible refine' ⟨_, _, _, _, _, rfl, ?fp1, ?fp2, ?fp3, ?fp4, ?_⟩); (case fp1 => walk_at "hp"); (case fp2 => assumption); (case fp3 => assumption); (case fp4 => rfl))
  | with_reducible refine s_bm ?_ | with_reducible refine s_bm0 ?_
  | ((with_reducible refine' s_tyL ?ty1 ?_); (case ty1 => walk_at "hp"))
  | ((with_reducible refine' s_append ?ap1 ?ap2 ?_); (case ap1 => walk_at "hp"); (case ap2 => walk_at "sz"))
  | ((with_reducible refine' s_extend ?ap1 ?ap2 ?ap3 ?_); (case ap1 => walk_at "hp"); (case ap2 => walk_at "hp"); (case ap3 => walk_at "sz"))
  | with_reducible refine s_for (fun _ _ => ?_) | with_reducible refine s_lc ?_ | with_reducible refine s_iList ?_ | with_reducible refine s_iTup ?_ | with_reducible refine s_iRng1 ?_ | with_reducible refine s_iRng2 ?_
  | with_reducible refine s_yes ?_ | with_reducible refine s_par ?_
  | with_reducible refine s_make ?_ | with_reducible refine s_meth ?_
  | with_reducible refine s_tup ?_ | with_reducible refine s_lst ?_ | with_reducible refine s_call ?_
  | with_reducible refine ⟨rfl, ?_⟩
  | with_reducible refine ⟨_, rfl, ?_⟩
  | ((with_reducible refine' ⟨_, _, rfl, ?sd1, ?_⟩); (case sd1 => walk_at "sd"))
  | with_reducible refine ⟨_, _, rfl, ?_⟩
  | with_reducible refine .inl ⟨_, rfl, ?_⟩
  | dsimp only [List.set]
  | walk_at "rdx"
  | (refine fun _ _ => ?_))
local macro_rules | `(tactic| walk_at "rd") => `(tactic| repeat (first
  | (with_reducible show tVar _ _ _ _); refine s_var rfl ?_
  | with_reducible refine s_c ?_ | with_reducible refine s_op ?_ | with_reducible refine s_un ?_
  | with_reducible refine s_cons ?_ | with_reducible refine s_nil ?_ | with_reducible refine s_cb ?_
  | with_reducible refine s_test ?_ | with_reducible refine s_B ?_ | with_reducible refine s_not ?_ | with_reducible refine s_and ?_ | with_reducible refine s_or ?_
  | with_reducible refine s_if ?_ | with_reducible refine s_notV ?_ | with_reducible refine s_andV ?_ | with_reducible refine s_orV ?_
  | with_reducible refine s_orT ?_ | with_reducible refine s_andT ?_ | with_reducible refine s_chain ?_
  | with_reducible refine s_isi_int ?_ | with_reducible refine s_isi_int_bool ?_ | with_reducible refine s_isi_str ?_
  | with_reducible refine iteT ?_ | with_reducible refine iteF ?_ | with_reducible refine iteNT ?_ | with_reducible refine iteNF ?_
  | with_reducible refine s_isN ?_ | with_reducible refine s_notN ?_
  | ((with_reducible refine' s_2setE ?g1 ?_); (case g1 => first | (dsimp only [List.set, L2.wipe, List.map, List.foldl]; done) | (dsimp only [List.set, L2.wipe, List.map, List.foldl]; rfl)))
  | with_reducible refine s_seq ?_ | with_reducible refine s_ifS ?_ | with_reducible refine s_asg ?_ | with_reducible refine s_ret ?_ | with_reducible refine s_drop ?_ | with_reducible refine s_next ?_
  | ((with_reducible refine' s_gnameE ?g1 ?_); (case g1 => first | (dsimp only [List.set, L2.wipe, List.map, List.foldl]; done) | (dsimp only [List.set, L2.wipe, List.map, List.foldl]; rfl)))
  | with_reducible refine s_gsub ?_ | with_reducible refine s_gcons ?_ | with_reducible refine s_gnil ?_
  | (with_reducible show gTup _ _ _ _ _ _ _); refine s_gtup (by walk_at "hp") rfl ?_
  | with_reducible refine s_eqI ?_ | with_reducible refine s_neI ?_ | with_reducible refine s_eqS ?_ | with_reducible refine s_neB ?_ | with_reducible refine s_eqB ?_ | with_reducible refine s_neSr ?_ | with_reducible refine s_neS ?_
  | with_reducible refine s_I0 ?_
  | (with_reducible show rI _ _ _ _ _ _); refine s_I (by walk_at "sd") ?_
  | (with_reducible show rIxL _ _ _ _ _); refine s_ixL (by walk_at "hp") rfl ?_
  | (with_reducible show rIxT _ _ _ _ _); refine s_ixT (by walk_at "hp") rfl ?_
  | (with_reducible show rSetL _ _ _ _ _); refine s_setL (by walk_at "hp") rfl ?_
  | with_reducible refine s_prop ?_
  | (with_reducible show _ ≤ sizeLine ∧ _); refine ⟨le_size (by rfl), ?_⟩
  | with_reducible refine ite_NN ?_ | with_reducible refine ite_IN ?_ | with_reducible refine ite_nNN ?_ | with_reducible refine ite_nIN ?_ | with_reducible refine ite_RN ?_ | with_reducible refine ite_nRN ?_
  | with_reducible refine s_sfld ?_
  | ((with_reducible refine' ⟨_, _, _, _, rfl, ?fp1, ?fp2, ?fp3, ?fp4, ?_⟩); (case fp1 => walk_at "hp"); (case fp2 => assumption); (case fp3 => assumption); (case fp4 => walk_at "few"))
  | with_reducible refine s_fldE ?_
  | ((with_reducible refine' ⟨_, _, _, _, _, rfl, ?fp1, ?fp2, ?fp3, ?fp4, ?_⟩); (case fp1 => walk_at "hp"); (case fp2 => assumption); (case fp3 => assumption); (case fp4 => rfl))
  | with_reducible refine s_bm ?_ | with_reducible refine s_bm0 ?_
  | ((with_reducible refine' s_tyL ?ty1 ?_); (case ty1 => walk_at "hp"))
  | ((with_reducible refine' s_append ?ap1 ?ap2 ?_); (case ap1 => walk_at "hp"); (case ap2 => walk_at "sz"))
  | ((with_reducible refine' s_extend ?ap1 ?ap2 ?ap3 ?_); (case ap1 => walk_at "hp"); (case ap2 => walk_at "hp"); (case ap3 => walk_at "sz"))
  | with_reducible refine s_for (fun _ _ => ?_) | with_reducible refine s_lc ?_ | with_reducible refine s_iList ?_ | with_reducible refine s_iTup ?_ | with_reducible refine s_iRng1 ?_ | with_reducible refine s_iRng2 ?_
  | with_reducible refine s_yes ?_ | with_reducible refine s_par ?_
  | with_reducible refine s_make ?_ | with_reducible refine s_meth ?_
  | with_reducible refine s_tup ?_ | with_reducible refine s_lst ?_ | with_reducible refine s_call ?_
  | with_reducible refine ⟨rfl, ?_⟩
  | with_reducible refine ⟨_, rfl, ?_⟩
  | ((with_reducible refine' ⟨_, _, rfl, ?sd1, ?_⟩); (case sd1 => walk_at "sd"))
  | with_reducible refine ⟨_, _, rfl, ?_⟩
  | with_reducible refine .inl ⟨_, rfl, ?_⟩
  | dsimp only [List.set]
  | walk_at "rdx"
  | (refine fun _ _ => ?_)))

namespace My
open PySem L2
section
variable {P : Program} {w : World} {K : PySem.W.Frag} {mg : Str → Option Value} {base : Heap} {C_Sizes : Addr} (M : Md K mg C_Sizes)
include M
local macro_rules | `(tactic| walk_at "rdx") => `(tactic| first
  | with_reducible refine s_tdget ?_ | with_reducible refine s_tdin ?_
  | ((with_reducible refine' s_mcall ?mc1 ?mc2 ?_); (case mc1 => walk_at "hp"); (case mc2 => rfl))
  | ((with_reducible refine' mk_sizes ?mc1 ?mc2 ?_); (case mc1 => walk_at "hp"); (case mc2 => walk_at "as")))
theorem c_Sizes___add__ : Mtn P w K mg base C_Sizes "__add__" 6 ["self", "other"] [] (spBin C_Sizes (· + ·)) := by
  have c_Sizes__check_like := c_Sizes__check_like (P := P) (w := w) (base := base) M
  have c_Sizes_1 := c_Sizes_1 (P := P) (w := w) (base := base) M
  refine mtN M.e_Sizes___add__ M.k_Sizes (fun F => ?_) (fun _ _ _ _ _ _ us hl => match us, hl with | [_, _], _ => rfl)
  refine fnG_body F sc_Sizes___add__ (fun vs H Q E h => ?_) (fun cdv A outer s H vs Q E hr h => ?_)
  · obtain ⟨a, b, d, e, rfl, _⟩ := h
    rfl
  · obtain ⟨a, b, d, e, rfl, ha, hb, n, g, k⟩ := h
    obtain ⟨dx, qa, a1, a2, ga, sa⟩ := id ha
    obtain ⟨dy, qb, b1, b2, gb, sb⟩ := id hb
    refine ⟨_, (pss_cons (ps_expr (pe_methD c_Sizes__check_like (pv 0) (hr.mono (by decide)) (pa_cons (pv 1) pa_nil))) (pss_one (ps_ret (pe_makeD c_Sizes_1 (hr.mono (by decide)) rfl (pa_cons (pe_lock (pe_dc (own := [("kind", 2)]) (g := gName 2) (tt := tYes) (by rfl) sc_Sizes___add__.nd (pi_keys (pe_fld (pv 0) rfl)) (blkOk_by (own := [("kind", 2)]) (N := N_Sizes___add__) (sc := defScope st_Sizes___add__) (by decide +kernel)) (fun _ _ _ _ _ => pg_name (i := 2) sc_Sizes___add__.nd rfl (by first | exact Or.inl rfl | exact Or.inr rfl)) (fun _ _ _ _ _ => pts_nil) (fun _ _ _ _ _ => (pv 2)) (fun _ _ _ _ _ => (pe_op op_add (pe_dget (hug hr) (pe_fldK (K := K) rfl (pv 0) rfl) (pv 2) (fun _ _ => rfl)) (pe_dget (hug hr) (pe_fldK (K := K) rfl (pv 1) rfl) (pv 2) (fun _ _ => rfl)))))) pa_nil))))), ?_⟩
    refine st_eq (σ := [some _, some _, none]) rfl ?_
    have kS := M.k_Sizes
    have nS := M.n_Sizes__counts
    have na : a ≠ qa := by walk_at "ne"
    have nb : b ≠ qa := by walk_at "ne"
    walk_at "rd"
    refine ⟨a, b, d, e, rfl, ha, hb, n, fun H1 s1 => ?_⟩
    walk_at "rd"
    refine lock_dc (d := d) (q := qa) (fun p => p.2 + lk e p.1) (s1 _ _ a2) (few1 ga) ga.nd ?_ ?_ ?_
    · intro H' R hh q'
      have ax := (hh _ na).trans (s1 _ _ a1)
      walk_at "rd"
      exact q'
    · intro od D i p H' R F hp nD hDq hq hs hD q'
      have ax := hs _ _ na (s1 _ _ a1)
      have bx := hs _ _ nb (s1 _ _ b1)
      have hm := List.mem_of_getElem? hp
      walk_at "rd"
      refine s_dget (d := d) (.inr ⟨od, hq⟩) (look_mem ga.nd hm) ?_
      walk_at "rd"
      refine s_dget (d := e) (rd_lock hq hs (s1 _ _ a2) (s1 _ _ b2)) (lk_of n hm) ?_
      walk_at "rd"
      exact q' H' (L2.Same.refl _)
    · intro D H' nD hs hD
      with_reducible refine s_nil ?_
      exact mk_sizes hD g (szk (sa.map _) k (My.Same.tr s1 hs))
theorem c_Sizes___and__ : Mtn P w K mg base C_Sizes "__and__" 6 ["self", "other"] [] (spBin C_Sizes fun x y => if y < x then y else x) := by
  have c_Sizes__check_like := c_Sizes__check_like (P := P) (w := w) (base := base) M
  have c_Sizes_1 := c_Sizes_1 (P := P) (w := w) (base := base) M
  refine mtN M.e_Sizes___and__ M.k_Sizes (fun F => ?_) (fun _ _ _ _ _ _ us hl => match us, hl with | [_, _], _ => rfl)
  refine fnG_body F sc_Sizes___and__ (fun vs H Q E h => ?_) (fun cdv A outer s H vs Q E hr h => ?_)
  · obtain ⟨a, b, d, e, rfl, _⟩ := h
    rfl
  · obtain ⟨a, b, d, e, rfl, ha, hb, n, g, k⟩ := h
    obtain ⟨dx, qa, a1, a2, ga, sa⟩ := id ha
    obtain ⟨dy, qb, b1, b2, gb, sb⟩ := id hb
    refine ⟨_, (pss_cons (ps_expr (pe_methD c_Sizes__check_like (pv 0) (hr.mono (by decide)) (pa_cons (pv 1) pa_nil))) (pss_one (ps_ret (pe_makeD c_Sizes_1 (hr.mono (by decide)) rfl (pa_cons (pe_lock (pe_dc (own := [("kind", 2)]) (g := gName 2) (tt := tYes) (by rfl) sc_Sizes___and__.nd (pi_keys (pe_fld (pv 0) rfl)) (blkOk_by (own := [("kind", 2)]) (N := N_Sizes___and__) (sc := defScope st_Sizes___and__) (by decide +kernel)) (fun _ _ _ _ _ => pg_name (i := 2) sc_Sizes___and__.nd rfl (by first | exact Or.inl rfl | exact Or.inr rfl)) (fun _ _ _ _ _ => pts_nil) (fun _ _ _ _ _ => (pv 2)) (fun _ _ _ _ _ => (pe_callB (call_min2 rfl) (by rfl) M.b_min (by decide +kernel) (pa_cons (pe_dget (hug hr) (pe_fldK (K := K) rfl (pv 0) rfl) (pv 2) (fun _ _ => rfl)) (pa_cons (pe_dget (hug hr) (pe_fldK (K := K) rfl (pv 1) rfl) (pv 2) (fun _ _ => rfl)) pa_nil)))))) pa_nil))))), ?_⟩
    refine st_eq (σ := [some _, some _, none]) rfl ?_
    have kS := M.k_Sizes
    have nS := M.n_Sizes__counts
    have na : a ≠ qa := by walk_at "ne"
    have nb : b ≠ qa := by walk_at "ne"
    walk_at "rd"
    refine ⟨a, b, d, e, rfl, ha, hb, n, fun H1 s1 => ?_⟩
    walk_at "rd"
    refine lock_dc (d := d) (q := qa) (fun p => if lk e p.1 < p.2 then lk e p.1 else p.2) (s1 _ _ a2) (few1 ga) ga.nd ?_ ?_ ?_
    · intro H' R hh q'
      have ax := (hh _ na).trans (s1 _ _ a1)
      walk_at "rd"
      exact q'
    · intro od D i p H' R F hp nD hDq hq hs hD q'
      have ax := hs _ _ na (s1 _ _ a1)
      have bx := hs _ _ nb (s1 _ _ b1)
      have hm := List.mem_of_getElem? hp
      walk_at "rd"
      refine s_dget (d := d) (.inr ⟨od, hq⟩) (look_mem ga.nd hm) ?_
      walk_at "rd"
      refine s_dget (d := e) (rd_lock hq hs (s1 _ _ a2) (s1 _ _ b2)) (lk_of n hm) ?_
      walk_at "rd"
      exact q' H' (L2.Same.refl _)
    · intro D H' nD hs hD
      with_reducible refine s_nil ?_
      exact mk_sizes hD g (szk (sa.map _) k (My.Same.tr s1 hs))
theorem c_Sizes___or__ : Mtn P w K mg base C_Sizes "__or__" 6 ["self", "other"] [] (spBin C_Sizes fun x y => if y > x then y else x) := by
  have c_Sizes__check_like := c_Sizes__check_like (P := P) (w := w) (base := base) M
  have c_Sizes_1 := c_Sizes_1 (P := P) (w := w) (base := base) M
  refine mtN M.e_Sizes___or__ M.k_Sizes (fun F => ?_) (fun _ _ _ _ _ _ us hl => match us, hl with | [_, _], _ => rfl)
  refine fnG_body F sc_Sizes___or__ (fun vs H Q E h => ?_) (fun cdv A outer s H vs Q E hr h => ?_)
  · obtain ⟨a, b, d, e, rfl, _⟩ := h
    rfl
  · obtain ⟨a, b, d, e, rfl, ha, hb, n, g, k⟩ := h
    obtain ⟨dx, qa, a1, a2, ga, sa⟩ := id ha
    obtain ⟨dy, qb, b1, b2, gb, sb⟩ := id hb
    refine ⟨_, (pss_cons (ps_expr (pe_methD c_Sizes__check_like (pv 0) (hr.mono (by decide)) (pa_cons (pv 1) pa_nil))) (pss_one (ps_ret (pe_makeD c_Sizes_1 (hr.mono (by decide)) rfl (pa_cons (pe_lock (pe_dc (own := [("kind", 2)]) (g := gName 2) (tt := tYes) (by rfl) sc_Sizes___or__.nd (pi_keys (pe_fld (pv 0) rfl)) (blkOk_by (own := [("kind", 2)]) (N := N_Sizes___or__) (sc := defScope st_Sizes___or__) (by decide +kernel)) (fun _ _ _ _ _ => pg_name (i := 2) sc_Sizes___or__.nd rfl (by first | exact Or.inl rfl | exact Or.inr rfl)) (fun _ _ _ _ _ => pts_nil) (fun _ _ _ _ _ => (pv 2)) (fun _ _ _ _ _ => (pe_callB (call_max2 rfl) (by rfl) M.b_max (by decide +kernel) (pa_cons (pe_dget (hug hr) (pe_fldK (K := K) rfl (pv 0) rfl) (pv 2) (fun _ _ => rfl)) (pa_cons (pe_dget (hug hr) (pe_fldK (K := K) rfl (pv 1) rfl) (pv 2) (fun _ _ => rfl)) pa_nil)))))) pa_nil))))), ?_⟩
    refine st_eq (σ := [some _, some _, none]) rfl ?_
    have kS := M.k_Sizes
    have nS := M.n_Sizes__counts
    have na : a ≠ qa := by walk_at "ne"
    have nb : b ≠ qa := by walk_at "ne"
    walk_at "rd"
    refine ⟨a, b, d, e, rfl, ha, hb, n, fun H1 s1 => ?_⟩
    walk_at "rd"
    refine lock_dc (d := d) (q := qa) (fun p => if lk e p.1 > p.2 then lk e p.1 else p.2) (s1 _ _ a2) (few1 ga) ga.nd ?_ ?_ ?_
    · intro H' R hh q'
      have ax := (hh _ na).trans (s1 _ _ a1)
      walk_at "rd"
      exact q'
    · intro od D i p H' R F hp nD hDq hq hs hD q'
      have ax := hs _ _ na (s1 _ _ a1)
      have bx := hs _ _ nb (s1 _ _ b1)
      have hm := List.mem_of_getElem? hp
      walk_at "rd"
      refine s_dget (d := d) (.inr ⟨od, hq⟩) (look_mem ga.nd hm) ?_
      walk_at "rd"
      refine s_dget (d := e) (rd_lock hq hs (s1 _ _ a2) (s1 _ _ b2)) (lk_of n hm) ?_
      walk_at "rd"
      exact q' H' (L2.Same.refl _)
    · intro D H' nD hs hD
      with_reducible refine s_nil ?_
      exact mk_sizes hD g (szk (sa.map _) k (My.Same.tr s1 hs))
theorem c_Sizes___mul__ : Mtn P w K mg base C_Sizes "__mul__" 6 ["self", "times"] [] (spTimes C_Sizes) := by
  have c_check_count := c_check_count (P := P) (w := w) (base := base) M
  have c_Sizes_1 := c_Sizes_1 (P := P) (w := w) (base := base) M
  refine mtN M.e_Sizes___mul__ M.k_Sizes (fun F => ?_) (fun _ _ _ _ _ _ us hl => match us, hl with | [_, _], _ => rfl)
  refine fnG_body F sc_Sizes___mul__ (fun vs H Q E h => ?_) (fun cdv A outer s H vs Q E hr h => ?_)
  · obtain ⟨a, n, d, rfl, _⟩ := h
    rfl
  · obtain ⟨a, n, d, rfl, ha, n0, ns, g, k⟩ := h
    obtain ⟨dx, qa, a1, a2, ga, sa⟩ := id ha
    refine ⟨_, (pss_cons (ps_expr (pe_callD c_check_count (hr.mono (by decide)) rfl (pa_cons (pv 1) pa_nil))) (pss_one (ps_ret (pe_makeD c_Sizes_1 (hr.mono (by decide)) rfl (pa_cons (pe_lock (pe_dc (own := [("kind", 2)]) (g := gName 2) (tt := tYes) (by rfl) sc_Sizes___mul__.nd (pi_keys (pe_fld (pv 0) rfl)) (blkOk_by (own := [("kind", 2)]) (N := N_Sizes___mul__) (sc := defScope st_Sizes___mul__) (by decide +kernel)) (fun _ _ _ _ _ => pg_name (i := 2) sc_Sizes___mul__.nd rfl (by first | exact Or.inl rfl | exact Or.inr rfl)) (fun _ _ _ _ _ => pts_nil) (fun _ _ _ _ _ => (pv 2)) (fun _ _ _ _ _ => (pe_op op_mulW (pe_dget (hug hr) (pe_fldK (K := K) rfl (pv 0) rfl) (pv 2) (fun _ _ => rfl)) (pv 1))))) pa_nil))))), ?_⟩
    refine st_eq (σ := [some _, some _, none]) rfl ?_
    have kS := M.k_Sizes
    have nS := M.n_Sizes__counts
    have na : a ≠ qa := by walk_at "ne"
    walk_at "rd"
    refine ⟨n, rfl, n0, ?_⟩
    walk_at "rd"
    refine lock_dc (d := d) (q := qa) (fun p => p.2 * n) a2 (few1 ga) ga.nd ?_ ?_ ?_
    · intro H' R hh q'
      have ax := (hh _ na).trans a1
      walk_at "rd"
      exact q'
    · intro od D i p H' R F hp nD hDq hq hs hD q'
      have ax := hs _ _ na a1
      have hm := List.mem_of_getElem? hp
      have cm : CMulW p.2 n := (ga.sm p hm).cmul ns
      walk_at "rd"
      refine s_dget (d := d) (.inr ⟨od, hq⟩) (look_mem ga.nd hm) ?_
      walk_at "rd"
      exact q' H' (L2.Same.refl _)
    · intro D H' nD hs hD
      with_reducible refine s_nil ?_
      exact mk_sizes hD g (szk (sa.map _) k hs)
theorem c_Sizes___rmul__ : Mtn P w K mg base C_Sizes "__rmul__" 7 ["self", "times"] [] (spTimes C_Sizes) := by
  have c_Sizes___mul__ := c_Sizes___mul__ (P := P) (w := w) (base := base) M
  refine mtN M.e_Sizes___rmul__ M.k_Sizes (fun F => ?_) (fun _ _ _ _ _ _ us hl => match us, hl with | [_, _], _ => rfl)
  refine fnG_body F sc_Sizes___rmul__ (fun vs H Q E h => ?_) (fun cdv A outer s H vs Q E hr h => ?_)
  · obtain ⟨a, n, d, rfl, _⟩ := h
    rfl
  · obtain ⟨a, n, d, rfl, ha, n0, ns, g, k⟩ := h
    obtain ⟨dx, qa, a1, a2, ga, sa⟩ := id ha
    refine ⟨_, (pss_one (ps_ret (pe_op (op_mulT (hasM M.e_Sizes___rmul__) c_Sizes___mul__ M.sf_Sizes M.im_Sizes M.ir_Sizes M.is_Sizes (hr.mono (by decide))) (pv 0) (pv 1)))), ?_⟩
    refine st_eq (σ := [some _, some _]) rfl ?_
    walk_at "rd"
    refine ⟨a, dx, _, rfl, a1, ⟨n, rfl⟩, ?_⟩
    exact ⟨a, n, d, rfl, ha, n0, ns, g, k⟩
theorem c_Sizes___len__ : Mtn P w K mg base C_Sizes "__len__" 1 ["self"] [] (spLen C_Sizes) := by
  refine mtN M.e_Sizes___len__ M.k_Sizes (fun F => ?_) (fun _ _ _ _ _ _ us hl => match us, hl with | [_], _ => rfl)
  refine fnG_body F sc_Sizes___len__ (fun vs H Q E h => ?_) (fun cdv A outer s H vs Q E hr h => ?_)
  · obtain ⟨a, d, rfl, _⟩ := h
    rfl
  · obtain ⟨a, d, rfl, ⟨dx, qa, a1, a2, ga, sa⟩, k⟩ := h
    refine ⟨_, (pss_one (ps_ret (pe_callB call_lenD (by rfl) M.b_len (by decide +kernel) (pa_cons (pe_fld (pv 0) rfl) pa_nil)))), ?_⟩
    refine st_eq (σ := [some _]) rfl ?_
    have kS := M.k_Sizes
    have nS := M.n_Sizes__counts
    walk_at "rd"
    rw [dk_length]
    exact k
theorem c_Sizes___eq__ : Mtn P w K mg base C_Sizes "__eq__" 1 ["self", "other"] [] (spEq K C_Sizes) := by
  refine mtN M.e_Sizes___eq__ M.k_Sizes (fun F => ?_) (fun _ _ _ _ _ _ us hl => match us, hl with | [_, _], _ => rfl)
  refine fnG_body F sc_Sizes___eq__ (fun vs H Q E h => ?_) (fun cdv A outer s H vs Q E hr h => ?_)
  · obtain ⟨a, v, d, rfl, _⟩ := h
    rfl
  · obtain ⟨a, v, d, rfl, ⟨dx, qa, a1, a2, ga, sa⟩, k⟩ := h
    refine ⟨_, (pss_one (ps_ret (pe_and (pe_callB call_isi (by rfl) M.b_isinstance (by decide +kernel) (pa_cons (pv 1) (pa_cons (pe_glob (v := .ref C_Sizes) rfl M.m_Sizes rfl) pa_nil))) (pe_one (pe_cmpR (op_eqDD (hug hr)) (pe_fld (pv 0) rfl) (pe_fld (pv 1) rfl) (nomark _)))))), ?_⟩
    refine st_eq (σ := [some _, some _]) rfl ?_
    have kS := M.k_Sizes
    have nS := M.n_Sizes__counts
    walk_at "rd"
    rcases k with ⟨b, e, rfl, ⟨dy, qb, b1, b2, gb, sb⟩, k⟩ | ⟨t, ht, hk, k⟩
    · refine s_isi_own (M.z_Sizes b1) ?_
      walk_at "rd"
      exact ⟨qa, qb, d, e, rfl, rfl, a2, b2, k⟩
    · refine ⟨_, _, _, _, false, rfl, .own C_Sizes, ht, hk, ?_⟩
      walk_at "rd"
      exact k
end
end My
end
section

namespace My
open PySem L2 PySem.Spec PyProof.Rows
/-! ### texts of Sizes -/
theorem merge_dk : ∀ (r l : List (Str × Int)), (names (l ++ r)).Nodup → mergeK (dk l) (dk r) = dk (l ++ r)
  | [], l, _ => by
    rw [List.append_nil]
    rfl
  | p :: r, l, h => by
    show mergeK (putK (dk l) (.inr p.1) (.int p.2)) (dk r) = _
    have hn : ∀ q ∈ dk l, q.1 ≠ (.inr p.1 : Key) := by
      intro q hq e
      obtain ⟨z, hz, rfl⟩ := List.mem_map.mp hq
      have e2 : z.1 = p.1 := Sum.inr.inj e
      unfold names at h
      rw [List.map_append, List.nodup_append] at h
      exact h.2.2 z.1 (List.mem_map.mpr ⟨z, hz, rfl⟩) p.1 (List.mem_map.mpr ⟨p, List.mem_cons_self, rfl⟩) e2
    rw [putK_new hn]
    have e : dk l ++ [((Sum.inr p.1 : Key), V.int p.2)] = dk (l ++ [p]) := by
      rw [dk_append]
      rfl
    have e2 : l ++ [p] ++ r = l ++ p :: r := by simp
    rw [e, merge_dk r (l ++ [p]) (by rw [e2]; exact h), e2]
theorem put_dk {d : List (Str × Int)} {k : Str} {n : Int} (h : k ∈ names d) : putK (dk d) (.inr k) (.int n) = dk (setN d k n) := by
  unfold putK
  rw [if_pos]
  · unfold dk setN
    rw [List.map_map, List.map_map]
    refine List.map_congr_left fun p _ => ?_
    show (if (Sum.inr p.1 : Key) = Sum.inr k then ((Sum.inr p.1 : Key), V.int n) else (Sum.inr p.1, V.int p.2)) = (Sum.inr p.1, V.int (if p.1 = k then n else p.2))
    by_cases e : p.1 = k
    · rw [if_pos (congrArg Sum.inr e), if_pos e]
    · rw [if_neg (fun z => e (Sum.inr.inj z)), if_neg e]
  · obtain ⟨p, hp, rfl⟩ := List.mem_map.mp h
    exact List.any_eq_true.mpr ⟨_, List.mem_map.mpr ⟨p, hp, rfl⟩, decide_eq_true rfl⟩
def kv (d : List (Str × Int)) : List (PyData × PyData) := d.map fun p => (.str p.1, .int p.2)
theorem kv_bulk : ∀ {d : List (Str × Int)}, (∀ p ∈ d, nameB p.1 = true) → PyData.bulkKv (kv d) ≤ 10 * d.length
  | [], _ => Nat.le_refl _
  | p :: r, h => by
    have h1 := kv_bulk fun x hx => h x (List.mem_cons_of_mem _ hx)
    have h2 := h p List.mem_cons_self
    unfold nameB at h2
    simp only [Bool.and_eq_true, decide_eq_true_eq] at h2
    have h3 : p.1.length = p.1.cps.size := rfl
    show p.1.cps.size + 0 + 2 + PyData.bulkKv (kv r) ≤ 10 * (r.length + 1)
    omega
theorem kv_show : ∀ {d : List (Str × Int)}, (∀ p ∈ d, Sm 600 p.2) → PyData.showableKv (kv d) = true
  | [], _ => rfl
  | p :: r, h => by
    have h1 := kv_show fun x hx => h x (List.mem_cons_of_mem _ hx)
    have h2 := (h p List.mem_cons_self).log
    show (PyData.showable (.str p.1) && PyData.showable (.int p.2) && PyData.showableKv (kv r)) = true
    rw [h1]
    show (true && decide (p.2.natAbs.log2 < 1920) && true) = true
    rw [decide_eq_true (by omega)]
    rfl
theorem int_len {i : Int} (h : Sm 600 i) : (toString i : String).length ≤ 601 := int_text_length_le (by decide) h.log
theorem kv_short : ∀ {d : List (Str × Int)}, (∀ p ∈ d, nameB p.1 = true) → (∀ p ∈ d, Sm 600 p.2) → PyData.leavesShortKv 700 (kv d) = true
  | [], _, _ => rfl
  | p :: r, h, g => by
    have h1 := kv_short (fun x hx => h x (List.mem_cons_of_mem _ hx)) (fun x hx => g x (List.mem_cons_of_mem _ hx))
    have h2 := name_ok (h p List.mem_cons_self)
    have h3 := int_len (g p List.mem_cons_self)
    unfold kv at h1
    simp only [kv, List.map_cons, PyData.leavesShortKv, h1, Bool.and_true, Bool.and_eq_true]
    refine ⟨?_, ?_⟩
    · unfold PyData.strOk at h2
      simp only [PyData.leavesShort, List.all_eq_true, decide_eq_true_eq]
      intro c hc
      rw [← Array.all_toList, List.all_eq_true] at h2
      have := of_decide_eq_true (h2 c hc)
      have e : (0x110000 : Nat) < 16 ^ 8 := by decide
      exact Nat.lt_trans this e
    · simp only [PyData.leavesShort, decide_eq_true_eq]
      show (Str.ofString (toString p.2)).length ≤ 700
      rw [PyProof.Rows.ofString_len]
      omega
theorem GoodD.shw {d : List (Str × Int)} (g : GoodD d) : (dP d).showable = true := kv_show g.sm
theorem GoodD.len {d : List (Str × Int)} (g : GoodD d) : (dP d).shown.length ≤ 90000 := by
  have h1 := PyData.shown_le_bulk 700 (by decide) (dP d) (kv_short g.nm g.sm)
  have h2 : (dP d).bulk ≤ 10 * d.length := kv_bulk g.nm
  have h3 := g.few
  have h4 : (700 + 2) * (dP d).bulk ≤ 702 * 120 := Nat.mul_le_mul (by decide) (by omega)
  omega
theorem lits : (Str.empty ++ ("Sizes(" : Str)).length = 6 := by decide +kernel
theorem len1 : (")" : Str).length = 1 := by decide +kernel
/-- the texts of d's entries -/
def ents (d : List (Str × Int)) : List Str := d.map fun p => reprText p.1 ++ (": " : Str) ++ (toString p.2 : String)
theorem ents_eq : ∀ d : List (Str × Int), PyData.shownKv (kv d) = ents d
  | [] => rfl
  | p :: r => by
    show (PyData.shown (.str p.1) ++ ": " ++ PyData.shown (.int p.2)) :: PyData.shownKv (kv r) = _
    rw [ents_eq r]
    rfl
theorem text_eq (d : List (Str × Int)) : ("Sizes({" : Str) ++ Txt.join ", " (ents d) ++ "})" = shownD d := by
  unfold shownD
  have e1 : (dP d).shown = ("{" : Str) ++ Str.join ", " (ents d) ++ "}" := by
    show dictText (PyData.shownKv (kv d)) = _
    rw [ents_eq]
    rfl
  have e2 : Txt.join ", " (ents d) = Str.join ", " (ents d) := StrLaws.glued_eq_join _ _
  have e3 : ("Sizes({" : Str) = Str.empty ++ ("Sizes(" : Str) ++ ("{" : Str) := by decide +kernel
  have e4 : ("})" : Str) = ("}" : Str) ++ (")" : Str) := by decide +kernel
  rw [e1, e2, e3, e4]
  simp only [Str.append_assoc]
theorem keyV_dk : ∀ (ks : List Str) (ns : List Int), keyV ks (ns.map V.int) = dk (ks.zip ns)
  | [], _ => rfl
  | _ :: _, [] => rfl
  | k :: ks, n :: ns => by
    show (Sum.inr k, V.int n) :: keyV ks (ns.map V.int) = _
    rw [keyV_dk ks ns]
    rfl
end My
end
section

open My L2 PySem
open My L2 PySem
local macro_rules | `(tactic| walk_at "as") => `(tactic| with_reducible assumption)
local macro_rules | `(tactic| walk_at "hp") => `(tactic| first
  | walk_at "as" | exact upd_same
  | (rw [upd_ne (by walk_at "ne")]; walk_at "hp")
  | (refine But.get (by walk_at "as") ?hp1 ?hp2; (case hp1 => walk_at "hp"); (case hp2 => walk_at "ne"))
  | (refine My.Same.get (by walk_at "as") ?hp1; (case hp1 => walk_at "hp")))
local macro_rules | `(tactic| walk_at "ne") => `(tactic| first
  | walk_at "as" | exact Ne.symm (by walk_at "as")
  | (refine' ne_of_none ?ne1 ?ne2; (case ne2 => walk_at "as"); (case ne1 => walk_at "hp"))
  | (refine' Ne.symm (ne_of_none ?ne1 ?ne2); (case ne2 => walk_at "as"); (case ne1 => walk_at "hp"))
  | exact ne_of (by walk_at "hp") (by walk_at "hp") (by intro z; cases z))
local macro_rules | `(tactic| walk_at "sd") => `(tactic| first
  | walk_at "as" | omega | decide | exact ⟨by omega, by omega⟩ | exact .inl ⟨by omega, by omega⟩ | exact .inr ⟨by omega, by omega⟩ | exact divp_wide (by walk_at "as") (by walk_at "as") | exact Sm.cmul (by walk_at "as") (by walk_at "as") | exact cmul_small (by omega) (by omega) (by omega) (by omega) | exact ⟨by omega, by decide⟩)
local macro_rules | `(tactic| walk_at "bt") => `(tactic| first
  | walk_at "as" | exact But.refl _ _ | exact Same.but (by walk_at "as")
  | (refine But.trans ?bt1 But.at; (case bt1 => walk_at "bt"))
  | (refine But.trans ?bt1 (But.new (by first | walk_at "as" | walk_at "hp")); (case bt1 => walk_at "bt"))
  | (refine But.trans ?bt1 (by walk_at "as"); (case bt1 => walk_at "bt"))
  | (refine But.trans ?bt1 (Same.but (by walk_at "as")); (case bt1 => walk_at "bt")))
local macro_rules | `(tactic| walk_at "sm") => `(tactic| first
  | walk_at "as" | exact My.Same.rfl' _
  | (refine' My.Same.at_ ?sm1 ?sm2; (case sm1 => walk_at "as"); (case sm2 => walk_at "sm"))
  | (refine' My.Same.tr ?sm1 (My.Same.new ?sm2); (case sm2 => walk_at "as"); (case sm1 => walk_at "sm"))
  | (refine' My.Same.tr ?sm1 ?sm2; (case sm2 => walk_at "as"); (case sm1 => walk_at "sm")))
local macro_rules | `(tactic| walk_at "sz") => `(tactic| first
  | assumption | exact lt_size (by rfl) | exact le_size (by rfl) | (rw [sizeLine_eq]; omega)
  | (rw [sizeLine_eq]; simp only [List.length_append, List.length_map, List.length_cons, List.length_nil]; omega))
local macro_rules | `(tactic| walk_at "few") => `(tactic| (repeat refine few_put ?_); exact few0)
local macro_rules | `(tactic| walk_at "rd1") => `(tactic| first
  | (with_reducible show tVar _ _ _ _); refine s_var rfl ?_
  | with_reducible refine s_c ?_ | with_reducible refine s_op ?_ | with_reducible refine s_un ?_
  | with_reducible refine s_cons ?_ | with_reducible refine s_nil ?_ | with_reducible refine s_cb ?_
  | with_reducible refine s_test ?_ | with_reducible refine s_B ?_ | with_reducible refine s_not ?_ | with_reducible refine s_and ?_ | with_reducible refine s_or ?_
  | with_reducible refine s_if ?_ | with_reducible refine s_notV ?_ | with_reducible refine s_andV ?_ | with_reducible refine s_orV ?_
  | with_reducible refine s_orT ?_ | with_reducible refine s_andT ?_ | with_reducible refine s_chain ?_
  | with_reducible refine s_isi_int ?_ | with_reducible refine s_isi_int_bool ?_ | with_reducible refine s_isi_str ?_
  | with_reducible refine iteT ?_ | with_reducible refine iteF ?_ | with_reducible refine iteNT ?_ | with_reducible refine iteNF ?_
  | with_reducible refine s_isN ?_ | with_reducible refine s_notN ?_
  | ((with_reducible refine' s_2setE ?g1 ?_); (case g1 => first | (dsimp only [List.set, L2.wipe, List.map, List.foldl]; done) | (dsimp only [List.set, L2.wipe, List.map, List.foldl]; rfl)))
  | with_reducible refine s_seq ?_ | with_reducible refine s_ifS ?_ | with_reducible refine s_asg ?_ | with_reducible refine s_ret ?_ | with_reducible refine s_drop ?_ | with_reducible refine s_next ?_
  | ((with_reducible refine' s_gnameE ?g1 ?_); (case g1 => first | (dsimp only [List.set, L2.wipe, List.map, List.foldl]; done) | (dsimp only [List.set, L2.wipe, List.map, List.foldl]; rfl)))
  | with_reducible refine s_gsub ?_ | with_reducible refine s_gcons ?_ | with_reducible refine s_gnil ?_
  | (with_reducible show gTup _ _ _ _ _ _ _); refine s_gtup (by walk_at "hp") rfl ?_
  | with_reducible refine s_eqI ?_ | with_reducible refine s_neI ?_ | with_reducible refine s_eqS ?_ | with_reducible refine s_neB ?_ | with_reducible refine s_eqB ?_ | with_reducible refine s_neSr ?_ | with_reducible refine s_neS ?_
  | with_reducible refine s_I0 ?_
  | (with_reducible show rI _ _ _ _ _ _); refine s_I (by walk_at "sd") ?_
  | (with_reducible show rIxL _ _ _ _ _); refine s_ixL (by walk_at "hp") rfl ?_
  | (with_reducible show rIxT _ _ _ _ _); refine s_ixT (by walk_at "hp") rfl ?_
  | (with_reducible show rSetL _ _ _ _ _); refine s_setL (by walk_at "hp") rfl ?_
  | with_reducible refine s_prop ?_
  | (with_reducible show _ ≤ sizeLine ∧ _); refine ⟨le_size (by rfl), ?_⟩
  | with_reducible refine ite_NN ?_ | with_reducible refine ite_IN ?_ | with_reducible refine ite_nNN ?_ | with_reducible refine ite_nIN ?_ | with_reducible refine ite_RN ?_ | with_reducible refine ite_nRN ?_
  | with_reducible refine s_sfld ?_
  | ((with_reducible refine' ⟨_, _, _, _, rfl, ?fp1, ?fp2, ?fp3, ?fp4, ?_⟩); (case fp1 => walk_at "hp"); (case fp2 => assumption); (case fp3 => assumption); (case fp4 => walk_at "few"))
  | with_reducible refine s_fldE ?_
  | ((with_reducible refine' ⟨_, _, _, _, _, rfl, ?fp1, ?fp2, ?fp3, ?fp4, ?_⟩); (case fp1 => walk_at "hp"); (case fp2 => assumption); (case fp3 => assumption); (case fp4 => rfl))
  | with_reducible refine s_bm ?_ | with_reducible refine s_bm0 ?_
  | ((with_reducible refine' s_tyL ?ty1 ?_); (case ty1 => walk_at "hp"))
  | ((with_reducible refine' s_append ?ap1 ?ap2 ?_); (case ap1 => walk_at "hp"); (case ap2 => walk_at "sz"))
  | ((with_reducible refine' s_extend ?ap1 ?ap2 ?ap3 ?_); (case ap1 => walk_at "hp"); (case ap2 => walk_at "hp"); (case ap3 => walk_at "sz"))
  | with_reducible refine s_for (fun _ _ => ?_) | with_reducible refine s_lc ?_ | with_reducible refine s_iList ?_ | with_reducible refine s_iTup ?_ | with_reducible refine s_iRng1 ?_ | with_reducible refine s_iRng2 ?_
  | with_reducible refine s_yes ?_ | with_reducible refine s_par ?_
  | with_reducible refine s_make ?_ | with_reducible refine s_meth ?_
  | with_reducible refine s_tup ?_ | with_reducible refine s_lst ?_ | with_reducible refine s_call ?_
  | with_reducible refine ⟨rfl, ?_⟩
  | with_reducible refine ⟨_, rfl, ?_⟩
  | ((with_reducible refine' ⟨_, _, rfl, ?sd1, ?_⟩); (case sd1 => walk_at "sd"))
  | with_reducible refine ⟨_, _, rfl, ?_⟩
  | with_reducible refine .inl ⟨_, rfl, ?_⟩
  | dsimp only [List.set]
  | walk_at "rdx"
  | (refine fun _ _ => ?_))
local macro_rules | `(tactic| walk_at "rd") => `(tactic| repeat (first
  | (with_reducible show tVar _ _ _ _); refine s_var rfl ?_
  | with_reducible refine s_c ?_ | with_reducible refine s_op ?_ | with_reducible refine s_un ?_
  | with_reducible refine s_cons ?_ | with_reducible refine s_nil ?_ | with_reducible refine s_cb ?_
  | with_reducible refine s_test ?_ | with_reducible refine s_B ?_ | with_reducible refine s_not ?_ | with_reducible refine s_and ?_ | with_reducible refine s_or ?_
  | with_reducible refine s_if ?_ | with_reducible refine s_notV ?_ | with_reducible refine s_andV ?_ | with_reducible refine s_orV ?_
  | with_reducible refine s_orT ?_ | with_reducible refine s_andT ?_ | with_reducible refine s_chain ?_
  | with_reducible refine s_isi_int ?_ | with_reducible refine s_isi_int_bool ?_ | with_reducible refine s_isi_str ?_
  | with_reducible refine iteT ?_ | with_reducible refine iteF ?_ | with_reducible refine iteNT ?_ | with_reducible refine iteNF ?_
  | with_reducible refine s_isN ?_ | with_reducible refine s_notN ?_
  | ((with_reducible refine' s_2setE ?g1 ?_); (case g1 => first | (dsimp only [List.set, L2.wipe, List.map, List.foldl]; done) | (dsimp only [List.set, L2.wipe, List.map, List.foldl]; rfl)))
  | with_reducible refine s_seq ?_ | with_reducible refine s_ifS ?_ | with_reducible refine s_asg ?_ | with_reducible refine s_ret ?_ | with_reducible refine s_drop ?_ | with_reducible refine s_next ?_
  | ((with_reducible refine' s_gnameE ?g1 ?_); (case g1 => first | (dsimp only [List.set, L2.wipe, List.map, List.foldl]; done) | (dsimp only [List.set, L2.wipe, List.map, List.foldl]; rfl)))
  | with_reducible refine s_gsub ?_ | with_reducible refine s_gcons ?_ | with_reducible refine s_gnil ?_
  | (with_reducible show gTup _ _ _ _ _ _ _); refine s_gtup (by walk_at "hp") rfl ?_
  | with_reducible refine s_eqI ?_ | with_reducible refine s_neI ?_ | with_reducible refine s_eqS ?_ | with_reducible refine s_neB ?_ | with_reducible refine s_eqB ?_ | with_reducible refine s_neSr ?_ | with_reducible refine s_neS ?_
  | with_reducible refine s_I0 ?_
  | (with_reducible show rI _ _ _ _ _ _); refine s_I (by walk_at "sd") ?_
  | (with_reducible show rIxL _ _ _ _ _); refine s_ixL (by walk_at "hp") rfl ?_
  | (with_reducible show rIxT _ _ _ _ _); refine s_ixT (by walk_at "hp") rfl ?_
  | (with_reducible show rSetL _ _ _ _ _); refine s_setL (by walk_at "hp") rfl ?_
  | with_reducible refine s_prop ?_
  | (with_reducible show _ ≤ sizeLine ∧ _); refine ⟨le_size (by rfl), ?_⟩
  | with_reducible refine ite_NN ?_ | with_reducible refine ite_IN ?_ | with_reducible refine ite_nNN ?_ | with_reducible refine ite_nIN ?_ | with_reducible refine ite_RN ?_ | with_reducible refine ite_nRN ?_
  | with_reducible refine s_sfld ?_
  | ((with_reducible refine' ⟨_, _, _, _, rfl, ?fp1, ?fp2, ?fp3, ?fp4, ?_⟩); (case fp1 => walk_at "hp"); (case fp2 => assumption); (case fp3 => assumption); (case fp4 => walk_at "few"))
  | with_reducible refine s_fldE ?_
  | ((with_reducible refine' ⟨_, _, _, _, _, rfl, ?fp1, ?fp2, ?fp3, ?fp4, ?_⟩); (case fp1 => walk_at "hp"); (case fp2 => assumption); (case fp3 => assumption); (case fp4 => rfl))
  | with_reducible refine s_bm ?_ | with_reducible refine s_bm0 ?_
  | ((with_reducible refine' s_tyL ?ty1 ?_); (case ty1 => walk_at "hp"))
  | ((with_reducible refine' s_append ?ap1 ?ap2 ?_); (case ap1 => walk_at "hp"); (case ap2 => walk_at "sz"))
  | ((with_reducible refine' s_extend ?ap1 ?ap2 ?ap3 ?_); (case ap1 => walk_at "hp"); (case ap2 => walk_at "hp"); (case ap3 => walk_at "sz"))
  | with_reducible refine s_for (fun _ _ => ?_) | with_reducible refine s_lc ?_ | with_reducible refine s_iList ?_ | with_reducible refine s_iTup ?_ | with_reducible refine s_iRng1 ?_ | with_reducible refine s_iRng2 ?_
  | with_reducible refine s_yes ?_ | with_reducible refine s_par ?_
  | with_reducible refine s_make ?_ | with_reducible refine s_meth ?_
  | with_reducible refine s_tup ?_ | with_reducible refine s_lst ?_ | with_reducible refine s_call ?_
  | with_reducible refine ⟨rfl, ?_⟩
  | with_reducible refine ⟨_, rfl, ?_⟩
  | ((with_reducible refine' ⟨_, _, rfl, ?sd1, ?_⟩); (case sd1 => walk_at "sd"))
  | with_reducible refine ⟨_, _, rfl, ?_⟩
  | with_reducible refine .inl ⟨_, rfl, ?_⟩
  | dsimp only [List.set]
  | walk_at "rdx"
  | (refine fun _ _ => ?_)))

namespace My
open PySem L2
section
variable {P : Program} {w : World} {K : PySem.W.Frag} {mg : Str → Option Value} {base : Heap} {C_Sizes : Addr} (M : Md K mg C_Sizes)
include M
local macro_rules | `(tactic| walk_at "rdx") => `(tactic| first
  | with_reducible refine s_tdget ?_ | with_reducible refine s_tdin ?_
  | ((with_reducible refine' s_mcall ?mc1 ?mc2 ?_); (case mc1 => walk_at "hp"); (case mc2 => rfl)))
omit M in
theorem kvs_of (d : List (Str × Int)) : dP d = .dict (kv d) := rfl
theorem c_Sizes___repr__ : Mtn P w K mg base C_Sizes "__repr__" 1 ["self"] [] (spRepr C_Sizes) := by
  refine mtN M.e_Sizes___repr__ M.k_Sizes (fun F => ?_) (fun _ _ _ _ _ _ us hl => match us, hl with | [_], _ => rfl)
  refine fnG_body F sc_Sizes___repr__ (fun vs H Q E h => ?_) (fun cdv A outer s H vs Q E hr h => ?_)
  · obtain ⟨a, d, rfl, _⟩ := h
    rfl
  · obtain ⟨a, d, rfl, ⟨dx, qa, a1, a2, ga, sa⟩, k⟩ := h
    refine ⟨_, (pss_one (ps_ret (pe_joined (.cons pe_str (.cons (pe_fmtRD hr (pe_fld (pv 0) rfl)) (.cons pe_str .nil)))))), ?_⟩
    refine st_eq (σ := [some _]) rfl ?_
    have kS := M.k_Sizes
    have nS := M.n_Sizes__counts
    have gl := ga.len
    with_reducible refine s_ret ?_
    refine ⟨_, rfl, by rw [lits, sizeLine_eq]; decide, ?_⟩
    dsimp only [L2.tJs, My.tFmtRD]
    with_reducible refine s_fldE ?_
    with_reducible refine s_var rfl ?_
    refine ⟨a, C_Sizes, dx, _, _, rfl, a1, kS, nS, rfl, qa, d, rfl, a2, ga.shw, by rw [sizeLine_eq]; omega, ?_⟩
    have e1 : ((Str.empty ++ ("Sizes(" : Str)) ++ (dP d).shown).length = 6 + (dP d).shown.length := by rw [strLen_append, lits]
    refine ⟨_, rfl, by rw [e1, sizeLine_eq]; omega, ?_⟩
    refine ⟨_, rfl, ?_, k⟩
    rw [strLen_append, e1, len1, sizeLine_eq]
    omega
theorem ok_with_count {f : Addr} {fd : FuncData} (F : FunD K "with_count" "Sizes.with_count" (defArgs st_Sizes_with_count) (defBody st_Sizes_with_count) (defScope st_Sizes_with_count) [] [] f fd) : FnG P w K mg base CX0 6 f fd ["self", "kind", "count"] (spWith C_Sizes) := by
  have c_check_kind := c_check_kind (P := P) (w := w) (base := base) M
  have c_check_count := c_check_count (P := P) (w := w) (base := base) M
  have c_Sizes_1 := c_Sizes_1 (P := P) (w := w) (base := base) M
  refine fnG_body F sc_Sizes_with_count (fun vs H Q E h => ?_) (fun cdv A outer s H vs Q E hr h => ?_)
  · obtain ⟨a, x, n, d, rfl, _⟩ := h
    rfl
  · obtain ⟨a, x, n, d, rfl, ha, hx, n0, g, k⟩ := h
    obtain ⟨dx, qa, a1, a2, ga, sa⟩ := id ha
    refine ⟨_, (pss_cons (ps_expr (pe_callD c_check_kind (hr.mono (by decide)) rfl (pa_cons (pv 0) (pa_cons (pv 1) pa_nil)))) (pss_cons (ps_expr (pe_callD c_check_count (hr.mono (by decide)) rfl (pa_cons (pv 2) pa_nil))) (pss_one (ps_ret (pe_makeD c_Sizes_1 (hr.mono (by decide)) rfl (pa_cons (pe_splat (pe_fld (pv 0) rfl) (pv 1) (pv 2)) pa_nil)))))), ?_⟩
    refine st_eq (σ := [some _, some _, some _]) rfl ?_
    have kS := M.k_Sizes
    have nS := M.n_Sizes__counts
    walk_at "rd"
    refine ⟨a, x, d, rfl, ha, hx, fun H1 s1 => ?_⟩
    walk_at "rd"
    refine ⟨n, rfl, n0, ?_⟩
    have a11 := s1 _ _ a1
    have a21 := s1 _ _ a2
    with_reducible refine s_ret ?_
    with_reducible refine s_make ?_
    with_reducible refine s_cons ?_
    refine fun p np => ?_
    have hp : qa ≠ p := ne_of_none a21 np
    have e1 : mergeK [] (dk d) = dk d := merge_dk d [] ga.nd
    with_reducible refine s_fldE ?_
    with_reducible refine s_var rfl ?_
    refine ⟨a, C_Sizes, dx, _, _, rfl, by walk_at "hp", kS, nS, rfl, qa, dk d, rfl, hp, upd_same, .inl (by walk_at "hp"), fun q nqp nq => ?_⟩
    have nq1 : H1 q = none := by
      rw [upd_ne nqp, upd_ne nqp] at nq
      exact nq
    rw [e1]
    walk_at "rd"
    refine ⟨.inr x, dk d, rfl, upd_same, (upd_ne nqp.symm).trans upd_same, ?_, ?_⟩
    · have := ga.few
      rw [dk_length, sizeLine_eq]
      omega
    have e2 : mergeK (dk d) [(Sum.inr x, V.int n)] = dk (setN d x n) := put_dk hx
    rw [e2]
    with_reducible refine s_nil ?_
    refine mk_sizes upd_same g (szk (sa.map _) k (My.Same.tr s1 fun c u e => ?_))
    have n1 := ne_of_none e np
    have n2 := ne_of_none e nq1
    rw [upd_ne n1, upd_ne n2, upd_ne n2, upd_ne n1, upd_ne n1]
    exact e
theorem c_Sizes_with_count : Mtn P w K mg base C_Sizes "with_count" 6 ["self", "kind", "count"] [] (spWith C_Sizes) := mtN M.e_Sizes_with_count M.k_Sizes (fun F => ok_with_count M F) (fun _ _ _ _ _ _ us hl => match us, hl with | [_, _, _], _ => rfl)
theorem k_Sizes_with_count : Mtk P w K mg base C_Sizes "with_count" 6 1 ["count", "kind"] (fun vs zs => vs ++ zs.reverse) (spWith C_Sizes) := by
  obtain ⟨f, fd, hm, F⟩ := M.e_Sizes_with_count
  exact ⟨f, fd, _, _, M.k_Sizes, hm, ok_with_count M F, kbn0 F 1 ["count", "kind"] (fun vs zs => vs ++ zs.reverse) (fun r1 r2 => r1.append (vals_rev r2)) fun _ _ _ _ _ _ us ws l1 l2 => match us, ws, l1, l2 with | [_], [_, _], _, _ => rfl⟩
omit M in
theorem s_strk {K : PySem.W.Frag} {H : Hp} {Q : VK} {w : Str} (n : nameB w = true) (q : Q (.str (reprText w)) H) : ∃ y d, [V.str w] = [y] ∧ Dp K H y d ∧ SeqAt.shaped d = true ∧ d.showable = true ∧ d.hasDict = false ∧ d.shown.length ≤ sizeLine ∧ Q (.str d.shown) H := by
  refine ⟨_, .str w, rfl, .str w, ?_, rfl, rfl, ?_, q⟩
  · unfold SeqAt.shaped
    rw [show (PyData.str w).canLay0 = PyData.strOk w from rfl, name_ok n]
    rfl
  · have h1 := PyData.shown_le_bulk 700 (by decide) (.str w) (by
      have h2 := name_ok n
      unfold PyData.strOk at h2
      simp only [PyData.leavesShort, List.all_eq_true, decide_eq_true_eq]
      intro c hc
      rw [← Array.all_toList, List.all_eq_true] at h2
      have := of_decide_eq_true (h2 c hc)
      have e : (0x110000 : Nat) < 16 ^ 8 := by decide
      exact Nat.lt_trans this e)
    unfold nameB at n
    simp only [Bool.and_eq_true, decide_eq_true_eq] at n
    have h3 : w.length = w.cps.size := rfl
    have h4 : (PyData.str w).bulk = w.cps.size := rfl
    have h5 : (700 + 2) * (PyData.str w).bulk ≤ 702 * 8 := Nat.mul_le_mul (by decide) (by omega)
    rw [sizeLine_eq]
    omega
omit M
def spOf (C : Addr) (ks : List Str) : SpK := fun zs H Q => ∃ ns : List Int, zs = ns.map V.int ∧ GoodD (ks.zip ns) ∧ ∀ x e H', L2.Same H H' → SzAt C H' x e → e.Perm (ks.zip ns) → Q (.ref x) H'
include M
theorem c_Sizes_of {ks : List Str} (nd : ks.Nodup) (l : ks.length ≤ 1000) : StaK P w K mg base "Sizes" C_Sizes "of" 5 ks (spOf C_Sizes ks) := by
  have c_Sizes_1 := c_Sizes_1 (P := P) (w := w) (base := base) M
  obtain ⟨f, fd, hS, F⟩ := M.t_Sizes_of
  refine ⟨f, fd, _, _, _, _, M.m_Sizes, hS, F, sc_Sizes_of, rfl, nd, l, fun cdv A outer s1 H zs Q d hl nD h hr => ?_⟩
  obtain ⟨ns, rfl, g, k⟩ := h
  refine ⟨_, (pss_one (ps_ret (pe_makeD c_Sizes_1 (hr.mono (by decide)) rfl (pa_cons (pv 0) pa_nil)))), ?_⟩
  refine st_eq (σ := [some _]) rfl ?_
  rw [keyV_dk]
  walk_at "rd1"
  walk_at "rd1"
  walk_at "rd1"
  walk_at "rd1"
  walk_at "rd1"
  exact mk_sizes upd_same g fun x e H' s z p => k x e H' (My.Same.tr (My.Same.new nD) s) z p
end
end My
end
section

open My L2 PySem
open My L2 PySem
local macro_rules | `(tactic| walk_at "as") => `(tactic| with_reducible assumption)
local macro_rules | `(tactic| walk_at "hp") => `(tactic| first
  | walk_at "as" | exact upd_same
  | (rw [upd_ne (by walk_at "ne")]; walk_at "hp")
  | (refine But.get (by walk_at "as") ?hp1 ?hp2; (case hp1 => walk_at "hp"); (case hp2 => walk_at "ne"))
  | (refine My.Same.get (by walk_at "as") ?hp1; (case hp1 => walk_at "hp")))
local macro_rules | `(tactic| walk_at "ne") => `(tactic| first
  | walk_at "as" | exact Ne.symm (by walk_at "as")
  | (refine' ne_of_none ?ne1 ?ne2; (case ne2 => walk_at "as"); (case ne1 => walk_at "hp"))
  | (refine' Ne.symm (ne_of_none ?ne1 ?ne2); (case ne2 => walk_at "as"); (case ne1 => walk_at "hp"))
  | exact ne_of (by walk_at "hp") (by walk_at "hp") (by intro z; cases z))
local macro_rules | `(tactic| walk_at "sd") => `(tactic| first
  | walk_at "as" | omega | decide | exact ⟨by omega, by omega⟩ | exact .inl ⟨by omega, by omega⟩ | exact .inr ⟨by omega, by omega⟩ | exact divp_wide (by walk_at "as") (by walk_at "as") | exact Sm.cmul (by walk_at "as") (by walk_at "as") | exact cmul_small (by omega) (by omega) (by omega) (by omega) | exact ⟨by omega, by decide⟩)
local macro_rules | `(tactic| walk_at "bt") => `(tactic| first
  | walk_at "as" | exact But.refl _ _ | exact Same.but (by walk_at "as")
  | (refine But.trans ?bt1 But.at; (case bt1 => walk_at "bt"))
  | (refine But.trans ?bt1 (But.new (by first | walk_at "as" | walk_at "hp")); (case bt1 => walk_at "bt"))
  | (refine But.trans ?bt1 (by walk_at "as"); (case bt1 => walk_at "bt"))
  | (refine But.trans ?bt1 (Same.but (by walk_at "as")); (case bt1 => walk_at "bt")))
local macro_rules | `(tactic| walk_at "sm") => `(tactic| first
  | walk_at "as" | exact My.Same.rfl' _
  | (refine' My.Same.at_ ?sm1 ?sm2; (case sm1 => walk_at "as"); (case sm2 => walk_at "sm"))
  | (refine' My.Same.tr ?sm1 (My.Same.new ?sm2); (case sm2 => walk_at "as"); (case sm1 => walk_at "sm"))
  | (refine' My.Same.tr ?sm1 ?sm2; (case sm2 => walk_at "as"); (case sm1 => walk_at "sm")))
local macro_rules | `(tactic| walk_at "sz") => `(tactic| first
  | assumption | exact lt_size (by rfl) | exact le_size (by rfl) | (rw [sizeLine_eq]; omega)
  | (rw [sizeLine_eq]; simp only [List.length_append, List.length_map, List.length_cons, List.length_nil]; omega))
local macro_rules | `(tactic| walk_at "few") => `(tactic| (repeat refine few_put ?_); exact few0)
local macro_rules | `(tactic| walk_at "rd1") => `(tactic| first
  | (with_reducible show tVar _ _ _ _); refine s_var rfl ?_
  | with_reducible refine s_c ?_ | with_reducible refine s_op ?_ | with_reducible refine s_un ?_
  | with_reducible refine s_cons ?_ | with_reducible refine s_nil ?_ | with_reducible refine s_cb ?_
  | with_reducible refine s_test ?_ | with_reducible refine s_B ?_ | with_reducible refine s_not ?_ | with_reducible refine s_and ?_ | with_reducible refine s_or ?_
  | with_reducible refine s_if ?_ | with_reducible refine s_notV ?_ | with_reducible refine s_andV ?_ | with_reducible refine s_orV ?_
  | with_reducible refine s_orT ?_ | with_reducible refine s_andT ?_ | with_reducible refine s_chain ?_
  | with_reducible refine s_isi_int ?_ | with_reducible refine s_isi_int_bool ?_ | with_reducible refine s_isi_str ?_
  | with_reducible refine iteT ?_ | with_reducible refine iteF ?_ | with_reducible refine iteNT ?_ | with_reducible refine iteNF ?_
  | with_reducible refine s_isN ?_ | with_reducible refine s_notN ?_
  | ((with_reducible refine' s_2setE ?g1 ?_); (case g1 => first | (dsimp only [List.set, L2.wipe, List.map, List.foldl]; done) | (dsimp only [List.set, L2.wipe, List.map, List.foldl]; rfl)))
  | with_reducible refine s_seq ?_ | with_reducible refine s_ifS ?_ | with_reducible refine s_asg ?_ | with_reducible refine s_ret ?_ | with_reducible refine s_drop ?_ | with_reducible refine s_next ?_
  | ((with_reducible refine' s_gnameE ?g1 ?_); (case g1 => first | (dsimp only [List.set, L2.wipe, List.map, List.foldl]; done) | (dsimp only [List.set, L2.wipe, List.map, List.foldl]; rfl)))
  | with_reducible refine s_gsub ?_ | with_reducible refine s_gcons ?_ | with_reducible refine s_gnil ?_
  | (with_reducible show gTup _ _ _ _ _ _ _); refine s_gtup (by walk_at "hp") rfl ?_
  | with_reducible refine s_eqI ?_ | with_reducible refine s_neI ?_ | with_reducible refine s_eqS ?_ | with_reducible refine s_neB ?_ | with_reducible refine s_eqB ?_ | with_reducible refine s_neSr ?_ | with_reducible refine s_neS ?_
  | with_reducible refine s_I0 ?_
  | (with_reducible show rI _ _ _ _ _ _); refine s_I (by walk_at "sd") ?_
  | (with_reducible show rIxL _ _ _ _ _); refine s_ixL (by walk_at "hp") rfl ?_
  | (with_reducible show rIxT _ _ _ _ _); refine s_ixT (by walk_at "hp") rfl ?_
  | (with_reducible show rSetL _ _ _ _ _); refine s_setL (by walk_at "hp") rfl ?_
  | with_reducible refine s_prop ?_
  | (with_reducible show _ ≤ sizeLine ∧ _); refine ⟨le_size (by rfl), ?_⟩
  | with_reducible refine ite_NN ?_ | with_reducible refine ite_IN ?_ | with_reducible refine ite_nNN ?_ | with_reducible refine ite_nIN ?_ | with_reducible refine ite_RN ?_ | with_reducible refine ite_nRN ?_
  | with_reducible refine s_sfld ?_
  | ((with_reducible refine' ⟨_, _, _, _, rfl, ?fp1, ?fp2, ?fp3, ?fp4, ?_⟩); (case fp1 => walk_at "hp"); (case fp2 => assumption); (case fp3 => assumption); (case fp4 => walk_at "few"))
  | with_reducible refine s_fldE ?_
  | ((with_reducible refine' ⟨_, _, _, _, _, rfl, ?fp1, ?fp2, ?fp3, ?fp4, ?_⟩); (case fp1 => walk_at "hp"); (case fp2 => assumption); (case fp3 => assumption); (case fp4 => rfl))
  | with_reducible refine s_bm ?_ | with_reducible refine s_bm0 ?_
  | ((with_reducible refine' s_tyL ?ty1 ?_); (case ty1 => walk_at "hp"))
  | ((with_reducible refine' s_append ?ap1 ?ap2 ?_); (case ap1 => walk_at "hp"); (case ap2 => walk_at "sz"))
  | ((with_reducible refine' s_extend ?ap1 ?ap2 ?ap3 ?_); (case ap1 => walk_at "hp"); (case ap2 => walk_at "hp"); (case ap3 => walk_at "sz"))
  | with_reducible refine s_for (fun _ _ => ?_) | with_reducible refine s_lc ?_ | with_reducible refine s_iList ?_ | with_reducible refine s_iTup ?_ | with_reducible refine s_iRng1 ?_ | with_reducible refine s_iRng2 ?_
  | with_reducible refine s_yes ?_ | with_reducible refine s_par ?_
  | with_reducible refine s_make ?_ | with_reducible refine s_meth ?_
  | with_reducible refine s_tup ?_ | with_reducible refine s_lst ?_ | with_reducible refine s_call ?_
  | with_reducible refine ⟨rfl, ?_⟩
  | with_reducible refine ⟨_, rfl, ?_⟩
  | ((with_reducible refine' ⟨_, _, rfl, ?sd1, ?_⟩); (case sd1 => walk_at "sd"))
  | with_reducible refine ⟨_, _, rfl, ?_⟩
  | with_reducible refine .inl ⟨_, rfl, ?_⟩
  | dsimp only [List.set]
  | walk_at "rdx"
  | (refine fun _ _ => ?_))
local macro_rules | `(tactic| walk_at "rd") => `(tactic| repeat (first
  | (with_reducible show tVar _ _ _ _); refine s_var rfl ?_
  | with_reducible refine s_c ?_ | with_reducible refine s_op ?_ | with_reducible refine s_un ?_
  | with_reducible refine s_cons ?_ | with_reducible refine s_nil ?_ | with_reducible refine s_cb ?_
  | with_reducible refine s_test ?_ | with_reducible refine s_B ?_ | with_reducible refine s_not ?_ | with_reducible refine s_and ?_ | with_reducible refine s_or ?_
  | with_reducible refine s_if ?_ | with_reducible refine s_notV ?_ | with_reducible refine s_andV ?_ | with_reducible refine s_orV ?_
  | with_reducible refine s_orT ?_ | with_reducible refine s_andT ?_ | with_reducible refine s_chain ?_
  | with_reducible refine s_isi_int ?_ | with_reducible refine s_isi_int_bool ?_ | with_reducible refine s_isi_str ?_
  | with_reducible refine iteT ?_ | with_reducible refine iteF ?_ | with_reducible refine iteNT ?_ | with_reducible refine iteNF ?_
  | with_reducible refine s_isN ?_ | with_reducible refine s_notN ?_
  | ((with_reducible refine' s_2setE ?g1 ?_); (case g1 => first | (dsimp only [List.set, L2.wipe, List.map, List.foldl]; done) | (dsimp only [List.set, L2.wipe, List.map, List.foldl]; rfl)))
  | with_reducible refine s_seq ?_ | with_reducible refine s_ifS ?_ | with_reducible refine s_asg ?_ | with_reducible refine s_ret ?_ | with_reducible refine s_drop ?_ | with_reducible refine s_next ?_
  | ((with_reducible refine' s_gnameE ?g1 ?_); (case g1 => first | (dsimp only [List.set, L2.wipe, List.map, List.foldl]; done) | (dsimp only [List.set, L2.wipe, List.map, List.foldl]; rfl)))
  | with_reducible refine s_gsub ?_ | with_reducible refine s_gcons ?_ | with_reducible refine s_gnil ?_
  | (with_reducible show gTup _ _ _ _ _ _ _); refine s_gtup (by walk_at "hp") rfl ?_
  | with_reducible refine s_eqI ?_ | with_reducible refine s_neI ?_ | with_reducible refine s_eqS ?_ | with_reducible refine s_neB ?_ | with_reducible refine s_eqB ?_ | with_reducible refine s_neSr ?_ | with_reducible refine s_neS ?_
  | with_reducible refine s_I0 ?_
  | (with_reducible show rI _ _ _ _ _ _); refine s_I (by walk_at "sd") ?_
  | (with_reducible show rIxL _ _ _ _ _); refine s_ixL (by walk_at "hp") rfl ?_
  | (with_reducible show rIxT _ _ _ _ _); refine s_ixT (by walk_at "hp") rfl ?_
  | (with_reducible show rSetL _ _ _ _ _); refine s_setL (by walk_at "hp") rfl ?_
  | with_reducible refine s_prop ?_
  | (with_reducible show _ ≤ sizeLine ∧ _); refine ⟨le_size (by rfl), ?_⟩
  | with_reducible refine ite_NN ?_ | with_reducible refine ite_IN ?_ | with_reducible refine ite_nNN ?_ | with_reducible refine ite_nIN ?_ | with_reducible refine ite_RN ?_ | with_reducible refine ite_nRN ?_
  | with_reducible refine s_sfld ?_
  | ((with_reducible refine' ⟨_, _, _, _, rfl, ?fp1, ?fp2, ?fp3, ?fp4, ?_⟩); (case fp1 => walk_at "hp"); (case fp2 => assumption); (case fp3 => assumption); (case fp4 => walk_at "few"))
  | with_reducible refine s_fldE ?_
  | ((with_reducible refine' ⟨_, _, _, _, _, rfl, ?fp1, ?fp2, ?fp3, ?fp4, ?_⟩); (case fp1 => walk_at "hp"); (case fp2 => assumption); (case fp3 => assumption); (case fp4 => rfl))
  | with_reducible refine s_bm ?_ | with_reducible refine s_bm0 ?_
  | ((with_reducible refine' s_tyL ?ty1 ?_); (case ty1 => walk_at "hp"))
  | ((with_reducible refine' s_append ?ap1 ?ap2 ?_); (case ap1 => walk_at "hp"); (case ap2 => walk_at "sz"))
  | ((with_reducible refine' s_extend ?ap1 ?ap2 ?ap3 ?_); (case ap1 => walk_at "hp"); (case ap2 => walk_at "hp"); (case ap3 => walk_at "sz"))
  | with_reducible refine s_for (fun _ _ => ?_) | with_reducible refine s_lc ?_ | with_reducible refine s_iList ?_ | with_reducible refine s_iTup ?_ | with_reducible refine s_iRng1 ?_ | with_reducible refine s_iRng2 ?_
  | with_reducible refine s_yes ?_ | with_reducible refine s_par ?_
  | with_reducible refine s_make ?_ | with_reducible refine s_meth ?_
  | with_reducible refine s_tup ?_ | with_reducible refine s_lst ?_ | with_reducible refine s_call ?_
  | with_reducible refine ⟨rfl, ?_⟩
  | with_reducible refine ⟨_, rfl, ?_⟩
  | ((with_reducible refine' ⟨_, _, rfl, ?sd1, ?_⟩); (case sd1 => walk_at "sd"))
  | with_reducible refine ⟨_, _, rfl, ?_⟩
  | with_reducible refine .inl ⟨_, rfl, ?_⟩
  | dsimp only [List.set]
  | walk_at "rdx"
  | (refine fun _ _ => ?_)))

namespace My
open PySem L2
section
variable {P : Program} {w : World} {K : PySem.W.Frag} {mg : Str → Option Value} {base : Heap} {C_Sizes : Addr} (M : Md K mg C_Sizes)
include M
omit M
/-! ### draws -/
def Pot (H : Hp) (r : Addr) : Prop := ∃ p q : Int, H r = some (.lst [.int p, .int q]) ∧ 0 ≤ p ∧ 0 ≤ q ∧ q < 2147483648
theorem Pot.up {H : Hp} {r p : Addr} {o : HO} (h : Pot H r) (n : H p = none) : Pot (L2.upd H p o) r := by
  obtain ⟨x, y, e, h⟩ := h
  exact ⟨x, y, by rw [upd_ne (ne_of_none e n)]; exact e, h⟩
theorem Pot.ne {H : Hp} {r p : Addr} (h : Pot H r) (n : H p = none) : p ≠ r := by
  obtain ⟨x, y, e, h⟩ := h
  exact (ne_of_none e n).symm
theorem Pot.upn {H : Hp} {r p : Addr} {o : HO} (h : Pot H r) (n : p ≠ r) : Pot (L2.upd H p o) r := by
  obtain ⟨x, y, e, h⟩ := h
  exact ⟨x, y, by rw [upd_ne n.symm]; exact e, h⟩
theorem Pot.same {H H' : Hp} {r : Addr} (h : Pot H r) (s : L2.Same H H') : Pot H' r := by
  obtain ⟨x, y, e, h⟩ := h
  exact ⟨x, y, s _ _ e, h⟩
theorem But.upf {r a : Addr} {o : HO} {H H' : Hp} (b : But r H H') (n : H a = none) : But r H (L2.upd H' a o) := fun c u e n' => by
  rw [upd_ne (ne_of_none e n)]
  exact b c u e n'
theorem But.free {r a : Addr} {H H' : Hp} (b : But r H H') (h : H' a = none) (n : a ≠ r) : H a = none := by
  cases e : H a with
  | none => rfl
  | some o =>
    have := b a o e n
    rw [h] at this
    cases this
theorem Same.butr {r : Addr} {H H1 H2 : Hp} (b : But r H H1) (s : L2.Same H1 H2) : But r H H2 := fun c o e n => s c o (b c o e n)
theorem erase_perm {us : List V} {j : Nat} (hj : j < us.length) : (us.eraseIdx j ++ [us[j]]).Perm us := by
  have e : us.take j ++ us[j] :: us.drop (j + 1) = us := by
    rw [List.getElem_cons_drop, List.take_append_drop]
  have p : (us.take j ++ us[j] :: us.drop (j + 1)).Perm (us[j] :: (us.take j ++ us.drop (j + 1))) := List.perm_middle
  rw [e] at p
  rw [List.eraseIdx_eq_take_drop_succ]
  exact List.perm_append_comm.trans p.symm
def spPotOf (K : PySem.W.Frag) : Sp := fun vs H Q _ => ∃ (a : Addr) (ns : List Int) (k : Int), vs = [.ref a, .int k] ∧ SqL K H a (ns.map V.int) ∧ 0 ≤ k ∧ k < 1000 ∧ ∀ r H', L2.Same H H' → H r = none → Pot H' r → Q (.ref r) H'
def spDraw : Sp := fun vs H Q _ => ∃ (r : Addr) (n : Int), vs = [.ref r, .int n] ∧ Pot H r ∧ 0 < n ∧ n.natAbs.log2 < 9000 ∧ ∀ d H', But r H H' → Pot H' r → 0 ≤ d → d < n → Q (.int d) H'
def spPick : Sp := fun vs H Q _ => ∃ (r l : Addr) (xs : List V), vs = [.ref r, .ref l] ∧ H l = some (.lst xs) ∧ l ≠ r ∧ 0 < xs.length ∧ xs.length < 100000 ∧ Pot H r ∧ ∀ v H', v ∈ xs → But r H H' → Pot H' r → Q v H'
def spMixed : Sp := fun vs H Q _ => ∃ (r l : Addr) (xs : List V), vs = [.ref r, .ref l] ∧ H l = some (.lst xs) ∧ l ≠ r ∧ xs.length ≤ 1000 ∧ Pot H r ∧ ∀ p ys H', ys.Perm xs → H' p = some (.lst ys) → H p = none → But r H H' → Pot H' r → Q (.ref p) H'
def spFar : Sp := fun vs H Q _ => ∃ r : Addr, vs = [.ref r] ∧ Pot H r ∧ ∀ n H', 0 ≤ n → Sm 200 n → But r H H' → Pot H' r → Q (.int n) H'
include M
theorem c__law_pot : Dn P w K mg base "_law_pot" 1 ["_law_script", "_law_k"] [] (spPotOf K) := by
  refine dnN M.f__law_pot (fun F => ?_) (fun _ _ _ _ _ _ us hl => match us, hl with | [_, _], _ => rfl)
  refine fnG_body F sc__law_pot (fun vs H Q E h => ?_) (fun cdv A outer s H vs Q E hr h => ?_)
  · obtain ⟨a, ns, k, rfl, _⟩ := h
    rfl
  · obtain ⟨a, ns, k, rfl, hS, h0, h1, q⟩ := h
    refine ⟨_, (pss_cons (ps_set (i := 2) sc__law_pot.nd rfl (.inl rfl) (pe_ifExp (pt_cmpR op_lt (pv 1) (pe_callB call_len_seq (by rfl) M.b_len (by decide +kernel) (pa_cons (pv 0) pa_nil)) (nomark _)) (pe_callB call_abs (by rfl) M.b_abs (by decide +kernel) (pa_cons (pe_ix ix_list (pv 0) (pv 1) (fun _ _ => rfl)) pa_nil)) (pe_op op_add (pe_op op_mulW pe_int (pv 1)) pe_int))) (pss_one (ps_ret (pe_lst (pa_cons (pe_callB (call_max2 rfl) (by rfl) M.b_max (by decide +kernel) (pa_cons pe_int (pa_cons (pe_op op_sub (pv 2) (pe_op op_pow pe_int pe_int)) pa_nil))) (pa_cons (pe_op op_mod (pe_callTy call_int1 (by rfl) M.b_int (by decide +kernel) (pa_cons (pe_op op_add (pe_op op_add (pe_op op_mulW (pe_op op_mod (pe_callTy call_int1 (by rfl) M.b_int (by decide +kernel) (pa_cons (pv 2) pa_nil)) pe_int) pe_int) (pe_op op_mulW pe_int (pv 1))) pe_int) pa_nil)) pe_int) pa_nil)))))), ?_⟩
    refine st_eq (σ := [some _, some _, none]) rfl ?_
    walk_at "rd"
    refine ⟨_, _, rfl, .inl hS, ?_⟩
    walk_at "rd"
    refine ite_d (fun hc => ?_) (fun hc => ?_)
    · obtain ⟨c, ec⟩ := atI_ints h0 hc
      walk_at "rd"
      refine ⟨_, _, _, _, rfl, rfl, hS, ec, ?_⟩
      walk_at "rd"
      refine q _ _ (My.Same.new (by assumption)) (by assumption) ⟨_, _, upd_same, ?_, ?_, ?_⟩
      · split <;> omega
      · omega
      · omega
    · walk_at "rd"
      refine q _ _ (My.Same.new (by assumption)) (by assumption) ⟨_, _, upd_same, ?_, ?_, ?_⟩
      · split <;> omega
      · omega
      · omega
theorem c__law_draw : Dn P w K mg base "_law_draw" 1 ["_law_pot_here", "_law_size"] [] spDraw := by
  refine dnN M.f__law_draw (fun F => ?_) (fun _ _ _ _ _ _ us hl => match us, hl with | [_, _], _ => rfl)
  refine fnG_body F sc__law_draw (fun vs H Q E h => ?_) (fun cdv A outer s H vs Q E hr h => ?_)
  · obtain ⟨r, n, rfl, _⟩ := h
    rfl
  · obtain ⟨r, n, rfl, ⟨p, y, e, hp, hy, hz⟩, h0, h1, q⟩ := h
    refine ⟨_, (pss_cons (ps_if (pt_cmpR op_gt (pe_ix ix_list (pv 0) pe_int (fun _ _ => rfl)) pe_int (nomark _)) (pss_cons (ps_asg (pe_callB call_divmodW (by rfl) M.b_divmod (by decide +kernel) (pa_cons (pe_ix ix_list (pv 0) pe_int (fun _ _ => rfl)) (pa_cons (pv 1) pa_nil))) (pg_tup (by rfl) (pgs_cons (pg_sub (pv 0) pe_int set_list) (pgs_cons (pg_name (i := 2) sc__law_draw.nd rfl (.inl rfl)) pgs_nil)))) (pss_one (ps_ret (pv 2)))) pss_nil) (pss_cons (ps_asg (pe_op op_mod (pe_callTy call_int1 (by rfl) M.b_int (by decide +kernel) (pa_cons (pe_op op_add (pe_op op_mulW (pe_ix ix_list (pv 0) pe_int (fun _ _ => rfl)) pe_int) pe_int) pa_nil)) pe_int) (pg_sub (pv 0) pe_int set_list)) (pss_one (ps_ret (pe_op op_mod (pe_callTy call_int1 (by rfl) M.b_int (by decide +kernel) (pa_cons (pe_op op_fdivW (pe_op op_mod (pe_callTy call_int1 (by rfl) M.b_int (by decide +kernel) (pa_cons (pe_op op_mulW (pe_ix ix_list (pv 0) pe_int (fun _ _ => rfl)) (pe_ix ix_list (pv 0) pe_int (fun _ _ => rfl))) pa_nil)) pe_int) pe_int) pa_nil)) (pv 1)))))), ?_⟩
    refine st_eq (σ := [some _, some _, none]) rfl ?_
    walk_at "rd"
    refine ite_d (fun hc => ?_) (fun hc => ?_)
    · walk_at "rd"
      refine q _ _ ((But.new (by assumption)).trans But.at) ⟨_, _, upd_same, ?_, hy, hz⟩ (Int.emod_nonneg _ (by omega)) (Int.emod_lt_of_pos _ h0)
      exact Int.ediv_nonneg hp (by omega)
    · walk_at "rd"
      refine q _ _ But.at ⟨_, _, upd_same, hp, by omega, by omega⟩ (Int.emod_nonneg _ (by omega)) (Int.emod_lt_of_pos _ h0)
theorem c__law_pick : Dn P w K mg base "_law_pick" 2 ["_law_pot_here", "_law_some"] [] spPick := by
  have c__law_draw := c__law_draw (P := P) (w := w) (base := base) M
  refine dnN M.f__law_pick (fun F => ?_) (fun _ _ _ _ _ _ us hl => match us, hl with | [_, _], _ => rfl)
  refine fnG_body F sc__law_pick (fun vs H Q E h => ?_) (fun cdv A outer s H vs Q E hr h => ?_)
  · obtain ⟨r, l, xs, rfl, _⟩ := h
    rfl
  · obtain ⟨r, l, xs, rfl, hl, hn, h0, h1, hp, q⟩ := h
    refine ⟨_, (pss_one (ps_ret (pe_ix ix_list (pv 1) (pe_callD c__law_draw (hr.mono (by decide)) rfl (pa_cons (pv 0) (pa_cons (pe_callB call_len_seq (by rfl) M.b_len (by decide +kernel) (pa_cons (pv 1) pa_nil)) pa_nil))) (fun _ _ => rfl)))), ?_⟩
    refine st_eq (σ := [some _, some _]) rfl ?_
    walk_at "rd"
    refine ⟨_, _, rfl, .inl (SqL.of hl), ?_⟩
    walk_at "rd"
    refine ⟨r, _, rfl, hp, by omega, ?_, fun d H' hb hp' d0 d1 => ?_⟩
    · exact lg (sm62 (by omega) (by omega))
    · obtain ⟨j, rfl⟩ : ∃ j : Nat, d = j := ⟨d.toNat, by omega⟩
      have hj : j < xs.length := by omega
      walk_at "rd"
      refine s_ixL (v := xs[j]) (hb.get hl hn) (atI_nat (by simp [hj])) ?_
      exact q _ _ (List.getElem_mem hj) hb hp'
theorem c__law_mixed : Dn P w K mg base "_law_mixed" 2 ["_law_pot_here", "_law_some"] [] spMixed := by
  have c__law_draw := c__law_draw (P := P) (w := w) (base := base) M
  refine dnN M.f__law_mixed (fun F => ?_) (fun _ _ _ _ _ _ us hl => match us, hl with | [_, _], _ => rfl)
  refine fnG_body F sc__law_mixed (fun vs H Q E h => ?_) (fun cdv A outer s H vs Q E hr h => ?_)
  · obtain ⟨r, l, xs, rfl, _⟩ := h
    rfl
  · obtain ⟨r, l, xs, rfl, hl, hn, h0, hp, k⟩ := h
    refine ⟨_, (pss_cons (ps_par (i := 2) (j := 3) (by rfl) sc__law_mixed.nd rfl rfl (by decide) rfl rfl (pa_cons (pe_callTy call_list_of (by rfl) M.b_list (by decide +kernel) (pa_cons (pv 1) pa_nil)) (pa_cons (pe_lst pa_nil) pa_nil)) (by rfl)) (pss_cons (ps_for (passes_of rfl) rfl (pi_range1 (by rfl) M.b_range (pa_cons (pe_callB call_len_seq (by rfl) M.b_len (by decide +kernel) (pa_cons (pv 1) pa_nil)) pa_nil)) (pg_name (i := 4) sc__law_mixed.nd rfl (.inl rfl)) (pss_one (ps_expr (pe_bm PySem.F.plainAttrs_list PySem.F.slot_list_append PySem.F.type_list_append mt_append (pv 3) (pa_cons (pe_bm PySem.F.plainAttrs_list PySem.F.slot_list_pop PySem.F.type_list_pop mt_popAt (pv 2) (pa_cons (pe_callD c__law_draw (hr.mono (by decide)) rfl (pa_cons (pv 0) (pa_cons (pe_callB call_len_seq (by rfl) M.b_len (by decide +kernel) (pa_cons (pv 2) pa_nil)) pa_nil))) pa_nil)) pa_nil))))) (pss_one (ps_ret (pv 3))))), ?_⟩
    refine st_eq (σ := [some _, some _, none, none, none]) rfl ?_
    walk_at "rd"
    refine ⟨l, xs, rfl, .inl (SqL.of hl), fun a na => ?_⟩
    walk_at "rd"
    rename_i b nb D0 hD0
    have nb0 : H b = none := (My.Same.new na).free nb
    have ab : a ≠ b := fun z => by
      rw [← z, upd_same] at nb
      cases nb
    have ar : a ≠ r := hp.ne na
    have br : b ≠ r := hp.ne nb0
    have hl2 : (L2.upd (L2.upd H a (.lst xs)) b (.lst [])) l = some (.lst xs) := by walk_at "hp"
    refine ⟨_, _, rfl, .inl (SqL.of hl2), ?_⟩
    walk_at "rd"
    refine ⟨by omega, by omega, for_range (lo := 0) (fun i σ H' => (∃ v, σ = [some (.ref r), some (.ref l), some (.ref a), some (.ref b), v]) ∧ But r H H' ∧ Pot H' r ∧ ∃ us vs, H' a = some (.lst us) ∧ H' b = some (.lst vs) ∧ (us ++ vs).Perm xs ∧ vs.length = i) ?_ ?_ ?_⟩
    · refine ⟨⟨_, rfl⟩, (My.But.new na).trans (My.But.new nb), (hp.up na).up nb, xs, [], (upd_ne ab).trans upd_same, upd_same, by simp, rfl⟩
    · subst_vars
      rintro i σ H1 hi ⟨⟨v, rfl⟩, b1, p1, us, vs, ea, eb, pm, lv⟩
      have lu := pm.length_eq
      rw [List.length_append] at lu
      have hu : 0 < us.length := by omega
      walk_at "rd"
      refine ⟨_, _, rfl, .inl (SqL.of ea), ?_⟩
      walk_at "rd"
      refine ⟨r, _, rfl, p1, by omega, lg (sm62 (by omega) (by omega)), fun d H2 b2 p2 d0 d1 => ?_⟩
      obtain ⟨j, rfl⟩ : ∃ j : Nat, d = j := ⟨d.toNat, by omega⟩
      have hj : j < us.length := by omega
      have ea2 := b2.get ea ar
      have eb2 := b2.get eb br
      walk_at "rd"
      refine ⟨a, us, j, j, us[j], rfl, rfl, ea2, by omega, by omega, ?_, List.getElem?_eq_getElem hj, ?_⟩
      · unfold seqIndex?
        simp
        omega
      have eb3 : (L2.upd H2 a (.lst (us.eraseIdx j))) b = some (.lst vs) := (upd_ne ab.symm).trans eb2
      with_reducible refine s_nil ?_
      refine s_append eb3 (by rw [sizeLine_eq]; omega) ?_
      refine ⟨⟨_, rfl⟩, ((b1.trans b2).upf na).upf nb0, (p2.upn ar).upn br, us.eraseIdx j, vs ++ [us[j]], (upd_ne ab).trans upd_same, upd_same, ?_, by simp [lv]⟩
      refine List.Perm.trans ?_ pm
      have e1 : (us.eraseIdx j ++ (vs ++ [us[j]])).Perm ((us.eraseIdx j ++ [us[j]]) ++ vs) := by
        rw [List.append_assoc]
        exact List.perm_append_comm.append_left _
      refine e1.trans (List.Perm.append_right vs ?_)
      exact erase_perm hj
    · subst_vars
      rintro σ H1 ⟨⟨v, rfl⟩, b1, p1, us, vs, ea, eb, pm, lv⟩
      have lu := pm.length_eq
      rw [List.length_append] at lu
      have e0 : us = [] := List.eq_nil_of_length_eq_zero (by omega)
      subst e0
      walk_at "rd"
      exact k b vs H1 pm eb nb0 b1 p1
theorem c__law_far : Dn P w K mg base "_law_far" 2 ["_law_pot_here"] [] spFar := by
  have c__law_draw := c__law_draw (P := P) (w := w) (base := base) M
  refine dnN M.f__law_far (fun F => ?_) (fun _ _ _ _ _ _ us hl => match us, hl with | [_], _ => rfl)
  refine fnG_body F sc__law_far (fun vs H Q E h => ?_) (fun cdv A outer s H vs Q E hr h => ?_)
  · obtain ⟨r, rfl, _⟩ := h
    rfl
  · obtain ⟨r, rfl, hp, k⟩ := h
    refine ⟨_, (pss_cons (ps_set (i := 1) sc__law_far.nd rfl (.inl rfl) pe_int) (pss_cons (ps_for (passes_of rfl) rfl (pi_range1 (by rfl) M.b_range (pa_cons (pe_op op_add pe_int (pe_callD c__law_draw (hr.mono (by decide)) rfl (pa_cons (pv 0) (pa_cons pe_int pa_nil)))) pa_nil)) (pg_name (i := 2) sc__law_far.nd rfl (.inl rfl)) (pss_one (ps_set (i := 1) sc__law_far.nd rfl (.inl rfl) (pe_op op_add (pe_op op_mulW (pv 1) (pe_op op_pow pe_int pe_int)) (pe_callD c__law_draw (hr.mono (by decide)) rfl (pa_cons (pv 0) (pa_cons (pe_op op_pow pe_int pe_int) pa_nil))))))) (pss_one (ps_ret (pv 1))))), ?_⟩
    refine st_eq (σ := [some _, none, none]) rfl ?_
    walk_at "rd"
    refine ⟨r, _, rfl, hp, by decide, by decide, fun d H1 b1 p1 d0 d1 => ?_⟩
    walk_at "rd"
    refine ⟨by omega, by omega, for_range (lo := 0) (fun i σ H' => (∃ n v, σ = [some (.ref r), some (.int n), v] ∧ 0 ≤ n ∧ n < (1000000000 : Int) ^ i) ∧ But r H H' ∧ Pot H' r) ?_ ?_ ?_⟩
    · exact ⟨⟨_, _, rfl, by decide, by decide⟩, b1, p1⟩
    · subst_vars
      rintro i σ H2 hi ⟨⟨n, v, rfl, n0, n1⟩, b2, p2⟩
      have hi6 : i < 6 := by omega
      have sn : Sm 200 n := by
        have : n < (1000000000 : Int) ^ 6 := Int.lt_of_lt_of_le n1 (by
          match i, hi6 with
          | 0, _ => decide
          | 1, _ => decide
          | 2, _ => decide
          | 3, _ => decide
          | 4, _ => decide
          | 5, _ => decide)
        exact Sm.le n0 (by omega) (show Sm 200 ((1000000000 : Int) ^ 6) by decide)
      have cm : CMulW n ((10 : Int) ^ Int.toNat 9) := sn.cmul (show Sm 30 ((10 : Int) ^ Int.toNat 9) by decide)
      walk_at "rd"
      refine ⟨r, _, rfl, p2, by decide, by decide, fun e H3 b3 p3 e0 e1 => ?_⟩
      walk_at "rd"
      have e1' : e < 1000000000 := e1
      refine ⟨⟨_, _, rfl, ?_, ?_⟩, b2.trans b3, p3⟩
      · show (0 : Int) ≤ n * 1000000000 + e
        omega
      · show n * 1000000000 + e < _
        rw [Int.pow_succ]
        omega
    · subst_vars
      rintro σ H2 ⟨⟨n, v, rfl, n0, n1⟩, b2, p2⟩
      walk_at "rd"
      refine k n H2 n0 ?_ b2 p2
      have hd : (1 + d).toNat ≤ 6 := by
        have : d < 6 := d1
        omega
      have : n < (1000000000 : Int) ^ 6 := Int.lt_of_lt_of_le n1 (by
        match (1 + d).toNat, hd with
        | 0, _ => decide
        | 1, _ => decide
        | 2, _ => decide
        | 3, _ => decide
        | 4, _ => decide
        | 5, _ => decide
        | 6, _ => decide)
      exact Sm.le n0 (by omega) (show Sm 200 ((1000000000 : Int) ^ 6) by decide)
end
end My
end
section

open My L2 PySem
open My L2 PySem
local macro_rules | `(tactic| walk_at "as") => `(tactic| with_reducible assumption)
local macro_rules | `(tactic| walk_at "hp") => `(tactic| first
  | walk_at "as" | exact upd_same
  | (rw [upd_ne (by walk_at "ne")]; walk_at "hp")
  | (refine But.get (by walk_at "as") ?hp1 ?hp2; (case hp1 => walk_at "hp"); (case hp2 => walk_at "ne"))
  | (refine My.Same.get (by walk_at "as") ?hp1; (case hp1 => walk_at "hp")))
local macro_rules | `(tactic| walk_at "ne") => `(tactic| first
  | walk_at "as" | exact Ne.symm (by walk_at "as")
  | (refine' ne_of_none ?ne1 ?ne2; (case ne2 => walk_at "as"); (case ne1 => walk_at "hp"))
  | (refine' Ne.symm (ne_of_none ?ne1 ?ne2); (case ne2 => walk_at "as"); (case ne1 => walk_at "hp"))
  | exact ne_of (by walk_at "hp") (by walk_at "hp") (by intro z; cases z))
local macro_rules | `(tactic| walk_at "sd") => `(tactic| first
  | walk_at "as" | omega | decide | exact ⟨by omega, by omega⟩ | exact .inl ⟨by omega, by omega⟩ | exact .inr ⟨by omega, by omega⟩ | exact divp_wide (by walk_at "as") (by walk_at "as") | exact Sm.cmul (by walk_at "as") (by walk_at "as") | exact cmul_small (by omega) (by omega) (by omega) (by omega) | exact ⟨by omega, by decide⟩)
local macro_rules | `(tactic| walk_at "bt") => `(tactic| first
  | walk_at "as" | exact But.refl _ _ | exact Same.but (by walk_at "as")
  | (refine But.trans ?bt1 But.at; (case bt1 => walk_at "bt"))
  | (refine But.trans ?bt1 (But.new (by first | walk_at "as" | walk_at "hp")); (case bt1 => walk_at "bt"))
  | (refine But.trans ?bt1 (by walk_at "as"); (case bt1 => walk_at "bt"))
  | (refine But.trans ?bt1 (Same.but (by walk_at "as")); (case bt1 => walk_at "bt")))
local macro_rules | `(tactic| walk_at "sm") => `(tactic| first
  | walk_at "as" | exact My.Same.rfl' _
  | (refine' My.Same.at_ ?sm1 ?sm2; (case sm1 => walk_at "as"); (case sm2 => walk_at "sm"))
  | (refine' My.Same.tr ?sm1 (My.Same.new ?sm2); (case sm2 => walk_at "as"); (case sm1 => walk_at "sm"))
  | (refine' My.Same.tr ?sm1 ?sm2; (case sm2 => walk_at "as"); (case sm1 => walk_at "sm")))
local macro_rules | `(tactic| walk_at "sz") => `(tactic| first
  | assumption | exact lt_size (by rfl) | exact le_size (by rfl) | (rw [sizeLine_eq]; omega)
  | (rw [sizeLine_eq]; simp only [List.length_append, List.length_map, List.length_cons, List.length_nil]; omega))
local macro_rules | `(tactic| walk_at "few") => `(tactic| (repeat refine few_put ?_); exact few0)
local macro_rules | `(tactic| walk_at "rd1") => `(tactic| first
  | (with_reducible show tVar _ _ _ _); refine s_var rfl ?_
  | with_reducible refine s_c ?_ | with_reducible refine s_op ?_ | with_reducible refine s_un ?_
  | with_reducible refine s_cons ?_ | with_reducible refine s_nil ?_ | with_reducible refine s_cb ?_
  | with_reducible refine s_test ?_ | with_reducible refine s_B ?_ | with_reducible refine s_not ?_ | with_reducible refine s_and ?_ | with_reducible refine s_or ?_
  | with_reducible refine s_if ?_ | with_reducible refine s_notV ?_ | with_reducible refine s_andV ?_ | with_reducible refine s_orV ?_
  | with_reducible refine s_orT ?_ | with_reducible refine s_andT ?_ | with_reducible refine s_chain ?_
  | with_reducible refine s_isi_int ?_ | with_reducible refine s_isi_int_bool ?_ | with_reducible refine s_isi_str ?_
  | with_reducible refine iteT ?_ | with_reducible refine iteF ?_ | with_reducible refine iteNT ?_ | with_reducible refine iteNF ?_
  | with_reducible refine s_isN ?_ | with_reducible refine s_notN ?_
  | ((with_reducible refine' s_2setE ?g1 ?_); (case g1 => first | (dsimp only [List.set, L2.wipe, List.map, List.foldl]; done) | (dsimp only [List.set, L2.wipe, List.map, List.foldl]; rfl)))
  | with_reducible refine s_seq ?_ | with_reducible refine s_ifS ?_ | with_reducible refine s_asg ?_ | with_reducible refine s_ret ?_ | with_reducible refine s_drop ?_ | with_reducible refine s_next ?_
  | ((with_reducible refine' s_gnameE ?g1 ?_); (case g1 => first | (dsimp only [List.set, L2.wipe, List.map, List.foldl]; done) | (dsimp only [List.set, L2.wipe, List.map, List.foldl]; rfl)))
  | with_reducible refine s_gsub ?_ | with_reducible refine s_gcons ?_ | with_reducible refine s_gnil ?_
  | (with_reducible show gTup _ _ _ _ _ _ _); refine s_gtup (by walk_at "hp") rfl ?_
  | with_reducible refine s_eqI ?_ | with_reducible refine s_neI ?_ | with_reducible refine s_eqS ?_ | with_reducible refine s_neB ?_ | with_reducible refine s_eqB ?_ | with_reducible refine s_neSr ?_ | with_reducible refine s_neS ?_
  | with_reducible refine s_I0 ?_
  | (with_reducible show rI _ _ _ _ _ _); refine s_I (by walk_at "sd") ?_
  | (with_reducible show rIxL _ _ _ _ _); refine s_ixL (by walk_at "hp") rfl ?_
  | (with_reducible show rIxT _ _ _ _ _); refine s_ixT (by walk_at "hp") rfl ?_
  | (with_reducible show rSetL _ _ _ _ _); refine s_setL (by walk_at "hp") rfl ?_
  | with_reducible refine s_prop ?_
  | (with_reducible show _ ≤ sizeLine ∧ _); refine ⟨le_size (by rfl), ?_⟩
  | with_reducible refine ite_NN ?_ | with_reducible refine ite_IN ?_ | with_reducible refine ite_nNN ?_ | with_reducible refine ite_nIN ?_ | with_reducible refine ite_RN ?_ | with_reducible refine ite_nRN ?_
  | with_reducible refine s_sfld ?_
  | ((with_reducible refine' ⟨_, _, _, _, rfl, ?fp1, ?fp2, ?fp3, ?fp4, ?_⟩); (case fp1 => walk_at "hp"); (case fp2 => assumption); (case fp3 => assumption); (case fp4 => walk_at "few"))
  | with_reducible refine s_fldE ?_
  | ((with_reducible refine' ⟨_, _, _, _, _, rfl, ?fp1, ?fp2, ?fp3, ?fp4, ?_⟩); (case fp1 => walk_at "hp"); (case fp2 => assumption); (case fp3 => assumption); (case fp4 => rfl))
  | with_reducible refine s_bm ?_ | with_reducible refine s_bm0 ?_
  | ((with_reducible refine' s_tyL ?ty1 ?_); (case ty1 => walk_at "hp"))
  | ((with_reducible refine' s_append ?ap1 ?ap2 ?_); (case ap1 => walk_at "hp"); (case ap2 => walk_at "sz"))
  | ((with_reducible refine' s_extend ?ap1 ?ap2 ?ap3 ?_); (case ap1 => walk_at "hp"); (case ap2 => walk_at "hp"); (case ap3 => walk_at "sz"))
  | with_reducible refine s_for (fun _ _ => ?_) | with_reducible refine s_lc ?_ | with_reducible refine s_iList ?_ | with_reducible refine s_iTup ?_ | with_reducible refine s_iRng1 ?_ | with_reducible refine s_iRng2 ?_
  | with_reducible refine s_yes ?_ | with_reducible refine s_par ?_
  | with_reducible refine s_make ?_ | with_reducible refine s_meth ?_
  | with_reducible refine s_tup ?_ | with_reducible refine s_lst ?_ | with_reducible refine s_call ?_
  | with_reducible refine ⟨rfl, ?_⟩
  | with_reducible refine ⟨_, rfl, ?_⟩
  | ((with_reducible refine' ⟨_, _, rfl, ?sd1, ?_⟩); (case sd1 => walk_at "sd"))
  | with_reducible refine ⟨_, _, rfl, ?_⟩
  | with_reducible refine .inl ⟨_, rfl, ?_⟩
  | dsimp only [List.set]
  | walk_at "rdx"
  | (refine fun _ _ => ?_))
local macro_rules | `(tactic| walk_at "rd") => `(tactic| repeat (first
  | (with_reducible show tVar _ _ _ _); refine s_var rfl ?_
  | with_reducible refine s_c ?_ | with_reducible refine s_op ?_ | with_reducible refine s_un ?_
  | with_reducible refine s_cons ?_ | with_reducible refine s_nil ?_ | with_reducible refine s_cb ?_
  | with_reducible refine s_test ?_ | with_reducible refine s_B ?_ | with_reducible refine s_not ?_ | with_reducible refine s_and ?_ | with_reducible refine s_or ?_
  | with_reducible refine s_if ?_ | with_reducible refine s_notV ?_ | with_reducible refine s_andV ?_ | with_reducible refine s_orV ?_
  | with_reducible refine s_orT ?_ | with_reducible refine s_andT ?_ | with_reducible refine s_chain ?_
  | with_reducible refine s_isi_int ?_ | with_reducible refine s_isi_int_bool ?_ | with_reducible refine s_isi_str ?_
  | with_reducible refine iteT ?_ | with_reducible refine iteF ?_ | with_reducible refine iteNT ?_ | with_reducible refine iteNF ?_
  | with_reducible refine s_isN ?_ | with_reducible refine s_notN ?_
  | ((with_reducible refine' s_2setE ?g1 ?_); (case g1 => first | (dsimp only [List.set, L2.wipe, List.map, List.foldl]; done) | (dsimp only [List.set, L2.wipe, List.map, List.foldl]; rfl)))
  | with_reducible refine s_seq ?_ | with_reducible refine s_ifS ?_ | with_reducible refine s_asg ?_ | with_reducible refine s_ret ?_ | with_reducible refine s_drop ?_ | with_reducible refine s_next ?_
  | ((with_reducible refine' s_gnameE ?g1 ?_); (case g1 => first | (dsimp only [List.set, L2.wipe, List.map, List.foldl]; done) | (dsimp only [List.set, L2.wipe, List.map, List.foldl]; rfl)))
  | with_reducible refine s_gsub ?_ | with_reducible refine s_gcons ?_ | with_reducible refine s_gnil ?_
  | (with_reducible show gTup _ _ _ _ _ _ _); refine s_gtup (by walk_at "hp") rfl ?_
  | with_reducible refine s_eqI ?_ | with_reducible refine s_neI ?_ | with_reducible refine s_eqS ?_ | with_reducible refine s_neB ?_ | with_reducible refine s_eqB ?_ | with_reducible refine s_neSr ?_ | with_reducible refine s_neS ?_
  | with_reducible refine s_I0 ?_
  | (with_reducible show rI _ _ _ _ _ _); refine s_I (by walk_at "sd") ?_
  | (with_reducible show rIxL _ _ _ _ _); refine s_ixL (by walk_at "hp") rfl ?_
  | (with_reducible show rIxT _ _ _ _ _); refine s_ixT (by walk_at "hp") rfl ?_
  | (with_reducible show rSetL _ _ _ _ _); refine s_setL (by walk_at "hp") rfl ?_
  | with_reducible refine s_prop ?_
  | (with_reducible show _ ≤ sizeLine ∧ _); refine ⟨le_size (by rfl), ?_⟩
  | with_reducible refine ite_NN ?_ | with_reducible refine ite_IN ?_ | with_reducible refine ite_nNN ?_ | with_reducible refine ite_nIN ?_ | with_reducible refine ite_RN ?_ | with_reducible refine ite_nRN ?_
  | with_reducible refine s_sfld ?_
  | ((with_reducible refine' ⟨_, _, _, _, rfl, ?fp1, ?fp2, ?fp3, ?fp4, ?_⟩); (case fp1 => walk_at "hp"); (case fp2 => assumption); (case fp3 => assumption); (case fp4 => walk_at "few"))
  | with_reducible refine s_fldE ?_
  | ((with_reducible refine' ⟨_, _, _, _, _, rfl, ?fp1, ?fp2, ?fp3, ?fp4, ?_⟩); (case fp1 => walk_at "hp"); (case fp2 => assumption); (case fp3 => assumption); (case fp4 => rfl))
  | with_reducible refine s_bm ?_ | with_reducible refine s_bm0 ?_
  | ((with_reducible refine' s_tyL ?ty1 ?_); (case ty1 => walk_at "hp"))
  | ((with_reducible refine' s_append ?ap1 ?ap2 ?_); (case ap1 => walk_at "hp"); (case ap2 => walk_at "sz"))
  | ((with_reducible refine' s_extend ?ap1 ?ap2 ?ap3 ?_); (case ap1 => walk_at "hp"); (case ap2 => walk_at "hp"); (case ap3 => walk_at "sz"))
  | with_reducible refine s_for (fun _ _ => ?_) | with_reducible refine s_lc ?_ | with_reducible refine s_iList ?_ | with_reducible refine s_iTup ?_ | with_reducible refine s_iRng1 ?_ | with_reducible refine s_iRng2 ?_
  | with_reducible refine s_yes ?_ | with_reducible refine s_par ?_
  | with_reducible refine s_make ?_ | with_reducible refine s_meth ?_
  | with_reducible refine s_tup ?_ | with_reducible refine s_lst ?_ | with_reducible refine s_call ?_
  | with_reducible refine ⟨rfl, ?_⟩
  | with_reducible refine ⟨_, rfl, ?_⟩
  | ((with_reducible refine' ⟨_, _, rfl, ?sd1, ?_⟩); (case sd1 => walk_at "sd"))
  | with_reducible refine ⟨_, _, rfl, ?_⟩
  | with_reducible refine .inl ⟨_, rfl, ?_⟩
  | dsimp only [List.set]
  | walk_at "rdx"
  | (refine fun _ _ => ?_)))

namespace My
open PySem L2
section
variable {P : Program} {w : World} {K : PySem.W.Frag} {mg : Str → Option Value} {base : Heap} {C_Sizes : Addr} (M : Md K mg C_Sizes)
include M
omit M
/-! ### names drawn -/
def NmAt (j : Nat) (y : Str) : Prop := ∃ pre : List Nat, y.cps.toList = pre ++ [99 + j] ∧ pre.length ≤ 3 ∧ ∀ c ∈ pre, 97 ≤ c ∧ c ≤ 122
theorem NmAt.len {j : Nat} {y : Str} (h : NmAt j y) : 1 ≤ y.length ∧ y.length ≤ 4 := by
  obtain ⟨pre, e, l, _⟩ := h
  have : y.length = y.cps.toList.length := by
    rw [Array.length_toList]
    rfl
  rw [e, List.length_append] at this
  simp at this
  omega
theorem NmAt.name {j : Nat} {y : Str} (h : NmAt j y) (hj : j < 12) : nameB y = true := by
  have hl := h.len
  obtain ⟨pre, e, l, p⟩ := h
  unfold nameB letS
  rw [e, decide_eq_true hl.1, decide_eq_true (show y.length ≤ 8 by omega), List.all_append]
  simp only [Bool.true_and, Bool.and_eq_true, List.all_eq_true, decide_eq_true_eq]
  exact ⟨p, fun c hc => by rw [List.mem_singleton.mp hc]; omega⟩
theorem NmAt.inj {i j : Nat} {y : Str} (h : NmAt i y) (g : NmAt j y) : i = j := by
  obtain ⟨pre, e, _⟩ := h
  obtain ⟨pre2, e2, _⟩ := g
  rw [e] at e2
  have := congrArg List.getLast? e2
  simp at this
  exact this
/-- names as they are drawn: no two alike, none of more than four letters -/
structure Nms (ys : List Str) : Prop where
  nd : ys.Nodup
  nm : ∀ y ∈ ys, nameB y = true
  sh : ∀ y ∈ ys, y.length ≤ 4
theorem Nms.of {ys : List Str} (h : ∀ j y, ys[j]? = some y → NmAt j y) (hl : ys.length ≤ 6) : Nms ys := by
  have at_ : ∀ y ∈ ys, ∃ j, j < ys.length ∧ NmAt j y := fun y hy => by
    obtain ⟨j, hj, e⟩ := List.getElem_of_mem hy
    exact ⟨j, hj, h j y (by rw [List.getElem?_eq_getElem hj, e])⟩
  refine ⟨?_, fun y hy => ?_, fun y hy => ?_⟩
  · rw [List.nodup_iff_pairwise_ne, List.pairwise_iff_getElem]
    intro i j hi hj hij e
    have h1 := h i _ (List.getElem?_eq_getElem hi)
    have h2 := h j _ (List.getElem?_eq_getElem hj)
    rw [e] at h1
    have := h1.inj h2
    omega
  · obtain ⟨j, hj, n⟩ := at_ y hy
    exact n.name (by omega)
  · obtain ⟨j, hj, n⟩ := at_ y hy
    exact n.len.2
theorem Nms.perm {ys zs : List Str} (h : Nms ys) (p : zs.Perm ys) : Nms zs := ⟨p.nodup_iff.mpr h.nd, fun y hy => h.nm y (p.mem_iff.mp hy), fun y hy => h.sh y (p.mem_iff.mp hy)⟩
theorem perm_strs {vs : List V} {ys : List Str} (h : vs.Perm (ys.map V.str)) : ∃ zs : List Str, vs = zs.map V.str ∧ zs.Perm ys := by
  refine ⟨vs.map fun v => match v with | .str s => s | _ => Str.empty, ?_, ?_⟩
  · rw [List.map_map]
    have : ∀ v ∈ vs, (V.str ∘ fun v => match v with | .str s => s | _ => Str.empty) v = v := fun v hv => by
      obtain ⟨y, _, rfl⟩ := List.mem_map.mp (h.mem_iff.mp hv)
      rfl
    rw [List.map_congr_left this, List.map_id']
  · have := h.map fun v => match v with | .str s => s | _ => Str.empty
    rw [List.map_map] at this
    have e : List.map ((fun v => match v with | .str s => s | _ => Str.empty) ∘ V.str) ys = ys := List.map_id'' (fun _ => rfl) ys
    rw [e] at this
    exact this
def one (c : Nat) : Str := { cps := #[c] }
theorem join_one : ∀ ws : List Nat, (Str.join "" (ws.map one)).cps.toList = ws
  | [] => rfl
  | [c] => rfl
  | c :: d :: r => by
    show ((one c ++ ("" : Str)) ++ Str.join "" ((d :: r).map one)).cps.toList = _
    have e : ∀ a b : Str, (a ++ b).cps.toList = a.cps.toList ++ b.cps.toList := fun a b => by
      show (a.cps ++ b.cps).toList = _
      rw [Array.toList_append]
    rw [e, e, join_one (d :: r)]
    rfl
theorem cdef (i : Nat) (h : i < 6) : ("cdefghijklmn" : Str).cps.toList[i]? = some (99 + i) := by
  match i, h with
  | 0, _ => decide +kernel
  | 1, _ => decide +kernel
  | 2, _ => decide +kernel
  | 3, _ => decide +kernel
  | 4, _ => decide +kernel
  | 5, _ => decide +kernel
theorem len0 : ("" : Str).length = 0 := by decide +kernel
theorem sum_one (ws : List Nat) : (((ws.map one).map (·.length)).sum) = ws.length := by
  induction ws with
  | nil => rfl
  | cons c r ih =>
    show (one c).length + ((r.map one).map (·.length)).sum = r.length + 1
    rw [ih]
    show 1 + r.length = _
    omega
def spNames : Sp := fun vs H Q _ => ∃ (r : Addr) (n : Int), vs = [.ref r, .int n] ∧ Pot H r ∧ 0 ≤ n ∧ n ≤ 6 ∧ ∀ p (ys : List Str) H', Nms ys → (ys.length : Int) = n → H' p = some (.lst (ys.map V.str)) → H p = none → But r H H' → Pot H' r → Q (.ref p) H'
include M
theorem c__law_amount : Dn P w K mg base "_law_amount" 3 ["_law_pot_here"] [] spFar := by
  have c__law_draw := c__law_draw (P := P) (w := w) (base := base) M
  have c__law_far := c__law_far (P := P) (w := w) (base := base) M
  refine dnN M.f__law_amount (fun F => ?_) (fun _ _ _ _ _ _ us hl => match us, hl with | [_], _ => rfl)
  refine fnG_body F sc__law_amount (fun vs H Q E h => ?_) (fun cdv A outer s H vs Q E hr h => ?_)
  · obtain ⟨r, rfl, _⟩ := h
    rfl
  · obtain ⟨r, rfl, hp, k⟩ := h
    refine ⟨_, (pss_cons (ps_set (i := 1) sc__law_amount.nd rfl (.inl rfl) (pe_callD c__law_draw (hr.mono (by decide)) rfl (pa_cons (pv 0) (pa_cons pe_int pa_nil)))) (pss_one (ps_ret (pe_ifExp (pt_cmpR op_eq (pv 1) pe_int (nomark _)) (pe_callD c__law_far (hr.mono (by decide)) rfl (pa_cons (pv 0) pa_nil)) (pe_callD c__law_draw (hr.mono (by decide)) rfl (pa_cons (pv 0) (pa_cons (pe_ix ix_list (pe_lst (pa_cons pe_int (pa_cons pe_int (pa_cons pe_int pa_nil)))) (pe_op op_sub (pv 1) pe_int) (fun _ _ => rfl)) pa_nil))))))), ?_⟩
    refine st_eq (σ := [some _, none]) rfl ?_
    walk_at "rd"
    refine ⟨r, _, rfl, hp, by decide, by decide, fun d H1 b1 p1 d0 d1 => ?_⟩
    walk_at "rd"
    refine ite_d (fun e => ?_) (fun e => ?_)
    · walk_at "rd"
      exact ⟨r, rfl, p1, fun n H2 n0 ns b2 p2 => k n H2 n0 ns (b1.trans b2) p2⟩
    · have : d = 1 ∨ d = 2 ∨ d = 3 := by
        have : d < 4 := d1
        omega
      rcases this with rfl | rfl | rfl
      all_goals
        walk_at "rd"
        rename_i l nl
        refine ⟨r, _, rfl, p1.up nl, by decide, by decide, fun n H2 b2 p2 n0 n1 => ?_⟩
        refine k n H2 n0 (Sm.le (y := 10) n0 (by omega) (by decide)) ((b1.trans (My.But.new nl)).trans b2) p2
theorem c__law_names : Dn P w K mg base "_law_names" 4 ["_law_pot_here", "_law_amount_here"] [] spNames := by
  have c__law_draw := c__law_draw (P := P) (w := w) (base := base) M
  have c__law_pick := c__law_pick (P := P) (w := w) (base := base) M
  have c__law_mixed := c__law_mixed (P := P) (w := w) (base := base) M
  refine dnN M.f__law_names (fun F => ?_) (fun _ _ _ _ _ _ us hl => match us, hl with | [_, _], _ => rfl)
  refine fnG_body F sc__law_names (fun vs H Q E h => ?_) (fun cdv A outer s H vs Q E hr h => ?_)
  · obtain ⟨r, n, rfl, _⟩ := h
    rfl
  · obtain ⟨r, n, rfl, hp, n0, n6, k⟩ := h
    refine ⟨_, (pss_cons (ps_set (i := 2) sc__law_names.nd rfl (.inl rfl) (pe_lst pa_nil)) (pss_cons (ps_for (passes_of rfl) rfl (pi_range1 (by rfl) M.b_range (pa_cons (pv 1) pa_nil)) (pg_name (i := 3) sc__law_names.nd rfl (.inl rfl)) (pss_cons (ps_set (i := 4) sc__law_names.nd rfl (.inl rfl) (pe_join pe_str (pe_lc (own := [("_law_turn", 5)]) (g := gName 5) (tt := tYes) (by rfl) sc__law_names.nd (pi_range1 (by rfl) M.b_range (pa_cons (pe_callD c__law_draw (hr.mono (by decide)) rfl (pa_cons (pv 0) (pa_cons pe_int pa_nil))) pa_nil)) (blkOk_by (own := [("_law_turn", 5)]) (N := N__law_names) (sc := defScope st__law_names) (by decide +kernel)) (fun _ _ _ _ _ => pg_name (i := 5) sc__law_names.nd rfl (by first | exact Or.inl rfl | exact Or.inr rfl)) (fun _ _ _ _ _ => pts_nil) (fun _ _ _ _ _ => (pe_callD c__law_pick (hr.mono (by decide)) rfl (pa_cons (pv 0) (pa_cons (pe_lst (pa_cons pe_str (pa_cons pe_str (pa_cons pe_str pa_nil)))) pa_nil))))))) (pss_one (ps_expr (pe_bm PySem.F.plainAttrs_list PySem.F.slot_list_append PySem.F.type_list_append mt_append (pv 2) (pa_cons (pe_op op_add_str (pv 4) (pe_ix ix_str pe_str (pv 3) (fun _ _ => rfl))) pa_nil)))))) (pss_one (ps_ret (pe_callD c__law_mixed (hr.mono (by decide)) rfl (pa_cons (pv 0) (pa_cons (pv 2) pa_nil))))))), ?_⟩
    refine st_eq (σ := [some _, some _, none, none, none, none]) rfl ?_
    walk_at "rd"
    rename_i b nb D0 hD0
    have br : b ≠ r := hp.ne nb
    refine ⟨by omega, by omega, for_range (lo := 0) (fun i σ H' => (∃ u v x, σ = [some (.ref r), some (.int n), some (.ref b), u, v, x]) ∧ But r H H' ∧ Pot H' r ∧ ∃ ys : List Str, H' b = some (.lst (ys.map V.str)) ∧ ys.length = i ∧ ∀ j y, ys[j]? = some y → NmAt j y) ?_ ?_ ?_⟩
    · exact ⟨⟨_, _, _, rfl⟩, My.But.new nb, hp.up nb, [], upd_same, rfl, fun j y e => by cases e⟩
    · subst_vars
      rintro i σ H1 hi ⟨⟨u, v, x, rfl⟩, b1, p1, ys, eb, ly, hy⟩
      have hi6 : i < 6 := by omega
      walk_at "rd"
      refine ⟨⟨_, rfl⟩, ?_⟩
      walk_at "rd"
      refine ⟨r, _, rfl, p1, by decide, by decide, fun d H2 b2 p2 d0 d1 => ?_⟩
      have eb2 := b2.get eb br
      have d4 : d < 4 := d1
      walk_at "rd"
      refine ⟨by omega, by omega, fun D nD => lc_range (lo := 0) (n := d.toNat) (fun j H3 => But r H2 H3 ∧ Pot H3 r ∧ ∃ ws : List Nat, H3 D = some (.lst ((ws.map one).map V.str)) ∧ ws.length = j ∧ ∀ c ∈ ws, 97 ≤ c ∧ c ≤ 122) ?_ ?_ ?_⟩
      · exact ⟨My.But.new nD, p2.up nD, [], upd_same, rfl, fun c hc => by cases hc⟩
      · rintro j H3 hj ⟨b3, p3, ws, eD, lw, hw⟩
        have Dr : D ≠ r := p2.ne nD
        walk_at "rd"
        rename_i l nl
        refine ⟨r, l, _, rfl, upd_same, p3.ne nl, by simp, by simp, p3.up nl, fun v H4 hv b4 p4 => ?_⟩
        have nl2 : H2 l = none := b3.free nl (p3.ne nl)
        have lD : D ≠ l := ne_of_none eD nl
        have eD4 := b4.get (show (L2.upd H3 l _) D = _ from (upd_ne lD).trans eD) Dr
        obtain ⟨c, rfl, c0, c1⟩ : ∃ c : Nat, v = .str (one c) ∧ 97 ≤ c ∧ c ≤ 122 := by
          have e1 : (Str.ofString "a") = one 97 := by decide +kernel
          have e2 : (Str.ofString "b") = one 98 := by decide +kernel
          have e3 : (Str.ofString "z") = one 122 := by decide +kernel
          simp only [List.mem_cons, List.not_mem_nil, or_false] at hv
          rcases hv with rfl | rfl | rfl
          · exact ⟨97, by rw [e1], by decide, by decide⟩
          · exact ⟨98, by rw [e2], by decide, by decide⟩
          · exact ⟨122, by rw [e3], by decide, by decide⟩
        refine ⟨_, eD4, ?_, ((b3.upf nl2).trans b4).upf nD, p4.upn Dr, ws ++ [c], ?_, by simp [lw], ?_⟩
        · rw [List.length_map, List.length_map, sizeLine_eq]
          omega
        · rw [upd_same, List.map_append, List.map_append]
          rfl
        · intro c' hc
          rcases List.mem_append.mp hc with z | z
          · exact hw c' z
          · rw [List.mem_singleton.mp z]
            exact ⟨c0, c1⟩
      · rintro H3 ⟨b3, p3, ws, eD, lw, hw⟩
        refine ⟨_, D, ws.map one, rfl, rfl, .inl (SqL.of eD), ?_, ?_⟩
        · rw [sum_one, len0]
          omega
        have bD : b ≠ D := ne_of_none eb2 nD
        have eb3 := b3.get eb2 br
        walk_at "rd"
        have at_ : atI ("cdefghijklmn" : Str).cps.toList ((0 : Int) + i) = some (99 + i) := by
          rw [Int.zero_add]
          exact atI_nat (cdef i hi6)
        refine ⟨_, _, _, rfl, rfl, by rw [sizeLine_eq]; decide +kernel, at_, ?_⟩
        have ej : Txt.join "" (ws.map one) = Str.join "" (ws.map one) := StrLaws.glued_eq_join _ _
        have e1 : (Txt.join "" (ws.map one)).cps.toList = ws := by rw [ej, join_one]
        have l1 : (Txt.join "" (ws.map one)).length = ws.length := by
          rw [← e1, Array.length_toList, e1]
          rfl
        refine ⟨_, _, rfl, rfl, ?_, ?_⟩
        · rw [l1]
          show ws.length + 1 ≤ sizeLine
          rw [sizeLine_eq]
          omega
        with_reducible refine s_nil ?_
        refine s_append eb3 (by rw [List.length_map, sizeLine_eq]; omega) ?_
        refine ⟨⟨_, _, _, rfl⟩, (b1.trans b2).trans b3 |>.upf nb, p3.upn br, ys ++ [Txt.join "" (ws.map one) ++ one (99 + i)], ?_, by simp [ly], ?_⟩
        · rw [upd_same, List.map_append]
          rfl
        · intro j y e
          rcases Nat.lt_or_ge j ys.length with hj | hj
          · rw [List.getElem?_append_left hj] at e
            exact hy j y e
          · rw [List.getElem?_append_right hj] at e
            have ej : j = i := by
              rcases Nat.eq_or_lt_of_le hj with q | q
              · omega
              · rw [List.getElem?_eq_none (by simp; omega)] at e
                cases e
            subst ej
            rw [ly, Nat.sub_self] at e
            have e2 := Option.some.inj e
            subst e2
            refine ⟨ws, ?_, by omega, hw⟩
            show ((Txt.join "" (ws.map one)).cps ++ (one (99 + j)).cps).toList = _
            rw [Array.toList_append, e1]
            rfl
    · subst_vars
      rintro σ H1 ⟨⟨u, v, x, rfl⟩, b1, p1, ys, eb, ly, hy⟩
      have nms := Nms.of hy (by omega)
      walk_at "rd"
      refine ⟨r, b, _, rfl, eb, br, by rw [List.length_map]; omega, p1, fun p zs H2 pm ep np b2 p2 => ?_⟩
      obtain ⟨zs, rfl, pm2⟩ := perm_strs pm
      refine k p zs H2 (nms.perm pm2) (by have := pm2.length_eq; omega) ep ?_ (b1.trans b2) p2
      exact b1.free np (p1.ne np)
end
end My
end
section

namespace My
open PySem L2 PySem.Spec PyProof.Rows
section
variable {K : PySem.W.Frag} {g : TG} {te td : TE} {vs : List Nat} {σ : L2.St} {H : Hp} {Q : VK}
/-- [e for y in ys], ys texts, the values no new things -/
theorem strs_lc {a D : Addr} {ys : List Str} {H1 : Hp} {Qd : Hp → Prop} (f : Str → V) (e0 : SqL K H1 a (ys.map V.str)) (nD : H1 D = none) (hl : ys.length < 1000)
    (hs : ∀ (y : Str) (H' : Hp) (R : VK) (F : Hp → Prop), y ∈ ys → L2.Same H1 H' → H' D ≠ none → (∀ H5, L2.Same H' H5 → R (f y) H5) →
      g (.str y) (wipe σ vs) H' fun σ2 H2 => wipe σ2 vs = wipe σ vs ∧ tYes σ2 H2 fun b H3 => if b = true then te σ2 H3 R else F H3)
    (hQ : ∀ H', L2.Same H1 H' → H' D = some (.lst (ys.map f)) → Qd H') :
    ∃ W : Nat → Nat → Hp → Prop, (∃ m, W 0 m (L2.upd H1 D (.lst []))) ∧ ∀ i m H, W i m H →
      ((Itl K a).stop i H ∧ Qd H) ∨ ((Itl K a).go i H ∧ ∃ Nx : Hp → Prop, (∀ H', Nx H' → ∃ m', m' < m ∧ W (i + 1) m' H') ∧ ∀ x H', (Itl K a).yld i H x H' → g x (wipe σ vs) H' fun σ2 H2 => wipe σ2 vs = wipe σ vs ∧ tYes σ2 H2 fun b H3 =>
        if b = true then te σ2 H3 fun y H4 => ∃ acc, H4 D = some (.lst acc) ∧ acc.length < sizeLine ∧ Nx (L2.upd H4 D (.lst (acc ++ [y]))) else Nx H3) := by
  refine list_lcW (fun i v _ => ys[i]?.map f = some v) e0 nD (by rw [List.length_map]; exact hl) (fun _ _ _ _ _ h => h) (fun i x H' R F h1 h2 h3 h7 => ?_) (fun H' zs h2 h3 h4 h5 => hQ H' h2 ?_)
  · rw [List.getElem?_map] at h1
    cases e : ys[i]? with
    | none => rw [e] at h1; cases h1
    | some y =>
      rw [e] at h1
      have e2 := Option.some.inj h1
      subst e2
      exact hs y H' R F (List.mem_of_getElem? e) h2 h3 fun H5 s5 => h7 _ H5 s5 (by rw [e]; rfl)
  · rw [h3]
    congr 2
    rw [List.length_map] at h4
    refine List.ext_getElem (by rw [List.length_map, h4]) fun i hi hj => ?_
    have := h5 i zs[i] (List.getElem?_eq_getElem hi)
    rw [List.getElem?_eq_getElem (by omega)] at this
    rw [List.getElem_map]
    exact (Option.some.inj this).symm
/-- a list of new pairs, text and int -/
inductive Tups (H : Hp) : List V → List (Str × Int) → Prop
  | nil : Tups H [] []
  | cons {p : Addr} {x : Str × Int} {vs : List V} {d : List (Str × Int)} (h : H p = some (.tup [.str x.1, .int x.2])) (t : Tups H vs d) : Tups H (.ref p :: vs) (x :: d)
theorem Tups.mono {H H' : Hp} {vs : List V} {d : List (Str × Int)} (t : Tups H vs d) (h : ∀ p xs, H p = some (.tup xs) → H' p = some (.tup xs)) : Tups H' vs d := by
  induction t with
  | nil => exact .nil
  | cons e _ ih => exact .cons (h _ _ e) ih
theorem Tups.snoc {H : Hp} {vs : List V} {d : List (Str × Int)} (t : Tups H vs d) {p : Addr} {x : Str × Int} (h : H p = some (.tup [.str x.1, .int x.2])) : Tups H (vs ++ [.ref p]) (d ++ [x]) := by
  induction t with
  | nil => exact .cons h .nil
  | cons e _ ih => exact .cons e ih
theorem Tups.len {H : Hp} {vs : List V} {d : List (Str × Int)} (t : Tups H vs d) : vs.length = d.length := by
  induction t with
  | nil => rfl
  | cons e _ ih => simp [ih]
def PrAt (H : Hp) (a : Addr) (d : List (Str × Int)) : Prop := ∃ vs, H a = some (.lst vs) ∧ Tups H vs d
theorem PrAt.same {H H' : Hp} {a : Addr} {d : List (Str × Int)} (h : PrAt H a d) (s : L2.Same H H') : PrAt H' a d := by
  obtain ⟨vs, e, t⟩ := h
  exact ⟨vs, s _ _ e, t.mono fun p xs e => s _ _ e⟩
/-- [(k, e) for k in d] -/
theorem lock_prs {d : List (Str × Int)} {q : Addr} (f : Str × Int → Int) (hq : H q = some (.dK (dk d))) (hl : d.length < 1000)
    (ht : ∀ (H' : Hp) (R : VK), (∀ x, x ≠ q → H' x = H x) → R (.ref q) H' → td σ H' R)
    (hs : ∀ (od : Obj) (D : Addr) (i : Nat) (p : Str × Int) (H' : Hp) (R : VK) (F : Hp → Prop), d[i]? = some p → H D = none → D ≠ q → H' q = some (.frz od (.dK (dk d))) → (∀ x o, x ≠ q → H x = some o → H' x = some o) → H' D ≠ none →
      (∀ H5 p5, L2.Same H' H5 → H5 p5 = none → R (.ref p5) (L2.upd H5 p5 (.tup [.str p.1, .int (f p)]))) → g (.str p.1) (wipe σ vs) H' fun σ2 H2 => wipe σ2 vs = wipe σ vs ∧ tYes σ2 H2 fun b H3 => if b = true then te σ2 H3 R else F H3)
    (hQ : ∀ D H', H D = none → L2.Same H H' → PrAt H' D (d.map fun p => (p.1, f p)) → Q (.ref D) H') : tLockE (tLc (iKeys td) g tYes te vs) σ H Q := by
  refine ⟨q, _, hq, True.intro, fun od => ?_⟩
  refine s_lc ?_
  refine ht _ _ (fun x e => upd_ne e) ?_
  refine ⟨q, od, rfl, .inl ⟨_, upd_same, fun D nD => ?_⟩⟩
  have hDq : D ≠ q := fun e => by
    rw [e, upd_same] at nD
    cases nD
  have nD0 : H D = none := by
    rw [upd_ne hDq] at nD
    exact nD
  have xD : ∀ x o, H x = some o → x ≠ D := fun x o e z => by
    rw [z, nD0] at e
    cases e
  refine L2.lc_it walk_keys (fun i H' => H' q = some (.frz od (.dK (dk d))) ∧ (∀ x o, x ≠ q → H x = some o → H' x = some o) ∧ PrAt H' D ((d.map fun p => (p.1, f p)).take i)) ?_ (fun _ _ _ h => h.1) ?_ ?_
  · exact ⟨(upd_ne hDq.symm).trans upd_same, fun x o hx e => (upd_ne (xD x o e)).trans ((upd_ne hx).trans e), [], upd_same, .nil⟩
  · rintro i x H1 H2 hi ⟨h1, h2, zs, hD, tz⟩ ⟨rfl, k, v, hk, rfl⟩
    obtain ⟨p, hp, rfl⟩ := dk_at hk
    refine hs od D i p H2 _ _ hp nD0 hDq h1 h2 (by rw [hD]; simp) (fun H5 p5 s5 n5 => ?_)
    have hD5 := s5 _ _ hD
    have h15 := s5 _ _ h1
    have nDp : D ≠ p5 := ne_of_none hD5 n5
    have nqp : q ≠ p5 := ne_of_none h15 n5
    refine ⟨zs, (upd_ne nDp).trans hD5, ?_, (upd_ne hDq.symm).trans ((upd_ne nqp).trans h15), fun x o hx e => ?_, zs ++ [.ref p5], upd_same, ?_⟩
    · rw [tz.len, List.length_take, sizeLine_eq, List.length_map]
      omega
    · have e5 := s5 _ _ (h2 x o hx e)
      exact (upd_ne (xD x o e)).trans ((upd_ne (ne_of_none e5 n5)).trans e5)
    · rw [List.take_add_one, List.getElem?_map, hp]
      have up : ∀ c xs, H2 c = some (.tup xs) → (L2.upd (L2.upd H5 p5 (.tup [.str p.1, .int (f p)])) D (.lst (zs ++ [.ref p5]))) c = some (.tup xs) := fun c xs e => by
        have e5 := s5 _ _ e
        have cD : c ≠ D := ne_of e hD (by intro z; cases z)
        exact (upd_ne cD).trans ((upd_ne (ne_of_none e5 n5)).trans e5)
      exact (tz.mono up).snoc (x := (p.1, f p)) ((upd_ne nDp.symm).trans upd_same)
  · rintro H1 ⟨h1, h2, zs, hD, tz⟩
    rw [dk_length, List.take_of_length_le (by rw [List.length_map]; exact Nat.le_refl _)] at tz
    refine ⟨h1, hQ D _ nD0 (fun x o e => ?_) ⟨zs, (upd_ne hDq).trans hD, tz.mono fun c xs e => ?_⟩⟩
    · by_cases hx : x = q
      · subst hx
        rw [upd_same, ← hq]
        exact e
      · exact (upd_ne hx).trans (h2 x o hx e)
    · have cq : c ≠ q := ne_of e h1 (by intro z; cases z)
      exact (upd_ne cq).trans e
/-- [(y, e) for y in ys] while the pot at r changes (or nothing at all) -/
theorem strs_prs {a D : Addr} {ys : List Str} {H1 : Hp} {Qd : Hp → Prop} (I : Hp → Prop) (Pz : Str → Int → Prop) (h0 : I (L2.upd H1 D (.lst []))) (e0 : ∀ H', I H' → SqL K H' a (ys.map V.str)) (hl : ys.length < 1000)
    (hU : ∀ H' o, I H' → I (L2.upd H' D o)) (hN : ∀ H' p o, I H' → H' p = none → I (L2.upd H' p o))
    (hs : ∀ (y : Str) (H' : Hp) (R : VK) (F : Hp → Prop), y ∈ ys → I H' → H' D ≠ none → (∀ H5 n p5, I H5 → (∀ c o, (∀ xs, o ≠ .tup xs) → c = D → H' c = some o → H5 c = some o) → (∀ c xs, H' c = some (.tup xs) → H5 c = some (.tup xs)) → Pz y n → H5 p5 = none → R (.ref p5) (L2.upd H5 p5 (.tup [.str y, .int n]))) →
      g (.str y) (wipe σ vs) H' fun σ2 H2 => wipe σ2 vs = wipe σ vs ∧ tYes σ2 H2 fun b H3 => if b = true then te σ2 H3 R else F H3)
    (hQ : ∀ H' d, I H' → d.map (·.1) = ys → (∀ p ∈ d, Pz p.1 p.2) → PrAt H' D d → Qd H') :
    ∃ W : Nat → Nat → Hp → Prop, (∃ m, W 0 m (L2.upd H1 D (.lst []))) ∧ ∀ i m H, W i m H →
      ((Itl K a).stop i H ∧ Qd H) ∨ ((Itl K a).go i H ∧ ∃ Nx : Hp → Prop, (∀ H', Nx H' → ∃ m', m' < m ∧ W (i + 1) m' H') ∧ ∀ x H', (Itl K a).yld i H x H' → g x (wipe σ vs) H' fun σ2 H2 => wipe σ2 vs = wipe σ vs ∧ tYes σ2 H2 fun b H3 =>
        if b = true then te σ2 H3 fun y H4 => ∃ acc, H4 D = some (.lst acc) ∧ acc.length < sizeLine ∧ Nx (L2.upd H4 D (.lst (acc ++ [y]))) else Nx H3) := by
  refine L2.lc_it (walk_list (xs := ys.map V.str)) (fun i H' => I H' ∧ ∃ d : List (Str × Int), d.map (·.1) = ys.take i ∧ (∀ p ∈ d, Pz p.1 p.2) ∧ PrAt H' D d) ⟨h0, [], rfl, fun p h => by (cases h), [], upd_same, .nil⟩ (fun _ _ _ h => e0 _ h.1) ?_ ?_
  · rintro i x H0 H2 hi ⟨hI, d, hd, hz, zs, hD, tz⟩ ⟨rfl, hx⟩
    rw [List.getElem?_map] at hx
    cases ey : ys[i]? with
    | none => rw [ey] at hx; cases hx
    | some y =>
      rw [ey] at hx
      cases hx
      refine hs y H2 _ _ (List.mem_of_getElem? ey) hI (by rw [hD]; simp) (fun H5 n p5 I5 k5 t5 z5 n5 => ?_)
      have hD5 := k5 D _ (fun xs z => by cases z) rfl hD
      have nDp : D ≠ p5 := ne_of_none hD5 n5
      refine ⟨zs, (upd_ne nDp).trans hD5, ?_, hU _ _ (hN _ _ _ I5 n5), d ++ [(y, n)], ?_, ?_, zs ++ [.ref p5], upd_same, ?_⟩
      · have := congrArg List.length hd
        rw [List.length_map, List.length_take] at this
        rw [tz.len, sizeLine_eq]
        omega
      · rw [List.map_append, hd, List.take_add_one, ey]
        rfl
      · intro p hp
        rcases List.mem_append.mp hp with z | z
        · exact hz p z
        · rw [List.mem_singleton.mp z]
          exact z5
      · have up : ∀ c xs, H2 c = some (.tup xs) → (L2.upd (L2.upd H5 p5 (.tup [.str y, .int n])) D (.lst (zs ++ [.ref p5]))) c = some (.tup xs) := fun c xs e => by
          have e5 := t5 _ _ e
          have cD : c ≠ D := ne_of e hD (by intro z; cases z)
          exact (upd_ne cD).trans ((upd_ne (ne_of_none e5 n5)).trans e5)
        exact (tz.mono up).snoc (x := (y, n)) ((upd_ne nDp.symm).trans upd_same)
  · rintro H0 ⟨hI, d, hd, hz, hp⟩
    rw [List.length_map, List.take_length] at hd
    exact hQ H0 d hI hd hz hp
/-- .. nothing changes -/
theorem strs_prsF {a D : Addr} {ys : List Str} {H1 : Hp} {Qd : Hp → Prop} (f : Str → Int) (e0 : SqL K H1 a (ys.map V.str)) (nD : H1 D = none) (hl : ys.length < 1000)
    (hs : ∀ (y : Str) (H' : Hp) (R : VK) (F : Hp → Prop), y ∈ ys → L2.Same H1 H' → H' D ≠ none → (∀ H5 p5, L2.Same H' H5 → H5 p5 = none → R (.ref p5) (L2.upd H5 p5 (.tup [.str y, .int (f y)]))) →
      g (.str y) (wipe σ vs) H' fun σ2 H2 => wipe σ2 vs = wipe σ vs ∧ tYes σ2 H2 fun b H3 => if b = true then te σ2 H3 R else F H3)
    (hQ : ∀ H', L2.Same H1 H' → PrAt H' D (ys.map fun y => (y, f y)) → Qd H') :
    ∃ W : Nat → Nat → Hp → Prop, (∃ m, W 0 m (L2.upd H1 D (.lst []))) ∧ ∀ i m H, W i m H →
      ((Itl K a).stop i H ∧ Qd H) ∨ ((Itl K a).go i H ∧ ∃ Nx : Hp → Prop, (∀ H', Nx H' → ∃ m', m' < m ∧ W (i + 1) m' H') ∧ ∀ x H', (Itl K a).yld i H x H' → g x (wipe σ vs) H' fun σ2 H2 => wipe σ2 vs = wipe σ vs ∧ tYes σ2 H2 fun b H3 =>
        if b = true then te σ2 H3 fun y H4 => ∃ acc, H4 D = some (.lst acc) ∧ acc.length < sizeLine ∧ Nx (L2.upd H4 D (.lst (acc ++ [y]))) else Nx H3) := by
  refine strs_prs (fun H' => L2.Same H1 H') (fun y n => n = f y) (My.Same.new nD) (fun H' s => s.seq e0) hl (fun H' o s => My.Same.at_ nD s) (fun H' p o s np => My.Same.tr s (My.Same.new np)) ?_ ?_
  · intro y H' R F hy s nD' k
    exact hs y H' R F hy s nD' fun H5 p5 s5 n5 => k H5 _ p5 (My.Same.tr s s5) (fun c o _ _ e => s5 _ _ e) (fun c xs e => s5 _ _ e) rfl n5
  · intro H' d s hd hz hp
    refine hQ H' s ?_
    have e : (ys.map fun y => (y, f y)) = d := by
      rw [← hd, List.map_map]
      have : ∀ p ∈ d, ((fun y => (y, f y)) ∘ fun x : Str × Int => x.1) p = p := fun p hp => by
        show (p.1, f p.1) = p
        rw [← hz p hp]
      rw [List.map_congr_left this, List.map_id']
    rw [e]
    exact hp
end
/-! ### such a list as a dict, compared -/
theorem tups_paired {K : PySem.W.Frag} {H : Hp} {vs : List V} {d : List (Str × Int)} (t : Tups H vs d) : ∃ ps : List Addr, vs = ps.map V.ref ∧ Paired (fun p kv => SqT K H p [kV kv.1, kv.2]) ps (dk d) := by
  induction t with
  | nil => exact ⟨[], rfl, .nil⟩
  | @cons p x vs d e _ ih =>
    obtain ⟨ps, rfl, h⟩ := ih
    exact ⟨p :: ps, rfl, .cons (SqT.of e) h⟩
theorem s_dictP {K : PySem.W.Frag} {H : Hp} {Q : VK} {a : Addr} {d : List (Str × Int)} (h : PrAt H a d) (nd : (d.map (·.1)).Nodup) (q : ∀ p, H p = none → Q (.ref p) (L2.upd H p (.dK (dk d)))) :
    ∃ (b : Addr) (ps : List Addr) (kvs : List (Key × V)), [V.ref a] = [.ref b] ∧ SqL K H b (ps.map V.ref) ∧ Paired (fun p kv => SqT K H p [kV kv.1, kv.2]) ps kvs ∧ ∀ p, H p = none → Q (.ref p) (L2.upd H p (.dK (mergeK [] kvs))) := by
  obtain ⟨vs, e, t⟩ := h
  obtain ⟨ps, rfl, h⟩ := tups_paired (K := K) t
  refine ⟨a, ps, dk d, rfl, SqL.of e, h, fun p np => ?_⟩
  rw [show mergeK [] (dk d) = dk d from merge_dk d [] nd]
  exact q p np
def prD (x : Str × Int) : PyData := .tuple [.str x.1, .int x.2]
theorem tups_dp {K : PySem.W.Frag} {H : Hp} {vs : List V} {d : List (Str × Int)} (t : Tups H vs d) : DpAll K H vs (d.map prD) := by
  induction t with
  | nil => exact .nil
  | cons e _ ih => exact .cons (.tup (SqT.of e) (.cons (.str _) (.cons (.int _) .nil))) ih
theorem prs_eqv : ∀ d : List (Str × Int), PyData.eqvAll (d.map prD) (d.map prD) = true
  | [] => by simp [PyData.eqvAll]
  | x :: r => by
    simp only [List.map_cons, PyData.eqvAll, prs_eqv r, Bool.and_true]
    simp [prD, PyData.eqv, PyData.eqvAll]
theorem prs_shaped {d : List (Str × Int)} (h : ∀ p ∈ d, nameB p.1 = true) : SeqAt.shaped (.list (d.map prD)) = true := by
  have h1 : ∀ {d : List (Str × Int)}, (∀ p ∈ d, nameB p.1 = true) → PyData.canLayAll0 (d.map prD) = true := by
    intro d
    induction d with
    | nil => intro _; rfl
    | cons x r ih =>
      intro h
      show ((PyData.strOk x.1 && (true && true)) && PyData.canLayAll0 (r.map prD)) = true
      rw [name_ok (h x List.mem_cons_self), ih fun p hp => h p (List.mem_cons_of_mem _ hp)]
      rfl
  have h2 : ∀ d : List (Str × Int), PyData.depthAll (d.map prD) ≤ 2 := by
    intro d
    induction d with
    | nil => simp [PyData.depthAll]
    | cons x r ih =>
      simp [PyData.depthAll, PyData.depth, prD] at ih ⊢
      omega
  have h3 := h2 d
  unfold SeqAt.shaped
  rw [show (PyData.list (d.map prD)).canLay0 = PyData.canLayAll0 (d.map prD) from rfl, h1 h]
  simp [PyData.depth]
  omega
theorem s_nePrs {K : PySem.W.Frag} {H : Hp} {Q : VK} {a b : Addr} {d : List (Str × Int)} (n : ∀ p ∈ d, nameB p.1 = true) (h1 : PrAt H a d) (h2 : PrAt H b d) (q : Q (.bl false) H) : rNeD K (.ref a) (.ref b) H Q := by
  obtain ⟨v1, e1, t1⟩ := h1
  obtain ⟨v2, e2, t2⟩ := h2
  refine ⟨_, _, .lst (SqL.of e1) (tups_dp t1), .lst (SqL.of e2) (tups_dp t2), prs_shaped n, prs_shaped n, ?_⟩
  rw [show PyData.eqv (.list (d.map prD)) (.list (d.map prD)) = true from prs_eqv d]
  exact q
theorem dp_ints {K : PySem.W.Frag} {H : Hp} : ∀ ns : List Int, DpAll K H (ns.map V.int) (ns.map PyData.int)
  | [] => .nil
  | n :: r => .cons (.int n) (dp_ints r)
theorem ints_eqv : ∀ ns : List Int, PyData.eqvAll (ns.map PyData.int) (ns.map PyData.int) = true
  | [] => by simp [PyData.eqvAll]
  | n :: r => by simp [PyData.eqvAll, PyData.eqv, ints_eqv r]
theorem ints_shaped (ns : List Int) : SeqAt.shaped (.list (ns.map PyData.int)) = true := by
  have h1 : ∀ ns : List Int, PyData.canLayAll0 (ns.map PyData.int) = true := by
    intro ns
    induction ns with
    | nil => rfl
    | cons x r ih => exact ih
  have h2 : ∀ ns : List Int, PyData.depthAll (ns.map PyData.int) ≤ 1 := by
    intro ns
    induction ns with
    | nil => simp [PyData.depthAll]
    | cons x r ih =>
      simp [PyData.depthAll, PyData.depth] at ih ⊢
      exact ih
  have h3 := h2 ns
  unfold SeqAt.shaped
  rw [show (PyData.list (ns.map PyData.int)).canLay0 = PyData.canLayAll0 (ns.map PyData.int) from rfl, h1]
  simp [PyData.depth]
  omega
theorem s_neInts {K : PySem.W.Frag} {H : Hp} {Q : VK} {a b : Addr} {ns : List Int} (h1 : H a = some (.lst (ns.map V.int))) (h2 : H b = some (.lst (ns.map V.int))) (q : Q (.bl false) H) : rNeD K (.ref a) (.ref b) H Q := by
  refine ⟨_, _, .lst (SqL.of h1) (dp_ints ns), .lst (SqL.of h2) (dp_ints ns), ints_shaped ns, ints_shaped ns, ?_⟩
  rw [show PyData.eqv (.list (ns.map PyData.int)) (.list (ns.map PyData.int)) = true from ints_eqv ns]
  exact q
end My
end
section

open My L2 PySem
open My L2 PySem
local macro_rules | `(tactic| walk_at "as") => `(tactic| with_reducible assumption)
local macro_rules | `(tactic| walk_at "hp") => `(tactic| first
  | walk_at "as" | exact upd_same
  | (rw [upd_ne (by walk_at "ne")]; walk_at "hp")
  | (refine But.get (by walk_at "as") ?hp1 ?hp2; (case hp1 => walk_at "hp"); (case hp2 => walk_at "ne"))
  | (refine My.Same.get (by walk_at "as") ?hp1; (case hp1 => walk_at "hp")))
local macro_rules | `(tactic| walk_at "ne") => `(tactic| first
  | walk_at "as" | exact Ne.symm (by walk_at "as")
  | (refine' ne_of_none ?ne1 ?ne2; (case ne2 => walk_at "as"); (case ne1 => walk_at "hp"))
  | (refine' Ne.symm (ne_of_none ?ne1 ?ne2); (case ne2 => walk_at "as"); (case ne1 => walk_at "hp"))
  | exact ne_of (by walk_at "hp") (by walk_at "hp") (by intro z; cases z))
local macro_rules | `(tactic| walk_at "sd") => `(tactic| first
  | walk_at "as" | omega | decide | exact ⟨by omega, by omega⟩ | exact .inl ⟨by omega, by omega⟩ | exact .inr ⟨by omega, by omega⟩ | exact divp_wide (by walk_at "as") (by walk_at "as") | exact Sm.cmul (by walk_at "as") (by walk_at "as") | exact cmul_small (by omega) (by omega) (by omega) (by omega) | exact ⟨by omega, by decide⟩)
local macro_rules | `(tactic| walk_at "bt") => `(tactic| first
  | walk_at "as" | exact But.refl _ _ | exact Same.but (by walk_at "as")
  | (refine But.trans ?bt1 But.at; (case bt1 => walk_at "bt"))
  | (refine But.trans ?bt1 (But.new (by first | walk_at "as" | walk_at "hp")); (case bt1 => walk_at "bt"))
  | (refine But.trans ?bt1 (by walk_at "as"); (case bt1 => walk_at "bt"))
  | (refine But.trans ?bt1 (Same.but (by walk_at "as")); (case bt1 => walk_at "bt")))
local macro_rules | `(tactic| walk_at "sm") => `(tactic| first
  | walk_at "as" | exact My.Same.rfl' _
  | (refine' My.Same.at_ ?sm1 ?sm2; (case sm1 => walk_at "as"); (case sm2 => walk_at "sm"))
  | (refine' My.Same.tr ?sm1 (My.Same.new ?sm2); (case sm2 => walk_at "as"); (case sm1 => walk_at "sm"))
  | (refine' My.Same.tr ?sm1 ?sm2; (case sm2 => walk_at "as"); (case sm1 => walk_at "sm")))
local macro_rules | `(tactic| walk_at "sz") => `(tactic| first
  | assumption | exact lt_size (by rfl) | exact le_size (by rfl) | (rw [sizeLine_eq]; omega)
  | (rw [sizeLine_eq]; simp only [List.length_append, List.length_map, List.length_cons, List.length_nil]; omega))
local macro_rules | `(tactic| walk_at "few") => `(tactic| (repeat refine few_put ?_); exact few0)
local macro_rules | `(tactic| walk_at "rd1") => `(tactic| first
  | (with_reducible show tVar _ _ _ _); refine s_var rfl ?_
  | with_reducible refine s_c ?_ | with_reducible refine s_op ?_ | with_reducible refine s_un ?_
  | with_reducible refine s_cons ?_ | with_reducible refine s_nil ?_ | with_reducible refine s_cb ?_
  | with_reducible refine s_test ?_ | with_reducible refine s_B ?_ | with_reducible refine s_not ?_ | with_reducible refine s_and ?_ | with_reducible refine s_or ?_
  | with_reducible refine s_if ?_ | with_reducible refine s_notV ?_ | with_reducible refine s_andV ?_ | with_reducible refine s_orV ?_
  | with_reducible refine s_orT ?_ | with_reducible refine s_andT ?_ | with_reducible refine s_chain ?_
  | with_reducible refine s_isi_int ?_ | with_reducible refine s_isi_int_bool ?_ | with_reducible refine s_isi_str ?_
  | with_reducible refine iteT ?_ | with_reducible refine iteF ?_ | with_reducible refine iteNT ?_ | with_reducible refine iteNF ?_
  | with_reducible refine s_isN ?_ | with_reducible refine s_notN ?_
  | ((with_reducible refine' s_2setE ?g1 ?_); (case g1 => first | (dsimp only [List.set, L2.wipe, List.map, List.foldl]; done) | (dsimp only [List.set, L2.wipe, List.map, List.foldl]; rfl)))
  | with_reducible refine s_seq ?_ | with_reducible refine s_ifS ?_ | with_reducible refine s_asg ?_ | with_reducible refine s_ret ?_ | with_reducible refine s_drop ?_ | with_reducible refine s_next ?_
  | ((with_reducible refine' s_gnameE ?g1 ?_); (case g1 => first | (dsimp only [List.set, L2.wipe, List.map, List.foldl]; done) | (dsimp only [List.set, L2.wipe, List.map, List.foldl]; rfl)))
  | with_reducible refine s_gsub ?_ | with_reducible refine s_gcons ?_ | with_reducible refine s_gnil ?_
  | (with_reducible show gTup _ _ _ _ _ _ _); refine s_gtup (by walk_at "hp") rfl ?_
  | with_reducible refine s_eqI ?_ | with_reducible refine s_neI ?_ | with_reducible refine s_eqS ?_ | with_reducible refine s_neB ?_ | with_reducible refine s_eqB ?_ | with_reducible refine s_neSr ?_ | with_reducible refine s_neS ?_
  | with_reducible refine s_I0 ?_
  | (with_reducible show rI _ _ _ _ _ _); refine s_I (by walk_at "sd") ?_
  | (with_reducible show rIxL _ _ _ _ _); refine s_ixL (by walk_at "hp") rfl ?_
  | (with_reducible show rIxT _ _ _ _ _); refine s_ixT (by walk_at "hp") rfl ?_
  | (with_reducible show rSetL _ _ _ _ _); refine s_setL (by walk_at "hp") rfl ?_
  | with_reducible refine s_prop ?_
  | (with_reducible show _ ≤ sizeLine ∧ _); refine ⟨le_size (by rfl), ?_⟩
  | with_reducible refine ite_NN ?_ | with_reducible refine ite_IN ?_ | with_reducible refine ite_nNN ?_ | with_reducible refine ite_nIN ?_ | with_reducible refine ite_RN ?_ | with_reducible refine ite_nRN ?_
  | with_reducible refine s_sfld ?_
  | ((with_reducible refine' ⟨_, _, _, _, rfl, ?fp1, ?fp2, ?fp3, ?fp4, ?_⟩); (case fp1 => walk_at "hp"); (case fp2 => assumption); (case fp3 => assumption); (case fp4 => walk_at "few"))
  | with_reducible refine s_fldE ?_
  | ((with_reducible refine' ⟨_, _, _, _, _, rfl, ?fp1, ?fp2, ?fp3, ?fp4, ?_⟩); (case fp1 => walk_at "hp"); (case fp2 => assumption); (case fp3 => assumption); (case fp4 => rfl))
  | with_reducible refine s_bm ?_ | with_reducible refine s_bm0 ?_
  | ((with_reducible refine' s_tyL ?ty1 ?_); (case ty1 => walk_at "hp"))
  | ((with_reducible refine' s_append ?ap1 ?ap2 ?_); (case ap1 => walk_at "hp"); (case ap2 => walk_at "sz"))
  | ((with_reducible refine' s_extend ?ap1 ?ap2 ?ap3 ?_); (case ap1 => walk_at "hp"); (case ap2 => walk_at "hp"); (case ap3 => walk_at "sz"))
  | with_reducible refine s_for (fun _ _ => ?_) | with_reducible refine s_lc ?_ | with_reducible refine s_iList ?_ | with_reducible refine s_iTup ?_ | with_reducible refine s_iRng1 ?_ | with_reducible refine s_iRng2 ?_
  | with_reducible refine s_yes ?_ | with_reducible refine s_par ?_
  | with_reducible refine s_make ?_ | with_reducible refine s_meth ?_
  | with_reducible refine s_tup ?_ | with_reducible refine s_lst ?_ | with_reducible refine s_call ?_
  | with_reducible refine ⟨rfl, ?_⟩
  | with_reducible refine ⟨_, rfl, ?_⟩
  | ((with_reducible refine' ⟨_, _, rfl, ?sd1, ?_⟩); (case sd1 => walk_at "sd"))
  | with_reducible refine ⟨_, _, rfl, ?_⟩
  | with_reducible refine .inl ⟨_, rfl, ?_⟩
  | dsimp only [List.set]
  | walk_at "rdx"
  | (refine fun _ _ => ?_))
local macro_rules | `(tactic| walk_at "rd") => `(tactic| repeat (first
  | (with_reducible show tVar _ _ _ _); refine s_var rfl ?_
  | with_reducible refine s_c ?_ | with_reducible refine s_op ?_ | with_reducible refine s_un ?_
  | with_reducible refine s_cons ?_ | with_reducible refine s_nil ?_ | with_reducible refine s_cb ?_
  | with_reducible refine s_test ?_ | with_reducible refine s_B ?_ | with_reducible refine s_not ?_ | with_reducible refine s_and ?_ | with_reducible refine s_or ?_
  | with_reducible refine s_if ?_ | with_reducible refine s_notV ?_ | with_reducible refine s_andV ?_ | with_reducible refine s_orV ?_
  | with_reducible refine s_orT ?_ | with_reducible refine s_andT ?_ | with_reducible refine s_chain ?_
  | with_reducible refine s_isi_int ?_ | with_reducible refine s_isi_int_bool ?_ | with_reducible refine s_isi_str ?_
  | with_reducible refine iteT ?_ | with_reducible refine iteF ?_ | with_reducible refine iteNT ?_ | with_reducible refine iteNF ?_
  | with_reducible refine s_isN ?_ | with_reducible refine s_notN ?_
  | ((with_reducible refine' s_2setE ?g1 ?_); (case g1 => first | (dsimp only [List.set, L2.wipe, List.map, List.foldl]; done) | (dsimp only [List.set, L2.wipe, List.map, List.foldl]; rfl)))
  | with_reducible refine s_seq ?_ | with_reducible refine s_ifS ?_ | with_reducible refine s_asg ?_ | with_reducible refine s_ret ?_ | with_reducible refine s_drop ?_ | with_reducible refine s_next ?_
  | ((with_reducible refine' s_gnameE ?g1 ?_); (case g1 => first | (dsimp only [List.set, L2.wipe, List.map, List.foldl]; done) | (dsimp only [List.set, L2.wipe, List.map, List.foldl]; rfl)))
  | with_reducible refine s_gsub ?_ | with_reducible refine s_gcons ?_ | with_reducible refine s_gnil ?_
  | (with_reducible show gTup _ _ _ _ _ _ _); refine s_gtup (by walk_at "hp") rfl ?_
  | with_reducible refine s_eqI ?_ | with_reducible refine s_neI ?_ | with_reducible refine s_eqS ?_ | with_reducible refine s_neB ?_ | with_reducible refine s_eqB ?_ | with_reducible refine s_neSr ?_ | with_reducible refine s_neS ?_
  | with_reducible refine s_I0 ?_
  | (with_reducible show rI _ _ _ _ _ _); refine s_I (by walk_at "sd") ?_
  | (with_reducible show rIxL _ _ _ _ _); refine s_ixL (by walk_at "hp") rfl ?_
  | (with_reducible show rIxT _ _ _ _ _); refine s_ixT (by walk_at "hp") rfl ?_
  | (with_reducible show rSetL _ _ _ _ _); refine s_setL (by walk_at "hp") rfl ?_
  | with_reducible refine s_prop ?_
  | (with_reducible show _ ≤ sizeLine ∧ _); refine ⟨le_size (by rfl), ?_⟩
  | with_reducible refine ite_NN ?_ | with_reducible refine ite_IN ?_ | with_reducible refine ite_nNN ?_ | with_reducible refine ite_nIN ?_ | with_reducible refine ite_RN ?_ | with_reducible refine ite_nRN ?_
  | with_reducible refine s_sfld ?_
  | ((with_reducible refine' ⟨_, _, _, _, rfl, ?fp1, ?fp2, ?fp3, ?fp4, ?_⟩); (case fp1 => walk_at "hp"); (case fp2 => assumption); (case fp3 => assumption); (case fp4 => walk_at "few"))
  | with_reducible refine s_fldE ?_
  | ((with_reducible refine' ⟨_, _, _, _, _, rfl, ?fp1, ?fp2, ?fp3, ?fp4, ?_⟩); (case fp1 => walk_at "hp"); (case fp2 => assumption); (case fp3 => assumption); (case fp4 => rfl))
  | with_reducible refine s_bm ?_ | with_reducible refine s_bm0 ?_
  | ((with_reducible refine' s_tyL ?ty1 ?_); (case ty1 => walk_at "hp"))
  | ((with_reducible refine' s_append ?ap1 ?ap2 ?_); (case ap1 => walk_at "hp"); (case ap2 => walk_at "sz"))
  | ((with_reducible refine' s_extend ?ap1 ?ap2 ?ap3 ?_); (case ap1 => walk_at "hp"); (case ap2 => walk_at "hp"); (case ap3 => walk_at "sz"))
  | with_reducible refine s_for (fun _ _ => ?_) | with_reducible refine s_lc ?_ | with_reducible refine s_iList ?_ | with_reducible refine s_iTup ?_ | with_reducible refine s_iRng1 ?_ | with_reducible refine s_iRng2 ?_
  | with_reducible refine s_yes ?_ | with_reducible refine s_par ?_
  | with_reducible refine s_make ?_ | with_reducible refine s_meth ?_
  | with_reducible refine s_tup ?_ | with_reducible refine s_lst ?_ | with_reducible refine s_call ?_
  | with_reducible refine ⟨rfl, ?_⟩
  | with_reducible refine ⟨_, rfl, ?_⟩
  | ((with_reducible refine' ⟨_, _, rfl, ?sd1, ?_⟩); (case sd1 => walk_at "sd"))
  | with_reducible refine ⟨_, _, rfl, ?_⟩
  | with_reducible refine .inl ⟨_, rfl, ?_⟩
  | dsimp only [List.set]
  | walk_at "rdx"
  | (refine fun _ _ => ?_)))

namespace My
open PySem L2
section
variable {P : Program} {w : World} {K : PySem.W.Frag} {mg : Str → Option Value} {base : Heap} {C_Sizes : Addr} (M : Md K mg C_Sizes)
include M
local macro_rules | `(tactic| walk_at "rdx") => `(tactic| first
  | with_reducible refine s_tdget ?_ | with_reducible refine s_tdin ?_
  | ((with_reducible refine' s_mcall ?mc1 ?mc2 ?_); (case mc1 => walk_at "hp"); (case mc2 => rfl)))
omit M
theorem s_strkK {K : PySem.W.Frag} {H : Hp} {Q : VK} {w : Str} (n : nameB w = true) (q : Q (.str (reprText w)) H) : rReprD K [V.str w] H Q := s_strk n q
def spText : Sp := fun vs H Q _ => ∃ b d, vs = [.ref b] ∧ H b = some (.dK (dk d)) ∧ GoodD d ∧ ∀ e H', L2.Same H H' → e.Perm d → Srt e → Q (.str (shownD e)) H'
theorem ents_byN (d : List (Str × Int)) (ys : List Str) : ents (byN d ys) = ys.map fun y => reprText y ++ (": " : Str) ++ (toString (lk d y) : String) := by
  unfold ents byN
  rw [List.map_map]
  rfl
theorem lenC : (": " : Str).length = 2 := by decide +kernel
theorem lenK : (", " : Str).length = 2 := by decide +kernel
theorem lenS : ("Sizes({" : Str).length = 7 := by decide +kernel
theorem lenE : ("})" : Str).length = 2 := by decide +kernel
theorem repr_len {w : Str} (n : nameB w = true) : (reprText w).length ≤ 6400 := by
  have h1 := PyData.shown_le_bulk 700 (by decide) (.str w) (by
    have h2 := name_ok n
    unfold PyData.strOk at h2
    simp only [PyData.leavesShort, List.all_eq_true, decide_eq_true_eq]
    intro c hc
    rw [← Array.all_toList, List.all_eq_true] at h2
    have := of_decide_eq_true (h2 c hc)
    have e : (0x110000 : Nat) < 16 ^ 8 := by decide
    exact Nat.lt_trans this e)
  unfold nameB at n
  simp only [Bool.and_eq_true, decide_eq_true_eq] at n
  have h3 : w.length = w.cps.size := rfl
  have h4 : (PyData.str w).bulk = w.cps.size := rfl
  have h5 : (700 + 2) * (PyData.str w).bulk ≤ 702 * 8 := Nat.mul_le_mul (by decide) (by omega)
  have h6 : (PyData.str w).shown = reprText w := rfl
  rw [h6] at h1
  omega
theorem ents_sum {L : List Str} (h : ∀ t ∈ L, t.length ≤ 7100) : (L.map (·.length)).sum ≤ 7100 * L.length := by
  induction L with
  | nil => exact Nat.le_refl _
  | cons t r ih =>
    have h1 := ih fun x hx => h x (List.mem_cons_of_mem _ hx)
    have h2 := h t List.mem_cons_self
    show t.length + (r.map (·.length)).sum ≤ 7100 * (r.length + 1)
    omega
include M
theorem c__law_text : Dn P w K mg base "_law_text" 1 ["_law_held"] [] spText := by
  refine dnN M.f__law_text (fun F => ?_) (fun _ _ _ _ _ _ us hl => match us, hl with | [_], _ => rfl)
  refine fnG_body F sc__law_text (fun vs H Q E h => ?_) (fun cdv A outer s H vs Q E hr h => ?_)
  · obtain ⟨b, d, rfl, _⟩ := h
    rfl
  · obtain ⟨b, d, rfl, hb, gd, k⟩ := h
    refine ⟨_, (pss_one (ps_ret (pe_op op_add_str (pe_op op_add_str pe_str (pe_join pe_str (pe_lc (own := [("_law_word", 1)]) (g := gName 1) (tt := tYes) (by rfl) sc__law_text.nd (pi_list (pe_callB (call_sortedD rfl) (by rfl) M.b_sorted (by decide +kernel) (pa_cons (pv 0) pa_nil))) (blkOk_by (own := [("_law_word", 1)]) (N := N__law_text) (sc := defScope st__law_text) (by decide +kernel)) (fun _ _ _ _ _ => pg_name (i := 1) sc__law_text.nd rfl (by first | exact Or.inl rfl | exact Or.inr rfl)) (fun _ _ _ _ _ => pts_nil) (fun _ _ _ _ _ => (pe_op op_add_str (pe_op op_add_str (pe_callB (call_reprDK (K := K) rfl hr) (by rfl) M.b_repr (by decide +kernel) (pa_cons (pv 1) pa_nil)) pe_str) (pe_callTy call_str_int (by rfl) M.b_str (by decide +kernel) (pa_cons (pe_dget (hug hr) (pv 0) (pv 1) (fun _ _ => rfl)) pa_nil))))))) pe_str))), ?_⟩
    refine st_eq (σ := [some _, none]) rfl ?_
    walk_at "rd"
    refine ⟨⟨_, rfl⟩, ?_⟩
    walk_at "rd"
    have hnl : (names d).length < 64 := by
      unfold names
      rw [List.length_map]
      exact Nat.lt_of_le_of_lt gd.few (by decide)
    refine ⟨b, _, names d, rfl, .inl hb, ?_, hnl, fun ys p hp hsort np => ?_⟩
    · unfold names dk
      rw [List.map_map, List.map_map]
      rfl
    have hl := hp.length_eq
    refine ⟨p, rfl, ⟨_, SqL.of upd_same⟩, fun D nD => ?_⟩
    have nm : ∀ y ∈ ys, nameB y = true := fun y hy => by
      obtain ⟨x, hx, rfl⟩ := List.mem_map.mp (hp.mem_iff.mp hy)
      exact gd.nm x hx
    have hlk : ∀ y ∈ ys, look d y = some (lk d y) ∧ Sm 600 (lk d y) := fun y hy => by
      obtain ⟨i, hi⟩ := look_in (hp.mem_iff.mp hy)
      refine ⟨by unfold lk; rw [hi]; rfl, ?_⟩
      unfold lk
      rw [hi]
      exact gd.sm _ (look_some hi)
    have el : ∀ y ∈ ys, (reprText y ++ (": " : Str) ++ (toString (lk d y) : String)).length ≤ 7100 := fun y hy => by
      have h1 := repr_len (nm y hy)
      have h2 := int_len (hlk y hy).2
      rw [strLen_append, strLen_append, lenC, PyProof.Rows.ofString_len]
      omega
    refine strs_lc (ys := ys) (fun y => .str (reprText y ++ (": " : Str) ++ (toString (lk d y) : String))) (SqL.of upd_same) nD (by omega) ?_ ?_
    · intro y H' R F hy s nD' q
      have hb' := s _ _ ((upd_ne (ne_of_none hb np)).trans hb)
      obtain ⟨h1, h2⟩ := hlk y hy
      have h3 := repr_len (nm y hy)
      have h4 := int_len h2
      walk_at "rd"
      refine s_strkK (nm y hy) ?_
      walk_at "rd"
      refine ⟨_, _, rfl, rfl, by rw [lenC, sizeLine_eq]; omega, ?_⟩
      walk_at "rd"
      refine s_dget (d := d) (.inl hb') h1 ?_
      walk_at "rd"
      refine ⟨by have := h2.log; omega, ?_⟩
      refine ⟨_, _, rfl, rfl, ?_, ?_⟩
      · rw [strLen_append, lenC, PyProof.Rows.ofString_len, sizeLine_eq]
        omega
      exact q _ (L2.Same.refl _)
    · intro H' s hD
      have ee := ents_byN d ys
      have hj : ys.map (fun y => V.str (reprText y ++ (": " : Str) ++ (toString (lk d y) : String))) = (ents (byN d ys)).map V.str := by
        rw [ee, List.map_map]
        rfl
      rw [hj] at hD
      have hs2 : ((ents (byN d ys)).map (·.length)).sum ≤ 7100 * (ents (byN d ys)).length := ents_sum fun t ht => by
        rw [ee] at ht
        obtain ⟨y, hy, rfl⟩ := List.mem_map.mp ht
        exact el y hy
      have hle : (ents (byN d ys)).length ≤ 63 := by
        rw [ee, List.length_map]
        omega
      refine ⟨_, D, ents (byN d ys), rfl, rfl, .inl (SqL.of hD), ?_, ?_⟩
      · rw [lenK]
        omega
      have hjl : (Txt.join ", " (ents (byN d ys))).length ≤ 500000 := by
        rw [show Txt.join ", " (ents (byN d ys)) = Str.join ", " (ents (byN d ys)) from StrLaws.glued_eq_join _ _]
        have := StrLaws.join_length_le ", " (ents (byN d ys))
        rw [lenK] at this
        omega
      refine ⟨_, _, rfl, rfl, by rw [lenS, sizeLine_eq]; omega, ?_⟩
      walk_at "rd"
      refine ⟨_, _, rfl, rfl, by rw [strLen_append, lenS, lenE, sizeLine_eq]; omega, ?_⟩
      rw [text_eq]
      refine k (byN d ys) H' (My.Same.tr (My.Same.new np) s) (byN_perm gd.nd hp) ?_
      unfold Srt
      rw [byN_names]
      exact sorted_pw hsort
end
end My
end
section

open My L2 PySem
open My L2 PySem
local macro_rules | `(tactic| walk_at "as") => `(tactic| with_reducible assumption)
local macro_rules | `(tactic| walk_at "hp") => `(tactic| first
  | walk_at "as" | exact upd_same
  | (rw [upd_ne (by walk_at "ne")]; walk_at "hp")
  | (refine But.get (by walk_at "as") ?hp1 ?hp2; (case hp1 => walk_at "hp"); (case hp2 => walk_at "ne"))
  | (refine My.Same.get (by walk_at "as") ?hp1; (case hp1 => walk_at "hp")))
local macro_rules | `(tactic| walk_at "ne") => `(tactic| first
  | walk_at "as" | exact Ne.symm (by walk_at "as")
  | (refine' ne_of_none ?ne1 ?ne2; (case ne2 => walk_at "as"); (case ne1 => walk_at "hp"))
  | (refine' Ne.symm (ne_of_none ?ne1 ?ne2); (case ne2 => walk_at "as"); (case ne1 => walk_at "hp"))
  | exact ne_of (by walk_at "hp") (by walk_at "hp") (by intro z; cases z))
local macro_rules | `(tactic| walk_at "sd") => `(tactic| first
  | walk_at "as" | omega | decide | exact ⟨by omega, by omega⟩ | exact .inl ⟨by omega, by omega⟩ | exact .inr ⟨by omega, by omega⟩ | exact divp_wide (by walk_at "as") (by walk_at "as") | exact Sm.cmul (by walk_at "as") (by walk_at "as") | exact cmul_small (by omega) (by omega) (by omega) (by omega) | exact ⟨by omega, by decide⟩)
local macro_rules | `(tactic| walk_at "bt") => `(tactic| first
  | walk_at "as" | exact But.refl _ _ | exact Same.but (by walk_at "as")
  | (refine But.trans ?bt1 But.at; (case bt1 => walk_at "bt"))
  | (refine But.trans ?bt1 (But.new (by first | walk_at "as" | walk_at "hp")); (case bt1 => walk_at "bt"))
  | (refine But.trans ?bt1 (by walk_at "as"); (case bt1 => walk_at "bt"))
  | (refine But.trans ?bt1 (Same.but (by walk_at "as")); (case bt1 => walk_at "bt")))
local macro_rules | `(tactic| walk_at "sm") => `(tactic| first
  | walk_at "as" | exact My.Same.rfl' _
  | (refine' My.Same.at_ ?sm1 ?sm2; (case sm1 => walk_at "as"); (case sm2 => walk_at "sm"))
  | (refine' My.Same.tr ?sm1 (My.Same.new ?sm2); (case sm2 => walk_at "as"); (case sm1 => walk_at "sm"))
  | (refine' My.Same.tr ?sm1 ?sm2; (case sm2 => walk_at "as"); (case sm1 => walk_at "sm")))
local macro_rules | `(tactic| walk_at "sz") => `(tactic| first
  | assumption | exact lt_size (by rfl) | exact le_size (by rfl) | (rw [sizeLine_eq]; omega)
  | (rw [sizeLine_eq]; simp only [List.length_append, List.length_map, List.length_cons, List.length_nil]; omega))
local macro_rules | `(tactic| walk_at "few") => `(tactic| (repeat refine few_put ?_); exact few0)
local macro_rules | `(tactic| walk_at "rd1") => `(tactic| first
  | (with_reducible show tVar _ _ _ _); refine s_var rfl ?_
  | with_reducible refine s_c ?_ | with_reducible refine s_op ?_ | with_reducible refine s_un ?_
  | with_reducible refine s_cons ?_ | with_reducible refine s_nil ?_ | with_reducible refine s_cb ?_
  | with_reducible refine s_test ?_ | with_reducible refine s_B ?_ | with_reducible refine s_not ?_ | with_reducible refine s_and ?_ | with_reducible refine s_or ?_
  | with_reducible refine s_if ?_ | with_reducible refine s_notV ?_ | with_reducible refine s_andV ?_ | with_reducible refine s_orV ?_
  | with_reducible refine s_orT ?_ | with_reducible refine s_andT ?_ | with_reducible refine s_chain ?_
  | with_reducible refine s_isi_int ?_ | with_reducible refine s_isi_int_bool ?_ | with_reducible refine s_isi_str ?_
  | with_reducible refine iteT ?_ | with_reducible refine iteF ?_ | with_reducible refine iteNT ?_ | with_reducible refine iteNF ?_
  | with_reducible refine s_isN ?_ | with_reducible refine s_notN ?_
  | ((with_reducible refine' s_2setE ?g1 ?_); (case g1 => first | (dsimp only [List.set, L2.wipe, List.map, List.foldl]; done) | (dsimp only [List.set, L2.wipe, List.map, List.foldl]; rfl)))
  | with_reducible refine s_seq ?_ | with_reducible refine s_ifS ?_ | with_reducible refine s_asg ?_ | with_reducible refine s_ret ?_ | with_reducible refine s_drop ?_ | with_reducible refine s_next ?_
  | ((with_reducible refine' s_gnameE ?g1 ?_); (case g1 => first | (dsimp only [List.set, L2.wipe, List.map, List.foldl]; done) | (dsimp only [List.set, L2.wipe, List.map, List.foldl]; rfl)))
  | with_reducible refine s_gsub ?_ | with_reducible refine s_gcons ?_ | with_reducible refine s_gnil ?_
  | (with_reducible show gTup _ _ _ _ _ _ _); refine s_gtup (by walk_at "hp") rfl ?_
  | with_reducible refine s_eqI ?_ | with_reducible refine s_neI ?_ | with_reducible refine s_eqS ?_ | with_reducible refine s_neB ?_ | with_reducible refine s_eqB ?_ | with_reducible refine s_neSr ?_ | with_reducible refine s_neS ?_
  | with_reducible refine s_I0 ?_
  | (with_reducible show rI _ _ _ _ _ _); refine s_I (by walk_at "sd") ?_
  | (with_reducible show rIxL _ _ _ _ _); refine s_ixL (by walk_at "hp") rfl ?_
  | (with_reducible show rIxT _ _ _ _ _); refine s_ixT (by walk_at "hp") rfl ?_
  | (with_reducible show rSetL _ _ _ _ _); refine s_setL (by walk_at "hp") rfl ?_
  | with_reducible refine s_prop ?_
  | (with_reducible show _ ≤ sizeLine ∧ _); refine ⟨le_size (by rfl), ?_⟩
  | with_reducible refine ite_NN ?_ | with_reducible refine ite_IN ?_ | with_reducible refine ite_nNN ?_ | with_reducible refine ite_nIN ?_ | with_reducible refine ite_RN ?_ | with_reducible refine ite_nRN ?_
  | with_reducible refine s_sfld ?_
  | ((with_reducible refine' ⟨_, _, _, _, rfl, ?fp1, ?fp2, ?fp3, ?fp4, ?_⟩); (case fp1 => walk_at "hp"); (case fp2 => assumption); (case fp3 => assumption); (case fp4 => walk_at "few"))
  | with_reducible refine s_fldE ?_
  | ((with_reducible refine' ⟨_, _, _, _, _, rfl, ?fp1, ?fp2, ?fp3, ?fp4, ?_⟩); (case fp1 => walk_at "hp"); (case fp2 => assumption); (case fp3 => assumption); (case fp4 => rfl))
  | with_reducible refine s_bm ?_ | with_reducible refine s_bm0 ?_
  | ((with_reducible refine' s_tyL ?ty1 ?_); (case ty1 => walk_at "hp"))
  | ((with_reducible refine' s_append ?ap1 ?ap2 ?_); (case ap1 => walk_at "hp"); (case ap2 => walk_at "sz"))
  | ((with_reducible refine' s_extend ?ap1 ?ap2 ?ap3 ?_); (case ap1 => walk_at "hp"); (case ap2 => walk_at "hp"); (case ap3 => walk_at "sz"))
  | with_reducible refine s_for (fun _ _ => ?_) | with_reducible refine s_lc ?_ | with_reducible refine s_iList ?_ | with_reducible refine s_iTup ?_ | with_reducible refine s_iRng1 ?_ | with_reducible refine s_iRng2 ?_
  | with_reducible refine s_yes ?_ | with_reducible refine s_par ?_
  | with_reducible refine s_make ?_ | with_reducible refine s_meth ?_
  | with_reducible refine s_tup ?_ | with_reducible refine s_lst ?_ | with_reducible refine s_call ?_
  | with_reducible refine ⟨rfl, ?_⟩
  | with_reducible refine ⟨_, rfl, ?_⟩
  | ((with_reducible refine' ⟨_, _, rfl, ?sd1, ?_⟩); (case sd1 => walk_at "sd"))
  | with_reducible refine ⟨_, _, rfl, ?_⟩
  | with_reducible refine .inl ⟨_, rfl, ?_⟩
  | dsimp only [List.set]
  | walk_at "rdx"
  | (refine fun _ _ => ?_))
local macro_rules | `(tactic| walk_at "rd") => `(tactic| repeat (first
  | (with_reducible show tVar _ _ _ _); refine s_var rfl ?_
  | with_reducible refine s_c ?_ | with_reducible refine s_op ?_ | with_reducible refine s_un ?_
  | with_reducible refine s_cons ?_ | with_reducible refine s_nil ?_ | with_reducible refine s_cb ?_
  | with_reducible refine s_test ?_ | with_reducible refine s_B ?_ | with_reducible refine s_not ?_ | with_reducible refine s_and ?_ | with_reducible refine s_or ?_
  | with_reducible refine s_if ?_ | with_reducible refine s_notV ?_ | with_reducible refine s_andV ?_ | with_reducible refine s_orV ?_
  | with_reducible refine s_orT ?_ | with_reducible refine s_andT ?_ | with_reducible refine s_chain ?_
  | with_reducible refine s_isi_int ?_ | with_reducible refine s_isi_int_bool ?_ | with_reducible refine s_isi_str ?_
  | with_reducible refine iteT ?_ | with_reducible refine iteF ?_ | with_reducible refine iteNT ?_ | with_reducible refine iteNF ?_
  | with_reducible refine s_isN ?_ | with_reducible refine s_notN ?_
  | ((with_reducible refine' s_2setE ?g1 ?_); (case g1 => first | (dsimp only [List.set, L2.wipe, List.map, List.foldl]; done) | (dsimp only [List.set, L2.wipe, List.map, List.foldl]; rfl)))
  | with_reducible refine s_seq ?_ | with_reducible refine s_ifS ?_ | with_reducible refine s_asg ?_ | with_reducible refine s_ret ?_ | with_reducible refine s_drop ?_ | with_reducible refine s_next ?_
  | ((with_reducible refine' s_gnameE ?g1 ?_); (case g1 => first | (dsimp only [List.set, L2.wipe, List.map, List.foldl]; done) | (dsimp only [List.set, L2.wipe, List.map, List.foldl]; rfl)))
  | with_reducible refine s_gsub ?_ | with_reducible refine s_gcons ?_ | with_reducible refine s_gnil ?_
  | (with_reducible show gTup _ _ _ _ _ _ _); refine s_gtup (by walk_at "hp") rfl ?_
  | with_reducible refine s_eqI ?_ | with_reducible refine s_neI ?_ | with_reducible refine s_eqS ?_ | with_reducible refine s_neB ?_ | with_reducible refine s_eqB ?_ | with_reducible refine s_neSr ?_ | with_reducible refine s_neS ?_
  | with_reducible refine s_I0 ?_
  | (with_reducible show rI _ _ _ _ _ _); refine s_I (by walk_at "sd") ?_
  | (with_reducible show rIxL _ _ _ _ _); refine s_ixL (by walk_at "hp") rfl ?_
  | (with_reducible show rIxT _ _ _ _ _); refine s_ixT (by walk_at "hp") rfl ?_
  | (with_reducible show rSetL _ _ _ _ _); refine s_setL (by walk_at "hp") rfl ?_
  | with_reducible refine s_prop ?_
  | (with_reducible show _ ≤ sizeLine ∧ _); refine ⟨le_size (by rfl), ?_⟩
  | with_reducible refine ite_NN ?_ | with_reducible refine ite_IN ?_ | with_reducible refine ite_nNN ?_ | with_reducible refine ite_nIN ?_ | with_reducible refine ite_RN ?_ | with_reducible refine ite_nRN ?_
  | with_reducible refine s_sfld ?_
  | ((with_reducible refine' ⟨_, _, _, _, rfl, ?fp1, ?fp2, ?fp3, ?fp4, ?_⟩); (case fp1 => walk_at "hp"); (case fp2 => assumption); (case fp3 => assumption); (case fp4 => walk_at "few"))
  | with_reducible refine s_fldE ?_
  | ((with_reducible refine' ⟨_, _, _, _, _, rfl, ?fp1, ?fp2, ?fp3, ?fp4, ?_⟩); (case fp1 => walk_at "hp"); (case fp2 => assumption); (case fp3 => assumption); (case fp4 => rfl))
  | with_reducible refine s_bm ?_ | with_reducible refine s_bm0 ?_
  | ((with_reducible refine' s_tyL ?ty1 ?_); (case ty1 => walk_at "hp"))
  | ((with_reducible refine' s_append ?ap1 ?ap2 ?_); (case ap1 => walk_at "hp"); (case ap2 => walk_at "sz"))
  | ((with_reducible refine' s_extend ?ap1 ?ap2 ?ap3 ?_); (case ap1 => walk_at "hp"); (case ap2 => walk_at "hp"); (case ap3 => walk_at "sz"))
  | with_reducible refine s_for (fun _ _ => ?_) | with_reducible refine s_lc ?_ | with_reducible refine s_iList ?_ | with_reducible refine s_iTup ?_ | with_reducible refine s_iRng1 ?_ | with_reducible refine s_iRng2 ?_
  | with_reducible refine s_yes ?_ | with_reducible refine s_par ?_
  | with_reducible refine s_make ?_ | with_reducible refine s_meth ?_
  | with_reducible refine s_tup ?_ | with_reducible refine s_lst ?_ | with_reducible refine s_call ?_
  | with_reducible refine ⟨rfl, ?_⟩
  | with_reducible refine ⟨_, rfl, ?_⟩
  | ((with_reducible refine' ⟨_, _, rfl, ?sd1, ?_⟩); (case sd1 => walk_at "sd"))
  | with_reducible refine ⟨_, _, rfl, ?_⟩
  | with_reducible refine .inl ⟨_, rfl, ?_⟩
  | dsimp only [List.set]
  | walk_at "rdx"
  | (refine fun _ _ => ?_)))

namespace My
open PySem L2
section
variable {P : Program} {w : World} {K : PySem.W.Frag} {mg : Str → Option Value} {base : Heap} {C_Sizes : Addr} (M : Md K mg C_Sizes)
include M
local macro_rules | `(tactic| walk_at "rdx") => `(tactic| first
  | with_reducible refine s_tdget ?_ | with_reducible refine s_tdin ?_
  | ((with_reducible refine' s_mcall ?mc1 ?mc2 ?_); (case mc1 => walk_at "hp"); (case mc2 => rfl)))
omit M
def spShown (C : Addr) : Sp := fun vs H Q _ => ∃ t b d h, vs = [.ref t, .ref b] ∧ SzAt C H t d ∧ H b = some (.dK (dk h)) ∧ h.Perm d ∧ look d "strange" = none ∧ ∀ H', L2.Same H H' → Q (.bl true) H'
theorem lk_self {d h : List (Str × Int)} (pm : h.Perm d) (nd : (names d).Nodup) : (names d).map (fun y => (y, lk h y)) = d := by
  unfold names
  rw [List.map_map]
  have : ∀ p ∈ d, ((fun y => (y, lk h y)) ∘ fun x : Str × Int => x.1) p = p := fun p hp => by
    show (p.1, lk h p.1) = p
    unfold lk
    rw [look_perm pm nd, look_mem nd hp]
    rfl
  rw [List.map_congr_left this, List.map_id']
theorem any_eq {α : Type} {l : List α} {f g : α → Bool} (h : ∀ p ∈ l, f p = g p) : l.any f = l.any g := by
  induction l with
  | nil => rfl
  | cons x r ih => rw [List.any_cons, List.any_cons, h x List.mem_cons_self, ih fun p hp => h p (List.mem_cons_of_mem _ hp)]
theorem lk_any {d h : List (Str × Int)} (pm : h.Perm d) (nd : (names d).Nodup) : (names d).any (fun y => decide (lk h y > 0)) = d.any fun p => decide (p.2 > 0) := by
  unfold names
  rw [List.any_map]
  have : ∀ p ∈ d, ((fun y => decide (lk h y > 0)) ∘ fun x : Str × Int => x.1) p = decide (p.2 > 0) := fun p hp => by
    show decide (lk h p.1 > 0) = _
    unfold lk
    rw [look_perm pm nd, look_mem nd hp]
    rfl
  exact any_eq this
theorem blen (b : Bool) : (PyData.shown (.bool b)).length ≤ sizeLine := by
  cases b <;> exact le_size (by rfl)
include M
set_option maxHeartbeats 0 in
theorem c__law_shown_right : Dn P w K mg base "_law_shown_right" 6 ["_law_thing", "_law_held"] [] (spShown C_Sizes) := by
  have c_Sizes_kinds := c_Sizes_kinds (P := P) (w := w) (base := base) M
  have c_Sizes_counts := c_Sizes_counts (P := P) (w := w) (base := base) M
  have c_Sizes___repr__ := c_Sizes___repr__ (P := P) (w := w) (base := base) M
  have c_Sizes___len__ := c_Sizes___len__ (P := P) (w := w) (base := base) M
  have c_Sizes___bool__ := c_Sizes___bool__ (P := P) (w := w) (base := base) M
  have c_Sizes___getitem__ := c_Sizes___getitem__ (P := P) (w := w) (base := base) M
  have c_Sizes___contains__ := c_Sizes___contains__ (P := P) (w := w) (base := base) M
  have c__law_text := c__law_text (P := P) (w := w) (base := base) M
  refine dnN M.f__law_shown_right (fun F => ?_) (fun _ _ _ _ _ _ us hl => match us, hl with | [_, _], _ => rfl)
  refine fnG_body F sc__law_shown_right (fun vs H Q E h => ?_) (fun cdv A outer s H vs Q E hr h => ?_)
  · obtain ⟨t, b, d, h, rfl, _⟩ := h
    rfl
  · obtain ⟨t, b, d, h, rfl, ht, hb, pm, st, k⟩ := h
    obtain ⟨dx, qa, t1, t2, gd, sd⟩ := id ht
    have gh : GoodD h := gd.perm pm
    have hnl : (names h).length < 64 := by
      unfold names
      rw [List.length_map]
      exact Nat.lt_of_le_of_lt gh.few (by decide)
    have hnd : (names d).length < 64 := by
      unfold names
      rw [List.length_map]
      exact Nat.lt_of_le_of_lt gd.few (by decide)
    have nm : ∀ y ∈ names d, nameB y = true := fun y hy => by
      obtain ⟨x, hx, rfl⟩ := List.mem_map.mp hy
      exact gd.nm x hx
    have lkd : ∀ y ∈ names d, look d y = some (lk d y) := fun y hy => by
      obtain ⟨i, hi⟩ := look_in hy
      unfold lk
      rw [hi]
      rfl
    have lkh : ∀ y, lk h y = lk d y := fun y => by
      unfold lk
      rw [look_perm pm gd.nd]
    have lkH : ∀ y ∈ names d, look h y = some (lk h y) := fun y hy => by
      rw [lkh, look_perm pm gd.nd]
      exact lkd y hy
    refine ⟨_, (pss_cons (ps_set (i := 2) sc__law_shown_right.nd rfl (.inl rfl) (pe_callB (call_sortedD rfl) (by rfl) M.b_sorted (by decide +kernel) (pa_cons (pv 1) pa_nil))) (pss_cons (ps_if (PW.pt (pw_or (pt_cmpR (op_neD hr.units) (pe_meth0D c_Sizes_kinds (pv 0) (hr.mono (by decide))) (pv 2) (nomark _)) (pw_or (pt_cmpR op_ne (pe_callB (call_reprO c_Sizes___repr__ (hr.mono (by decide))) (by rfl) M.b_repr (by decide +kernel) (pa_cons (pv 0) pa_nil)) (pe_callD c__law_text (hr.mono (by decide)) rfl (pa_cons (pv 1) pa_nil)) (nomark _)) (pw_or1 (pt_cmpR op_ne (pe_callB (call_lenO c_Sizes___len__ (hr.mono (by decide))) (by rfl) M.b_len (by decide +kernel) (pa_cons (pv 0) pa_nil)) (pe_callB call_lenD (by rfl) M.b_len (by decide +kernel) (pa_cons (pv 1) pa_nil)) (nomark _)))))) (pss_one (ps_ret pe_bl)) pss_nil) (pss_cons (ps_set (i := 3) sc__law_shown_right.nd rfl (.inr rfl) (pe_meth0D c_Sizes_counts (pv 0) (hr.mono (by decide)))) (pss_cons (ps_if (pt_cmpR (op_neD hr.units) (pe_lock (pe_lc (own := [("_law_word", 6)]) (g := gName 6) (tt := tYes) (by rfl) sc__law_shown_right.nd (pi_keys (pv 3)) (blkOk_by (own := [("_law_word", 6)]) (N := N__law_shown_right) (sc := defScope st__law_shown_right) (by decide +kernel)) (fun _ _ _ _ _ => pg_name (i := 6) sc__law_shown_right.nd rfl (by first | exact Or.inl rfl | exact Or.inr rfl)) (fun _ _ _ _ _ => pts_nil) (fun _ _ _ _ _ => (pe_tup (pa_cons (pv 6) (pa_cons (pe_dget (hug hr) (pv 3) (pv 6) (fun _ _ => rfl)) pa_nil)))))) (pe_lc (own := [("_law_word", 6)]) (g := gName 6) (tt := tYes) (by rfl) sc__law_shown_right.nd (pi_list (pv 2)) (blkOk_by (own := [("_law_word", 6)]) (N := N__law_shown_right) (sc := defScope st__law_shown_right) (by decide +kernel)) (fun _ _ _ _ _ => pg_name (i := 6) sc__law_shown_right.nd rfl (by first | exact Or.inl rfl | exact Or.inr rfl)) (fun _ _ _ _ _ => pts_nil) (fun _ _ _ _ _ => (pe_tup (pa_cons (pv 6) (pa_cons (pe_dget (hug hr) (pv 1) (pv 6) (fun _ _ => rfl)) pa_nil))))) (nomark _)) (pss_one (ps_ret pe_bl)) pss_nil) (pss_cons (ps_if (pt_cmpR (op_neD hr.units) (pe_lc (own := [("_law_word", 6)]) (g := gName 6) (tt := tYes) (by rfl) sc__law_shown_right.nd (pi_list (pv 2)) (blkOk_by (own := [("_law_word", 6)]) (N := N__law_shown_right) (sc := defScope st__law_shown_right) (by decide +kernel)) (fun _ _ _ _ _ => pg_name (i := 6) sc__law_shown_right.nd rfl (by first | exact Or.inl rfl | exact Or.inr rfl)) (fun _ _ _ _ _ => pts_nil) (fun _ _ _ _ _ => (pe_ixO c_Sizes___getitem__ (hr.mono (by decide)) (gi_of M.e_Sizes___getitem__) (pv 0) (pv 6)))) (pe_lc (own := [("_law_word", 6)]) (g := gName 6) (tt := tYes) (by rfl) sc__law_shown_right.nd (pi_list (pv 2)) (blkOk_by (own := [("_law_word", 6)]) (N := N__law_shown_right) (sc := defScope st__law_shown_right) (by decide +kernel)) (fun _ _ _ _ _ => pg_name (i := 6) sc__law_shown_right.nd rfl (by first | exact Or.inl rfl | exact Or.inr rfl)) (fun _ _ _ _ _ => pts_nil) (fun _ _ _ _ _ => (pe_dget (hug hr) (pv 1) (pv 6) (fun _ _ => rfl)))) (nomark _)) (pss_one (ps_ret pe_bl)) pss_nil) (pss_cons (ps_set (i := 4) sc__law_shown_right.nd rfl (.inl rfl) (pe_lst (pa_cons pe_non (pa_cons pe_int (pa_cons pe_bl (pa_cons pe_str (pa_cons pe_str (pa_cons pe_str (pa_cons (pe_tup pa_nil) (pa_cons (pe_lst pa_nil) (pa_cons pe_dnewK (pa_cons (pe_tup (pa_cons pe_str pa_nil)) (pa_cons (pv 2) (pa_cons (pv 0) pa_nil)))))))))))))) (pss_cons (ps_if (PW.pt (pw_or (pt_not (pt_val (pe_callB (cr_all rfl) (by rfl) M.b_all (by decide +kernel) (pa_cons (pe_lc (own := [("_law_word", 6)]) (g := gName 6) (tt := tYes) (by rfl) sc__law_shown_right.nd (pi_list (pv 2)) (blkOk_by (own := [("_law_word", 6)]) (N := N__law_shown_right) (sc := defScope st__law_shown_right) (by decide +kernel)) (fun _ _ _ _ _ => pg_name (i := 6) sc__law_shown_right.nd rfl (by first | exact Or.inl rfl | exact Or.inr rfl)) (fun _ _ _ _ _ => pts_nil) (fun _ _ _ _ _ => (pe_cmpR (or_inO c_Sizes___contains__ (hr.mono (by decide))) (pv 6) (pv 0) (by first | exact nomark _ | rfl)))) pa_nil)))) (pw_or1 (pt_val (pe_callB (cr_any rfl) (by rfl) M.b_any (by decide +kernel) (pa_cons (pe_lc (own := [("_law_some", 7)]) (g := gName 7) (tt := tYes) (by rfl) sc__law_shown_right.nd (pi_list (pv 4)) (blkOk_by (own := [("_law_some", 7)]) (N := N__law_shown_right) (sc := defScope st__law_shown_right) (by decide +kernel)) (fun _ _ _ _ _ => pg_name (i := 7) sc__law_shown_right.nd rfl (by first | exact Or.inl rfl | exact Or.inr rfl)) (fun _ _ _ _ _ => pts_nil) (fun _ _ _ _ _ => (pe_cmpR (or_inO c_Sizes___contains__ (hr.mono (by decide))) (pv 7) (pv 0) (by first | exact nomark _ | rfl)))) pa_nil)))))) (pss_one (ps_ret pe_bl)) pss_nil) (pss_cons (ps_expr (pe_dclear (pv 3))) (pss_cons (ps_expr (pe_bm0 PySem.F.plainAttrs_list PySem.F.slot_list_clear PySem.F.type_list_clear mt_clear (pe_meth0D c_Sizes_kinds (pv 0) (hr.mono (by decide))))) (pss_cons (ps_set (i := 5) sc__law_shown_right.nd rfl (.inl rfl) (pe_callB (cr_any rfl) (by rfl) M.b_any (by decide +kernel) (pa_cons (pe_lc (own := [("_law_word", 6)]) (g := gName 6) (tt := tYes) (by rfl) sc__law_shown_right.nd (pi_list (pv 2)) (blkOk_by (own := [("_law_word", 6)]) (N := N__law_shown_right) (sc := defScope st__law_shown_right) (by decide +kernel)) (fun _ _ _ _ _ => pg_name (i := 6) sc__law_shown_right.nd rfl (by first | exact Or.inl rfl | exact Or.inr rfl)) (fun _ _ _ _ _ => pts_nil) (fun _ _ _ _ _ => (pe_cmpR op_gt (pe_dget (hug hr) (pv 1) (pv 6) (fun _ _ => rfl)) pe_int (nomark _)))) pa_nil))) (pss_one (ps_ret (pe_and (pe_cmpR op_eq (pe_callB (call_reprD hr) (by rfl) M.b_repr (by decide +kernel) (pa_cons (pe_callTy (call_boolO c_Sizes___bool__ (hr.mono (by decide))) (by rfl) M.b_bool (by decide +kernel) (pa_cons (pv 0) pa_nil)) pa_nil)) (pe_callB (call_reprD hr) (by rfl) M.b_repr (by decide +kernel) (pa_cons (pv 5) pa_nil)) (nomark _)) (pe_one (pe_cmpR op_eq (pe_callB (call_reprO c_Sizes___repr__ (hr.mono (by decide))) (by rfl) M.b_repr (by decide +kernel) (pa_cons (pv 0) pa_nil)) (pe_callD c__law_text (hr.mono (by decide)) rfl (pa_cons (pv 1) pa_nil)) (nomark _)))))))))))))))), ?_⟩
    refine st_eq (σ := [some _, some _, none, none, none, none, none, none]) rfl ?_
    walk_at "rd"
    refine ⟨b, _, names h, rfl, .inl hb, ?_, hnl, fun ys p hp hsort np => ?_⟩
    · unfold names dk
      rw [List.map_map, List.map_map]
      rfl
    have ey : ys = names d := sorted_uniq (sorted_pw hsort) sd (hp.trans (names_perm pm))
    subst ey
    have s0 : L2.Same H (L2.upd H p (.lst ((names d).map V.str))) := My.Same.new np
    have w0 : (L2.upd H p (.lst ((names d).map V.str))) p = some (.lst ((names d).map V.str)) := upd_same
    generalize L2.upd H p (.lst ((names d).map V.str)) = H0 at s0 w0 ⊢
    have t10 := s0 _ _ t1
    walk_at "rd"
    refine ⟨t, d, rfl, ht.same s0, fun p1 H1 s1 n1 l1 => ?_⟩
    walk_at "rd"
    refine s_neStrs nm l1 (s1 _ _ w0) ?_
    walk_at "rd"
    have S1 := My.Same.tr s0 s1
    refine ⟨t, dx, _, rfl, S1 _ _ t1, t, d, rfl, ht.same S1, _, rfl, ?_⟩
    walk_at "rd"
    refine ⟨b, h, rfl, S1 _ _ hb, gh, fun e H2 s2 pe se => ?_⟩
    have ee : e = d := Srt.uniq se sd gd.nd (pe.trans pm)
    subst ee
    have S2 := My.Same.tr S1 s2
    have w2 := s2 _ _ (s1 _ _ w0)
    walk_at "rd"
    refine ⟨t, dx, _, rfl, S2 _ _ t1, t, e, rfl, ht.same S2, _, rfl, by omega, by have := gd.few; omega, ?_⟩
    have hb2 := S2 _ _ hb
    have t12 := S2 _ _ t1
    walk_at "rd"
    refine ite_n (fun z => absurd (by rw [dk_length, pm.length_eq]) z) (fun _ => ?_)
    walk_at "rd"
    refine ⟨t, e, rfl, ht.same S2, fun p2 H3 s3 n3 l3 => ?_⟩
    have hb3 := s3 _ _ hb2
    have w3 := s3 _ _ w2
    walk_at "rd"
    refine lock_prs (d := e) (q := p2) (fun p => p.2) l3 (few1 gd) ?_ ?_ ?_
    · intro H' R _ q'
      walk_at "rd"
      exact q'
    · intro od D i p' H' R F hp' nD hDq hq hs hD q'
      walk_at "rd"
      refine s_dget (d := e) (.inr ⟨od, hq⟩) (look_mem gd.nd (List.mem_of_getElem? hp')) ?_
      walk_at "rd"
      exact q' _ _ (L2.Same.refl _) (by assumption)
    intro D1 H4 n4 s4 pr4
    have hb4 := s4 _ _ hb3
    have w4 := s4 _ _ w3
    walk_at "rd"
    refine ⟨⟨_, SqL.of w4⟩, fun D2 nD2 => strs_prsF (ys := names e) (fun y => lk h y) (SqL.of w4) nD2 (by omega) ?_ ?_⟩
    · intro y H' R F hy s' nD' q'
      walk_at "rd"
      refine s_dget (d := h) (.inl (s' _ _ hb4)) (lkH y hy) ?_
      walk_at "rd"
      exact q' _ _ (L2.Same.refl _) (by assumption)
    intro H5 s5 pr5
    rw [lk_self pm gd.nd] at pr5
    rw [List.map_id'] at pr4
    walk_at "rd"
    refine s_nePrs gd.nm (pr4.same s5) pr5 ?_
    have hb5 := s5 _ _ hb4
    have w5 := s5 _ _ w4
    have S25 : L2.Same H2 H5 := My.Same.tr s3 (My.Same.tr s4 s5)
    have t15 := S25 _ _ t12
    walk_at "rd"
    refine ⟨⟨_, SqL.of w5⟩, fun D3 nD3 => strs_lc (ys := names e) (fun y => .int (lk e y)) (SqL.of w5) nD3 (by omega) ?_ ?_⟩
    · intro y H' R F hy s' nD' q'
      walk_at "rd"
      exact ⟨t, dx, _, rfl, s' _ _ t15, t, y, e, lk e y, rfl, ht.same (My.Same.tr S2 (My.Same.tr S25 s')), lkd y hy, fun H6 s6 => q' H6 s6⟩
    intro H6 s6 l6
    have hb6 := s6 _ _ hb5
    have w6 := s6 _ _ w5
    walk_at "rd"
    refine ⟨⟨_, SqL.of w6⟩, fun D4 nD4 => strs_lc (ys := names e) (fun y => .int (lk e y)) (SqL.of w6) nD4 (by omega) ?_ ?_⟩
    · intro y H' R F hy s' nD' q'
      walk_at "rd"
      refine s_dget (d := h) (.inl (s' _ _ hb6)) (lkH y hy) ?_
      rw [lkh]
      exact q' _ (L2.Same.refl _)
    intro H7 s7 l7
    have em : (names e).map (fun y => V.int (lk e y)) = ((names e).map (lk e)).map V.int := by rw [List.map_map]; rfl
    rw [em] at l6 l7
    walk_at "rd"
    refine s_neInts (s7 _ _ l6) l7 ?_
    have S27 : L2.Same H2 H7 := My.Same.tr S25 (My.Same.tr s6 s7)
    have w7 := s7 _ _ w6
    have t17 := S27 _ _ t12
    walk_at "rd"
    rename_i a0 m0 a1 m1 a2 m2 a3 m3 a4 m4
    have S78 : L2.Same H7 (L2.upd (L2.upd (L2.upd (L2.upd (L2.upd H7 a0 (.tup [])) a1 (.lst [])) a2 (.dK [])) a3 (.tup [.str "a"])) a4 (.lst [.non, .int 0, .bl true, .str "", .str "strange", .str "A", .ref a0, .ref a1, .ref a2, .ref a3, .ref p, .ref t])) := by walk_at "sm"
    have e0 : (L2.upd (L2.upd (L2.upd (L2.upd (L2.upd H7 a0 (.tup [])) a1 (.lst [])) a2 (.dK [])) a3 (.tup [.str "a"])) a4 (.lst [.non, .int 0, .bl true, .str "", .str "strange", .str "A", .ref a0, .ref a1, .ref a2, .ref a3, .ref p, .ref t])) a0 = some (.tup []) := by walk_at "hp"
    have e1 : (L2.upd (L2.upd (L2.upd (L2.upd (L2.upd H7 a0 (.tup [])) a1 (.lst [])) a2 (.dK [])) a3 (.tup [.str "a"])) a4 (.lst [.non, .int 0, .bl true, .str "", .str "strange", .str "A", .ref a0, .ref a1, .ref a2, .ref a3, .ref p, .ref t])) a1 = some (.lst []) := by walk_at "hp"
    have e2 : (L2.upd (L2.upd (L2.upd (L2.upd (L2.upd H7 a0 (.tup [])) a1 (.lst [])) a2 (.dK [])) a3 (.tup [.str "a"])) a4 (.lst [.non, .int 0, .bl true, .str "", .str "strange", .str "A", .ref a0, .ref a1, .ref a2, .ref a3, .ref p, .ref t])) a2 = some (.dK []) := by walk_at "hp"
    have e3 : (L2.upd (L2.upd (L2.upd (L2.upd (L2.upd H7 a0 (.tup [])) a1 (.lst [])) a2 (.dK [])) a3 (.tup [.str "a"])) a4 (.lst [.non, .int 0, .bl true, .str "", .str "strange", .str "A", .ref a0, .ref a1, .ref a2, .ref a3, .ref p, .ref t])) a3 = some (.tup [.str "a"]) := by walk_at "hp"
    have e4 : (L2.upd (L2.upd (L2.upd (L2.upd (L2.upd H7 a0 (.tup [])) a1 (.lst [])) a2 (.dK [])) a3 (.tup [.str "a"])) a4 (.lst [.non, .int 0, .bl true, .str "", .str "strange", .str "A", .ref a0, .ref a1, .ref a2, .ref a3, .ref p, .ref t])) a4 = some (.lst [.non, .int 0, .bl true, .str "", .str "strange", .str "A", .ref a0, .ref a1, .ref a2, .ref a3, .ref p, .ref t]) := upd_same
    generalize L2.upd (L2.upd _ a3 _) a4 _ = H8 at S78 e0 e1 e2 e3 e4 ⊢
    have w8 := S78 _ _ w7
    have S28 := My.Same.tr S27 S78
    have t18 := S28 _ _ t12
    have ht2 := ht.same S2
    have ht8 := ht2.same S28
    have odd : ∀ x ∈ [V.non, .int 0, .bl true, .str "", .str "strange", .str "A", .ref a0, .ref a1, .ref a2, .ref a3, .ref p, .ref t], ∀ H', L2.Same H8 H' → (∃ s, x = .str s ∧ s.length ≤ 1000 ∧ look e s = none) ∨ ∃ t, TyX K H' x t ∧ PySem.W.kitOne K t (.type "str") = some false := by
      have no : ∀ s : Str, nameB s = false → look e s = none := fun s hs => by
        have := has_ok gd s hs
        cases q : look e s with
        | none => rfl
        | some i => rw [q] at this; cases this
      intro x hx H' s'
      simp only [List.mem_cons, List.not_mem_nil, or_false] at hx
      rcases hx with rfl | rfl | rfl | rfl | rfl | rfl | rfl | rfl | rfl | rfl | rfl | rfl
      · exact .inr ⟨_, .base .non, kit_ty (by decide +kernel)⟩
      · exact .inr ⟨_, .base (.int _), kit_ty (by decide +kernel)⟩
      · exact .inr ⟨_, .base (.bl _), kit_ty (by decide +kernel)⟩
      · exact .inl ⟨_, rfl, by decide +kernel, no _ (by decide +kernel)⟩
      · exact .inl ⟨_, rfl, by decide +kernel, st⟩
      · exact .inl ⟨_, rfl, by decide +kernel, no _ (by decide +kernel)⟩
      · exact .inr ⟨_, .base (.tup (s' _ _ e0)), kit_ty (by decide +kernel)⟩
      · exact .inr ⟨_, .base (.lst (s' _ _ e1)), kit_ty (by decide +kernel)⟩
      · exact .inr ⟨_, .base (.dK (s' _ _ e2)), kit_ty (by decide +kernel)⟩
      · exact .inr ⟨_, .base (.tup (s' _ _ e3)), kit_ty (by decide +kernel)⟩
      · exact .inr ⟨_, .base (.lst (s' _ _ w8)), kit_ty (by decide +kernel)⟩
      · exact .inr ⟨_, .base (M.z_Sizes (s' _ _ t18)), M.ks_Sizes⟩
    refine ⟨⟨_, SqL.of w8⟩, fun D5 nD5 => strs_lc (ys := names e) (fun y => .bl true) (SqL.of w8) nD5 (by omega) ?_ ?_⟩
    · intro y H' R F hy s' nD' q'
      walk_at "rd"
      have hn := nm y hy
      unfold nameB at hn
      simp only [Bool.and_eq_true, decide_eq_true_eq] at hn
      refine ⟨t, dx, _, rfl, s' _ _ t18, t, _, e, rfl, ht8.same s', .inl ⟨y, rfl, by omega, fun H9 s9 => ⟨_, rfl, ?_⟩⟩⟩
      rw [lkd y hy]
      exact q' H9 s9
    intro H9 s9 l9
    walk_at "rd"
    refine ⟨_, (names e).map fun _ => true, rfl, SqL.of (by rw [List.map_map]; exact l9), ?_⟩
    rw [show ((names e).map fun _ => true).all id = true from List.all_eq_true.mpr fun b hb => by obtain ⟨_, _, rfl⟩ := List.mem_map.mp hb; rfl]
    have e49 := s9 _ _ e4
    walk_at "rd"
    refine ⟨⟨_, SqL.of e49⟩, fun D6 nD6 => list_lcF (fun _ => .bl false) (SqL.of e49) nD6 (by simp) ?_ ?_⟩
    · intro i x H' R F hx s' nD' q'
      walk_at "rd"
      refine ⟨t, dx, _, rfl, s' _ _ (s9 _ _ t18), t, x, e, rfl, ht8.same (My.Same.tr s9 s'), ?_⟩
      rcases odd x (List.mem_of_getElem? hx) H' (My.Same.tr s9 s') with ⟨s, rfl, l, n⟩ | ⟨ty, h1, h2⟩
      · exact .inl ⟨s, rfl, l, fun HA sA => ⟨_, rfl, by rw [n]; exact q' HA sA⟩⟩
      · exact .inr ⟨ty, h1, h2, ⟨_, rfl, q' H' (L2.Same.refl _)⟩⟩
    intro HA sA lA
    walk_at "rd"
    refine ⟨_, List.replicate 12 false, rfl, SqL.of lA, ?_⟩
    have S2A : L2.Same H2 HA := My.Same.tr S28 (My.Same.tr s9 sA)
    have l3A := sA _ _ (s9 _ _ (S78 _ _ (s7 _ _ (s6 _ _ (s5 _ _ (s4 _ _ l3))))))
    rw [show (List.replicate 12 false).any id = false from rfl]
    walk_at "rd"
    refine ⟨.inr (.inr (.inl ⟨rfl, .inl ⟨_, l3A⟩⟩)), p2, _, rfl, rfl, l3A, ?_⟩
    have SB : L2.Same H2 (L2.upd HA p2 (.dK [])) := My.Same.at_ n3 S2A
    generalize L2.upd HA p2 (.dK []) = HB at SB ⊢
    have t1B := SB _ _ t12
    walk_at "rd"
    refine ⟨t, e, rfl, ht2.same SB, fun p9 HC sC nC lC => ?_⟩
    walk_at "rd"
    refine ⟨p9, _, rfl, rfl, lC, ?_⟩
    have SD : L2.Same H2 (L2.upd HC p9 (.lst [])) := My.Same.at_ (L2.Same.free SB nC) (My.Same.tr SB sC)
    generalize L2.upd HC p9 (.lst []) = HD at SD ⊢
    have t1D := SD _ _ t12
    have wD := SD _ _ w2
    have hbD := SD _ _ hb2
    walk_at "rd"
    refine ⟨⟨_, SqL.of wD⟩, fun D7 nD7 => strs_lc (ys := names e) (fun y => .bl (decide (lk h y > 0))) (SqL.of wD) nD7 (by omega) ?_ ?_⟩
    · intro y H' R F hy s' nD' q'
      walk_at "rd"
      refine s_dget (d := h) (.inl (s' _ _ hbD)) (lkH y hy) ?_
      walk_at "rd"
      exact q' _ (L2.Same.refl _)
    intro HE sE lE
    walk_at "rd"
    refine ⟨_, (names e).map fun y => decide (lk h y > 0), rfl, SqL.of (by rw [List.map_map]; exact lE), ?_⟩
    rw [show ((names e).map fun y => decide (lk h y > 0)).any id = e.any fun p => decide (p.2 > 0) from by rw [List.any_map, ← lk_any pm gd.nd]; rfl]
    have S2E := My.Same.tr SD sE
    walk_at "rd"
    refine ⟨t, dx, _, rfl, S2E _ _ t12, t, e, rfl, ht2.same S2E, fun HF sF => ⟨_, rfl, ?_⟩⟩
    walk_at "rd"
    refine ⟨_, .bool _, rfl, .bl _, rfl, rfl, rfl, blen _, ?_⟩
    walk_at "rd"
    refine ⟨_, .bool _, rfl, .bl _, rfl, rfl, rfl, blen _, ?_⟩
    walk_at "rd"
    rw [decide_eq_true rfl]
    have S2F := My.Same.tr S2E sF
    walk_at "rd"
    refine ⟨t, dx, _, rfl, S2F _ _ t12, t, e, rfl, ht2.same S2F, _, rfl, ?_⟩
    walk_at "rd"
    refine ⟨b, h, rfl, S2F _ _ hb2, gh, fun e' HG sG pe' se' => ?_⟩
    have ee : e' = e := Srt.uniq se' sd gd.nd (pe'.trans pm)
    subst ee
    walk_at "rd"
    rw [decide_eq_true rfl]
    exact k _ (My.Same.tr S2 (My.Same.tr S2F sG))
end
end My
end
section

namespace My
open PySem L2 PySem.Spec PyProof.Rows
/-! ### two Sizes: what is reckoned -/
theorem map_names {d : List (Str × Int)} (nd : (names d).Nodup) (g : Str → Int → Int) : (d.map fun p => (p.1, g p.1 p.2)) = (names d).map fun y => (y, g y (lk d y)) := by
  unfold names
  rw [List.map_map]
  refine List.map_congr_left fun p hp => ?_
  show (p.1, g p.1 p.2) = (p.1, g p.1 (lk d p.1))
  unfold lk
  rw [look_mem nd hp]
  rfl
theorem lk_in {d e : List (Str × Int)} (n : names d = names e) {p : Str × Int} (h : p ∈ d) : (p.1, lk e p.1) ∈ e := look_some (lk_of n h)
theorem GoodD.map {d : List (Str × Int)} (g : GoodD d) (f : Str × Int → Int) (h0 : ∀ p ∈ d, 0 ≤ f p) (h1 : ∀ p ∈ d, Sm 600 (f p)) : GoodD (d.map fun p => (p.1, f p)) where
  nd := by
    have := mapN_names d f
    unfold mapN at this
    rw [this]
    exact g.nd
  nm := fun p hp => by
    obtain ⟨q, hq, rfl⟩ := List.mem_map.mp hp
    exact g.nm q hq
  nn := fun p hp => by
    obtain ⟨q, hq, rfl⟩ := List.mem_map.mp hp
    exact h0 q hq
  sm := fun p hp => by
    obtain ⟨q, hq, rfl⟩ := List.mem_map.mp hp
    exact h1 q hq
  ne := fun z => g.ne (by cases d with
    | nil => rfl
    | cons x r => cases z)
  few := by
    rw [List.length_map]
    exact g.few
/-- both by the names, in their sequence -/
def bothN (ys : List Str) (d e : List (Str × Int)) (f : Int → Int → Int) : List (Str × Int) := ys.map fun y => (y, f (lk d y) (lk e y))
theorem both1 {d e : List (Str × Int)} (gd : (names d).Nodup) (f : Int → Int → Int) : (d.map fun p => (p.1, f p.2 (lk e p.1))) = bothN (names d) d e f := map_names gd fun y i => f i (lk e y)
theorem both2 {d e : List (Str × Int)} (ge : (names e).Nodup) (n : names d = names e) (f : Int → Int → Int) (c : ∀ i j, f i j = f j i) : (e.map fun p => (p.1, f p.2 (lk d p.1))) = bothN (names d) d e f := by
  have h := map_names ge fun y i => f i (lk d y)
  rw [h, n]
  unfold bothN
  refine List.map_congr_left fun y _ => ?_
  show (y, f (lk e y) (lk d y)) = _
  rw [c]
theorem both_perm {h d m e : List (Str × Int)} (pm : h.Perm d) (pe : m.Perm e) (gd : (names d).Nodup) (ge : (names e).Nodup) (f : Int → Int → Int) : (h.map fun p => (p.1, f p.2 (lk m p.1))).Perm (bothN (names d) d e f) := by
  rw [← both1 gd f]
  have : (fun p : Str × Int => (p.1, f p.2 (lk m p.1))) = fun p => (p.1, f p.2 (lk e p.1)) := by
    funext p
    unfold lk
    rw [look_perm pe ge]
  rw [this]
  exact pm.map _
theorem min_comm (i j : Int) : (if j < i then j else i) = if i < j then i else j := by split <;> split <;> omega
theorem max_comm (i j : Int) : (if j > i then j else i) = if i > j then i else j := by split <;> split <;> omega
theorem Sm.max {i j : Int} {k : Nat} (hi : Sm k i) (hj : Sm k j) : Sm k (if j > i then j else i) := by split <;> assumption
theorem Sm.min {i j : Int} {k : Nat} (hi : Sm k i) (hj : Sm k j) : Sm k (if j < i then j else i) := by split <;> assumption
theorem eqD_perm {h d m e : List (Str × Int)} (pm : h.Perm d) (pe : m.Perm e) (ge : (names e).Nodup) : eqD h m = eqD d e := by
  unfold eqD
  rw [pm.length_eq, pe.length_eq]
  congr 1
  have e1 : subD h m = subD h e := by
    unfold subD
    congr 1
    funext p
    rw [look_perm pe ge]
  rw [e1, Bool.eq_iff_iff]
  unfold subD
  rw [List.all_eq_true, List.all_eq_true]
  exact ⟨fun q p hp => q p (pm.mem_iff.mpr hp), fun q p hp => q p (pm.mem_iff.mp hp)⟩
theorem leD_perm {h d m e : List (Str × Int)} (pm : h.Perm d) (pe : m.Perm e) (ge : (names e).Nodup) : (h.all fun p => decide (p.2 ≤ lk m p.1)) = leD d e := by
  rw [Bool.eq_iff_iff]
  unfold leD
  rw [List.all_eq_true, List.all_eq_true]
  have : ∀ y, lk m y = lk e y := fun y => by
    unfold lk
    rw [look_perm pe ge]
  constructor
  · intro q p hp
    have := q p (pm.mem_iff.mpr hp)
    rw [‹∀ y, lk m y = lk e y›] at this
    exact this
  · intro q p hp
    rw [this]
    exact q p (pm.mem_iff.mp hp)
theorem lk_both {ys : List Str} {d e : List (Str × Int)} {f : Int → Int → Int} {y : Str} (h : y ∈ ys) : look (bothN ys d e f) y = some (f (lk d y) (lk e y)) := by
  induction ys with
  | nil => cases h
  | cons z r ih =>
    show (if z = y then some (f (lk d z) (lk e z)) else look (bothN r d e f) y) = _
    by_cases q : z = y
    · subst q
      rw [if_pos rfl]
    · rw [if_neg q]
      rcases List.mem_cons.mp h with w | w
      · exact absurd w.symm q
      · exact ih w
theorem leD_min {d e : List (Str × Int)} : leD (bothN (names d) d e fun i j => if j < i then j else i) d = true := by
  unfold leD bothN
  rw [List.all_eq_true]
  intro p hp
  obtain ⟨y, hy, rfl⟩ := List.mem_map.mp hp
  refine decide_eq_true ?_
  show (if lk e y < lk d y then lk e y else lk d y) ≤ lk d y
  split <;> omega
theorem leD_max {d e : List (Str × Int)} (gd : (names d).Nodup) : leD d (bothN (names d) d e fun i j => if j > i then j else i) = true := by
  unfold leD
  rw [List.all_eq_true]
  intro p hp
  refine decide_eq_true ?_
  have h1 := lk_both (d := d) (e := e) (f := fun i j => if j > i then j else i) (show p.1 ∈ names d from List.mem_map.mpr ⟨p, hp, rfl⟩)
  have h2 : lk d p.1 = p.2 := by
    unfold lk
    rw [look_mem gd hp]
    rfl
  unfold lk
  rw [h1]
  show p.2 ≤ (if lk e p.1 > lk d p.1 then lk e p.1 else lk d p.1)
  rw [h2]
  split <;> omega
theorem strange_none {d e : List (Str × Int)} (n : names d = names e) {k : Str} (h : look d k = none) : look e k = none := look_none fun z => by
  rw [← n] at z
  obtain ⟨i, hi⟩ := look_in z
  rw [h] at hi
  cases hi
theorem bothN_names (ys : List Str) (d e : List (Str × Int)) (f : Int → Int → Int) : names (bothN ys d e f) = ys := by
  unfold names bothN
  rw [List.map_map]
  exact List.map_id'' (fun _ => rfl) ys
theorem PrAt.dict {K : PySem.W.Frag} {H : Hp} {a : Addr} {d : List (Str × Int)} (h : PrAt H a d) (nd : (names d).Nodup) :
    ∃ ps : List Addr, SqL K H a (ps.map V.ref) ∧ Paired (fun p kv => SqT K H p [kV kv.1, kv.2]) ps (dk d) ∧ mergeK [] (dk d) = dk d := by
  obtain ⟨vs, e, t⟩ := h
  obtain ⟨ps, rfl, h⟩ := tups_paired (K := K) t
  exact ⟨ps, SqL.of e, h, merge_dk d [] nd⟩
/-- a pair of Sizes and the dict that it should show -/
def ShOk (C : Addr) (H : Hp) (v : V) : Prop := ∃ t s r d g, v = .ref t ∧ H t = some (.tup [.ref s, .ref r]) ∧ SzAt C H s d ∧ H r = some (.dK (dk g)) ∧ g.Perm d ∧ look d "strange" = none
theorem ShOk.same {C : Addr} {H H' : Hp} {v : V} (h : ShOk C H v) (s : L2.Same H H') : ShOk C H' v := by
  obtain ⟨t, x, r, d, g, e, h1, h2, h3, h4⟩ := h
  exact ⟨t, x, r, d, g, e, s _ _ h1, h2.same s, s _ _ h3, h4⟩
end My
end
section

open My L2 PySem
open My L2 PySem
local macro_rules | `(tactic| walk_at "as") => `(tactic| with_reducible assumption)
local macro_rules | `(tactic| walk_at "hp") => `(tactic| first
  | walk_at "as" | exact upd_same
  | (rw [upd_ne (by walk_at "ne")]; walk_at "hp")
  | (refine But.get (by walk_at "as") ?hp1 ?hp2; (case hp1 => walk_at "hp"); (case hp2 => walk_at "ne"))
  | (refine My.Same.get (by walk_at "as") ?hp1; (case hp1 => walk_at "hp")))
local macro_rules | `(tactic| walk_at "ne") => `(tactic| first
  | walk_at "as" | exact Ne.symm (by walk_at "as")
  | (refine' ne_of_none ?ne1 ?ne2; (case ne2 => walk_at "as"); (case ne1 => walk_at "hp"))
  | (refine' Ne.symm (ne_of_none ?ne1 ?ne2); (case ne2 => walk_at "as"); (case ne1 => walk_at "hp"))
  | exact ne_of (by walk_at "hp") (by walk_at "hp") (by intro z; cases z))
local macro_rules | `(tactic| walk_at "sd") => `(tactic| first
  | walk_at "as" | omega | decide | exact ⟨by omega, by omega⟩ | exact .inl ⟨by omega, by omega⟩ | exact .inr ⟨by omega, by omega⟩ | exact divp_wide (by walk_at "as") (by walk_at "as") | exact Sm.cmul (by walk_at "as") (by walk_at "as") | exact cmul_small (by omega) (by omega) (by omega) (by omega) | exact ⟨by omega, by decide⟩)
local macro_rules | `(tactic| walk_at "bt") => `(tactic| first
  | walk_at "as" | exact But.refl _ _ | exact Same.but (by walk_at "as")
  | (refine But.trans ?bt1 But.at; (case bt1 => walk_at "bt"))
  | (refine But.trans ?bt1 (But.new (by first | walk_at "as" | walk_at "hp")); (case bt1 => walk_at "bt"))
  | (refine But.trans ?bt1 (by walk_at "as"); (case bt1 => walk_at "bt"))
  | (refine But.trans ?bt1 (Same.but (by walk_at "as")); (case bt1 => walk_at "bt")))
local macro_rules | `(tactic| walk_at "sm") => `(tactic| first
  | walk_at "as" | exact My.Same.rfl' _
  | (refine' My.Same.at_ ?sm1 ?sm2; (case sm1 => walk_at "as"); (case sm2 => walk_at "sm"))
  | (refine' My.Same.tr ?sm1 (My.Same.new ?sm2); (case sm2 => walk_at "as"); (case sm1 => walk_at "sm"))
  | (refine' My.Same.tr ?sm1 ?sm2; (case sm2 => walk_at "as"); (case sm1 => walk_at "sm")))
local macro_rules | `(tactic| walk_at "sz") => `(tactic| first
  | assumption | exact lt_size (by rfl) | exact le_size (by rfl) | (rw [sizeLine_eq]; omega)
  | (rw [sizeLine_eq]; simp only [List.length_append, List.length_map, List.length_cons, List.length_nil]; omega))
local macro_rules | `(tactic| walk_at "few") => `(tactic| (repeat refine few_put ?_); exact few0)
local macro_rules | `(tactic| walk_at "rd1") => `(tactic| first
  | (with_reducible show tVar _ _ _ _); refine s_var rfl ?_
  | with_reducible refine s_c ?_ | with_reducible refine s_op ?_ | with_reducible refine s_un ?_
  | with_reducible refine s_cons ?_ | with_reducible refine s_nil ?_ | with_reducible refine s_cb ?_
  | with_reducible refine s_test ?_ | with_reducible refine s_B ?_ | with_reducible refine s_not ?_ | with_reducible refine s_and ?_ | with_reducible refine s_or ?_
  | with_reducible refine s_if ?_ | with_reducible refine s_notV ?_ | with_reducible refine s_andV ?_ | with_reducible refine s_orV ?_
  | with_reducible refine s_orT ?_ | with_reducible refine s_andT ?_ | with_reducible refine s_chain ?_
  | with_reducible refine s_isi_int ?_ | with_reducible refine s_isi_int_bool ?_ | with_reducible refine s_isi_str ?_
  | with_reducible refine iteT ?_ | with_reducible refine iteF ?_ | with_reducible refine iteNT ?_ | with_reducible refine iteNF ?_
  | with_reducible refine s_isN ?_ | with_reducible refine s_notN ?_
  | ((with_reducible refine' s_2setE ?g1 ?_); (case g1 => first | (dsimp only [List.set, L2.wipe, List.map, List.foldl]; done) | (dsimp only [List.set, L2.wipe, List.map, List.foldl]; rfl)))
  | with_reducible refine s_seq ?_ | with_reducible refine s_ifS ?_ | with_reducible refine s_asg ?_ | with_reducible refine s_ret ?_ | with_reducible refine s_drop ?_ | with_reducible refine s_next ?_
  | ((with_reducible refine' s_gnameE ?g1 ?_); (case g1 => first | (dsimp only [List.set, L2.wipe, List.map, List.foldl]; done) | (dsimp only [List.set, L2.wipe, List.map, List.foldl]; rfl)))
  | with_reducible refine s_gsub ?_ | with_reducible refine s_gcons ?_ | with_reducible refine s_gnil ?_
  | (with_reducible show gTup _ _ _ _ _ _ _); refine s_gtup (by walk_at "hp") rfl ?_
  | with_reducible refine s_eqI ?_ | with_reducible refine s_neI ?_ | with_reducible refine s_eqS ?_ | with_reducible refine s_neB ?_ | with_reducible refine s_eqB ?_ | with_reducible refine s_neSr ?_ | with_reducible refine s_neS ?_
  | with_reducible refine s_I0 ?_
  | (with_reducible show rI _ _ _ _ _ _); refine s_I (by walk_at "sd") ?_
  | (with_reducible show rIxL _ _ _ _ _); refine s_ixL (by walk_at "hp") rfl ?_
  | (with_reducible show rIxT _ _ _ _ _); refine s_ixT (by walk_at "hp") rfl ?_
  | (with_reducible show rSetL _ _ _ _ _); refine s_setL (by walk_at "hp") rfl ?_
  | with_reducible refine s_prop ?_
  | (with_reducible show _ ≤ sizeLine ∧ _); refine ⟨le_size (by rfl), ?_⟩
  | with_reducible refine ite_NN ?_ | with_reducible refine ite_IN ?_ | with_reducible refine ite_nNN ?_ | with_reducible refine ite_nIN ?_ | with_reducible refine ite_RN ?_ | with_reducible refine ite_nRN ?_
  | with_reducible refine s_sfld ?_
  | ((with_reducible refine' ⟨_, _, _, _, rfl, ?fp1, ?fp2, ?fp3, ?fp4, ?_⟩); (case fp1 => walk_at "hp"); (case fp2 => assumption); (case fp3 => assumption); (case fp4 => walk_at "few"))
  | with_reducible refine s_fldE ?_
  | ((with_reducible refine' ⟨_, _, _, _, _, rfl, ?fp1, ?fp2, ?fp3, ?fp4, ?_⟩); (case fp1 => walk_at "hp"); (case fp2 => assumption); (case fp3 => assumption); (case fp4 => rfl))
  | with_reducible refine s_bm ?_ | with_reducible refine s_bm0 ?_
  | ((with_reducible refine' s_tyL ?ty1 ?_); (case ty1 => walk_at "hp"))
  | ((with_reducible refine' s_append ?ap1 ?ap2 ?_); (case ap1 => walk_at "hp"); (case ap2 => walk_at "sz"))
  | ((with_reducible refine' s_extend ?ap1 ?ap2 ?ap3 ?_); (case ap1 => walk_at "hp"); (case ap2 => walk_at "hp"); (case ap3 => walk_at "sz"))
  | with_reducible refine s_for (fun _ _ => ?_) | with_reducible refine s_lc ?_ | with_reducible refine s_iList ?_ | with_reducible refine s_iTup ?_ | with_reducible refine s_iRng1 ?_ | with_reducible refine s_iRng2 ?_
  | with_reducible refine s_yes ?_ | with_reducible refine s_par ?_
  | with_reducible refine s_make ?_ | with_reducible refine s_meth ?_
  | with_reducible refine s_tup ?_ | with_reducible refine s_lst ?_ | with_reducible refine s_call ?_
  | with_reducible refine ⟨rfl, ?_⟩
  | with_reducible refine ⟨_, rfl, ?_⟩
  | ((with_reducible refine' ⟨_, _, rfl, ?sd1, ?_⟩); (case sd1 => walk_at "sd"))
  | with_reducible refine ⟨_, _, rfl, ?_⟩
  | with_reducible refine .inl ⟨_, rfl, ?_⟩
  | dsimp only [List.set]
  | walk_at "rdx"
  | (refine fun _ _ => ?_))
local macro_rules | `(tactic| walk_at "rd") => `(tactic| repeat (first
  | (with_reducible show tVar _ _ _ _); refine s_var rfl ?_
  | with_reducible refine s_c ?_ | with_reducible refine s_op ?_ | with_reducible refine s_un ?_
  | with_reducible refine s_cons ?_ | with_reducible refine s_nil ?_ | with_reducible refine s_cb ?_
  | with_reducible refine s_test ?_ | with_reducible refine s_B ?_ | with_reducible refine s_not ?_ | with_reducible refine s_and ?_ | with_reducible refine s_or ?_
  | with_reducible refine s_if ?_ | with_reducible refine s_notV ?_ | with_reducible refine s_andV ?_ | with_reducible refine s_orV ?_
  | with_reducible refine s_orT ?_ | with_reducible refine s_andT ?_ | with_reducible refine s_chain ?_
  | with_reducible refine s_isi_int ?_ | with_reducible refine s_isi_int_bool ?_ | with_reducible refine s_isi_str ?_
  | with_reducible refine iteT ?_ | with_reducible refine iteF ?_ | with_reducible refine iteNT ?_ | with_reducible refine iteNF ?_
  | with_reducible refine s_isN ?_ | with_reducible refine s_notN ?_
  | ((with_reducible refine' s_2setE ?g1 ?_); (case g1 => first | (dsimp only [List.set, L2.wipe, List.map, List.foldl]; done) | (dsimp only [List.set, L2.wipe, List.map, List.foldl]; rfl)))
  | with_reducible refine s_seq ?_ | with_reducible refine s_ifS ?_ | with_reducible refine s_asg ?_ | with_reducible refine s_ret ?_ | with_reducible refine s_drop ?_ | with_reducible refine s_next ?_
  | ((with_reducible refine' s_gnameE ?g1 ?_); (case g1 => first | (dsimp only [List.set, L2.wipe, List.map, List.foldl]; done) | (dsimp only [List.set, L2.wipe, List.map, List.foldl]; rfl)))
  | with_reducible refine s_gsub ?_ | with_reducible refine s_gcons ?_ | with_reducible refine s_gnil ?_
  | (with_reducible show gTup _ _ _ _ _ _ _); refine s_gtup (by walk_at "hp") rfl ?_
  | with_reducible refine s_eqI ?_ | with_reducible refine s_neI ?_ | with_reducible refine s_eqS ?_ | with_reducible refine s_neB ?_ | with_reducible refine s_eqB ?_ | with_reducible refine s_neSr ?_ | with_reducible refine s_neS ?_
  | with_reducible refine s_I0 ?_
  | (with_reducible show rI _ _ _ _ _ _); refine s_I (by walk_at "sd") ?_
  | (with_reducible show rIxL _ _ _ _ _); refine s_ixL (by walk_at "hp") rfl ?_
  | (with_reducible show rIxT _ _ _ _ _); refine s_ixT (by walk_at "hp") rfl ?_
  | (with_reducible show rSetL _ _ _ _ _); refine s_setL (by walk_at "hp") rfl ?_
  | with_reducible refine s_prop ?_
  | (with_reducible show _ ≤ sizeLine ∧ _); refine ⟨le_size (by rfl), ?_⟩
  | with_reducible refine ite_NN ?_ | with_reducible refine ite_IN ?_ | with_reducible refine ite_nNN ?_ | with_reducible refine ite_nIN ?_ | with_reducible refine ite_RN ?_ | with_reducible refine ite_nRN ?_
  | with_reducible refine s_sfld ?_
  | ((with_reducible refine' ⟨_, _, _, _, rfl, ?fp1, ?fp2, ?fp3, ?fp4, ?_⟩); (case fp1 => walk_at "hp"); (case fp2 => assumption); (case fp3 => assumption); (case fp4 => walk_at "few"))
  | with_reducible refine s_fldE ?_
  | ((with_reducible refine' ⟨_, _, _, _, _, rfl, ?fp1, ?fp2, ?fp3, ?fp4, ?_⟩); (case fp1 => walk_at "hp"); (case fp2 => assumption); (case fp3 => assumption); (case fp4 => rfl))
  | with_reducible refine s_bm ?_ | with_reducible refine s_bm0 ?_
  | ((with_reducible refine' s_tyL ?ty1 ?_); (case ty1 => walk_at "hp"))
  | ((with_reducible refine' s_append ?ap1 ?ap2 ?_); (case ap1 => walk_at "hp"); (case ap2 => walk_at "sz"))
  | ((with_reducible refine' s_extend ?ap1 ?ap2 ?ap3 ?_); (case ap1 => walk_at "hp"); (case ap2 => walk_at "hp"); (case ap3 => walk_at "sz"))
  | with_reducible refine s_for (fun _ _ => ?_) | with_reducible refine s_lc ?_ | with_reducible refine s_iList ?_ | with_reducible refine s_iTup ?_ | with_reducible refine s_iRng1 ?_ | with_reducible refine s_iRng2 ?_
  | with_reducible refine s_yes ?_ | with_reducible refine s_par ?_
  | with_reducible refine s_make ?_ | with_reducible refine s_meth ?_
  | with_reducible refine s_tup ?_ | with_reducible refine s_lst ?_ | with_reducible refine s_call ?_
  | with_reducible refine ⟨rfl, ?_⟩
  | with_reducible refine ⟨_, rfl, ?_⟩
  | ((with_reducible refine' ⟨_, _, rfl, ?sd1, ?_⟩); (case sd1 => walk_at "sd"))
  | with_reducible refine ⟨_, _, rfl, ?_⟩
  | with_reducible refine .inl ⟨_, rfl, ?_⟩
  | dsimp only [List.set]
  | walk_at "rdx"
  | (refine fun _ _ => ?_)))

namespace My
open PySem L2
section
variable {P : Program} {w : World} {K : PySem.W.Frag} {mg : Str → Option Value} {base : Heap} {C_Sizes : Addr} (M : Md K mg C_Sizes)
include M
local macro_rules | `(tactic| walk_at "rdx") => `(tactic| first
  | with_reducible refine s_tdget ?_ | with_reducible refine s_tdin ?_
  | ((with_reducible refine' s_mcall ?mc1 ?mc2 ?_); (case mc1 => walk_at "hp"); (case mc2 => rfl)))
omit M
/-- two Sizes as they are compared, and the dicts of which they were made -/
structure Two (d e h m : List (Str × Int)) : Prop where
  gd : GoodD d
  ge : GoodD e
  sd : Srt d
  se : Srt e
  pm : h.Perm d
  pe : m.Perm e
  n : names d = names e
  bd : ∀ p ∈ d, Sm 300 p.2
  be : ∀ p ∈ e, Sm 300 p.2
  st : look d "strange" = none
theorem blen2 (a b : Bool) : (PyData.shown (.list [.bool a, .bool b])).length ≤ sizeLine := by
  cases a <;> cases b <;> exact le_size (by rfl)
theorem nf_own {K : PySem.W.Frag} {C : Addr} : PySem.W.notFirst K C (.ref C) = true := by
  unfold PySem.W.notFirst
  simp
theorem SzAt.both1 {C : Addr} {H : Hp} {x : Addr} {d e : List (Str × Int)} (f : Int → Int → Int) (gd : (names d).Nodup) (z : SzAt C H x (d.map fun p => (p.1, f p.2 (lk e p.1)))) : SzAt C H x (bothN (names d) d e f) := by
  rw [← My.both1 gd f]
  exact z
theorem SzAt.both2 {C : Addr} {H : Hp} {x : Addr} {d e : List (Str × Int)} (f : Int → Int → Int) (ge : (names e).Nodup) (n : names d = names e) (c : ∀ i j, f i j = f j i) (z : SzAt C H x (e.map fun p => (p.1, f p.2 (lk d p.1)))) : SzAt C H x (bothN (names d) d e f) := by
  rw [← My.both2 ge n f c]
  exact z
def spPair (C : Addr) : Sp := fun vs H Q _ => ∃ a b x y d e h m, vs = [.ref a, .ref b, .ref x, .ref y] ∧ SzAt C H a d ∧ SzAt C H b e ∧ H x = some (.dK (dk h)) ∧ H y = some (.dK (dk m)) ∧ Two d e h m ∧ ∀ H', L2.Same H H' → Q (.bl true) H'
include M
set_option maxHeartbeats 0 in
theorem c__law_pair_right : Dn P w K mg base "_law_pair_right" 7 ["_law_first", "_law_second", "_law_held", "_law_more"] [] (spPair C_Sizes) := by
  have c_Sizes___add__ := c_Sizes___add__ (P := P) (w := w) (base := base) M
  have c_Sizes___and__ := c_Sizes___and__ (P := P) (w := w) (base := base) M
  have c_Sizes___or__ := c_Sizes___or__ (P := P) (w := w) (base := base) M
  have c_Sizes___eq__ := c_Sizes___eq__ (P := P) (w := w) (base := base) M
  have c_Sizes_is_within := c_Sizes_is_within (P := P) (w := w) (base := base) M
  have k_Sizes_is_within := k_Sizes_is_within (P := P) (w := w) (base := base) M
  have c__law_shown_right := c__law_shown_right (P := P) (w := w) (base := base) M
  refine dnN M.f__law_pair_right (fun F => ?_) (fun _ _ _ _ _ _ us hl => match us, hl with | [_, _, _, _], _ => rfl)
  refine fnG_body F sc__law_pair_right (fun vs H Q E h => ?_) (fun cdv A outer s H vs Q E hr h => ?_)
  · obtain ⟨a, b, x, y, d, e, h, m, rfl, _⟩ := h
    rfl
  · obtain ⟨a, b, x, y, d, e, h, m, rfl, ha, hb, hx, hy, T, k⟩ := h
    obtain ⟨dx, qa, a1, a2, gd, sd⟩ := id ha
    obtain ⟨dy, qb, b1, b2, ge, se⟩ := id hb
    obtain ⟨_, _, _, _, pm, pe, n, bd, be, st⟩ := T
    have gh := gd.perm pm
    have gm := ge.perm pe
    have nh : (names h).Perm (names m) := ((names_perm pm).trans (n ▸ (names_perm pe).symm))
    have lkm : ∀ p ∈ h, look m p.1 = some (lk m p.1) := fun p hp => by
      obtain ⟨i, hi⟩ := look_in (nh.mem_iff.mp (List.mem_map.mpr ⟨p, hp, rfl⟩))
      unfold lk
      rw [hi]
      rfl
    have ee0 : ∀ p ∈ d, 0 ≤ lk e p.1 ∧ Sm 300 (lk e p.1) := fun p hp => ⟨ge.nn _ (lk_in n hp), be _ (lk_in n hp)⟩
    have dd0 : ∀ p ∈ e, 0 ≤ lk d p.1 ∧ Sm 300 (lk d p.1) := fun p hp => ⟨gd.nn _ (lk_in n.symm hp), bd _ (lk_in n.symm hp)⟩
    refine ⟨_, (pss_cons (ps_set (i := 4) sc__law_pair_right.nd rfl (.inl rfl) (pe_callTy (call_dictP rfl) (by rfl) M.b_dict (by decide +kernel) (pa_cons (pe_lock (pe_lc (own := [("_law_word", 9)]) (g := gName 9) (tt := tYes) (by rfl) sc__law_pair_right.nd (pi_keys (pv 2)) (blkOk_by (own := [("_law_word", 9)]) (N := N__law_pair_right) (sc := defScope st__law_pair_right) (by decide +kernel)) (fun _ _ _ _ _ => pg_name (i := 9) sc__law_pair_right.nd rfl (by first | exact Or.inl rfl | exact Or.inr rfl)) (fun _ _ _ _ _ => pts_nil) (fun _ _ _ _ _ => (pe_tup (pa_cons (pv 9) (pa_cons (pe_op op_add (pe_dget (hug hr) (pv 2) (pv 9) (fun _ _ => rfl)) (pe_dget (hug hr) (pv 3) (pv 9) (fun _ _ => rfl))) pa_nil)))))) pa_nil))) (pss_cons (ps_set (i := 5) sc__law_pair_right.nd rfl (.inl rfl) (pe_callTy (call_dictP rfl) (by rfl) M.b_dict (by decide +kernel) (pa_cons (pe_lock (pe_lc (own := [("_law_word", 9)]) (g := gName 9) (tt := tYes) (by rfl) sc__law_pair_right.nd (pi_keys (pv 2)) (blkOk_by (own := [("_law_word", 9)]) (N := N__law_pair_right) (sc := defScope st__law_pair_right) (by decide +kernel)) (fun _ _ _ _ _ => pg_name (i := 9) sc__law_pair_right.nd rfl (by first | exact Or.inl rfl | exact Or.inr rfl)) (fun _ _ _ _ _ => pts_nil) (fun _ _ _ _ _ => (pe_tup (pa_cons (pv 9) (pa_cons (pe_callB (call_min2 rfl) (by rfl) M.b_min (by decide +kernel) (pa_cons (pe_dget (hug hr) (pv 2) (pv 9) (fun _ _ => rfl)) (pa_cons (pe_dget (hug hr) (pv 3) (pv 9) (fun _ _ => rfl)) pa_nil))) pa_nil)))))) pa_nil))) (pss_cons (ps_set (i := 6) sc__law_pair_right.nd rfl (.inl rfl) (pe_callTy (call_dictP rfl) (by rfl) M.b_dict (by decide +kernel) (pa_cons (pe_lock (pe_lc (own := [("_law_word", 9)]) (g := gName 9) (tt := tYes) (by rfl) sc__law_pair_right.nd (pi_keys (pv 2)) (blkOk_by (own := [("_law_word", 9)]) (N := N__law_pair_right) (sc := defScope st__law_pair_right) (by decide +kernel)) (fun _ _ _ _ _ => pg_name (i := 9) sc__law_pair_right.nd rfl (by first | exact Or.inl rfl | exact Or.inr rfl)) (fun _ _ _ _ _ => pts_nil) (fun _ _ _ _ _ => (pe_tup (pa_cons (pv 9) (pa_cons (pe_callB (call_max2 rfl) (by rfl) M.b_max (by decide +kernel) (pa_cons (pe_dget (hug hr) (pv 2) (pv 9) (fun _ _ => rfl)) (pa_cons (pe_dget (hug hr) (pv 3) (pv 9) (fun _ _ => rfl)) pa_nil))) pa_nil)))))) pa_nil))) (pss_cons (ps_set (i := 7) sc__law_pair_right.nd rfl (.inl rfl) (pe_lst (pa_cons (pe_tup (pa_cons (pe_op (op_own c_Sizes___add__ rfl M.sf_Sizes (hr.mono (by decide))) (pv 0) (pv 1)) (pa_cons (pv 4) pa_nil))) (pa_cons (pe_tup (pa_cons (pe_op (op_own c_Sizes___add__ rfl M.sf_Sizes (hr.mono (by decide))) (pv 1) (pv 0)) (pa_cons (pv 4) pa_nil))) (pa_cons (pe_tup (pa_cons (pe_op (op_own c_Sizes___and__ rfl M.sf_Sizes (hr.mono (by decide))) (pv 0) (pv 1)) (pa_cons (pv 5) pa_nil))) (pa_cons (pe_tup (pa_cons (pe_op (op_own c_Sizes___and__ rfl M.sf_Sizes (hr.mono (by decide))) (pv 1) (pv 0)) (pa_cons (pv 5) pa_nil))) pa_nil)))))) (pss_cons (ps_set (i := 7) sc__law_pair_right.nd rfl (.inl rfl) (pe_op op_cat (pv 7) (pe_lst (pa_cons (pe_tup (pa_cons (pe_op (op_own c_Sizes___or__ rfl M.sf_Sizes (hr.mono (by decide))) (pv 0) (pv 1)) (pa_cons (pv 6) pa_nil))) (pa_cons (pe_tup (pa_cons (pe_op (op_own c_Sizes___or__ rfl M.sf_Sizes (hr.mono (by decide))) (pv 1) (pv 0)) (pa_cons (pv 6) pa_nil))) pa_nil))))) (pss_cons (ps_if (pt_not (pt_val (pe_callB (cr_all rfl) (by rfl) M.b_all (by decide +kernel) (pa_cons (pe_lc (own := [("_law_thing", 10), ("_law_rows", 11)]) (g := (gTup K 2 (gCons (gName 10) (gCons (gName 11) gNil)))) (tt := tYes) (by rfl) sc__law_pair_right.nd (pi_list (pv 7)) (blkOk_by (own := [("_law_thing", 10), ("_law_rows", 11)]) (N := N__law_pair_right) (sc := defScope st__law_pair_right) (by decide +kernel)) (fun _ _ _ _ _ => (pg_tupK (K := K) rfl (by rfl) (pgs_cons (pg_name (i := 10) sc__law_pair_right.nd rfl (by first | exact Or.inl rfl | exact Or.inr rfl)) (pgs_cons (pg_name (i := 11) sc__law_pair_right.nd rfl (by first | exact Or.inl rfl | exact Or.inr rfl)) pgs_nil)))) (fun _ _ _ _ _ => pts_nil) (fun _ _ _ _ _ => (pe_callD c__law_shown_right (hr.mono (by decide)) rfl (pa_cons (pv 10) (pa_cons (pv 11) pa_nil))))) pa_nil)))) (pss_one (ps_ret pe_bl)) pss_nil) (pss_cons (ps_set (i := 8) sc__law_pair_right.nd rfl (.inl rfl) (pe_callB (cr_all rfl) (by rfl) M.b_all (by decide +kernel) (pa_cons (pe_lock (pe_lc (own := [("_law_word", 9)]) (g := gName 9) (tt := tYes) (by rfl) sc__law_pair_right.nd (pi_keys (pv 2)) (blkOk_by (own := [("_law_word", 9)]) (N := N__law_pair_right) (sc := defScope st__law_pair_right) (by decide +kernel)) (fun _ _ _ _ _ => pg_name (i := 9) sc__law_pair_right.nd rfl (by first | exact Or.inl rfl | exact Or.inr rfl)) (fun _ _ _ _ _ => pts_nil) (fun _ _ _ _ _ => (pe_cmpR op_le (pe_dget (hug hr) (pv 2) (pv 9) (fun _ _ => rfl)) (pe_dget (hug hr) (pv 3) (pv 9) (fun _ _ => rfl)) (nomark _))))) pa_nil))) (pss_cons (ps_if (pt_cmpR op_ne (pe_callB (call_reprD hr) (by rfl) M.b_repr (by decide +kernel) (pa_cons (pe_lst (pa_cons (pe_methD c_Sizes_is_within (pv 0) (hr.mono (by decide)) (pa_cons (pv 1) pa_nil)) (pa_cons (pe_methK k_Sizes_is_within (pv 0) (hr.mono (by decide)) (pk_cons (pv 1) pk_nil)) pa_nil))) pa_nil)) (pe_callB (call_reprD hr) (by rfl) M.b_repr (by decide +kernel) (pa_cons (pe_op op_rep (pe_lst (pa_cons (pv 8) pa_nil)) pe_int) pa_nil)) (nomark _)) (pss_one (ps_ret pe_bl)) pss_nil) (pss_cons (ps_if (pt_cmpR op_ne (pe_callB (call_reprD hr) (by rfl) M.b_repr (by decide +kernel) (pa_cons (pe_lst (pa_cons (pe_cmpR (or_eqO c_Sizes___eq__ (hr.mono (by decide))) (pv 0) (pv 1) (nomark _)) (pa_cons (pe_cmpR (or_neO c_Sizes___eq__ M.ne_Sizes M.mo_Sizes (hr.mono (by decide))) (pv 0) (pv 1) (nomark _)) pa_nil))) pa_nil)) (pe_callB (call_reprD hr) (by rfl) M.b_repr (by decide +kernel) (pa_cons (pe_lst (pa_cons (pe_cmpR (op_eqDD (hug hr)) (pv 2) (pv 3) (nomark _)) (pa_cons (pe_cmpR (op_neDD (hug hr)) (pv 2) (pv 3) (nomark _)) pa_nil))) pa_nil)) (nomark _)) (pss_one (ps_ret pe_bl)) pss_nil) (pss_one (ps_ret (pe_and (pe_methD c_Sizes_is_within (pe_op (op_own c_Sizes___and__ rfl M.sf_Sizes (hr.mono (by decide))) (pv 0) (pv 1)) (hr.mono (by decide)) (pa_cons (pv 0) pa_nil)) (pe_one (pe_methD c_Sizes_is_within (pv 0) (hr.mono (by decide)) (pa_cons (pe_op (op_own c_Sizes___or__ rfl M.sf_Sizes (hr.mono (by decide))) (pv 0) (pv 1)) pa_nil))))))))))))))), ?_⟩
    refine st_eq (σ := [some _, some _, some _, some _, none, none, none, none, none, none, none, none]) rfl ?_
    walk_at "rd"
    refine lock_prs (d := h) (q := x) (fun p => p.2 + lk m p.1) hx (few1 gh) ?_ ?_ ?_
    · intro H' R _ q'
      walk_at "rd"
      exact q'
    · intro od D i p H' R F hp nD hDq hq hs hD q'
      have hm := List.mem_of_getElem? hp
      walk_at "rd"
      refine s_dget (d := h) (.inr ⟨od, hq⟩) (look_mem gh.nd hm) ?_
      walk_at "rd"
      refine s_dget (d := m) (rd_lock hq hs hx hy) (lkm p hm) ?_
      walk_at "rd"
      exact q' _ _ (L2.Same.refl _) (by assumption)
    intro D1 H1 nD1 s1 pr1
    have nd1 : (names (h.map fun p => (p.1, p.2 + lk m p.1))).Nodup := by
      have := mapN_names h fun p => p.2 + lk m p.1
      unfold mapN at this
      rw [this]
      exact gh.nd
    obtain ⟨ps, z1, z2, z3⟩ := pr1.dict (K := K) nd1
    walk_at "rd"
    refine ⟨_, ps, _, rfl, z1, z2, fun u1 nu1 => ?_⟩
    rw [z3]
    have S1 := My.Same.tr s1 (My.Same.new (o := .dK (dk (h.map fun p => (p.1, p.2 + lk m p.1)))) nu1)
    have d1 : (L2.upd H1 u1 (.dK (dk (h.map fun p => (p.1, p.2 + lk m p.1))))) u1 = _ := upd_same
    generalize L2.upd H1 u1 (.dK (dk (h.map fun p => (p.1, p.2 + lk m p.1)))) = H1' at S1 d1 ⊢
    walk_at "rd"
    refine lock_prs (d := h) (q := x) (fun p => if lk m p.1 < p.2 then lk m p.1 else p.2) (S1 _ _ hx) (few1 gh) ?_ ?_ ?_
    · intro H' R _ q'
      walk_at "rd"
      exact q'
    · intro od D i p H' R F hp nD hDq hq hs hD q'
      have hm := List.mem_of_getElem? hp
      walk_at "rd"
      refine s_dget (d := h) (.inr ⟨od, hq⟩) (look_mem gh.nd hm) ?_
      walk_at "rd"
      refine s_dget (d := m) (rd_lock hq hs (S1 _ _ hx) (S1 _ _ hy)) (lkm p hm) ?_
      walk_at "rd"
      exact q' _ _ (L2.Same.refl _) (by assumption)
    intro D2 H2 nD2 s2 pr2
    have nd2 : (names (h.map fun p => (p.1, if lk m p.1 < p.2 then lk m p.1 else p.2))).Nodup := by
      have := mapN_names h fun p => if lk m p.1 < p.2 then lk m p.1 else p.2
      unfold mapN at this
      rw [this]
      exact gh.nd
    obtain ⟨ps, z1, z2, z3⟩ := pr2.dict (K := K) nd2
    walk_at "rd"
    refine ⟨_, ps, _, rfl, z1, z2, fun u2 nu2 => ?_⟩
    rw [z3]
    have S2' := My.Same.tr s2 (My.Same.new (o := .dK (dk (h.map fun p => (p.1, if lk m p.1 < p.2 then lk m p.1 else p.2)))) nu2)
    have d2 : (L2.upd H2 u2 (.dK (dk (h.map fun p => (p.1, if lk m p.1 < p.2 then lk m p.1 else p.2))))) u2 = _ := upd_same
    generalize L2.upd H2 u2 (.dK (dk (h.map fun p => (p.1, if lk m p.1 < p.2 then lk m p.1 else p.2)))) = H2' at S2' d2 ⊢
    have S2 := My.Same.tr S1 S2'
    have d12 := S2' _ _ d1
    walk_at "rd"
    refine lock_prs (d := h) (q := x) (fun p => if lk m p.1 > p.2 then lk m p.1 else p.2) (S2 _ _ hx) (few1 gh) ?_ ?_ ?_
    · intro H' R _ q'
      walk_at "rd"
      exact q'
    · intro od D i p H' R F hp nD hDq hq hs hD q'
      have hm := List.mem_of_getElem? hp
      walk_at "rd"
      refine s_dget (d := h) (.inr ⟨od, hq⟩) (look_mem gh.nd hm) ?_
      walk_at "rd"
      refine s_dget (d := m) (rd_lock hq hs (S2 _ _ hx) (S2 _ _ hy)) (lkm p hm) ?_
      walk_at "rd"
      exact q' _ _ (L2.Same.refl _) (by assumption)
    intro D3 H3 nD3 s3 pr3
    have nd3 : (names (h.map fun p => (p.1, if lk m p.1 > p.2 then lk m p.1 else p.2))).Nodup := by
      have := mapN_names h fun p => if lk m p.1 > p.2 then lk m p.1 else p.2
      unfold mapN at this
      rw [this]
      exact gh.nd
    obtain ⟨ps, z1, z2, z3⟩ := pr3.dict (K := K) nd3
    walk_at "rd"
    refine ⟨_, ps, _, rfl, z1, z2, fun u3 nu3 => ?_⟩
    rw [z3]
    have S3' := My.Same.tr s3 (My.Same.new (o := .dK (dk (h.map fun p => (p.1, if lk m p.1 > p.2 then lk m p.1 else p.2)))) nu3)
    have d3 : (L2.upd H3 u3 (.dK (dk (h.map fun p => (p.1, if lk m p.1 > p.2 then lk m p.1 else p.2))))) u3 = _ := upd_same
    generalize L2.upd H3 u3 (.dK (dk (h.map fun p => (p.1, if lk m p.1 > p.2 then lk m p.1 else p.2)))) = H3' at S3' d3 ⊢
    have S3 := My.Same.tr S2 S3'
    have d13 := S3' _ _ d12
    have d23 := S3' _ _ d2
    have ha3 := ha.same S3
    have hb3 := hb.same S3
    have a13 := S3 _ _ a1
    have b13 := S3 _ _ b1
    walk_at "rd"
    have gp1 : GoodD (d.map fun p => (p.1, p.2 + lk e p.1)) := gd.map _ (fun p hp => by have := gd.nn p hp; have := (ee0 p hp).1; omega) (fun p hp => ((bd p hp).add (ee0 p hp).2).mono (by decide))
    have gp2 : GoodD (e.map fun p => (p.1, p.2 + lk d p.1)) := ge.map _ (fun p hp => by have := ge.nn p hp; have := (dd0 p hp).1; omega) (fun p hp => ((be p hp).add (dd0 p hp).2).mono (by decide))
    have gm1 : GoodD (d.map fun p => (p.1, if lk e p.1 < p.2 then lk e p.1 else p.2)) := gd.map _ (fun p hp => by have := gd.nn p hp; have := (ee0 p hp).1; split <;> assumption) (fun p hp => (Sm.min (bd p hp) (ee0 p hp).2).mono (by decide))
    have gm2 : GoodD (e.map fun p => (p.1, if lk d p.1 < p.2 then lk d p.1 else p.2)) := ge.map _ (fun p hp => by have := ge.nn p hp; have := (dd0 p hp).1; split <;> assumption) (fun p hp => (Sm.min (be p hp) (dd0 p hp).2).mono (by decide))
    have gx1 : GoodD (d.map fun p => (p.1, if lk e p.1 > p.2 then lk e p.1 else p.2)) := gd.map _ (fun p hp => by have := gd.nn p hp; have := (ee0 p hp).1; split <;> assumption) (fun p hp => (Sm.max (bd p hp) (ee0 p hp).2).mono (by decide))
    have gx2 : GoodD (e.map fun p => (p.1, if lk d p.1 > p.2 then lk d p.1 else p.2)) := ge.map _ (fun p hp => by have := ge.nn p hp; have := (dd0 p hp).1; split <;> assumption) (fun p hp => (Sm.max (be p hp) (dd0 p hp).2).mono (by decide))
    have stb : ∀ f, look (bothN (names d) d e f) "strange" = none := fun f => strange_none (bothN_names _ _ _ _).symm st
    refine ⟨a, b, dx, dy, _, _, rfl, rfl, a13, b13, a, b, d, e, rfl, ha3, hb3, n, gp1, fun x1 K1 v1 z1 => ?_⟩
    walk_at "rd"
    rename_i t1 nt1
    have SG1 : L2.Same H3' (L2.upd K1 t1 (.tup [.ref x1, .ref u1])) := My.Same.tr v1 (My.Same.new nt1)
    have k1 : ShOk C_Sizes (L2.upd K1 t1 (.tup [.ref x1, .ref u1])) (.ref t1) := ⟨t1, x1, u1, _, _, rfl, upd_same, (SzAt.both1 (fun i j => i + j) gd.nd z1).same (My.Same.new nt1), SG1 _ _ d13, both_perm pm pe gd.nd ge.nd (fun i j => i + j), stb _⟩
    generalize L2.upd K1 t1 (.tup [.ref x1, .ref u1]) = G1 at SG1 k1 ⊢
    refine ⟨b, a, dy, dx, _, _, rfl, rfl, (SG1 _ _ b13), (SG1 _ _ a13), b, a, e, d, rfl, (hb3.same SG1), (ha3.same SG1), n.symm, gp2, fun x2 K2 v2 z2 => ?_⟩
    walk_at "rd"
    rename_i t2 nt2
    have SG2 : L2.Same H3' (L2.upd K2 t2 (.tup [.ref x2, .ref u1])) := My.Same.tr (My.Same.tr SG1 v2) (My.Same.new nt2)
    have k2 : ShOk C_Sizes (L2.upd K2 t2 (.tup [.ref x2, .ref u1])) (.ref t2) := ⟨t2, x2, u1, _, _, rfl, upd_same, (SzAt.both2 (fun i j => i + j) ge.nd n (fun i j => Int.add_comm i j) z2).same (My.Same.new nt2), SG2 _ _ d13, both_perm pm pe gd.nd ge.nd (fun i j => i + j), stb _⟩
    have k1 := (k1.same v2).same (My.Same.new (o := (.tup [.ref x2, .ref u1])) nt2)
    generalize L2.upd K2 t2 (.tup [.ref x2, .ref u1]) = G2 at SG2 k2 k1 ⊢
    refine ⟨a, b, dx, dy, _, _, rfl, rfl, (SG2 _ _ a13), (SG2 _ _ b13), a, b, d, e, rfl, (ha3.same SG2), (hb3.same SG2), n, gm1, fun x3 K3 v3 z3 => ?_⟩
    walk_at "rd"
    rename_i t3 nt3
    have SG3 : L2.Same H3' (L2.upd K3 t3 (.tup [.ref x3, .ref u2])) := My.Same.tr (My.Same.tr SG2 v3) (My.Same.new nt3)
    have k3 : ShOk C_Sizes (L2.upd K3 t3 (.tup [.ref x3, .ref u2])) (.ref t3) := ⟨t3, x3, u2, _, _, rfl, upd_same, (SzAt.both1 (fun i j => if j < i then j else i) gd.nd z3).same (My.Same.new nt3), SG3 _ _ d23, both_perm pm pe gd.nd ge.nd (fun i j => if j < i then j else i), stb _⟩
    have k1 := (k1.same v3).same (My.Same.new (o := (.tup [.ref x3, .ref u2])) nt3)
    have k2 := (k2.same v3).same (My.Same.new (o := (.tup [.ref x3, .ref u2])) nt3)
    generalize L2.upd K3 t3 (.tup [.ref x3, .ref u2]) = G3 at SG3 k3 k1 k2 ⊢
    refine ⟨b, a, dy, dx, _, _, rfl, rfl, (SG3 _ _ b13), (SG3 _ _ a13), b, a, e, d, rfl, (hb3.same SG3), (ha3.same SG3), n.symm, gm2, fun x4 K4 v4 z4 => ?_⟩
    walk_at "rd"
    rename_i t4 nt4 L4 nL4
    have SG4 : L2.Same H3' (L2.upd K4 t4 (.tup [.ref x4, .ref u2])) := My.Same.tr (My.Same.tr SG3 v4) (My.Same.new nt4)
    have k4 : ShOk C_Sizes (L2.upd K4 t4 (.tup [.ref x4, .ref u2])) (.ref t4) := ⟨t4, x4, u2, _, _, rfl, upd_same, (SzAt.both2 (fun i j => if j < i then j else i) ge.nd n min_comm z4).same (My.Same.new nt4), SG4 _ _ d23, both_perm pm pe gd.nd ge.nd (fun i j => if j < i then j else i), stb _⟩
    have k1 := (k1.same v4).same (My.Same.new (o := (.tup [.ref x4, .ref u2])) nt4)
    have k2 := (k2.same v4).same (My.Same.new (o := (.tup [.ref x4, .ref u2])) nt4)
    have k3 := (k3.same v4).same (My.Same.new (o := (.tup [.ref x4, .ref u2])) nt4)
    generalize L2.upd K4 t4 (.tup [.ref x4, .ref u2]) = G4 at SG4 k4 k1 k2 k3 nL4 ⊢
    have SG4' := My.Same.tr SG4 (My.Same.new (o := .lst [.ref t1, .ref t2, .ref t3, .ref t4]) nL4)
    have L4e : (L2.upd G4 L4 (.lst [.ref t1, .ref t2, .ref t3, .ref t4])) L4 = _ := upd_same
    have k1 := k1.same (My.Same.new (o := .lst [.ref t1, .ref t2, .ref t3, .ref t4]) nL4)
    have k2 := k2.same (My.Same.new (o := .lst [.ref t1, .ref t2, .ref t3, .ref t4]) nL4)
    have k3 := k3.same (My.Same.new (o := .lst [.ref t1, .ref t2, .ref t3, .ref t4]) nL4)
    have k4 := k4.same (My.Same.new (o := .lst [.ref t1, .ref t2, .ref t3, .ref t4]) nL4)
    clear SG4
    have SG4 := SG4'
    clear SG4'
    generalize L2.upd G4 L4 (.lst [.ref t1, .ref t2, .ref t3, .ref t4]) = G4' at SG4 L4e k1 k2 k3 k4 ⊢
    refine ⟨a, b, dx, dy, _, _, rfl, rfl, (SG4 _ _ a13), (SG4 _ _ b13), a, b, d, e, rfl, (ha3.same SG4), (hb3.same SG4), n, gx1, fun x5 K5 v5 z5 => ?_⟩
    walk_at "rd"
    rename_i t5 nt5
    have SG5 : L2.Same H3' (L2.upd K5 t5 (.tup [.ref x5, .ref u3])) := My.Same.tr (My.Same.tr SG4 v5) (My.Same.new nt5)
    have k5 : ShOk C_Sizes (L2.upd K5 t5 (.tup [.ref x5, .ref u3])) (.ref t5) := ⟨t5, x5, u3, _, _, rfl, upd_same, (SzAt.both1 (fun i j => if j > i then j else i) gd.nd z5).same (My.Same.new nt5), SG5 _ _ d3, both_perm pm pe gd.nd ge.nd (fun i j => if j > i then j else i), stb _⟩
    have k1 := (k1.same v5).same (My.Same.new (o := (.tup [.ref x5, .ref u3])) nt5)
    have k2 := (k2.same v5).same (My.Same.new (o := (.tup [.ref x5, .ref u3])) nt5)
    have k3 := (k3.same v5).same (My.Same.new (o := (.tup [.ref x5, .ref u3])) nt5)
    have k4 := (k4.same v5).same (My.Same.new (o := (.tup [.ref x5, .ref u3])) nt5)
    have L4e := My.Same.new (o := (.tup [.ref x5, .ref u3])) nt5 _ _ (v5 _ _ L4e)
    generalize L2.upd K5 t5 (.tup [.ref x5, .ref u3]) = G5 at SG5 k5 k1 k2 k3 k4 L4e ⊢
    refine ⟨b, a, dy, dx, _, _, rfl, rfl, (SG5 _ _ b13), (SG5 _ _ a13), b, a, e, d, rfl, (hb3.same SG5), (ha3.same SG5), n.symm, gx2, fun x6 K6 v6 z6 => ?_⟩
    walk_at "rd"
    rename_i t6 nt6 L6 nL6
    have SG6 : L2.Same H3' (L2.upd K6 t6 (.tup [.ref x6, .ref u3])) := My.Same.tr (My.Same.tr SG5 v6) (My.Same.new nt6)
    have k6 : ShOk C_Sizes (L2.upd K6 t6 (.tup [.ref x6, .ref u3])) (.ref t6) := ⟨t6, x6, u3, _, _, rfl, upd_same, (SzAt.both2 (fun i j => if j > i then j else i) ge.nd n max_comm z6).same (My.Same.new nt6), SG6 _ _ d3, both_perm pm pe gd.nd ge.nd (fun i j => if j > i then j else i), stb _⟩
    have k1 := (k1.same v6).same (My.Same.new (o := (.tup [.ref x6, .ref u3])) nt6)
    have k2 := (k2.same v6).same (My.Same.new (o := (.tup [.ref x6, .ref u3])) nt6)
    have k3 := (k3.same v6).same (My.Same.new (o := (.tup [.ref x6, .ref u3])) nt6)
    have k4 := (k4.same v6).same (My.Same.new (o := (.tup [.ref x6, .ref u3])) nt6)
    have k5 := (k5.same v6).same (My.Same.new (o := (.tup [.ref x6, .ref u3])) nt6)
    have L4e := My.Same.new (o := (.tup [.ref x6, .ref u3])) nt6 _ _ (v6 _ _ L4e)
    generalize L2.upd K6 t6 (.tup [.ref x6, .ref u3]) = G6 at SG6 k6 k1 k2 k3 k4 k5 nL6 L4e ⊢
    have L4f : (L2.upd G6 L6 (.lst [.ref t5, .ref t6])) L4 = _ := (upd_ne (ne_of_none L4e nL6)).trans L4e
    refine ⟨L4, L6, _, _, rfl, rfl, L4f, upd_same, le_size (by rfl), fun L nL => ?_⟩
    have hok : ∀ v ∈ [V.ref t1, .ref t2, .ref t3, .ref t4, .ref t5, .ref t6], ShOk C_Sizes (L2.upd (L2.upd G6 L6 (.lst [.ref t5, .ref t6])) L (.lst [.ref t1, .ref t2, .ref t3, .ref t4, .ref t5, .ref t6])) v := by
      intro v hv
      simp only [List.mem_cons, List.not_mem_nil, or_false] at hv
      have ok : ShOk C_Sizes G6 v := by
        rcases hv with rfl | rfl | rfl | rfl | rfl | rfl <;> assumption
      exact (ok.same (My.Same.new nL6)).same (My.Same.new nL)
    have SG7 : L2.Same H3' (L2.upd (L2.upd G6 L6 (.lst [.ref t5, .ref t6])) L (.lst [.ref t1, .ref t2, .ref t3, .ref t4, .ref t5, .ref t6])) := My.Same.tr SG6 (My.Same.tr (My.Same.new nL6) (My.Same.new nL))
    have hL : (L2.upd (L2.upd G6 L6 (.lst [.ref t5, .ref t6])) L (.lst [.ref t1, .ref t2, .ref t3, .ref t4, .ref t5, .ref t6])) L = _ := upd_same
    show gName 7 _ _ (L2.upd (L2.upd G6 L6 (.lst [.ref t5, .ref t6])) L (.lst [.ref t1, .ref t2, .ref t3, .ref t4, .ref t5, .ref t6])) _
    generalize L2.upd (L2.upd G6 L6 (.lst [.ref t5, .ref t6])) L (.lst [.ref t1, .ref t2, .ref t3, .ref t4, .ref t5, .ref t6]) = G7 at hok SG7 hL ⊢
    walk_at "rd"
    refine ⟨⟨_, SqL.of hL⟩, fun D7 nD7 => list_lcF (fun _ => .bl true) (SqL.of hL) nD7 (by simp) ?_ ?_⟩
    · intro i v H' R F hv s' nD' q'
      obtain ⟨t, sx, r, dd, g, rfl, q1, q2, q3, q4, q5⟩ := (hok v (List.mem_of_getElem? hv)).same s'
      walk_at "rd"
      exact ⟨sx, r, dd, g, rfl, q2, q3, q4, q5, fun H5 s5 => q' H5 s5⟩
    intro H8 s8 l8
    walk_at "rd"
    refine ⟨_, List.replicate 6 true, rfl, SqL.of l8, ?_⟩
    rw [show (List.replicate 6 true).all id = true from rfl]
    have S8 := My.Same.tr S3 (My.Same.tr SG7 s8)
    have hx8 := S8 _ _ hx
    have hy8 := S8 _ _ hy
    walk_at "rd"
    refine lock_lc (d := h) (q := x) (fun p => .bl (decide (p.2 ≤ lk m p.1))) hx8 (few1 gh) ?_ ?_ ?_
    · intro H' R _ q'
      walk_at "rd"
      exact q'
    · intro od D i p H' R F hp nD hDq hq hs hD q'
      have hm := List.mem_of_getElem? hp
      walk_at "rd"
      refine s_dget (d := h) (.inr ⟨od, hq⟩) (look_mem gh.nd hm) ?_
      walk_at "rd"
      refine s_dget (d := m) (rd_lock hq hs hx8 hy8) (lkm p hm) ?_
      walk_at "rd"
      exact q' H' (L2.Same.refl _)
    intro D8 H9 nD8 s9 l9
    walk_at "rd"
    refine ⟨_, h.map fun p => decide (p.2 ≤ lk m p.1), rfl, SqL.of (by rw [List.map_map]; exact l9), ?_⟩
    rw [show ((h.map fun p => decide (p.2 ≤ lk m p.1)).all id) = leD d e from by rw [List.all_map, ← leD_perm pm pe ge.nd]; rfl]
    have S9 := My.Same.tr S8 s9
    have a19 := S9 _ _ a1
    walk_at "rd"
    refine ⟨a, b, d, e, rfl, ha.same S9, hb.same S9, n, fun HA sA => ?_⟩
    have SA := My.Same.tr S9 sA
    walk_at "rd"
    refine ⟨.ref a, rfl, a, dx, _, rfl, SA _ _ a1, rfl, ?_⟩
    walk_at "rd"
    refine ⟨a, b, d, e, rfl, ha.same SA, hb.same SA, n, fun HB sB => ?_⟩
    have SB := My.Same.tr SA sB
    walk_at "rd"
    rename_i l1 nl1
    refine ⟨_, .list [.bool _, .bool _], rfl, .lst (SqL.of upd_same) (.cons (.bl _) (.cons (.bl _) .nil)), rfl, rfl, rfl, blen2 _ _, ?_⟩
    have SC := My.Same.tr SB (My.Same.new (o := .lst [.bl (leD d e), .bl (leD d e)]) nl1)
    generalize L2.upd HB l1 _ = HC at SC ⊢
    walk_at "rd"
    rename_i l2 nl2
    refine ⟨l2, 2, _, rfl, rfl, upd_same, by decide, by decide, le_size (by rfl), fun l3 nl3 => ?_⟩
    walk_at "rd"
    refine ⟨_, .list [.bool (leD d e), .bool (leD d e)], rfl, .lst (SqL.of upd_same) (.cons (.bl _) (.cons (.bl _) .nil)), rfl, rfl, rfl, blen2 _ _, ?_⟩
    have SD := My.Same.tr (My.Same.tr SC (My.Same.new (o := .lst [.bl (leD d e)]) nl2)) (My.Same.new (o := .lst (List.replicate (Int.toNat 2) [V.bl (leD d e)]).flatten) nl3)
    generalize L2.upd (L2.upd HC l2 _) l3 _ = HD at SD ⊢
    walk_at "rd"
    have a1D := SD _ _ a1
    have b1D := SD _ _ b1
    refine ⟨a, dx, _, .ref C_Sizes, rfl, a1D, .base (M.z_Sizes b1D), nf_own, a, _, d, rfl, ha.same SD, .inl ⟨b, e, rfl, hb.same SD, ?_⟩⟩
    walk_at "rd"
    refine ⟨a, dx, _, .ref C_Sizes, rfl, a1D, .base (M.z_Sizes b1D), nf_own, a, _, d, rfl, ha.same SD, .inl ⟨b, e, rfl, hb.same SD, _, rfl, ?_⟩⟩
    walk_at "rd"
    rename_i l4 nl4
    refine ⟨_, .list [.bool (eqD d e), .bool (!eqD d e)], rfl, .lst (SqL.of upd_same) (.cons (.bl (eqD d e)) (.cons (.bl (!eqD d e)) .nil)), rfl, rfl, rfl, blen2 _ _, ?_⟩
    have SE := My.Same.tr SD (My.Same.new (o := .lst [.bl (eqD d e), .bl (!eqD d e)]) nl4)
    generalize L2.upd HD l4 _ = HE at SE ⊢
    walk_at "rd"
    refine ⟨x, y, h, m, rfl, rfl, SE _ _ hx, SE _ _ hy, ?_⟩
    rw [eqD_perm pm pe ge.nd]
    walk_at "rd"
    refine ⟨x, y, h, m, rfl, rfl, SE _ _ hx, SE _ _ hy, ?_⟩
    rw [eqD_perm pm pe ge.nd]
    walk_at "rd"
    rename_i l5 nl5
    refine ⟨_, .list [.bool (eqD d e), .bool (!eqD d e)], rfl, .lst (SqL.of upd_same) (.cons (.bl (eqD d e)) (.cons (.bl (!eqD d e)) .nil)), rfl, rfl, rfl, blen2 _ _, ?_⟩
    have SF := My.Same.tr SE (My.Same.new (o := .lst [.bl (id (eqD d e)), .bl (!eqD d e)]) nl5)
    generalize L2.upd HE l5 _ = HF at SF ⊢
    walk_at "rd"
    refine ⟨a, b, dx, dy, _, _, rfl, rfl, SF _ _ a1, SF _ _ b1, a, b, d, e, rfl, ha.same SF, hb.same SF, n, gm1, fun x7 HG sG z7 => ?_⟩
    have z7' := SzAt.both1 (fun i j => if j < i then j else i) gd.nd z7
    obtain ⟨d7, q7, z71, z72, g7, s7⟩ := id z7'
    have SG := My.Same.tr SF sG
    walk_at "rd"
    refine ⟨x7, a, _, d, rfl, z7', ha.same SG, bothN_names _ _ _ _, fun HH sH => ⟨_, rfl, ?_⟩⟩
    rw [leD_min]
    have SH := My.Same.tr SG sH
    have a1H := SH _ _ a1
    walk_at "rd"
    refine ⟨a, b, dx, dy, _, _, rfl, rfl, a1H, SH _ _ b1, a, b, d, e, rfl, ha.same SH, hb.same SH, n, gx1, fun x8 HI sI z8 => ?_⟩
    have z8' := SzAt.both1 (fun i j => if j > i then j else i) gd.nd z8
    have SI := My.Same.tr SH sI
    walk_at "rd"
    refine ⟨a, x8, d, _, rfl, ha.same SI, z8', (bothN_names _ _ _ _).symm, fun HJ sJ => ?_⟩
    rw [leD_max gd.nd]
    exact k _ (My.Same.tr SI sJ)
end
end My
end
section

namespace My
open PySem L2
theorem s_staK {l : Nat} {sp : SpK} {tk : TA} {σ : L2.St} {H : Hp} {Q : VK} (h : tk σ H fun zs H1 => zs.length = l ∧ sp zs H1 Q) : tStaK l sp tk σ H Q := h
end My
open My L2 PySem
open My L2 PySem
local macro_rules | `(tactic| walk_at "as") => `(tactic| with_reducible assumption)
local macro_rules | `(tactic| walk_at "hp") => `(tactic| first
  | walk_at "as" | exact upd_same
  | (rw [upd_ne (by walk_at "ne")]; walk_at "hp")
  | (refine But.get (by walk_at "as") ?hp1 ?hp2; (case hp1 => walk_at "hp"); (case hp2 => walk_at "ne"))
  | (refine My.Same.get (by walk_at "as") ?hp1; (case hp1 => walk_at "hp")))
local macro_rules | `(tactic| walk_at "ne") => `(tactic| first
  | walk_at "as" | exact Ne.symm (by walk_at "as")
  | (refine' ne_of_none ?ne1 ?ne2; (case ne2 => walk_at "as"); (case ne1 => walk_at "hp"))
  | (refine' Ne.symm (ne_of_none ?ne1 ?ne2); (case ne2 => walk_at "as"); (case ne1 => walk_at "hp"))
  | exact ne_of (by walk_at "hp") (by walk_at "hp") (by intro z; cases z))
local macro_rules | `(tactic| walk_at "sd") => `(tactic| first
  | walk_at "as" | omega | decide | exact ⟨by omega, by omega⟩ | exact .inl ⟨by omega, by omega⟩ | exact .inr ⟨by omega, by omega⟩ | exact divp_wide (by walk_at "as") (by walk_at "as") | exact Sm.cmul (by walk_at "as") (by walk_at "as") | exact cmul_small (by omega) (by omega) (by omega) (by omega) | exact ⟨by omega, by decide⟩)
local macro_rules | `(tactic| walk_at "bt") => `(tactic| first
  | walk_at "as" | exact But.refl _ _ | exact Same.but (by walk_at "as")
  | (refine But.trans ?bt1 But.at; (case bt1 => walk_at "bt"))
  | (refine But.trans ?bt1 (But.new (by first | walk_at "as" | walk_at "hp")); (case bt1 => walk_at "bt"))
  | (refine But.trans ?bt1 (by walk_at "as"); (case bt1 => walk_at "bt"))
  | (refine But.trans ?bt1 (Same.but (by walk_at "as")); (case bt1 => walk_at "bt")))
local macro_rules | `(tactic| walk_at "sm") => `(tactic| first
  | walk_at "as" | exact My.Same.rfl' _
  | (refine' My.Same.at_ ?sm1 ?sm2; (case sm1 => walk_at "as"); (case sm2 => walk_at "sm"))
  | (refine' My.Same.tr ?sm1 (My.Same.new ?sm2); (case sm2 => walk_at "as"); (case sm1 => walk_at "sm"))
  | (refine' My.Same.tr ?sm1 ?sm2; (case sm2 => walk_at "as"); (case sm1 => walk_at "sm")))
local macro_rules | `(tactic| walk_at "sz") => `(tactic| first
  | assumption | exact lt_size (by rfl) | exact le_size (by rfl) | (rw [sizeLine_eq]; omega)
  | (rw [sizeLine_eq]; simp only [List.length_append, List.length_map, List.length_cons, List.length_nil]; omega))
local macro_rules | `(tactic| walk_at "few") => `(tactic| (repeat refine few_put ?_); exact few0)
local macro_rules | `(tactic| walk_at "rd1") => `(tactic| first
  | (with_reducible show tVar _ _ _ _); refine s_var rfl ?_
  | with_reducible refine s_c ?_ | with_reducible refine s_op ?_ | with_reducible refine s_un ?_
  | with_reducible refine s_cons ?_ | with_reducible refine s_nil ?_ | with_reducible refine s_cb ?_
  | with_reducible refine s_test ?_ | with_reducible refine s_B ?_ | with_reducible refine s_not ?_ | with_reducible refine s_and ?_ | with_reducible refine s_or ?_
  | with_reducible refine s_if ?_ | with_reducible refine s_notV ?_ | with_reducible refine s_andV ?_ | with_reducible refine s_orV ?_
  | with_reducible refine s_orT ?_ | with_reducible refine s_andT ?_ | with_reducible refine s_chain ?_
  | with_reducible refine s_isi_int ?_ | with_reducible refine s_isi_int_bool ?_ | with_reducible refine s_isi_str ?_
  | with_reducible refine iteT ?_ | with_reducible refine iteF ?_ | with_reducible refine iteNT ?_ | with_reducible refine iteNF ?_
  | with_reducible refine s_isN ?_ | with_reducible refine s_notN ?_
  | ((with_reducible refine' s_2setE ?g1 ?_); (case g1 => first | (dsimp only [List.set, L2.wipe, List.map, List.foldl]; done) | (dsimp only [List.set, L2.wipe, List.map, List.foldl]; rfl)))
  | with_reducible refine s_seq ?_ | with_reducible refine s_ifS ?_ | with_reducible refine s_asg ?_ | with_reducible refine s_ret ?_ | with_reducible refine s_drop ?_ | with_reducible refine s_next ?_
  | ((with_reducible refine' s_gnameE ?g1 ?_); (case g1 => first | (dsimp only [List.set, L2.wipe, List.map, List.foldl]; done) | (dsimp only [List.set, L2.wipe, List.map, List.foldl]; rfl)))
  | with_reducible refine s_gsub ?_ | with_reducible refine s_gcons ?_ | with_reducible refine s_gnil ?_
  | (with_reducible show gTup _ _ _ _ _ _ _); refine s_gtup (by walk_at "hp") rfl ?_
  | with_reducible refine s_eqI ?_ | with_reducible refine s_neI ?_ | with_reducible refine s_eqS ?_ | with_reducible refine s_neB ?_ | with_reducible refine s_eqB ?_ | with_reducible refine s_neSr ?_ | with_reducible refine s_neS ?_
  | with_reducible refine s_I0 ?_
  | (with_reducible show rI _ _ _ _ _ _); refine s_I (by walk_at "sd") ?_
  | (with_reducible show rIxL _ _ _ _ _); refine s_ixL (by walk_at "hp") rfl ?_
  | (with_reducible show rIxT _ _ _ _ _); refine s_ixT (by walk_at "hp") rfl ?_
  | (with_reducible show rSetL _ _ _ _ _); refine s_setL (by walk_at "hp") rfl ?_
  | with_reducible refine s_prop ?_
  | (with_reducible show _ ≤ sizeLine ∧ _); refine ⟨le_size (by rfl), ?_⟩
  | with_reducible refine ite_NN ?_ | with_reducible refine ite_IN ?_ | with_reducible refine ite_nNN ?_ | with_reducible refine ite_nIN ?_ | with_reducible refine ite_RN ?_ | with_reducible refine ite_nRN ?_
  | with_reducible refine s_sfld ?_
  | ((with_reducible refine' ⟨_, _, _, _, rfl, ?fp1, ?fp2, ?fp3, ?fp4, ?_⟩); (case fp1 => walk_at "hp"); (case fp2 => assumption); (case fp3 => assumption); (case fp4 => walk_at "few"))
  | with_reducible refine s_fldE ?_
  | ((with_reducible refine' ⟨_, _, _, _, _, rfl, ?fp1, ?fp2, ?fp3, ?fp4, ?_⟩); (case fp1 => walk_at "hp"); (case fp2 => assumption); (case fp3 => assumption); (case fp4 => rfl))
  | with_reducible refine s_bm ?_ | with_reducible refine s_bm0 ?_
  | ((with_reducible refine' s_tyL ?ty1 ?_); (case ty1 => walk_at "hp"))
  | ((with_reducible refine' s_append ?ap1 ?ap2 ?_); (case ap1 => walk_at "hp"); (case ap2 => walk_at "sz"))
  | ((with_reducible refine' s_extend ?ap1 ?ap2 ?ap3 ?_); (case ap1 => walk_at "hp"); (case ap2 => walk_at "hp"); (case ap3 => walk_at "sz"))
  | with_reducible refine s_for (fun _ _ => ?_) | with_reducible refine s_lc ?_ | with_reducible refine s_iList ?_ | with_reducible refine s_iTup ?_ | with_reducible refine s_iRng1 ?_ | with_reducible refine s_iRng2 ?_
  | with_reducible refine s_yes ?_ | with_reducible refine s_par ?_
  | with_reducible refine s_make ?_ | with_reducible refine s_meth ?_
  | with_reducible refine s_tup ?_ | with_reducible refine s_lst ?_ | with_reducible refine s_call ?_
  | with_reducible refine ⟨rfl, ?_⟩
  | with_reducible refine ⟨_, rfl, ?_⟩
  | ((with_reducible refine' ⟨_, _, rfl, ?sd1, ?_⟩); (case sd1 => walk_at "sd"))
  | with_reducible refine ⟨_, _, rfl, ?_⟩
  | with_reducible refine .inl ⟨_, rfl, ?_⟩
  | dsimp only [List.set]
  | walk_at "rdx"
  | (refine fun _ _ => ?_))
local macro_rules | `(tactic| walk_at "rd") => `(tactic| repeat (first
  | (with_reducible show tVar _ _ _ _); refine s_var rfl ?_
  | with_reducible refine s_c ?_ | with_reducible refine s_op ?_ | with_reducible refine s_un ?_
  | with_reducible refine s_cons ?_ | with_reducible refine s_nil ?_ | with_reducible refine s_cb ?_
  | with_reducible refine s_test ?_ | with_reducible refine s_B ?_ | with_reducible refine s_not ?_ | with_reducible refine s_and ?_ | with_reducible refine s_or ?_
  | with_reducible refine s_if ?_ | with_reducible refine s_notV ?_ | with_reducible refine s_andV ?_ | with_reducible refine s_orV ?_
  | with_reducible refine s_orT ?_ | with_reducible refine s_andT ?_ | with_reducible refine s_chain ?_
  | with_reducible refine s_isi_int ?_ | with_reducible refine s_isi_int_bool ?_ | with_reducible refine s_isi_str ?_
  | with_reducible refine iteT ?_ | with_reducible refine iteF ?_ | with_reducible refine iteNT ?_ | with_reducible refine iteNF ?_
  | with_reducible refine s_isN ?_ | with_reducible refine s_notN ?_
  | ((with_reducible refine' s_2setE ?g1 ?_); (case g1 => first | (dsimp only [List.set, L2.wipe, List.map, List.foldl]; done) | (dsimp only [List.set, L2.wipe, List.map, List.foldl]; rfl)))
  | with_reducible refine s_seq ?_ | with_reducible refine s_ifS ?_ | with_reducible refine s_asg ?_ | with_reducible refine s_ret ?_ | with_reducible refine s_drop ?_ | with_reducible refine s_next ?_
  | ((with_reducible refine' s_gnameE ?g1 ?_); (case g1 => first | (dsimp only [List.set, L2.wipe, List.map, List.foldl]; done) | (dsimp only [List.set, L2.wipe, List.map, List.foldl]; rfl)))
  | with_reducible refine s_gsub ?_ | with_reducible refine s_gcons ?_ | with_reducible refine s_gnil ?_
  | (with_reducible show gTup _ _ _ _ _ _ _); refine s_gtup (by walk_at "hp") rfl ?_
  | with_reducible refine s_eqI ?_ | with_reducible refine s_neI ?_ | with_reducible refine s_eqS ?_ | with_reducible refine s_neB ?_ | with_reducible refine s_eqB ?_ | with_reducible refine s_neSr ?_ | with_reducible refine s_neS ?_
  | with_reducible refine s_I0 ?_
  | (with_reducible show rI _ _ _ _ _ _); refine s_I (by walk_at "sd") ?_
  | (with_reducible show rIxL _ _ _ _ _); refine s_ixL (by walk_at "hp") rfl ?_
  | (with_reducible show rIxT _ _ _ _ _); refine s_ixT (by walk_at "hp") rfl ?_
  | (with_reducible show rSetL _ _ _ _ _); refine s_setL (by walk_at "hp") rfl ?_
  | with_reducible refine s_prop ?_
  | (with_reducible show _ ≤ sizeLine ∧ _); refine ⟨le_size (by rfl), ?_⟩
  | with_reducible refine ite_NN ?_ | with_reducible refine ite_IN ?_ | with_reducible refine ite_nNN ?_ | with_reducible refine ite_nIN ?_ | with_reducible refine ite_RN ?_ | with_reducible refine ite_nRN ?_
  | with_reducible refine s_sfld ?_
  | ((with_reducible refine' ⟨_, _, _, _, rfl, ?fp1, ?fp2, ?fp3, ?fp4, ?_⟩); (case fp1 => walk_at "hp"); (case fp2 => assumption); (case fp3 => assumption); (case fp4 => walk_at "few"))
  | with_reducible refine s_fldE ?_
  | ((with_reducible refine' ⟨_, _, _, _, _, rfl, ?fp1, ?fp2, ?fp3, ?fp4, ?_⟩); (case fp1 => walk_at "hp"); (case fp2 => assumption); (case fp3 => assumption); (case fp4 => rfl))
  | with_reducible refine s_bm ?_ | with_reducible refine s_bm0 ?_
  | ((with_reducible refine' s_tyL ?ty1 ?_); (case ty1 => walk_at "hp"))
  | ((with_reducible refine' s_append ?ap1 ?ap2 ?_); (case ap1 => walk_at "hp"); (case ap2 => walk_at "sz"))
  | ((with_reducible refine' s_extend ?ap1 ?ap2 ?ap3 ?_); (case ap1 => walk_at "hp"); (case ap2 => walk_at "hp"); (case ap3 => walk_at "sz"))
  | with_reducible refine s_for (fun _ _ => ?_) | with_reducible refine s_lc ?_ | with_reducible refine s_iList ?_ | with_reducible refine s_iTup ?_ | with_reducible refine s_iRng1 ?_ | with_reducible refine s_iRng2 ?_
  | with_reducible refine s_yes ?_ | with_reducible refine s_par ?_
  | with_reducible refine s_make ?_ | with_reducible refine s_meth ?_
  | with_reducible refine s_tup ?_ | with_reducible refine s_lst ?_ | with_reducible refine s_call ?_
  | with_reducible refine ⟨rfl, ?_⟩
  | with_reducible refine ⟨_, rfl, ?_⟩
  | ((with_reducible refine' ⟨_, _, rfl, ?sd1, ?_⟩); (case sd1 => walk_at "sd"))
  | with_reducible refine ⟨_, _, rfl, ?_⟩
  | with_reducible refine .inl ⟨_, rfl, ?_⟩
  | dsimp only [List.set]
  | walk_at "rdx"
  | (refine fun _ _ => ?_)))

namespace My
open PySem L2
section
variable {P : Program} {w : World} {K : PySem.W.Frag} {mg : Str → Option Value} {base : Heap} {C_Sizes : Addr} (M : Md K mg C_Sizes)
include M
local macro_rules | `(tactic| walk_at "rdx") => `(tactic| first
  | with_reducible refine s_tdget ?_ | with_reducible refine s_tdin ?_ | with_reducible refine s_staK ?_
  | ((with_reducible refine' mk_sizes ?mc1 ?mc2 ?_); (case mc1 => walk_at "hp"); (case mc2 => walk_at "as"))
  | ((with_reducible refine' s_mcall ?mc1 ?mc2 ?_); (case mc1 => walk_at "hp"); (case mc2 => rfl)))
omit M
theorem SzAt.buts {C r a : Addr} {H H' : Hp} {d : List (Str × Int)} (h : SzAt C H a d) (b : But r H H') (p : Pot H r) : SzAt C H' a d := by
  obtain ⟨dx, q, h1, h2, h3⟩ := h
  obtain ⟨_, _, e2, _⟩ := p
  exact ⟨dx, q, b.get h1 (ne_of h1 e2 (by intro z; cases z)), b.get h2 (ne_of h2 e2 (by intro z; cases z)), h3⟩
theorem Pot.dkn {r x : Addr} {H : Hp} {l : List (Key × V)} (p : Pot H r) (h : H x = some (.dK l)) : x ≠ r := by
  obtain ⟨_, _, e2, _⟩ := p
  exact ne_of h e2 (by intro z; cases z)
theorem nf_of {K : PySem.W.Frag} {C : Addr} {t : Value} (h : PySem.W.subIn K t (.ref C) = some false) : PySem.W.notFirst K C t = true := by
  unfold PySem.W.notFirst
  rw [h]
  simp
abbrev z4 (n : Int) : List (Str × Int) := [("of", 2), ("sizes", 1), ("counts", 3), ("value", n)]
abbrev d4 (n : Int) : List (Str × Int) := [("counts", 3), ("of", 2), ("sizes", 1), ("value", n)]
abbrev z3 (i n : Int) : List (Str × Int) := [("order", i), ("a", n), ("zz", 0)]
abbrev d3 (i n : Int) : List (Str × Int) := [("a", n), ("order", i), ("zz", 0)]
theorem perm4 (n : Int) : (d4 n).Perm (z4 n) := (List.Perm.swap _ _ _).trans ((List.Perm.swap _ _ _).cons _)
theorem perm3 (i n : Int) : (d3 i n).Perm (z3 i n) := List.Perm.swap _ _ _
theorem nd4 (n : Int) : (names (d4 n)).Nodup := by
  show (["counts", "of", "sizes", "value"] : List Str).Nodup
  decide +kernel
theorem nd3 (i n : Int) : (names (d3 i n)).Nodup := by
  show (["a", "order", "zz"] : List Str).Nodup
  decide +kernel
theorem good4 {n : Int} (h0 : 0 ≤ n) (hs : Sm 600 n) : GoodD (z4 n) where
  nd := by
    show (["of", "sizes", "counts", "value"] : List Str).Nodup
    decide +kernel
  nm := fun p hp => by
    simp only [List.mem_cons, List.not_mem_nil, or_false] at hp
    rcases hp with rfl | rfl | rfl | rfl <;> (dsimp only; decide +kernel)
  nn := fun p hp => by
    simp only [List.mem_cons, List.not_mem_nil, or_false] at hp
    rcases hp with rfl | rfl | rfl | rfl <;> (dsimp only; first | assumption | decide)
  sm := fun p hp => by
    simp only [List.mem_cons, List.not_mem_nil, or_false] at hp
    rcases hp with rfl | rfl | rfl | rfl <;> (dsimp only; first | assumption | decide)
  ne := by simp
  few := by simp
theorem good3 {i n : Int} (h0 : 0 ≤ n) (hs : Sm 600 n) (i0 : 0 ≤ i) (is : Sm 600 i) : GoodD (z3 i n) where
  nd := by
    show (["order", "a", "zz"] : List Str).Nodup
    decide +kernel
  nm := fun p hp => by
    simp only [List.mem_cons, List.not_mem_nil, or_false] at hp
    rcases hp with rfl | rfl | rfl <;> (dsimp only; decide +kernel)
  nn := fun p hp => by
    simp only [List.mem_cons, List.not_mem_nil, or_false] at hp
    rcases hp with rfl | rfl | rfl <;> (dsimp only; first | assumption | decide)
  sm := fun p hp => by
    simp only [List.mem_cons, List.not_mem_nil, or_false] at hp
    rcases hp with rfl | rfl | rfl <;> (dsimp only; first | assumption | decide)
  ne := by simp
  few := by simp
theorem st4 (n : Int) : look (z4 n) "strange" = none := by
  unfold z4 look
  rw [if_neg (by dsimp only; decide +kernel)]
  unfold look
  rw [if_neg (by dsimp only; decide +kernel)]
  unfold look
  rw [if_neg (by dsimp only; decide +kernel)]
  unfold look
  rw [if_neg (by dsimp only; decide +kernel)]
  rfl
theorem st3 (i n : Int) : look (z3 i n) "strange" = none := by
  unfold z3 look
  rw [if_neg (by dsimp only; decide +kernel)]
  unfold look
  rw [if_neg (by dsimp only; decide +kernel)]
  unfold look
  rw [if_neg (by dsimp only; decide +kernel)]
  rfl
def spOthers (C : Addr) : Sp := fun vs H Q _ => ∃ r a x d h, vs = [.ref r, .ref a, .ref x] ∧ Pot H r ∧ SzAt C H a d ∧ H x = some (.dK (dk h)) ∧ h.Perm d ∧ (∀ p ∈ d, Sm 200 p.2) ∧ look d "strange" = none ∧ d.length ≤ 6 ∧ ∀ H', But r H H' → Pot H' r → Q (.bl true) H'
theorem setN_perm {h d : List (Str × Int)} (p : h.Perm d) (k : Str) (n : Int) : (setN h k n).Perm (setN d k n) := p.map _
theorem setN_good {d : List (Str × Int)} (g : GoodD d) (k : Str) {n : Int} (n0 : 0 ≤ n) (ns : Sm 600 n) : GoodD (setN d k n) := g.map _ (fun p hp => by
    have := g.nn p hp
    split <;> assumption) (fun p hp => by
    have := g.sm p hp
    split <;> assumption)
theorem setN_names (d : List (Str × Int)) (k : Str) (n : Int) : names (setN d k n) = names d := mapN_names d _
include M
set_option maxHeartbeats 0 in
theorem c__law_others_right : Dn P w K mg base "_law_others_right" 8 ["_law_pot_here", "_law_thing", "_law_held"] [] (spOthers C_Sizes) := by
  have c__law_draw := c__law_draw (P := P) (w := w) (base := base) M
  have c__law_pick := c__law_pick (P := P) (w := w) (base := base) M
  have c__law_amount := c__law_amount (P := P) (w := w) (base := base) M
  have c_Sizes_1 := c_Sizes_1 (P := P) (w := w) (base := base) M
  have c_Sizes___mul__ := c_Sizes___mul__ (P := P) (w := w) (base := base) M
  have c_Sizes___rmul__ := c_Sizes___rmul__ (P := P) (w := w) (base := base) M
  have c_Sizes___eq__ := c_Sizes___eq__ (P := P) (w := w) (base := base) M
  have c_Sizes___repr__ := c_Sizes___repr__ (P := P) (w := w) (base := base) M
  have c_Sizes_with_count := c_Sizes_with_count (P := P) (w := w) (base := base) M
  have k_Sizes_with_count := k_Sizes_with_count (P := P) (w := w) (base := base) M
  have c__law_shown_right := c__law_shown_right (P := P) (w := w) (base := base) M
  have c_Sizes_of_4 := c_Sizes_of (P := P) (w := w) (base := base) M (ks := ["of", "sizes", "counts", "value"]) (by decide +kernel) (by decide)
  have c_Sizes_of_3 := c_Sizes_of (P := P) (w := w) (base := base) M (ks := ["order", "a", "zz"]) (by decide +kernel) (by decide)
  refine dnN M.f__law_others_right (fun F => ?_) (fun _ _ _ _ _ _ us hl => match us, hl with | [_, _, _], _ => rfl)
  refine fnG_body F sc__law_others_right (fun vs H Q E h => ?_) (fun cdv A outer s H vs Q E hr h => ?_)
  · obtain ⟨r, a, x, d, h, rfl, _⟩ := h
    rfl
  · obtain ⟨r, a, x, d, h, rfl, hp, ha, hx, pm, bd, st, l6, k⟩ := h
    obtain ⟨dx, qa, a1, a2, gd, sd⟩ := id ha
    have gh := gd.perm pm
    have xr := hp.dkn hx
    have ar : a ≠ r := by
      obtain ⟨_, _, e2, _⟩ := hp
      exact ne_of a1 e2 (by intro z; cases z)
    refine ⟨_, (pss_cons (ps_set (i := 3) sc__law_others_right.nd rfl (.inr rfl) (pe_callD c__law_pick (hr.mono (by decide)) rfl (pa_cons (pv 0) (pa_cons (pe_lst (pa_cons pe_int (pa_cons pe_int (pa_cons pe_int (pa_cons (pe_callD c__law_draw (hr.mono (by decide)) rfl (pa_cons (pv 0) (pa_cons (pe_op op_pow pe_int pe_int) pa_nil))) (pa_cons (pe_op op_sub (pe_op op_pow pe_int pe_int) pe_int) pa_nil)))))) pa_nil)))) (pss_cons (ps_set (i := 4) sc__law_others_right.nd rfl (.inl rfl) (pe_callTy (call_dictP rfl) (by rfl) M.b_dict (by decide +kernel) (pa_cons (pe_lock (pe_lc (own := [("_law_word", 11)]) (g := gName 11) (tt := tYes) (by rfl) sc__law_others_right.nd (pi_keys (pv 2)) (blkOk_by (own := [("_law_word", 11)]) (N := N__law_others_right) (sc := defScope st__law_others_right) (by decide +kernel)) (fun _ _ _ _ _ => pg_name (i := 11) sc__law_others_right.nd rfl (by first | exact Or.inl rfl | exact Or.inr rfl)) (fun _ _ _ _ _ => pts_nil) (fun _ _ _ _ _ => (pe_tup (pa_cons (pv 11) (pa_cons (pe_op op_mulW (pe_dget (hug hr) (pv 2) (pv 11) (fun _ _ => rfl)) (pv 3)) pa_nil)))))) pa_nil))) (pss_cons (ps_if (PW.pt (pw_or (pt_not (pt_val (pe_callD c__law_shown_right (hr.mono (by decide)) rfl (pa_cons (pe_op (op_mulT (hasM M.e_Sizes___rmul__) c_Sizes___mul__ M.sf_Sizes M.im_Sizes M.ir_Sizes M.is_Sizes (hr.mono (by decide))) (pv 1) (pv 3)) (pa_cons (pv 4) pa_nil))))) (pw_or1 (pt_not (pt_val (pe_callD c__law_shown_right (hr.mono (by decide)) rfl (pa_cons (pe_op (op_rmulO (hasM M.e_Sizes___mul__) c_Sizes___rmul__ M.sf_Sizes M.si_Sizes (hr.mono (by decide))) (pv 3) (pv 1)) (pa_cons (pv 4) pa_nil)))))))) (pss_one (ps_ret pe_bl)) pss_nil) (pss_cons (ps_par (i := 5) (j := 6) (by rfl) sc__law_others_right.nd rfl rfl (by decide) rfl rfl (pa_cons (pe_callD c__law_pick (hr.mono (by decide)) rfl (pa_cons (pv 0) (pa_cons (pe_callB (call_sortedD rfl) (by rfl) M.b_sorted (by decide +kernel) (pa_cons (pv 2) pa_nil)) pa_nil))) (pa_cons (pe_callD c__law_amount (hr.mono (by decide)) rfl (pa_cons (pv 0) pa_nil)) pa_nil)) (by rfl)) (pss_cons (ps_set (i := 7) sc__law_others_right.nd rfl (.inl rfl) (pe_callTy call_dictD (by rfl) M.b_dict (by decide +kernel) (pa_cons (pv 2) pa_nil))) (pss_cons (ps_dput (hug hr) (pv 7) (pv 5) (pv 6) rfl) (pss_cons (ps_if (pt_not (pt_val (pe_callD c__law_shown_right (hr.mono (by decide)) rfl (pa_cons (pe_methD c_Sizes_with_count (pv 1) (hr.mono (by decide)) (pa_cons (pv 5) (pa_cons (pv 6) pa_nil))) (pa_cons (pv 7) pa_nil))))) (pss_one (ps_ret pe_bl)) pss_nil) (pss_cons (ps_if (pt_not (pt_val (pe_callD c__law_shown_right (hr.mono (by decide)) rfl (pa_cons (pe_methK k_Sizes_with_count (pv 1) (hr.mono (by decide)) (pk_cons (pv 6) (pk_cons (pv 5) pk_nil))) (pa_cons (pv 7) pa_nil))))) (pss_one (ps_ret pe_bl)) pss_nil) (pss_cons (ps_set (i := 8) sc__law_others_right.nd rfl (.inl rfl) (pe_callTy (call_dictP rfl) (by rfl) M.b_dict (by decide +kernel) (pa_cons (pe_op op_cat (LiI.pe_listItems rfl (pv 2) (by rfl) M.b_list (by rfl)) (pe_lst (pa_cons (pe_tup (pa_cons pe_str (pa_cons pe_int pa_nil))) pa_nil))) pa_nil))) (pss_cons (ps_if (PW.pt (pw_or (pt_cmpR (or_eqO c_Sizes___eq__ (hr.mono (by decide))) (pv 1) (pe_makeD c_Sizes_1 (hr.mono (by decide)) rfl (pa_cons (pv 8) pa_nil)) (nomark _)) (pw_or (pt_cmpR (or_eqO c_Sizes___eq__ (hr.mono (by decide))) (pv 1) (pv 2) (nomark _)) (pw_or (pt_cmpR (or_eqO c_Sizes___eq__ (hr.mono (by decide))) (pv 1) (pe_callB (call_reprO c_Sizes___repr__ (hr.mono (by decide))) (by rfl) M.b_repr (by decide +kernel) (pa_cons (pv 1) pa_nil)) (nomark _)) (pw_or1 (pt_cmpR (or_eqO c_Sizes___eq__ (hr.mono (by decide))) (pv 1) (LiI.pe_listItems rfl (pv 2) (by rfl) M.b_list (by rfl)) (nomark _))))))) (pss_one (ps_ret pe_bl)) pss_nil) (pss_cons (ps_set (i := 9) sc__law_others_right.nd rfl (.inl rfl) (pe_staK c_Sizes_of_4 (hr.mono (by decide)) rfl (pk_cons pe_int (pk_cons pe_int (pk_cons pe_int (pk_cons (pv 6) pk_nil)))))) (pss_cons (ps_if (pt_not (pt_val (pe_callD c__law_shown_right (hr.mono (by decide)) rfl (pa_cons (pv 9) (pa_cons (pe_disp (pps_cons pe_str pe_int (pps_cons pe_str pe_int (pps_cons pe_str pe_int (pps_cons pe_str (pv 6) pps_nil)))) rfl rfl (by simp) (by decide)) pa_nil))))) (pss_one (ps_ret pe_bl)) pss_nil) (pss_cons (ps_set (i := 10) sc__law_others_right.nd rfl (.inl rfl) (pe_staK c_Sizes_of_3 (hr.mono (by decide)) rfl (pk_cons (pv 3) (pk_cons (pv 6) (pk_cons pe_int pk_nil))))) (pss_one (ps_ret (pe_and (pe_callD c__law_shown_right (hr.mono (by decide)) rfl (pa_cons (pv 10) (pa_cons (pe_disp (pps_cons pe_str (pv 6) (pps_cons pe_str (pv 3) (pps_cons pe_str pe_int pps_nil))) rfl rfl (by simp) (by decide)) pa_nil))) (pe_one (pe_callD c__law_shown_right (hr.mono (by decide)) rfl (pa_cons (pv 1) (pa_cons (pv 2) pa_nil)))))))))))))))))))), ?_⟩
    refine st_eq (σ := [some _, some _, some _, none, none, none, none, none, none, none, none, none]) rfl ?_
    walk_at "rd"
    refine ⟨r, _, rfl, hp, by decide, by decide, fun d0 H1 b1 p1 d00 d01 => ?_⟩
    walk_at "rd"
    rename_i l nl
    refine ⟨r, l, _, rfl, upd_same, p1.ne nl, by simp, by simp, p1.up nl, fun v H2 hv b2 p2 => ?_⟩
    obtain ⟨n, rfl, n0, ns⟩ : ∃ n : Int, v = .int n ∧ 0 ≤ n ∧ Sm 62 n := by
      have d01' : d0 < 1000000000 := d01
      simp only [List.mem_cons, List.not_mem_nil, or_false] at hv
      rcases hv with rfl | rfl | rfl | rfl | rfl
      · exact ⟨0, rfl, by decide, by decide⟩
      · exact ⟨1, rfl, by decide, by decide⟩
      · exact ⟨2, rfl, by decide, by decide⟩
      · exact ⟨d0, rfl, d00, sm62 d00 (by omega)⟩
      · exact ⟨_, rfl, by decide, by decide⟩
    have B2 : But r H H2 := (b1.trans (My.But.new nl)).trans b2
    have ha2 := ha.buts B2 hp
    have a12 := B2.get a1 ar
    have hx2 := B2.get hx xr
    have ns6 : Sm 100 n := ns.mono (by decide)
    walk_at "rd"
    refine lock_prs (d := h) (q := x) (fun p => p.2 * n) hx2 (few1 gh) ?_ ?_ ?_
    · intro H' R _ q'
      walk_at "rd"
      exact q'
    · intro od D i p H' R F hp nD hDq hq hs hD q'
      have hm := List.mem_of_getElem? hp
      have cm : CMulW p.2 n := (gh.sm p hm).cmul ns6
      walk_at "rd"
      refine s_dget (d := h) (.inr ⟨od, hq⟩) (look_mem gh.nd hm) ?_
      walk_at "rd"
      exact q' _ _ (L2.Same.refl _) (by assumption)
    intro D1 H3 nD1 s3 pr1
    have nd1 : (names (h.map fun p => (p.1, p.2 * n))).Nodup := by
      have := mapN_names h fun p => p.2 * n
      unfold mapN at this
      rw [this]
      exact gh.nd
    obtain ⟨ps, y11, y12, y13⟩ := pr1.dict (K := K) nd1
    walk_at "rd"
    refine ⟨_, ps, _, rfl, y11, y12, fun u1 nu1 => ?_⟩
    rw [y13]
    have S3 := My.Same.tr s3 (My.Same.new (o := .dK (dk (h.map fun p => (p.1, p.2 * n)))) nu1)
    have d1 : (L2.upd H3 u1 (.dK (dk (h.map fun p => (p.1, p.2 * n))))) u1 = _ := upd_same
    generalize L2.upd H3 u1 (.dK (dk (h.map fun p => (p.1, p.2 * n)))) = H3' at S3 d1 ⊢
    have gm : GoodD (d.map fun p => (p.1, p.2 * n)) := gd.map _ (fun p hp => Int.mul_nonneg (gd.nn p hp) n0) (fun p hp => ((bd p hp).mul ns).mono (by decide))
    have stm : look (d.map fun p => (p.1, p.2 * n)) "strange" = none := strange_none (mapN_names d fun p => p.2 * n).symm st
    walk_at "rd"
    refine ⟨a, dx, _, rfl, S3 _ _ a12, ⟨n, rfl⟩, a, n, d, rfl, ha2.same S3, n0, ns6, gm, fun x1 H4 s4 y1 => ?_⟩
    walk_at "rd"
    refine ⟨x1, u1, _, _, rfl, y1, s4 _ _ d1, pm.map _, stm, fun H5 s5 => ?_⟩
    have S5 := My.Same.tr S3 (My.Same.tr s4 s5)
    walk_at "rd"
    refine ⟨n, a, dx, _, rfl, rfl, S5 _ _ a12, a, n, d, rfl, ha2.same S5, n0, ns6, gm, fun x2 H6 s6 y2 => ?_⟩
    walk_at "rd"
    refine ⟨x2, u1, _, _, rfl, y2, s6 _ _ (s5 _ _ (s4 _ _ d1)), pm.map _, stm, fun H7 s7 => ?_⟩
    have S7 := My.Same.tr S5 (My.Same.tr s6 s7)
    have hx7 := S7 _ _ hx2
    walk_at "rd"
    have hnl : (names h).length < 64 := by
      unfold names
      rw [List.length_map]
      exact Nat.lt_of_le_of_lt gh.few (by decide)
    refine ⟨x, _, names h, rfl, .inl hx7, ?_, hnl, fun ys p hp2 hsort np => ?_⟩
    · unfold names dk
      rw [List.map_map, List.map_map]
      rfl
    have B7 : But r H (L2.upd H7 p (.lst (ys.map V.str))) := (B2.trans (My.Same.but S7)).trans (My.But.new np)
    have p7 := (p2.same S7).up (o := .lst (ys.map V.str)) np
    have hl := hp2.length_eq
    have hn0 : 0 < ys.length := by
      rw [hl]
      unfold names
      rw [List.length_map]
      have := gh.ne
      cases h with
      | nil => exact absurd rfl this
      | cons _ _ => simp
    have pr := (p2.same S7).ne np
    have lp : (L2.upd H7 p (.lst (ys.map V.str))) p = _ := upd_same
    generalize L2.upd H7 p (.lst (ys.map V.str)) = H7' at B7 p7 lp ⊢
    refine ⟨r, p, _, rfl, lp, pr, by rw [List.length_map]; exact hn0, by rw [List.length_map]; omega, p7, fun v H8 hv b8 p8 => ?_⟩
    obtain ⟨spot, hspot, rfl⟩ := List.mem_map.mp hv
    walk_at "rd"
    refine ⟨r, rfl, p8, fun n2 H9 n20 n2s b9 p9 => ?_⟩
    have B9 := (B7.trans b8).trans b9
    have ha9 := ha.buts B9 hp
    have a19 := B9.get a1 ar
    have hx9 := B9.get hx xr
    have sph : spot ∈ names h := hp2.mem_iff.mp hspot
    have spd : spot ∈ names d := (names_perm pm).mem_iff.mp sph
    walk_at "rd"
    refine ⟨x, _, rfl, .inl hx9, fun u2 nu2 => ?_⟩
    walk_at "rd"
    refine ⟨_, rfl, _, rfl, _, rfl, u2, _, rfl, DPut.k (k := .inr spot) upd_same (by rw [dk_length, sizeLine_eq]; have := gh.few; omega), ?_⟩
    rw [put_dk sph]
    have SA : L2.Same H9 (L2.upd (L2.upd H9 u2 (.dK (dk h))) u2 (.dK (dk (setN h spot n2)))) := fun c o e => by
      rw [upd_ne (ne_of_none e nu2), upd_ne (ne_of_none e nu2)]
      exact e
    have e2 : (L2.upd (L2.upd H9 u2 (.dK (dk h))) u2 (.dK (dk (setN h spot n2)))) u2 = _ := upd_same
    generalize L2.upd (L2.upd H9 u2 (.dK (dk h))) u2 (.dK (dk (setN h spot n2))) = HA at SA e2 ⊢
    have gsn := setN_good gd spot n20 (n2s.mono (by decide))
    have sts : look (setN d spot n2) "strange" = none := strange_none (setN_names d spot n2).symm st
    have a1A := SA _ _ a19
    walk_at "rd"
    refine ⟨a, spot, n2, d, rfl, ha9.same SA, spd, n20, gsn, fun x3 HB sB y3 => ?_⟩
    walk_at "rd"
    refine ⟨x3, u2, _, _, rfl, y3, sB _ _ e2, setN_perm pm _ _, sts, fun HC sC => ?_⟩
    have SC := My.Same.tr SA (My.Same.tr sB sC)
    walk_at "rd"
    refine ⟨.ref a, rfl, a, dx, _, rfl, SC _ _ a19, rfl, ?_⟩
    walk_at "rd"
    refine ⟨a, spot, n2, d, rfl, ha9.same SC, spd, n20, gsn, fun x4 HD sD y4 => ?_⟩
    walk_at "rd"
    refine ⟨x4, u2, _, _, rfl, y4, sD _ _ (sC _ _ (sB _ _ e2)), setN_perm pm _ _, sts, fun HE sE => ?_⟩
    have SE := My.Same.tr SC (My.Same.tr sD sE)
    walk_at "rd"
    have S9E := SE
    have hxE := SE _ _ hx9
    refine ⟨.ref x, rfl, x, dk h, rfl, hxE, fun HF p' ts sF np' nts pts hl' paired => ?_⟩
    walk_at "rd"
    rename_i t0 nt0 l1 nl1
    refine ⟨p', l1, _, _, rfl, rfl, by walk_at "hp", upd_same, ?_, fun q nq => ?_⟩
    · have := paired.length
      rw [dk_length] at this
      have := gh.few
      rw [List.length_map, sizeLine_eq]
      show ts.length + 1 ≤ 16777216
      omega
    have sFG : L2.Same HF (L2.upd (L2.upd (L2.upd HF t0 (.tup [.str "strange", .int 0])) l1 (.lst [.ref t0])) q (.lst (ts.map V.ref ++ [.ref t0]))) := My.Same.tr (My.Same.tr (My.Same.new nt0) (My.Same.new nl1)) (My.Same.new nq)
    have et0 : (L2.upd (L2.upd (L2.upd HF t0 (.tup [.str "strange", .int 0])) l1 (.lst [.ref t0])) q (.lst (ts.map V.ref ++ [.ref t0]))) t0 = some (.tup [.str "strange", .int 0]) := by walk_at "hp"
    have eq' : (L2.upd (L2.upd (L2.upd HF t0 (.tup [.str "strange", .int 0])) l1 (.lst [.ref t0])) q (.lst (ts.map V.ref ++ [.ref t0]))) q = _ := upd_same
    show (_ : Prop)
    generalize L2.upd (L2.upd (L2.upd HF t0 (.tup [.str "strange", .int 0])) l1 (.lst [.ref t0])) q (.lst (ts.map V.ref ++ [.ref t0])) = HG at sFG et0 eq' ⊢
    have SG : L2.Same H9 HG := My.Same.tr SE (My.Same.tr sF sFG)
    have shn : look h "strange" = none := by rw [look_perm pm gd.nd]; exact st
    have wnd : (names (h ++ [(("strange" : Str), (0 : Int))])).Nodup := by
      unfold names
      rw [List.map_append, List.nodup_append]
      refine ⟨gh.nd, by simp, fun y hy z hz e => ?_⟩
      have hz' : z = "strange" := by simpa using hz
      obtain ⟨i, hi⟩ := look_in (d := h) (k := y) hy
      rw [e, hz', shn] at hi
      cases hi
    have gw : GoodD (h ++ [(("strange" : Str), (0 : Int))]) := by
      refine ⟨wnd, fun p hp => ?_, fun p hp => ?_, fun p hp => ?_, by simp, by have := pm.length_eq; simp; omega⟩
      all_goals
        rcases List.mem_append.mp hp with z | z
        · first | exact gh.nm p z | exact gh.nn p z | exact gh.sm p z
        · rw [List.mem_singleton.mp z]
          decide +kernel
    walk_at "rd"
    refine ⟨q, ts ++ [t0], dk (h ++ [(("strange" : Str), (0 : Int))]), rfl, SqL.of (by rw [List.map_append]; exact eq'), ?_, fun u4 nu4 => ?_⟩
    · rw [dk_append]
      exact (Paired.mapP paired fun t q z => SqT.of (sFG _ _ z)).snoc (SqT.of et0)
    rw [show mergeK [] (dk (h ++ [(("strange" : Str), (0 : Int))])) = dk (h ++ [(("strange" : Str), (0 : Int))]) from merge_dk _ [] wnd]
    have SH := My.Same.tr SG (My.Same.new (o := .dK (dk (h ++ [(("strange" : Str), (0 : Int))]))) nu4)
    have e4 : (L2.upd HG u4 (.dK (dk (h ++ [(("strange" : Str), (0 : Int))])))) u4 = _ := upd_same
    generalize L2.upd HG u4 (.dK (dk (h ++ [(("strange" : Str), (0 : Int))]))) = HH at SH e4 ⊢
    walk_at "rd"
    rename_i X DX nX nDX
    refine fun neX => ⟨X, DX, u4, _, rfl, upd_same, (upd_ne (ne_of_none e4 nX)).trans ((upd_ne (ne_of_none e4 nDX)).trans e4), gw, fun HI e5 bI y5 pm5 _ => ⟨rfl, ?_⟩⟩
    have sI : L2.Same HH HI := bI.same (My.Same.at_ nX (My.Same.new nDX)) nX
    have SI := My.Same.tr SH sI
    obtain ⟨dX, qX, X1, X2, gX, sX⟩ := id y5
    refine ⟨a, dx, _, .ref C_Sizes, rfl, SI _ _ a19, .base (M.z_Sizes X1), nf_own, a, _, d, rfl, ha9.same SI, .inl ⟨X, e5, rfl, y5, ?_⟩⟩
    have en : eqD d e5 = false := by
      have h1 := pm5.length_eq
      have h2 := pm.length_eq
      rw [List.length_append] at h1
      unfold eqD
      rw [show (d.length == e5.length) = false from beq_false_of_ne (by simp at h1; omega)]
      rfl
    rw [en]
    walk_at "rd"
    refine ⟨a, dx, _, .type "dict", rfl, SI _ _ a19, .base (.dK (SI _ _ hx9)), nf_of M.ud_Sizes, a, _, d, rfl, ha9.same SI, .inr ⟨.type "dict", .base (.dK (SI _ _ hx9)), M.kd_Sizes, ?_⟩⟩
    walk_at "rd"
    refine ⟨a, dx, _, rfl, SI _ _ a19, a, d, rfl, ha9.same SI, _, rfl, ?_⟩
    walk_at "rd"
    refine ⟨a, dx, _, .type "str", rfl, SI _ _ a19, .base (.str _), nf_of M.ut_Sizes, a, _, d, rfl, ha9.same SI, .inr ⟨.type "str", .base (.str _), M.kt_Sizes, ?_⟩⟩
    walk_at "rd"
    refine ⟨.ref x, rfl, x, dk h, rfl, SI _ _ hx9, fun HJ p5 ts5 sJ np5 nts5 pts5 hl5 paired5 => ?_⟩
    have SJ : L2.Same H9 HJ := My.Same.tr SI sJ
    refine ⟨a, dx, _, .type "list", rfl, SJ _ _ a19, .base (.lst hl5), nf_of M.ul_Sizes, a, _, d, rfl, ha9.same SJ, .inr ⟨.type "list", .base (.lst hl5), M.kl_Sizes, ?_⟩⟩
    walk_at "rd"
    have g4 : GoodD (z4 n2) := good4 n20 (n2s.mono (by decide))
    refine ⟨[2, 1, 3, n2], rfl, g4, fun x6 e6 HK sK y6 pm6 => ?_⟩
    walk_at "rd"
    dsimp only [L2.tPairs]
    walk_at "rd"
    rename_i u6 nu6
    refine ⟨upd_same, dk (d4 n2), rfl, by simp [dk], ?_⟩
    rw [show mergeK [] (dk (d4 n2)) = dk (d4 n2) from merge_dk _ [] (nd4 n2)]
    have sL : L2.Same HK (L2.upd (L2.upd HK u6 (.dK [])) u6 (.dK (dk (d4 n2)))) := fun c o e => by
      rw [upd_ne (ne_of_none e nu6), upd_ne (ne_of_none e nu6)]
      exact e
    have e6' : (L2.upd (L2.upd HK u6 (.dK [])) u6 (.dK (dk (d4 n2)))) u6 = _ := upd_same
    generalize L2.upd (L2.upd HK u6 (.dK [])) u6 (.dK (dk (d4 n2))) = HL at sL e6' ⊢
    walk_at "rd"
    refine ⟨x6, u6, e6, d4 n2, rfl, y6.same sL, e6', (perm4 n2).trans pm6.symm, by rw [look_perm pm6 g4.nd]; exact st4 n2, fun HM sM => ?_⟩
    have SM := My.Same.tr SJ (My.Same.tr sK (My.Same.tr sL sM))
    walk_at "rd"
    have g3 : GoodD (z3 n n2) := good3 n20 (n2s.mono (by decide)) n0 (ns.mono (by decide))
    refine ⟨[n, n2, 0], rfl, g3, fun x7 e7 HN sN y7 pm7 => ?_⟩
    walk_at "rd"
    dsimp only [L2.tPairs]
    walk_at "rd"
    rename_i u7 nu7
    refine ⟨upd_same, dk (d3 n n2), rfl, by simp [dk], ?_⟩
    rw [show mergeK [] (dk (d3 n n2)) = dk (d3 n n2) from merge_dk _ [] (nd3 n n2)]
    have sO : L2.Same HN (L2.upd (L2.upd HN u7 (.dK [])) u7 (.dK (dk (d3 n n2)))) := fun c o e => by
      rw [upd_ne (ne_of_none e nu7), upd_ne (ne_of_none e nu7)]
      exact e
    have e7' : (L2.upd (L2.upd HN u7 (.dK [])) u7 (.dK (dk (d3 n n2)))) u7 = _ := upd_same
    generalize L2.upd (L2.upd HN u7 (.dK [])) u7 (.dK (dk (d3 n n2))) = HO' at sO e7' ⊢
    walk_at "rd"
    refine ⟨x7, u7, e7, d3 n n2, rfl, y7.same sO, e7', (perm3 n n2).trans pm7.symm, by rw [look_perm pm7 g3.nd]; exact st3 n n2, fun HP sP => ⟨_, rfl, ?_⟩⟩
    have SP := My.Same.tr SM (My.Same.tr sN (My.Same.tr sO sP))
    walk_at "rd"
    refine ⟨a, x, d, h, rfl, ha9.same SP, SP _ _ hx9, pm, st, fun HQ sQ => ?_⟩
    have SQ := My.Same.tr SP sQ
    exact k _ (B9.trans (My.Same.but SQ)) (p9.same SQ)
end
end My
end
section

namespace My
open PySem L2 PySem.Spec PyProof.Rows
theorem s_makeKw {C : Addr} {l : Nat} {sp : Sp} {gV : List V → List V → List V} {tk : TA} {σ : L2.St} {H : Hp} {Q : VK} (h : tk σ H fun zs H2 => zs.length = l ∧ ∀ x dx, H2 x = none → H2 dx = none → dx ≠ x → sp (gV [.ref x] zs) (L2.upd (L2.upd H2 dx (.own x)) x (.ins C dx [])) (fun v H3 => v = .non ∧ Q (.ref x) H3) E0) : tMakeKw C l sp gV tk σ H Q := h
/-- the Sizes at x has its own dict: none that stood in H0 -/
def Own (C : Addr) (H0 H : Hp) (x : Addr) : Prop := ∃ dx q : Addr, H x = some (.ins C dx [("_counts", .ref q)]) ∧ H0 q = none
theorem SzAt.upd {C x u : Addr} {H H0 : Hp} {d : List (Str × Int)} {o0 o1 o : HO} (z : SzAt C H x d) (w : Own C H0 H x) (h0 : H0 u = some o0) (h1 : H u = some (.dK (dk []))  ∨ ∃ l, H u = some (.dK l)) : SzAt C (L2.upd H u o) x d := by
  obtain ⟨dx, q, z1, z2, g⟩ := z
  obtain ⟨dx', q', w1, w2⟩ := w
  rw [z1] at w1
  have e : q = q' := by
    have := Option.some.inj w1
    injection this with _ _ e3
    simpa using e3
  subst e
  have qu : q ≠ u := fun z => by
    rw [z, h0] at w2
    cases w2
  have xu : x ≠ u := by
    rcases h1 with h1 | ⟨l, h1⟩ <;> exact ne_of z1 h1 (by intro z; cases z)
  exact ⟨dx, q, (upd_ne xu).trans z1, (upd_ne qu).trans z2, g⟩
theorem Own.same {C x : Addr} {H0 H H' : Hp} (w : Own C H0 H x) (s : L2.Same H H') : Own C H0 H' x := by
  obtain ⟨dx, q, h1, h2⟩ := w
  exact ⟨dx, q, s _ _ h1, h2⟩
theorem eqD_self {d : List (Str × Int)} (nd : (names d).Nodup) : eqD d d = true := by
  unfold eqD subD
  rw [beq_self_eq_true, Bool.true_and, List.all_eq_true]
  intro p hp
  exact decide_eq_true (look_mem nd hp)
theorem no_strange {d : List (Str × Int)} (h : ∀ y ∈ names d, y.length ≤ 4) : look d "strange" = none := look_none fun z => by
  have := h _ z
  have e : ("strange" : Str).length = 7 := by decide +kernel
  omega
theorem map_lk {d : List (Str × Int)} {ys : List Str} (nd : ys.Nodup) (e : names d = ys) : ys.map (fun y => (y, lk d y)) = d := by
  subst e
  exact byN_self nd
end My
open My L2 PySem
open My L2 PySem
local macro_rules | `(tactic| walk_at "as") => `(tactic| with_reducible assumption)
local macro_rules | `(tactic| walk_at "hp") => `(tactic| first
  | walk_at "as" | exact upd_same
  | (rw [upd_ne (by walk_at "ne")]; walk_at "hp")
  | (refine But.get (by walk_at "as") ?hp1 ?hp2; (case hp1 => walk_at "hp"); (case hp2 => walk_at "ne"))
  | (refine My.Same.get (by walk_at "as") ?hp1; (case hp1 => walk_at "hp")))
local macro_rules | `(tactic| walk_at "ne") => `(tactic| first
  | walk_at "as" | exact Ne.symm (by walk_at "as")
  | (refine' ne_of_none ?ne1 ?ne2; (case ne2 => walk_at "as"); (case ne1 => walk_at "hp"))
  | (refine' Ne.symm (ne_of_none ?ne1 ?ne2); (case ne2 => walk_at "as"); (case ne1 => walk_at "hp"))
  | exact ne_of (by walk_at "hp") (by walk_at "hp") (by intro z; cases z))
local macro_rules | `(tactic| walk_at "sd") => `(tactic| first
  | walk_at "as" | omega | decide | exact ⟨by omega, by omega⟩ | exact .inl ⟨by omega, by omega⟩ | exact .inr ⟨by omega, by omega⟩ | exact divp_wide (by walk_at "as") (by walk_at "as") | exact Sm.cmul (by walk_at "as") (by walk_at "as") | exact cmul_small (by omega) (by omega) (by omega) (by omega) | exact ⟨by omega, by decide⟩)
local macro_rules | `(tactic| walk_at "bt") => `(tactic| first
  | walk_at "as" | exact But.refl _ _ | exact Same.but (by walk_at "as")
  | (refine But.trans ?bt1 But.at; (case bt1 => walk_at "bt"))
  | (refine But.trans ?bt1 (But.new (by first | walk_at "as" | walk_at "hp")); (case bt1 => walk_at "bt"))
  | (refine But.trans ?bt1 (by walk_at "as"); (case bt1 => walk_at "bt"))
  | (refine But.trans ?bt1 (Same.but (by walk_at "as")); (case bt1 => walk_at "bt")))
local macro_rules | `(tactic| walk_at "sm") => `(tactic| first
  | walk_at "as" | exact My.Same.rfl' _
  | (refine' My.Same.at_ ?sm1 ?sm2; (case sm1 => walk_at "as"); (case sm2 => walk_at "sm"))
  | (refine' My.Same.tr ?sm1 (My.Same.new ?sm2); (case sm2 => walk_at "as"); (case sm1 => walk_at "sm"))
  | (refine' My.Same.tr ?sm1 ?sm2; (case sm2 => walk_at "as"); (case sm1 => walk_at "sm")))
local macro_rules | `(tactic| walk_at "sz") => `(tactic| first
  | assumption | exact lt_size (by rfl) | exact le_size (by rfl) | (rw [sizeLine_eq]; omega)
  | (rw [sizeLine_eq]; simp only [List.length_append, List.length_map, List.length_cons, List.length_nil]; omega))
local macro_rules | `(tactic| walk_at "few") => `(tactic| (repeat refine few_put ?_); exact few0)
local macro_rules | `(tactic| walk_at "rd1") => `(tactic| first
  | (with_reducible show tVar _ _ _ _); refine s_var rfl ?_
  | with_reducible refine s_c ?_ | with_reducible refine s_op ?_ | with_reducible refine s_un ?_
  | with_reducible refine s_cons ?_ | with_reducible refine s_nil ?_ | with_reducible refine s_cb ?_
  | with_reducible refine s_test ?_ | with_reducible refine s_B ?_ | with_reducible refine s_not ?_ | with_reducible refine s_and ?_ | with_reducible refine s_or ?_
  | with_reducible refine s_if ?_ | with_reducible refine s_notV ?_ | with_reducible refine s_andV ?_ | with_reducible refine s_orV ?_
  | with_reducible refine s_orT ?_ | with_reducible refine s_andT ?_ | with_reducible refine s_chain ?_
  | with_reducible refine s_isi_int ?_ | with_reducible refine s_isi_int_bool ?_ | with_reducible refine s_isi_str ?_
  | with_reducible refine iteT ?_ | with_reducible refine iteF ?_ | with_reducible refine iteNT ?_ | with_reducible refine iteNF ?_
  | with_reducible refine s_isN ?_ | with_reducible refine s_notN ?_
  | ((with_reducible refine' s_2setE ?g1 ?_); (case g1 => first | (dsimp only [List.set, L2.wipe, List.map, List.foldl]; done) | (dsimp only [List.set, L2.wipe, List.map, List.foldl]; rfl)))
  | with_reducible refine s_seq ?_ | with_reducible refine s_ifS ?_ | with_reducible refine s_asg ?_ | with_reducible refine s_ret ?_ | with_reducible refine s_drop ?_ | with_reducible refine s_next ?_
  | ((with_reducible refine' s_gnameE ?g1 ?_); (case g1 => first | (dsimp only [List.set, L2.wipe, List.map, List.foldl]; done) | (dsimp only [List.set, L2.wipe, List.map, List.foldl]; rfl)))
  | with_reducible refine s_gsub ?_ | with_reducible refine s_gcons ?_ | with_reducible refine s_gnil ?_
  | (with_reducible show gTup _ _ _ _ _ _ _); refine s_gtup (by walk_at "hp") rfl ?_
  | with_reducible refine s_eqI ?_ | with_reducible refine s_neI ?_ | with_reducible refine s_eqS ?_ | with_reducible refine s_neB ?_ | with_reducible refine s_eqB ?_ | with_reducible refine s_neSr ?_ | with_reducible refine s_neS ?_
  | with_reducible refine s_I0 ?_
  | (with_reducible show rI _ _ _ _ _ _); refine s_I (by walk_at "sd") ?_
  | (with_reducible show rIxL _ _ _ _ _); refine s_ixL (by walk_at "hp") rfl ?_
  | (with_reducible show rIxT _ _ _ _ _); refine s_ixT (by walk_at "hp") rfl ?_
  | (with_reducible show rSetL _ _ _ _ _); refine s_setL (by walk_at "hp") rfl ?_
  | with_reducible refine s_prop ?_
  | (with_reducible show _ ≤ sizeLine ∧ _); refine ⟨le_size (by rfl), ?_⟩
  | with_reducible refine ite_NN ?_ | with_reducible refine ite_IN ?_ | with_reducible refine ite_nNN ?_ | with_reducible refine ite_nIN ?_ | with_reducible refine ite_RN ?_ | with_reducible refine ite_nRN ?_
  | with_reducible refine s_sfld ?_
  | ((with_reducible refine' ⟨_, _, _, _, rfl, ?fp1, ?fp2, ?fp3, ?fp4, ?_⟩); (case fp1 => walk_at "hp"); (case fp2 => assumption); (case fp3 => assumption); (case fp4 => walk_at "few"))
  | with_reducible refine s_fldE ?_
  | ((with_reducible refine' ⟨_, _, _, _, _, rfl, ?fp1, ?fp2, ?fp3, ?fp4, ?_⟩); (case fp1 => walk_at "hp"); (case fp2 => assumption); (case fp3 => assumption); (case fp4 => rfl))
  | with_reducible refine s_bm ?_ | with_reducible refine s_bm0 ?_
  | ((with_reducible refine' s_tyL ?ty1 ?_); (case ty1 => walk_at "hp"))
  | ((with_reducible refine' s_append ?ap1 ?ap2 ?_); (case ap1 => walk_at "hp"); (case ap2 => walk_at "sz"))
  | ((with_reducible refine' s_extend ?ap1 ?ap2 ?ap3 ?_); (case ap1 => walk_at "hp"); (case ap2 => walk_at "hp"); (case ap3 => walk_at "sz"))
  | with_reducible refine s_for (fun _ _ => ?_) | with_reducible refine s_lc ?_ | with_reducible refine s_iList ?_ | with_reducible refine s_iTup ?_ | with_reducible refine s_iRng1 ?_ | with_reducible refine s_iRng2 ?_
  | with_reducible refine s_yes ?_ | with_reducible refine s_par ?_
  | with_reducible refine s_make ?_ | with_reducible refine s_meth ?_
  | with_reducible refine s_tup ?_ | with_reducible refine s_lst ?_ | with_reducible refine s_call ?_
  | with_reducible refine ⟨rfl, ?_⟩
  | with_reducible refine ⟨_, rfl, ?_⟩
  | ((with_reducible refine' ⟨_, _, rfl, ?sd1, ?_⟩); (case sd1 => walk_at "sd"))
  | with_reducible refine ⟨_, _, rfl, ?_⟩
  | with_reducible refine .inl ⟨_, rfl, ?_⟩
  | dsimp only [List.set]
  | walk_at "rdx"
  | (refine fun _ _ => ?_))
local macro_rules | `(tactic| walk_at "rd") => `(tactic| repeat (first
  | (with_reducible show tVar _ _ _ _); refine s_var rfl ?_
  | with_reducible refine s_c ?_ | with_reducible refine s_op ?_ | with_reducible refine s_un ?_
  | with_reducible refine s_cons ?_ | with_reducible refine s_nil ?_ | with_reducible refine s_cb ?_
  | with_reducible refine s_test ?_ | with_reducible refine s_B ?_ | with_reducible refine s_not ?_ | with_reducible refine s_and ?_ | with_reducible refine s_or ?_
  | with_reducible refine s_if ?_ | with_reducible refine s_notV ?_ | with_reducible refine s_andV ?_ | with_reducible refine s_orV ?_
  | with_reducible refine s_orT ?_ | with_reducible refine s_andT ?_ | with_reducible refine s_chain ?_
  | with_reducible refine s_isi_int ?_ | with_reducible refine s_isi_int_bool ?_ | with_reducible refine s_isi_str ?_
  | with_reducible refine iteT ?_ | with_reducible refine iteF ?_ | with_reducible refine iteNT ?_ | with_reducible refine iteNF ?_
  | with_reducible refine s_isN ?_ | with_reducible refine s_notN ?_
  | ((with_reducible refine' s_2setE ?g1 ?_); (case g1 => first | (dsimp only [List.set, L2.wipe, List.map, List.foldl]; done) | (dsimp only [List.set, L2.wipe, List.map, List.foldl]; rfl)))
  | with_reducible refine s_seq ?_ | with_reducible refine s_ifS ?_ | with_reducible refine s_asg ?_ | with_reducible refine s_ret ?_ | with_reducible refine s_drop ?_ | with_reducible refine s_next ?_
  | ((with_reducible refine' s_gnameE ?g1 ?_); (case g1 => first | (dsimp only [List.set, L2.wipe, List.map, List.foldl]; done) | (dsimp only [List.set, L2.wipe, List.map, List.foldl]; rfl)))
  | with_reducible refine s_gsub ?_ | with_reducible refine s_gcons ?_ | with_reducible refine s_gnil ?_
  | (with_reducible show gTup _ _ _ _ _ _ _); refine s_gtup (by walk_at "hp") rfl ?_
  | with_reducible refine s_eqI ?_ | with_reducible refine s_neI ?_ | with_reducible refine s_eqS ?_ | with_reducible refine s_neB ?_ | with_reducible refine s_eqB ?_ | with_reducible refine s_neSr ?_ | with_reducible refine s_neS ?_
  | with_reducible refine s_I0 ?_
  | (with_reducible show rI _ _ _ _ _ _); refine s_I (by walk_at "sd") ?_
  | (with_reducible show rIxL _ _ _ _ _); refine s_ixL (by walk_at "hp") rfl ?_
  | (with_reducible show rIxT _ _ _ _ _); refine s_ixT (by walk_at "hp") rfl ?_
  | (with_reducible show rSetL _ _ _ _ _); refine s_setL (by walk_at "hp") rfl ?_
  | with_reducible refine s_prop ?_
  | (with_reducible show _ ≤ sizeLine ∧ _); refine ⟨le_size (by rfl), ?_⟩
  | with_reducible refine ite_NN ?_ | with_reducible refine ite_IN ?_ | with_reducible refine ite_nNN ?_ | with_reducible refine ite_nIN ?_ | with_reducible refine ite_RN ?_ | with_reducible refine ite_nRN ?_
  | with_reducible refine s_sfld ?_
  | ((with_reducible refine' ⟨_, _, _, _, rfl, ?fp1, ?fp2, ?fp3, ?fp4, ?_⟩); (case fp1 => walk_at "hp"); (case fp2 => assumption); (case fp3 => assumption); (case fp4 => walk_at "few"))
  | with_reducible refine s_fldE ?_
  | ((with_reducible refine' ⟨_, _, _, _, _, rfl, ?fp1, ?fp2, ?fp3, ?fp4, ?_⟩); (case fp1 => walk_at "hp"); (case fp2 => assumption); (case fp3 => assumption); (case fp4 => rfl))
  | with_reducible refine s_bm ?_ | with_reducible refine s_bm0 ?_
  | ((with_reducible refine' s_tyL ?ty1 ?_); (case ty1 => walk_at "hp"))
  | ((with_reducible refine' s_append ?ap1 ?ap2 ?_); (case ap1 => walk_at "hp"); (case ap2 => walk_at "sz"))
  | ((with_reducible refine' s_extend ?ap1 ?ap2 ?ap3 ?_); (case ap1 => walk_at "hp"); (case ap2 => walk_at "hp"); (case ap3 => walk_at "sz"))
  | with_reducible refine s_for (fun _ _ => ?_) | with_reducible refine s_lc ?_ | with_reducible refine s_iList ?_ | with_reducible refine s_iTup ?_ | with_reducible refine s_iRng1 ?_ | with_reducible refine s_iRng2 ?_
  | with_reducible refine s_yes ?_ | with_reducible refine s_par ?_
  | with_reducible refine s_make ?_ | with_reducible refine s_meth ?_
  | with_reducible refine s_tup ?_ | with_reducible refine s_lst ?_ | with_reducible refine s_call ?_
  | with_reducible refine ⟨rfl, ?_⟩
  | with_reducible refine ⟨_, rfl, ?_⟩
  | ((with_reducible refine' ⟨_, _, rfl, ?sd1, ?_⟩); (case sd1 => walk_at "sd"))
  | with_reducible refine ⟨_, _, rfl, ?_⟩
  | with_reducible refine .inl ⟨_, rfl, ?_⟩
  | dsimp only [List.set]
  | walk_at "rdx"
  | (refine fun _ _ => ?_)))

namespace My
open PySem L2
section
variable {P : Program} {w : World} {K : PySem.W.Frag} {mg : Str → Option Value} {base : Heap} {C_Sizes : Addr} (M : Md K mg C_Sizes)
include M
local macro_rules | `(tactic| walk_at "rdx") => `(tactic| first
  | with_reducible refine s_tdget ?_ | with_reducible refine s_tdin ?_ | with_reducible refine s_makeKw ?_
  | ((with_reducible refine' s_mcall ?mc1 ?mc2 ?_); (case mc1 => walk_at "hp"); (case mc2 => rfl)))
omit M
def spRight : Sp := fun vs H Q _ => ∃ r : Addr, vs = [.ref r] ∧ Pot H r ∧ ∀ H', But r H H' → Pot H' r → Q (.bl true) H'
def DrN (_ : Str) (n : Int) : Prop := 0 ≤ n ∧ Sm 200 n
theorem good_of {d : List (Str × Int)} {ys : List Str} (h : Nms ys) (e : names d = ys) (hz : ∀ p ∈ d, DrN p.1 p.2) (hl : ys.length ≤ 6) (h0 : ys ≠ []) : GoodD d where
  nd := by rw [e]; exact h.nd
  nm := fun p hp => h.nm p.1 (by rw [← e]; exact List.mem_map.mpr ⟨p, hp, rfl⟩)
  nn := fun p hp => (hz p hp).1
  sm := fun p hp => (hz p hp).2.mono (by decide)
  ne := fun z => h0 (by rw [← e, z]; rfl)
  few := by
    have := congrArg List.length e
    unfold names at this
    rw [List.length_map] at this
    omega
include M
set_option maxHeartbeats 0 in
theorem c__law_right : Dn P w K mg base "_law_right" 9 ["_law_pot_here"] [] spRight := by
  have c__law_draw := c__law_draw (P := P) (w := w) (base := base) M
  have c__law_names := c__law_names (P := P) (w := w) (base := base) M
  have c__law_mixed := c__law_mixed (P := P) (w := w) (base := base) M
  have c__law_amount := c__law_amount (P := P) (w := w) (base := base) M
  have c_Sizes_1 := c_Sizes_1 (P := P) (w := w) (base := base) M
  have k_Sizes := k_Sizes (P := P) (w := w) (base := base) M
  have c_Sizes___eq__ := c_Sizes___eq__ (P := P) (w := w) (base := base) M
  have c__law_shown_right := c__law_shown_right (P := P) (w := w) (base := base) M
  have c__law_pair_right := c__law_pair_right (P := P) (w := w) (base := base) M
  have c__law_others_right := c__law_others_right (P := P) (w := w) (base := base) M
  refine dnN M.f__law_right (fun F => ?_) (fun _ _ _ _ _ _ us hl => match us, hl with | [_], _ => rfl)
  refine fnG_body F sc__law_right (fun vs H Q E h => ?_) (fun cdv A outer s H vs Q E hr h => ?_)
  · obtain ⟨r, rfl, _⟩ := h
    rfl
  · obtain ⟨r, rfl, hp, k⟩ := h
    refine ⟨_, (pss_cons (ps_set (i := 1) sc__law_right.nd rfl (.inl rfl) (pe_callD c__law_names (hr.mono (by decide)) rfl (pa_cons (pv 0) (pa_cons (pe_op op_add pe_int (pe_callD c__law_draw (hr.mono (by decide)) rfl (pa_cons (pv 0) (pa_cons pe_int pa_nil)))) pa_nil)))) (pss_cons (ps_set (i := 2) sc__law_right.nd rfl (.inr rfl) (pe_callTy (call_dictP rfl) (by rfl) M.b_dict (by decide +kernel) (pa_cons (pe_lc (own := [("_law_word", 8)]) (g := gName 8) (tt := tYes) (by rfl) sc__law_right.nd (pi_list (pv 1)) (blkOk_by (own := [("_law_word", 8)]) (N := N__law_right) (sc := defScope st__law_right) (by decide +kernel)) (fun _ _ _ _ _ => pg_name (i := 8) sc__law_right.nd rfl (by first | exact Or.inl rfl | exact Or.inr rfl)) (fun _ _ _ _ _ => pts_nil) (fun _ _ _ _ _ => (pe_tup (pa_cons (pv 8) (pa_cons (pe_callD c__law_amount (hr.mono (by decide)) rfl (pa_cons (pv 0) pa_nil)) pa_nil))))) pa_nil))) (pss_cons (ps_set (i := 3) sc__law_right.nd rfl (.inl rfl) (pe_callTy (call_dictP rfl) (by rfl) M.b_dict (by decide +kernel) (pa_cons (pe_lc (own := [("_law_word", 8)]) (g := gName 8) (tt := tYes) (by rfl) sc__law_right.nd (pi_list (pe_callD c__law_mixed (hr.mono (by decide)) rfl (pa_cons (pv 0) (pa_cons (pv 1) pa_nil)))) (blkOk_by (own := [("_law_word", 8)]) (N := N__law_right) (sc := defScope st__law_right) (by decide +kernel)) (fun _ _ _ _ _ => pg_name (i := 8) sc__law_right.nd rfl (by first | exact Or.inl rfl | exact Or.inr rfl)) (fun _ _ _ _ _ => pts_nil) (fun _ _ _ _ _ => (pe_tup (pa_cons (pv 8) (pa_cons (pe_ifExp (pt_cmpR op_eq (pe_callD c__law_draw (hr.mono (by decide)) rfl (pa_cons (pv 0) (pa_cons pe_int pa_nil))) pe_int (nomark _)) (pe_dget (hug hr) (pv 2) (pv 8) (fun _ _ => rfl)) (pe_callD c__law_amount (hr.mono (by decide)) rfl (pa_cons (pv 0) pa_nil))) pa_nil))))) pa_nil))) (pss_cons (ps_set (i := 4) sc__law_right.nd rfl (.inr rfl) (pe_callTy (call_dictP rfl) (by rfl) M.b_dict (by decide +kernel) (pa_cons (pe_lc (own := [("_law_word", 8)]) (g := gName 8) (tt := tYes) (by rfl) sc__law_right.nd (pi_list (pv 1)) (blkOk_by (own := [("_law_word", 8)]) (N := N__law_right) (sc := defScope st__law_right) (by decide +kernel)) (fun _ _ _ _ _ => pg_name (i := 8) sc__law_right.nd rfl (by first | exact Or.inl rfl | exact Or.inr rfl)) (fun _ _ _ _ _ => pts_nil) (fun _ _ _ _ _ => (pe_tup (pa_cons (pv 8) (pa_cons (pe_dget (hug hr) (pv 2) (pv 8) (fun _ _ => rfl)) pa_nil))))) pa_nil))) (pss_cons (ps_par (i := 5) (j := 6) (by rfl) sc__law_right.nd rfl rfl (by decide) rfl rfl (pa_cons (pe_makeD c_Sizes_1 (hr.mono (by decide)) rfl (pa_cons (pv 4) pa_nil)) (pa_cons (pe_makeKw k_Sizes (hr.mono (by decide)) rfl (pk_cons (pe_callTy call_dictD (by rfl) M.b_dict (by decide +kernel) (pa_cons (pv 3) pa_nil)) pk_nil)) pa_nil)) (by rfl)) (pss_cons (ps_if (pt_cmpR (op_neD hr.units) (pe_lock (pe_lc (own := [("_law_word", 8)]) (g := gName 8) (tt := tYes) (by rfl) sc__law_right.nd (pi_keys (pv 4)) (blkOk_by (own := [("_law_word", 8)]) (N := N__law_right) (sc := defScope st__law_right) (by decide +kernel)) (fun _ _ _ _ _ => pg_name (i := 8) sc__law_right.nd rfl (by first | exact Or.inl rfl | exact Or.inr rfl)) (fun _ _ _ _ _ => pts_nil) (fun _ _ _ _ _ => (pe_tup (pa_cons (pv 8) (pa_cons (pe_dget (hug hr) (pv 4) (pv 8) (fun _ _ => rfl)) pa_nil)))))) (pe_lc (own := [("_law_word", 8)]) (g := gName 8) (tt := tYes) (by rfl) sc__law_right.nd (pi_list (pv 1)) (blkOk_by (own := [("_law_word", 8)]) (N := N__law_right) (sc := defScope st__law_right) (by decide +kernel)) (fun _ _ _ _ _ => pg_name (i := 8) sc__law_right.nd rfl (by first | exact Or.inl rfl | exact Or.inr rfl)) (fun _ _ _ _ _ => pts_nil) (fun _ _ _ _ _ => (pe_tup (pa_cons (pv 8) (pa_cons (pe_dget (hug hr) (pv 2) (pv 8) (fun _ _ => rfl)) pa_nil))))) (nomark _)) (pss_one (ps_ret pe_bl)) pss_nil) (pss_cons (ps_expr (pe_dclear (pv 4))) (pss_cons (ps_if (PW.pt (pw_or (pt_not (pt_val (pe_callD c__law_shown_right (hr.mono (by decide)) rfl (pa_cons (pv 5) (pa_cons (pv 2) pa_nil))))) (pw_or1 (pt_not (pt_val (pe_callD c__law_shown_right (hr.mono (by decide)) rfl (pa_cons (pv 6) (pa_cons (pv 3) pa_nil)))))))) (pss_one (ps_ret pe_bl)) pss_nil) (pss_cons (ps_if (PW.pt (pw_or (pt_not (pt_val (pe_callD c__law_pair_right (hr.mono (by decide)) rfl (pa_cons (pv 5) (pa_cons (pv 6) (pa_cons (pv 2) (pa_cons (pv 3) pa_nil))))))) (pw_or1 (pt_not (pt_val (pe_callD c__law_others_right (hr.mono (by decide)) rfl (pa_cons (pv 0) (pa_cons (pv 5) (pa_cons (pv 2) pa_nil))))))))) (pss_one (ps_ret pe_bl)) pss_nil) (pss_cons (ps_set (i := 7) sc__law_right.nd rfl (.inl rfl) (pe_makeD c_Sizes_1 (hr.mono (by decide)) rfl (pa_cons (pe_callTy (call_dictP rfl) (by rfl) M.b_dict (by decide +kernel) (pa_cons (pe_lc (own := [("_law_word", 8)]) (g := gName 8) (tt := tYes) (by rfl) sc__law_right.nd (pi_list (pe_revL (pv 1))) (blkOk_by (own := [("_law_word", 8)]) (N := N__law_right) (sc := defScope st__law_right) (by decide +kernel)) (fun _ _ _ _ _ => pg_name (i := 8) sc__law_right.nd rfl (by first | exact Or.inl rfl | exact Or.inr rfl)) (fun _ _ _ _ _ => pts_nil) (fun _ _ _ _ _ => (pe_tup (pa_cons (pv 8) (pa_cons (pe_dget (hug hr) (pv 2) (pv 8) (fun _ _ => rfl)) pa_nil))))) pa_nil)) pa_nil))) (pss_one (ps_ret (pe_and (pe_cmpR (or_eqO c_Sizes___eq__ (hr.mono (by decide))) (pv 5) (pv 7) (nomark _)) (pe_and (pe_not (pe_cmpR (or_neO c_Sizes___eq__ M.ne_Sizes M.mo_Sizes (hr.mono (by decide))) (pv 5) (pv 7) (nomark _))) (pe_one (pe_callD c__law_shown_right (hr.mono (by decide)) rfl (pa_cons (pv 5) (pa_cons (pv 2) pa_nil)))))))))))))))))), ?_⟩
    refine st_eq (σ := [some _, none, none, none, none, none, none, none, none]) rfl ?_
    walk_at "rd"
    refine ⟨r, _, rfl, hp, by decide, by decide, fun d0 H1 b1 p1 d00 d01 => ?_⟩
    have d6 : d0 < 6 := d01
    walk_at "rd"
    refine ⟨r, _, rfl, p1, by omega, by omega, fun pw ys H2 nms ly lw nw b2 p2 => ?_⟩
    have B2 := b1.trans b2
    have l6 : ys.length ≤ 6 := by omega
    have l0 : ys ≠ [] := fun z => by
      rw [z] at ly
      simp at ly
      omega
    have wr : pw ≠ r := by
      obtain ⟨_, _, e2, _⟩ := p2
      intro z
      rw [z] at lw
      exact p1.ne nw z
    walk_at "rd"
    refine ⟨⟨_, SqL.of lw⟩, fun D1 nD1 => strs_prs (ys := ys) (fun H' => But r H2 H' ∧ Pot H' r) DrN ⟨My.But.new nD1, p2.up nD1⟩ (fun H' i => SqL.of (i.1.get lw wr)) (by omega) (fun H' o i => ⟨i.1.upf nD1, i.2.upn (p2.ne nD1)⟩) (fun H' p o i np => ⟨i.1.trans (My.But.new np), i.2.up np⟩) ?_ ?_⟩
    · rintro y H' R F hy ⟨b', p'⟩ nD' q'
      walk_at "rd"
      refine ⟨r, rfl, p', fun n H5 n0 ns b5 p5 => ?_⟩
      walk_at "rd"
      exact q' H5 n _ ⟨b'.trans b5, p5⟩ (fun c o _ ec e => b5.get e (by rw [ec]; exact p2.ne nD1)) (fun c xs e => b5.get e (by obtain ⟨_, _, e2, _⟩ := p'; exact ne_of e e2 (by intro z; cases z))) ⟨n0, ns⟩ (by assumption)
    rintro H3 h ⟨b3, p3⟩ hn hz pr3
    have hn' : names h = ys := hn
    have gh : GoodD h := good_of nms hn' hz l6 l0
    obtain ⟨ps, w1, w2, w3⟩ := pr3.dict (K := K) gh.nd
    walk_at "rd"
    refine ⟨_, ps, _, rfl, w1, w2, fun u1 nu1 => ?_⟩
    rw [w3]
    have B3 := (B2.trans b3).trans (My.But.new (o := .dK (dk h)) nu1)
    have P3 := p3.up (o := .dK (dk h)) nu1
    have lw3 : (L2.upd H3 u1 (.dK (dk h))) pw = some (.lst (ys.map V.str)) := (upd_ne (ne_of_none (b3.get lw wr) nu1)).trans (b3.get lw wr)
    have e1 : (L2.upd H3 u1 (.dK (dk h))) u1 = _ := upd_same
    generalize L2.upd H3 u1 (.dK (dk h)) = H3' at B3 P3 lw3 e1 ⊢
    have ur : u1 ≠ r := P3.dkn e1
    walk_at "rd"
    refine ⟨r, pw, _, rfl, lw3, wr, by rw [List.length_map]; omega, P3, fun px vs' H4 pmv lx nx b4 p4 => ?_⟩
    obtain ⟨zs, rfl, pmz⟩ := perm_strs pmv
    have xr : px ≠ r := P3.ne nx
    have B4 := B3.trans b4
    have lw4 := b4.get lw3 wr
    have e14 := b4.get e1 ur
    have nmz := nms.perm pmz
    have lz := pmz.length_eq
    have lkh : ∀ y ∈ ys, look h y = some (lk h y) ∧ DrN y (lk h y) := fun y hy => by
      obtain ⟨i, hi⟩ := look_in (d := h) (k := y) (by rw [hn']; exact hy)
      unfold lk
      rw [hi]
      exact ⟨rfl, hz _ (look_some hi)⟩
    walk_at "rd"
    refine ⟨⟨_, SqL.of lx⟩, fun D2 nD2 => strs_prs (ys := zs) (fun H' => But r H4 H' ∧ Pot H' r) DrN ⟨My.But.new nD2, p4.up nD2⟩ (fun H' i => SqL.of (i.1.get lx xr)) (by omega) (fun H' o i => ⟨i.1.upf nD2, i.2.upn (p4.ne nD2)⟩) (fun H' p o i np => ⟨i.1.trans (My.But.new np), i.2.up np⟩) ?_ ?_⟩
    · rintro y H' R F hy ⟨b', p'⟩ nD' q'
      walk_at "rd"
      refine ⟨r, _, rfl, p', by decide, by decide, fun d1 H5 b5 p5 d10 d11 => ?_⟩
      walk_at "rd"
      refine ite_d (fun e => ?_) (fun e => ?_)
      · walk_at "rd"
        obtain ⟨k1, k2⟩ := lkh y (pmz.mem_iff.mp hy)
        refine s_dget (d := h) (.inl ((b'.trans b5).get e14 ur)) k1 ?_
        walk_at "rd"
        exact q' H5 _ _ ⟨b'.trans b5, p5⟩ (fun c o _ ec e => b5.get e (by rw [ec]; exact p4.ne nD2)) (fun c xs e => b5.get e (by obtain ⟨_, _, e2, _⟩ := p'; exact ne_of e e2 (by intro z; cases z))) k2 (by assumption)
      · walk_at "rd"
        refine ⟨r, rfl, p5, fun n H6 n0 ns b6 p6 => ?_⟩
        walk_at "rd"
        exact q' H6 n _ ⟨(b'.trans b5).trans b6, p6⟩ (fun c o _ ec e => (b5.trans b6).get e (by rw [ec]; exact p4.ne nD2)) (fun c xs e => (b5.trans b6).get e (by obtain ⟨_, _, e2, _⟩ := p'; exact ne_of e e2 (by intro z; cases z))) ⟨n0, ns⟩ (by assumption)
    rintro H5 m ⟨b5, p5⟩ mn mz pr5
    have mn' : names m = zs := mn
    have gm : GoodD m := good_of nmz mn' mz (by omega) (fun z => l0 (by rw [z] at pmz; exact pmz.symm.eq_nil))
    obtain ⟨ps, w1, w2, w3⟩ := pr5.dict (K := K) gm.nd
    walk_at "rd"
    refine ⟨_, ps, _, rfl, w1, w2, fun u2 nu2 => ?_⟩
    rw [w3]
    have B5 := (B4.trans b5).trans (My.But.new (o := .dK (dk m)) nu2)
    have P5 := p5.up (o := .dK (dk m)) nu2
    have lw5 : (L2.upd H5 u2 (.dK (dk m))) pw = some (.lst (ys.map V.str)) := (upd_ne (ne_of_none (b5.get lw4 wr) nu2)).trans (b5.get lw4 wr)
    have e15 : (L2.upd H5 u2 (.dK (dk m))) u1 = some (.dK (dk h)) := (upd_ne (ne_of_none (b5.get e14 ur) nu2)).trans (b5.get e14 ur)
    have e2 : (L2.upd H5 u2 (.dK (dk m))) u2 = _ := upd_same
    generalize L2.upd H5 u2 (.dK (dk m)) = H6 at B5 P5 lw5 e15 e2 ⊢
    walk_at "rd"
    refine ⟨⟨_, SqL.of lw5⟩, fun D3 nD3 => strs_prsF (ys := ys) (fun y => lk h y) (SqL.of lw5) nD3 (by omega) ?_ ?_⟩
    · intro y H' R F hy s' nD' q'
      walk_at "rd"
      refine s_dget (d := h) (.inl (s' _ _ e15)) (lkh y hy).1 ?_
      walk_at "rd"
      exact q' _ _ (L2.Same.refl _) (by assumption)
    intro H7 s7 pr7
    rw [map_lk nms.nd hn'] at pr7
    obtain ⟨ps, w1, w2, w3⟩ := pr7.dict (K := K) gh.nd
    walk_at "rd"
    refine ⟨_, ps, _, rfl, w1, w2, fun u3 nu3 => ?_⟩
    rw [w3]
    have u13 : u1 ≠ u3 := ne_of_none (s7 _ _ e15) nu3
    have u23 : u2 ≠ u3 := ne_of_none (s7 _ _ e2) nu3
    have w3' : pw ≠ u3 := ne_of_none (s7 _ _ lw5) nu3
    have u3r : u3 ≠ r := (P5.same s7).ne nu3
    have nu30 : H u3 = none := (B5.trans (My.Same.but s7)).free nu3 u3r
    have S8 := My.Same.tr s7 (My.Same.new (o := .dK (dk h)) nu3)
    have e3 : (L2.upd H7 u3 (.dK (dk h))) u3 = _ := upd_same
    generalize L2.upd H7 u3 (.dK (dk h)) = H8 at S8 e3 ⊢
    walk_at "rd"
    rename_i X DX nX nDX
    refine fun neX => ⟨X, DX, u3, _, rfl, upd_same, (upd_ne (ne_of_none e3 nX)).trans ((upd_ne (ne_of_none e3 nDX)).trans e3), gh, fun H9 f1 bX z1 pm1 ow1 => ⟨rfl, ?_⟩⟩
    have sX : L2.Same H8 (L2.upd (L2.upd H8 DX (.own X)) X (.ins C_Sizes DX [])) := My.Same.at_ nX (My.Same.new nDX)
    have s9 : L2.Same H8 H9 := bX.same sX nX
    have o1 : Own C_Sizes H8 H9 X := by
      obtain ⟨dx, q, h1, h2⟩ := ow1
      exact ⟨dx, q, h1, L2.Same.free sX h2⟩
    have S9 := My.Same.tr S8 s9
    have e29 := S9 _ _ e2
    walk_at "rd"
    refine ⟨u2, _, rfl, .inl e29, fun u4 nu4 => ?_⟩
    have e4 : (L2.upd H9 u4 (.dK (dk m))) u4 = _ := upd_same
    have s10 : L2.Same H9 (L2.upd H9 u4 (.dK (dk m))) := My.Same.new nu4
    generalize L2.upd H9 u4 (.dK (dk m)) = H10 at e4 s10 ⊢
    walk_at "rd"
    rename_i Y DY nY nDY
    refine fun neY => ⟨Y, DY, u4, _, rfl, upd_same, (upd_ne (ne_of_none e4 nY)).trans ((upd_ne (ne_of_none e4 nDY)).trans e4), gm, fun H11 f2 bY z2 pm2 ow2 => ⟨rfl, ?_⟩⟩
    have sY : L2.Same H10 (L2.upd (L2.upd H10 DY (.own Y)) Y (.ins C_Sizes DY [])) := My.Same.at_ nY (My.Same.new nDY)
    have s11' : L2.Same H10 H11 := bY.same sY nY
    have o2 : Own C_Sizes H10 H11 Y := by
      obtain ⟨dx, q, h1, h2⟩ := ow2
      exact ⟨dx, q, h1, L2.Same.free sY h2⟩
    have s911 := My.Same.tr s10 s11'
    have e3a := s911 _ _ (s9 _ _ e3)
    walk_at "rd"
    refine lock_prs (d := h) (q := u3) (fun p => p.2) e3a (few1 gh) ?_ ?_ ?_
    · intro H' R _ q'
      walk_at "rd"
      exact q'
    · intro od D i p' H' R F hp' nD hDq hq hs hD q'
      walk_at "rd"
      refine s_dget (d := h) (.inr ⟨od, hq⟩) (look_mem gh.nd (List.mem_of_getElem? hp')) ?_
      walk_at "rd"
      exact q' _ _ (L2.Same.refl _) (by assumption)
    intro D5 H12 nD5 s12 pr12
    rw [List.map_id'] at pr12
    have S12 := My.Same.tr S9 (My.Same.tr s911 s12)
    have lw12 := S12 _ _ lw5
    have e112 := S12 _ _ e15
    walk_at "rd"
    refine ⟨⟨_, SqL.of lw12⟩, fun D6 nD6 => strs_prsF (ys := ys) (fun y => lk h y) (SqL.of lw12) nD6 (by omega) ?_ ?_⟩
    · intro y H' R F hy s' nD' q'
      walk_at "rd"
      refine s_dget (d := h) (.inl (s' _ _ e112)) (lkh y hy).1 ?_
      walk_at "rd"
      exact q' _ _ (L2.Same.refl _) (by assumption)
    intro H13 s13 pr13
    rw [map_lk nms.nd hn'] at pr13
    walk_at "rd"
    refine s_nePrs gh.nm (pr12.same s13) pr13 ?_
    walk_at "rd"
    have s1113 := My.Same.tr s12 s13
    have e313 := s1113 _ _ e3a
    have S13 := My.Same.tr S12 s13
    refine ⟨.inr (.inr (.inl ⟨rfl, .inl ⟨_, e313⟩⟩)), u3, _, rfl, rfl, e313, ?_⟩
    have z1' : SzAt C_Sizes (L2.upd H13 u3 (.dK [])) X f1 := SzAt.upd (z1.same (My.Same.tr s911 s1113)) (o1.same (My.Same.tr s911 s1113)) e3 (.inr ⟨_, e313⟩) (o1 := .dK [])
    have z2' : SzAt C_Sizes (L2.upd H13 u3 (.dK [])) Y f2 := SzAt.upd (z2.same s1113) (o2.same s1113) (s10 _ _ (s9 _ _ e3)) (.inr ⟨_, e313⟩) (o1 := .dK [])
    have x1 : (L2.upd H13 u3 (.dK [])) u1 = _ := (upd_ne u13).trans (S13 _ _ e15)
    have x2 : (L2.upd H13 u3 (.dK [])) u2 = _ := (upd_ne u23).trans (S13 _ _ e2)
    have xw : (L2.upd H13 u3 (.dK [])) pw = _ := (upd_ne w3').trans (S13 _ _ lw5)
    have PE : Pot (L2.upd H13 u3 (.dK [])) r := (P5.same S13).upn u3r
    have BE : But r H (L2.upd H13 u3 (.dK [])) := (B5.trans (My.Same.but S13)).upf nu30
    generalize L2.upd H13 u3 (.dK []) = HE at z1' z2' x1 x2 xw PE BE ⊢
    walk_at "rd"
    obtain ⟨dX, qX, zX1, zX2, gf1, sf1⟩ := id z1'
    obtain ⟨dY, qY, zY1, zY2, gf2, sf2⟩ := id z2'
    have pn1 : (names f1).Perm ys := by
      have := names_perm pm1
      rw [hn'] at this
      exact this
    have pn2 : (names f2).Perm ys := by
      have := names_perm pm2
      rw [mn'] at this
      exact this.trans pmz
    have n12 : names f1 = names f2 := sorted_uniq sf1 sf2 (pn1.trans pn2.symm)
    have st1 : look f1 "strange" = none := no_strange fun y hy => nms.sh y (pn1.mem_iff.mp hy)
    have st2 : look f2 "strange" = none := no_strange fun y hy => nms.sh y (pn2.mem_iff.mp hy)
    have bd1 : ∀ p ∈ f1, Sm 200 p.2 := fun p hp => (hz p (pm1.mem_iff.mp hp)).2
    have bd2 : ∀ p ∈ f2, Sm 200 p.2 := fun p hp => (mz p (pm2.mem_iff.mp hp)).2
    have lf1 : f1.length ≤ 6 := by
      have h1 := pn1.length_eq
      unfold names at h1
      rw [List.length_map] at h1
      omega
    refine ⟨X, u1, f1, h, rfl, z1', x1, pm1.symm, st1, fun HF sF => ?_⟩
    walk_at "rd"
    refine ⟨Y, u2, f2, m, rfl, z2'.same sF, sF _ _ x2, pm2.symm, st2, fun HG sG => ?_⟩
    have SG := My.Same.tr sF sG
    walk_at "rd"
    refine ⟨X, Y, u1, u2, f1, f2, h, m, rfl, z1'.same SG, z2'.same SG, SG _ _ x1, SG _ _ x2, ⟨gf1, gf2, sf1, sf2, pm1.symm, pm2.symm, n12, fun p hp => (bd1 p hp).mono (by decide), fun p hp => (bd2 p hp).mono (by decide), st1⟩, fun HH sH => ?_⟩
    have SH := My.Same.tr SG sH
    have PH := PE.same SH
    walk_at "rd"
    refine ⟨r, X, u1, f1, h, rfl, PH, z1'.same SH, SH _ _ x1, pm1.symm, bd1, st1, lf1, fun HI bI pI => ?_⟩
    have z1I := (z1'.same SH).buts bI PH
    have x1I := bI.get (SH _ _ x1) (PH.dkn (SH _ _ x1))
    have xwI := bI.get (SH _ _ xw) wr
    have BI := (BE.trans (My.Same.but SH)).trans bI
    walk_at "rd"
    refine ⟨.ref pw, rfl, pw, _, rfl, SqL.of xwI, fun pv npv => ?_⟩
    have xv : (L2.upd HI pv (.lst (ys.map V.str).reverse)) pv = some (.lst (ys.reverse.map V.str)) := by rw [upd_same, List.map_reverse]
    have sJ : L2.Same HI (L2.upd HI pv (.lst (ys.map V.str).reverse)) := My.Same.new npv
    generalize L2.upd HI pv (.lst (ys.map V.str).reverse) = HJ at xv sJ ⊢
    have x1J := sJ _ _ x1I
    walk_at "rd"
    refine ⟨⟨_, SqL.of xv⟩, fun D7 nD7 => strs_prsF (ys := ys.reverse) (fun y => lk h y) (SqL.of xv) nD7 (by rw [List.length_reverse]; omega) ?_ ?_⟩
    · intro y H' R F hy s' nD' q'
      walk_at "rd"
      refine s_dget (d := h) (.inl (s' _ _ x1J)) (lkh y (List.mem_reverse.mp hy)).1 ?_
      walk_at "rd"
      exact q' _ _ (L2.Same.refl _) (by assumption)
    intro HK sK prK
    have prv : (ys.reverse.map fun y => (y, lk h y)).Perm h := by
      have := (List.reverse_perm ys).map fun y => (y, lk h y)
      rw [map_lk nms.nd hn'] at this
      exact this
    have grv := gh.perm prv
    obtain ⟨ps, w1, w2, w3⟩ := prK.dict (K := K) grv.nd
    walk_at "rd"
    refine ⟨_, ps, _, rfl, w1, w2, fun u5 nu5 => ?_⟩
    rw [w3]
    have e5 : (L2.upd HK u5 (.dK (dk (ys.reverse.map fun y => (y, lk h y))))) u5 = _ := upd_same
    have sL : L2.Same HI (L2.upd HK u5 (.dK (dk (ys.reverse.map fun y => (y, lk h y))))) := My.Same.tr sJ (My.Same.tr sK (My.Same.new nu5))
    generalize L2.upd HK u5 (.dK (dk (ys.reverse.map fun y => (y, lk h y)))) = HL at e5 sL ⊢
    walk_at "rd"
    rename_i Z DZ nZ nDZ
    refine fun neZ => ⟨Z, DZ, u5, _, rfl, upd_same, (upd_ne (ne_of_none e5 nZ)).trans ((upd_ne (ne_of_none e5 nDZ)).trans e5), grv, fun HM f3 bZ z3 pm3 _ => ⟨rfl, ?_⟩⟩
    have sM : L2.Same HI HM := My.Same.tr sL (bZ.same (My.Same.at_ nZ (My.Same.new nDZ)) nZ)
    obtain ⟨dZ, qZ, zZ1, zZ2, gf3, sf3⟩ := id z3
    have e31 : f3 = f1 := Srt.uniq sf3 sf1 gf1.nd ((pm3.trans prv).trans pm1.symm)
    subst e31
    obtain ⟨dX', qX', zX1', zX2', _, _⟩ := id z1I
    walk_at "rd"
    refine ⟨X, dX', _, .ref C_Sizes, rfl, sM _ _ zX1', .base (M.z_Sizes zZ1), nf_own, X, _, f3, rfl, z1I.same sM, .inl ⟨Z, f3, rfl, z3, ?_⟩⟩
    rw [eqD_self gf1.nd]
    walk_at "rd"
    refine ⟨X, dX', _, .ref C_Sizes, rfl, sM _ _ zX1', .base (M.z_Sizes zZ1), nf_own, X, _, f3, rfl, z1I.same sM, .inl ⟨Z, f3, rfl, z3, _, rfl, ?_⟩⟩
    rw [eqD_self gf1.nd]
    walk_at "rd"
    rw [show (!!true) = true from rfl]
    walk_at "rd"
    refine ⟨X, u1, f3, h, rfl, z1I.same sM, sM _ _ x1I, pm1.symm, st1, fun HN sN => ?_⟩
    have SN := My.Same.tr sM sN
    exact k _ (BI.trans (My.Same.but SN)) (pI.same SN)
end
end My
end
section

open My L2 PySem
open My L2 PySem
local macro_rules | `(tactic| walk_at "as") => `(tactic| with_reducible assumption)
local macro_rules | `(tactic| walk_at "hp") => `(tactic| first
  | walk_at "as" | exact upd_same
  | (rw [upd_ne (by walk_at "ne")]; walk_at "hp")
  | (refine But.get (by walk_at "as") ?hp1 ?hp2; (case hp1 => walk_at "hp"); (case hp2 => walk_at "ne"))
  | (refine My.Same.get (by walk_at "as") ?hp1; (case hp1 => walk_at "hp")))
local macro_rules | `(tactic| walk_at "ne") => `(tactic| first
  | walk_at "as" | exact Ne.symm (by walk_at "as")
  | (refine' ne_of_none ?ne1 ?ne2; (case ne2 => walk_at "as"); (case ne1 => walk_at "hp"))
  | (refine' Ne.symm (ne_of_none ?ne1 ?ne2); (case ne2 => walk_at "as"); (case ne1 => walk_at "hp"))
  | exact ne_of (by walk_at "hp") (by walk_at "hp") (by intro z; cases z))
local macro_rules | `(tactic| walk_at "sd") => `(tactic| first
  | walk_at "as" | omega | decide | exact ⟨by omega, by omega⟩ | exact .inl ⟨by omega, by omega⟩ | exact .inr ⟨by omega, by omega⟩ | exact divp_wide (by walk_at "as") (by walk_at "as") | exact Sm.cmul (by walk_at "as") (by walk_at "as") | exact cmul_small (by omega) (by omega) (by omega) (by omega) | exact ⟨by omega, by decide⟩)
local macro_rules | `(tactic| walk_at "bt") => `(tactic| first
  | walk_at "as" | exact But.refl _ _ | exact Same.but (by walk_at "as")
  | (refine But.trans ?bt1 But.at; (case bt1 => walk_at "bt"))
  | (refine But.trans ?bt1 (But.new (by first | walk_at "as" | walk_at "hp")); (case bt1 => walk_at "bt"))
  | (refine But.trans ?bt1 (by walk_at "as"); (case bt1 => walk_at "bt"))
  | (refine But.trans ?bt1 (Same.but (by walk_at "as")); (case bt1 => walk_at "bt")))
local macro_rules | `(tactic| walk_at "sm") => `(tactic| first
  | walk_at "as" | exact My.Same.rfl' _
  | (refine' My.Same.at_ ?sm1 ?sm2; (case sm1 => walk_at "as"); (case sm2 => walk_at "sm"))
  | (refine' My.Same.tr ?sm1 (My.Same.new ?sm2); (case sm2 => walk_at "as"); (case sm1 => walk_at "sm"))
  | (refine' My.Same.tr ?sm1 ?sm2; (case sm2 => walk_at "as"); (case sm1 => walk_at "sm")))
local macro_rules | `(tactic| walk_at "sz") => `(tactic| first
  | assumption | exact lt_size (by rfl) | exact le_size (by rfl) | (rw [sizeLine_eq]; omega)
  | (rw [sizeLine_eq]; simp only [List.length_append, List.length_map, List.length_cons, List.length_nil]; omega))
local macro_rules | `(tactic| walk_at "few") => `(tactic| (repeat refine few_put ?_); exact few0)
local macro_rules | `(tactic| walk_at "rd1") => `(tactic| first
  | (with_reducible show tVar _ _ _ _); refine s_var rfl ?_
  | with_reducible refine s_c ?_ | with_reducible refine s_op ?_ | with_reducible refine s_un ?_
  | with_reducible refine s_cons ?_ | with_reducible refine s_nil ?_ | with_reducible refine s_cb ?_
  | with_reducible refine s_test ?_ | with_reducible refine s_B ?_ | with_reducible refine s_not ?_ | with_reducible refine s_and ?_ | with_reducible refine s_or ?_
  | with_reducible refine s_if ?_ | with_reducible refine s_notV ?_ | with_reducible refine s_andV ?_ | with_reducible refine s_orV ?_
  | with_reducible refine s_orT ?_ | with_reducible refine s_andT ?_ | with_reducible refine s_chain ?_
  | with_reducible refine s_isi_int ?_ | with_reducible refine s_isi_int_bool ?_ | with_reducible refine s_isi_str ?_
  | with_reducible refine iteT ?_ | with_reducible refine iteF ?_ | with_reducible refine iteNT ?_ | with_reducible refine iteNF ?_
  | with_reducible refine s_isN ?_ | with_reducible refine s_notN ?_
  | ((with_reducible refine' s_2setE ?g1 ?_); (case g1 => first | (dsimp only [List.set, L2.wipe, List.map, List.foldl]; done) | (dsimp only [List.set, L2.wipe, List.map, List.foldl]; rfl)))
  | with_reducible refine s_seq ?_ | with_reducible refine s_ifS ?_ | with_reducible refine s_asg ?_ | with_reducible refine s_ret ?_ | with_reducible refine s_drop ?_ | with_reducible refine s_next ?_
  | ((with_reducible refine' s_gnameE ?g1 ?_); (case g1 => first | (dsimp only [List.set, L2.wipe, List.map, List.foldl]; done) | (dsimp only [List.set, L2.wipe, List.map, List.foldl]; rfl)))
  | with_reducible refine s_gsub ?_ | with_reducible refine s_gcons ?_ | with_reducible refine s_gnil ?_
  | (with_reducible show gTup _ _ _ _ _ _ _); refine s_gtup (by walk_at "hp") rfl ?_
  | with_reducible refine s_eqI ?_ | with_reducible refine s_neI ?_ | with_reducible refine s_eqS ?_ | with_reducible refine s_neB ?_ | with_reducible refine s_eqB ?_ | with_reducible refine s_neSr ?_ | with_reducible refine s_neS ?_
  | with_reducible refine s_I0 ?_
  | (with_reducible show rI _ _ _ _ _ _); refine s_I (by walk_at "sd") ?_
  | (with_reducible show rIxL _ _ _ _ _); refine s_ixL (by walk_at "hp") rfl ?_
  | (with_reducible show rIxT _ _ _ _ _); refine s_ixT (by walk_at "hp") rfl ?_
  | (with_reducible show rSetL _ _ _ _ _); refine s_setL (by walk_at "hp") rfl ?_
  | with_reducible refine s_prop ?_
  | (with_reducible show _ ≤ sizeLine ∧ _); refine ⟨le_size (by rfl), ?_⟩
  | with_reducible refine ite_NN ?_ | with_reducible refine ite_IN ?_ | with_reducible refine ite_nNN ?_ | with_reducible refine ite_nIN ?_ | with_reducible refine ite_RN ?_ | with_reducible refine ite_nRN ?_
  | with_reducible refine s_sfld ?_
  | ((with_reducible refine' ⟨_, _, _, _, rfl, ?fp1, ?fp2, ?fp3, ?fp4, ?_⟩); (case fp1 => walk_at "hp"); (case fp2 => assumption); (case fp3 => assumption); (case fp4 => walk_at "few"))
  | with_reducible refine s_fldE ?_
  | ((with_reducible refine' ⟨_, _, _, _, _, rfl, ?fp1, ?fp2, ?fp3, ?fp4, ?_⟩); (case fp1 => walk_at "hp"); (case fp2 => assumption); (case fp3 => assumption); (case fp4 => rfl))
  | with_reducible refine s_bm ?_ | with_reducible refine s_bm0 ?_
  | ((with_reducible refine' s_tyL ?ty1 ?_); (case ty1 => walk_at "hp"))
  | ((with_reducible refine' s_append ?ap1 ?ap2 ?_); (case ap1 => walk_at "hp"); (case ap2 => walk_at "sz"))
  | ((with_reducible refine' s_extend ?ap1 ?ap2 ?ap3 ?_); (case ap1 => walk_at "hp"); (case ap2 => walk_at "hp"); (case ap3 => walk_at "sz"))
  | with_reducible refine s_for (fun _ _ => ?_) | with_reducible refine s_lc ?_ | with_reducible refine s_iList ?_ | with_reducible refine s_iTup ?_ | with_reducible refine s_iRng1 ?_ | with_reducible refine s_iRng2 ?_
  | with_reducible refine s_yes ?_ | with_reducible refine s_par ?_
  | with_reducible refine s_make ?_ | with_reducible refine s_meth ?_
  | with_reducible refine s_tup ?_ | with_reducible refine s_lst ?_ | with_reducible refine s_call ?_
  | with_reducible refine ⟨rfl, ?_⟩
  | with_reducible refine ⟨_, rfl, ?_⟩
  | ((with_reducible refine' ⟨_, _, rfl, ?sd1, ?_⟩); (case sd1 => walk_at "sd"))
  | with_reducible refine ⟨_, _, rfl, ?_⟩
  | with_reducible refine .inl ⟨_, rfl, ?_⟩
  | dsimp only [List.set]
  | walk_at "rdx"
  | (refine fun _ _ => ?_))
local macro_rules | `(tactic| walk_at "rd") => `(tactic| repeat (first
  | (with_reducible show tVar _ _ _ _); refine s_var rfl ?_
  | with_reducible refine s_c ?_ | with_reducible refine s_op ?_ | with_reducible refine s_un ?_
  | with_reducible refine s_cons ?_ | with_reducible refine s_nil ?_ | with_reducible refine s_cb ?_
  | with_reducible refine s_test ?_ | with_reducible refine s_B ?_ | with_reducible refine s_not ?_ | with_reducible refine s_and ?_ | with_reducible refine s_or ?_
  | with_reducible refine s_if ?_ | with_reducible refine s_notV ?_ | with_reducible refine s_andV ?_ | with_reducible refine s_orV ?_
  | with_reducible refine s_orT ?_ | with_reducible refine s_andT ?_ | with_reducible refine s_chain ?_
  | with_reducible refine s_isi_int ?_ | with_reducible refine s_isi_int_bool ?_ | with_reducible refine s_isi_str ?_
  | with_reducible refine iteT ?_ | with_reducible refine iteF ?_ | with_reducible refine iteNT ?_ | with_reducible refine iteNF ?_
  | with_reducible refine s_isN ?_ | with_reducible refine s_notN ?_
  | ((with_reducible refine' s_2setE ?g1 ?_); (case g1 => first | (dsimp only [List.set, L2.wipe, List.map, List.foldl]; done) | (dsimp only [List.set, L2.wipe, List.map, List.foldl]; rfl)))
  | with_reducible refine s_seq ?_ | with_reducible refine s_ifS ?_ | with_reducible refine s_asg ?_ | with_reducible refine s_ret ?_ | with_reducible refine s_drop ?_ | with_reducible refine s_next ?_
  | ((with_reducible refine' s_gnameE ?g1 ?_); (case g1 => first | (dsimp only [List.set, L2.wipe, List.map, List.foldl]; done) | (dsimp only [List.set, L2.wipe, List.map, List.foldl]; rfl)))
  | with_reducible refine s_gsub ?_ | with_reducible refine s_gcons ?_ | with_reducible refine s_gnil ?_
  | (with_reducible show gTup _ _ _ _ _ _ _); refine s_gtup (by walk_at "hp") rfl ?_
  | with_reducible refine s_eqI ?_ | with_reducible refine s_neI ?_ | with_reducible refine s_eqS ?_ | with_reducible refine s_neB ?_ | with_reducible refine s_eqB ?_ | with_reducible refine s_neSr ?_ | with_reducible refine s_neS ?_
  | with_reducible refine s_I0 ?_
  | (with_reducible show rI _ _ _ _ _ _); refine s_I (by walk_at "sd") ?_
  | (with_reducible show rIxL _ _ _ _ _); refine s_ixL (by walk_at "hp") rfl ?_
  | (with_reducible show rIxT _ _ _ _ _); refine s_ixT (by walk_at "hp") rfl ?_
  | (with_reducible show rSetL _ _ _ _ _); refine s_setL (by walk_at "hp") rfl ?_
  | with_reducible refine s_prop ?_
  | (with_reducible show _ ≤ sizeLine ∧ _); refine ⟨le_size (by rfl), ?_⟩
  | with_reducible refine ite_NN ?_ | with_reducible refine ite_IN ?_ | with_reducible refine ite_nNN ?_ | with_reducible refine ite_nIN ?_ | with_reducible refine ite_RN ?_ | with_reducible refine ite_nRN ?_
  | with_reducible refine s_sfld ?_
  | ((with_reducible refine' ⟨_, _, _, _, rfl, ?fp1, ?fp2, ?fp3, ?fp4, ?_⟩); (case fp1 => walk_at "hp"); (case fp2 => assumption); (case fp3 => assumption); (case fp4 => walk_at "few"))
  | with_reducible refine s_fldE ?_
  | ((with_reducible refine' ⟨_, _, _, _, _, rfl, ?fp1, ?fp2, ?fp3, ?fp4, ?_⟩); (case fp1 => walk_at "hp"); (case fp2 => assumption); (case fp3 => assumption); (case fp4 => rfl))
  | with_reducible refine s_bm ?_ | with_reducible refine s_bm0 ?_
  | ((with_reducible refine' s_tyL ?ty1 ?_); (case ty1 => walk_at "hp"))
  | ((with_reducible refine' s_append ?ap1 ?ap2 ?_); (case ap1 => walk_at "hp"); (case ap2 => walk_at "sz"))
  | ((with_reducible refine' s_extend ?ap1 ?ap2 ?ap3 ?_); (case ap1 => walk_at "hp"); (case ap2 => walk_at "hp"); (case ap3 => walk_at "sz"))
  | with_reducible refine s_for (fun _ _ => ?_) | with_reducible refine s_lc ?_ | with_reducible refine s_iList ?_ | with_reducible refine s_iTup ?_ | with_reducible refine s_iRng1 ?_ | with_reducible refine s_iRng2 ?_
  | with_reducible refine s_yes ?_ | with_reducible refine s_par ?_
  | with_reducible refine s_make ?_ | with_reducible refine s_meth ?_
  | with_reducible refine s_tup ?_ | with_reducible refine s_lst ?_ | with_reducible refine s_call ?_
  | with_reducible refine ⟨rfl, ?_⟩
  | with_reducible refine ⟨_, rfl, ?_⟩
  | ((with_reducible refine' ⟨_, _, rfl, ?sd1, ?_⟩); (case sd1 => walk_at "sd"))
  | with_reducible refine ⟨_, _, rfl, ?_⟩
  | with_reducible refine .inl ⟨_, rfl, ?_⟩
  | dsimp only [List.set]
  | walk_at "rdx"
  | (refine fun _ _ => ?_)))

namespace My
open PySem L2
section
variable {P : Program} {w : World} {K : PySem.W.Frag} {mg : Str → Option Value} {base : Heap} {C_Sizes : Addr} (M : Md K mg C_Sizes)
include M
omit M
def spLaw (K : PySem.W.Frag) : Sp := fun vs H Q _ => ∃ (a : Addr) (ns : List Int), vs = [.ref a] ∧ SqL K H a (ns.map V.int) ∧ ns.length ≤ 63 ∧ ∀ H', Q (.bl true) H'
theorem turns6 (n : Nat) : 0 ≤ (if (if (n : Int) < 6 then (n : Int) else 6) > 1 then (if (n : Int) < 6 then (n : Int) else 6) else 1) ∧ (if (if (n : Int) < 6 then (n : Int) else 6) > 1 then (if (n : Int) < 6 then (n : Int) else 6) else 1) ≤ 6 := by
  split <;> split <;> omega
theorem rep_map (n : Nat) : List.replicate n (V.bl true) = (List.replicate n true).map V.bl := by
  rw [List.map_replicate]
theorem rep_all (n : Nat) : (List.replicate n true).all id = true := by
  induction n with
  | zero => rfl
  | succ n ih => simpa using ih
include M
theorem ok_law {f : Addr} {fd : FuncData} (F : FunD K "law" "law" (defArgs st_law) (defBody st_law) (defScope st_law) [] [] f fd) : FnG P w K mg base CX0 12 f fd ["_law_script"] (spLaw K) := by
  have c__law_pot := c__law_pot (P := P) (w := w) (base := base) M
  have c__law_right := c__law_right (P := P) (w := w) (base := base) M
  refine FnG.mono (j := 10) ?_ (by decide)
  refine fnG_body F sc_law (fun vs H Q E h => ?_) (fun cdv A outer s H vs Q E hr h => ?_)
  · obtain ⟨a, ns, rfl, _⟩ := h
    rfl
  · obtain ⟨a, ns, rfl, hS, hl, k⟩ := h
    refine ⟨_, (pss_one (ps_ret (pe_callB (cr_all rfl) (by rfl) M.b_all (by decide +kernel) (pa_cons (pe_lc (own := [("_law_k", 1)]) (g := gName 1) (tt := tYes) (by rfl) sc_law.nd (pi_range1 (by rfl) M.b_range (pa_cons (pe_callB (call_max2 rfl) (by rfl) M.b_max (by decide +kernel) (pa_cons pe_int (pa_cons (pe_callB (call_min2 rfl) (by rfl) M.b_min (by decide +kernel) (pa_cons pe_int (pa_cons (pe_callB call_len_seq (by rfl) M.b_len (by decide +kernel) (pa_cons (pv 0) pa_nil)) pa_nil))) pa_nil))) pa_nil)) (blkOk_by (own := [("_law_k", 1)]) (N := N_law) (sc := defScope st_law) (by decide +kernel)) (fun _ _ _ _ _ => pg_name (i := 1) sc_law.nd rfl (by first | exact Or.inl rfl | exact Or.inr rfl)) (fun _ _ _ _ _ => pts_nil) (fun _ _ _ _ _ => (pe_callD c__law_right (hr.mono (by decide)) rfl (pa_cons (pe_callD c__law_pot (hr.mono (by decide)) rfl (pa_cons (pv 0) (pa_cons (pv 1) pa_nil))) pa_nil)))) pa_nil)))), ?_⟩
    refine st_eq (σ := [some _, none]) rfl ?_
    walk_at "rd"
    refine ⟨_, _, rfl, .inl hS, ?_⟩
    walk_at "rd"
    have hb := turns6 (ns.map V.int).length
    generalize (if (if ((ns.map V.int).length : Int) < 6 then ((ns.map V.int).length : Int) else 6) > 1 then (if ((ns.map V.int).length : Int) < 6 then ((ns.map V.int).length : Int) else 6) else 1) = n at hb ⊢
    refine ⟨by omega, by omega, fun D nD => lc_range (lo := 0) (n := n.toNat) (fun i H' => L2.Same H H' ∧ i ≤ 6 ∧ H' D = some (.lst (List.replicate i (V.bl true)))) ?_ ?_ ?_⟩
    · exact ⟨My.Same.new nD, Nat.zero_le _, upd_same⟩
    · rintro i H1 hi ⟨s1, _, hD⟩
      walk_at "rd"
      refine ⟨a, ns, _, rfl, s1.seq hS, by omega, by omega, fun r H2 s2 nr p2 => ?_⟩
      walk_at "rd"
      refine ⟨r, rfl, p2, fun H3 b3 p3 => ?_⟩
      have Dr : D ≠ r := ne_of_none hD nr
      refine ⟨_, b3.get (s2 _ _ hD) Dr, ?_, My.Same.at_ nD (b3.same (My.Same.tr s1 s2) (L2.Same.free s1 nr)), by omega, ?_⟩
      · rw [List.length_replicate, sizeLine_eq]
        omega
      · rw [upd_same, List.replicate_succ']
    · rintro H1 ⟨s1, _, hD⟩
      walk_at "rd"
      refine ⟨_, List.replicate n.toNat true, rfl, SqL.of (by rw [← rep_map]; exact hD), ?_⟩
      rw [rep_all]
      exact k _
end
end My
end
section

namespace My
open PySem L2 PySem.W
theorem no_ok {K : PySem.W.Frag} {C : Addr} {f : Str} (h : eqO (PySem.W.findIn K (.ref C) f) (some none) = true) : NoAttr K C f := (of_decide_eq_true (p := PySem.W.findIn K (.ref C) f = some none) h : PySem.W.findIn K (.ref C) f = some none)
theorem facts {P : Program} {w : World} {K : PySem.W.Frag} {h : Heap} {mg : Str → Option Value} {f : Addr} (X : K.In h) (G : h.Ns mainGlobals mg) (hfa : mg "law" = some (.ref f)) (c : SaysY faL fnL adL exB K) :
    ∃ fd : FuncData, (∀ (s : Shared) (v : Value), BindsTo s fd ⟨[v], []⟩ [("_law_script", v)]) ∧ ∀ base : Heap, K.In base → base.Ns mainGlobals mg → FnG P w K mg base CX0 12 f fd ["_law_script"] (spLaw K) := by
  have c1 := c.d
  have t : (tests K).all id = true := c.more.1
  obtain ⟨fd_0, F_0⟩ := c1.def_ 0 (d := dd_is_integer) rfl
  obtain ⟨fd_1, F_1⟩ := c1.def_ 1 (d := dd_is_count) rfl
  obtain ⟨fd_2, F_2⟩ := c1.def_ 2 (d := dd_is_name) rfl
  obtain ⟨fd_3, F_3⟩ := c1.def_ 3 (d := dd_check_kind) rfl
  obtain ⟨fd_4, F_4⟩ := c1.def_ 4 (d := dd_check_count) rfl
  obtain ⟨fd_5, F_5⟩ := c1.def_ 5 (d := dd__are_counts) rfl
  obtain ⟨fd_6, F_6⟩ := c1.def_ 6 (d := dd__law_pot) rfl
  obtain ⟨fd_7, F_7⟩ := c1.def_ 7 (d := dd__law_draw) rfl
  obtain ⟨fd_8, F_8⟩ := c1.def_ 8 (d := dd__law_pick) rfl
  obtain ⟨fd_9, F_9⟩ := c1.def_ 9 (d := dd__law_mixed) rfl
  obtain ⟨fd_10, F_10⟩ := c1.def_ 10 (d := dd__law_names) rfl
  obtain ⟨fd_11, F_11⟩ := c1.def_ 11 (d := dd__law_far) rfl
  obtain ⟨fd_12, F_12⟩ := c1.def_ 12 (d := dd__law_amount) rfl
  obtain ⟨fd_13, F_13⟩ := c1.def_ 13 (d := dd__law_text) rfl
  obtain ⟨fd_14, F_14⟩ := c1.def_ 14 (d := dd__law_shown_right) rfl
  obtain ⟨fd_15, F_15⟩ := c1.def_ 15 (d := dd__law_pair_right) rfl
  obtain ⟨fd_16, F_16⟩ := c1.def_ 16 (d := dd__law_others_right) rfl
  obtain ⟨fd_17, F_17⟩ := c1.def_ 17 (d := dd__law_right) rfl
  obtain ⟨fd_18, F_18⟩ := c1.def_ 18 (d := dd_Sizes___init__) rfl
  obtain ⟨fd_19, F_19⟩ := c1.def_ 19 (d := dd_Sizes_kinds) rfl
  obtain ⟨fd_20, F_20⟩ := c1.def_ 20 (d := dd_Sizes_counts) rfl
  obtain ⟨fd_21, F_21⟩ := c1.def_ 21 (d := dd_Sizes_is_within) rfl
  obtain ⟨fd_22, F_22⟩ := c1.def_ 22 (d := dd_Sizes_with_count) rfl
  obtain ⟨fd_23, F_23⟩ := c1.def_ 23 (d := dd_Sizes___getitem__) rfl
  obtain ⟨fd_24, F_24⟩ := c1.def_ 24 (d := dd_Sizes___add__) rfl
  obtain ⟨fd_25, F_25⟩ := c1.def_ 25 (d := dd_Sizes___and__) rfl
  obtain ⟨fd_26, F_26⟩ := c1.def_ 26 (d := dd_Sizes___or__) rfl
  obtain ⟨fd_27, F_27⟩ := c1.def_ 27 (d := dd_Sizes___mul__) rfl
  obtain ⟨fd_28, F_28⟩ := c1.def_ 28 (d := dd_Sizes___rmul__) rfl
  obtain ⟨fd_29, F_29⟩ := c1.def_ 29 (d := dd_Sizes___bool__) rfl
  obtain ⟨fd_30, F_30⟩ := c1.def_ 30 (d := dd_Sizes___contains__) rfl
  obtain ⟨fd_31, F_31⟩ := c1.def_ 31 (d := dd_Sizes___len__) rfl
  obtain ⟨fd_32, F_32⟩ := c1.def_ 32 (d := dd_Sizes___eq__) rfl
  obtain ⟨fd_33, F_33⟩ := c1.def_ 33 (d := dd_Sizes___repr__) rfl
  obtain ⟨fd_34, F_34⟩ := c1.def_ 34 (d := dd_Sizes__check_like) rfl
  obtain ⟨fd_35, F_35⟩ := c1.def_ 35 (d := dd_law) rfl
  obtain ⟨gd_0, G_0⟩ := c.at_ 0 (d := (fun K => staF K (He.ga K "Sizes") "of", dd_Sizes_of)) rfl
  have M : Md K mg (He.ga K "Sizes") := ⟨He.free_ok X G (c1.fact 20 (f := .free "isinstance") rfl),
    He.free_ok X G (c1.fact 21 (f := .free "int") rfl),
    He.free_ok X G (c1.fact 22 (f := .free "str") rfl),
    He.free_ok X G (c1.fact 23 (f := .free "bool") rfl),
    He.free_ok X G (c1.fact 24 (f := .free "dict") rfl),
    He.free_ok X G (c1.fact 25 (f := .free "max") rfl),
    He.free_ok X G (c1.fact 26 (f := .free "min") rfl),
    He.free_ok X G (c1.fact 27 (f := .free "abs") rfl),
    He.free_ok X G (c1.fact 28 (f := .free "divmod") rfl),
    He.free_ok X G (c1.fact 29 (f := .free "len") rfl),
    He.free_ok X G (c1.fact 30 (f := .free "range") rfl),
    He.free_ok X G (c1.fact 31 (f := .free "all") rfl),
    He.free_ok X G (c1.fact 32 (f := .free "any") rfl),
    He.free_ok X G (c1.fact 33 (f := .free "repr") rfl),
    He.free_ok X G (c1.fact 34 (f := .free "list") rfl),
    He.free_ok X G (c1.fact 35 (f := .free "sorted") rfl),
    ⟨_, _, F_0, (He.glo_ok X G (c1.fact 0 (f := .glo "is_integer") rfl))⟩,
    ⟨_, _, F_1, (He.glo_ok X G (c1.fact 1 (f := .glo "is_count") rfl))⟩,
    ⟨_, _, F_2, (He.glo_ok X G (c1.fact 2 (f := .glo "is_name") rfl))⟩,
    ⟨_, _, F_3, (He.glo_ok X G (c1.fact 3 (f := .glo "check_kind") rfl))⟩,
    ⟨_, _, F_4, (He.glo_ok X G (c1.fact 4 (f := .glo "check_count") rfl))⟩,
    ⟨_, _, F_5, (He.glo_ok X G (c1.fact 5 (f := .glo "_are_counts") rfl))⟩,
    ⟨_, _, F_6, (He.glo_ok X G (c1.fact 6 (f := .glo "_law_pot") rfl))⟩,
    ⟨_, _, F_7, (He.glo_ok X G (c1.fact 7 (f := .glo "_law_draw") rfl))⟩,
    ⟨_, _, F_8, (He.glo_ok X G (c1.fact 8 (f := .glo "_law_pick") rfl))⟩,
    ⟨_, _, F_9, (He.glo_ok X G (c1.fact 9 (f := .glo "_law_mixed") rfl))⟩,
    ⟨_, _, F_10, (He.glo_ok X G (c1.fact 10 (f := .glo "_law_names") rfl))⟩,
    ⟨_, _, F_11, (He.glo_ok X G (c1.fact 11 (f := .glo "_law_far") rfl))⟩,
    ⟨_, _, F_12, (He.glo_ok X G (c1.fact 12 (f := .glo "_law_amount") rfl))⟩,
    ⟨_, _, F_13, (He.glo_ok X G (c1.fact 13 (f := .glo "_law_text") rfl))⟩,
    ⟨_, _, F_14, (He.glo_ok X G (c1.fact 14 (f := .glo "_law_shown_right") rfl))⟩,
    ⟨_, _, F_15, (He.glo_ok X G (c1.fact 15 (f := .glo "_law_pair_right") rfl))⟩,
    ⟨_, _, F_16, (He.glo_ok X G (c1.fact 16 (f := .glo "_law_others_right") rfl))⟩,
    ⟨_, _, F_17, (He.glo_ok X G (c1.fact 17 (f := .glo "_law_right") rfl))⟩,
    int_okE X G (c1.fact 36 (f := .int "MOST_LETTERS" (8)) rfl),
    (He.glo_ok X G (c1.fact 18 (f := .glo "Sizes") rfl)),
    (He.cls_ok (c1.fact 37 (f := .cls "Sizes") rfl)),
    ⟨_, _, He.mkr_ok (c1.fact 38 (f := .mkr "Sizes") rfl), F_18⟩,
    ins_ok (He.cls_ok (c1.fact 37 (f := .cls "Sizes") rfl)) (of_decide_eq_true (all_at t 2 rfl)) (of_decide_eq_true (all_at t 0 rfl)) (of_decide_eq_true (all_at t 1 rfl)) (of_decide_eq_true (all_at t 3 rfl)),
    He.noat_ok (c1.fact 39 (f := .noat "Sizes" "_counts") rfl),
    ⟨_, _, He.meth_ok (c1.fact 40 (f := .meth "Sizes" "kinds") rfl), F_19⟩,
    ⟨_, _, He.meth_ok (c1.fact 41 (f := .meth "Sizes" "counts") rfl), F_20⟩,
    ⟨_, _, He.meth_ok (c1.fact 42 (f := .meth "Sizes" "is_within") rfl), F_21⟩,
    ⟨_, _, He.meth_ok (c1.fact 43 (f := .meth "Sizes" "with_count") rfl), F_22⟩,
    ⟨_, _, He.meth_ok (c1.fact 44 (f := .meth "Sizes" "__getitem__") rfl), F_23⟩,
    ⟨_, _, He.meth_ok (c1.fact 45 (f := .meth "Sizes" "__add__") rfl), F_24⟩,
    ⟨_, _, He.meth_ok (c1.fact 46 (f := .meth "Sizes" "__and__") rfl), F_25⟩,
    ⟨_, _, He.meth_ok (c1.fact 47 (f := .meth "Sizes" "__or__") rfl), F_26⟩,
    ⟨_, _, He.meth_ok (c1.fact 48 (f := .meth "Sizes" "__mul__") rfl), F_27⟩,
    ⟨_, _, He.meth_ok (c1.fact 49 (f := .meth "Sizes" "__rmul__") rfl), F_28⟩,
    ⟨_, _, He.meth_ok (c1.fact 50 (f := .meth "Sizes" "__bool__") rfl), F_29⟩,
    ⟨_, _, He.meth_ok (c1.fact 51 (f := .meth "Sizes" "__contains__") rfl), F_30⟩,
    ⟨_, _, He.meth_ok (c1.fact 52 (f := .meth "Sizes" "__len__") rfl), F_31⟩,
    ⟨_, _, He.meth_ok (c1.fact 53 (f := .meth "Sizes" "__eq__") rfl), F_32⟩,
    ⟨_, _, He.meth_ok (c1.fact 54 (f := .meth "Sizes" "__repr__") rfl), F_33⟩,
    ⟨_, _, He.meth_ok (c1.fact 55 (f := .meth "Sizes" "_check_like") rfl), F_34⟩,
    of_decide_eq_true (all_at t 5 rfl),
    of_decide_eq_true (all_at t 6 rfl),
    of_decide_eq_true (all_at t 7 rfl),
    of_decide_eq_true (all_at t 8 rfl),
    of_decide_eq_true (all_at t 9 rfl),
    of_decide_eq_true (all_at t 10 rfl),
    of_decide_eq_true (all_at t 11 rfl),
    of_decide_eq_true (all_at t 12 rfl),
    of_decide_eq_true (all_at t 13 rfl),
    of_decide_eq_true (all_at t 14 rfl),
    of_decide_eq_true (all_at t 15 rfl),
    of_decide_eq_true (all_at t 16 rfl),
    of_decide_eq_true (all_at t 17 rfl),
    of_decide_eq_true (all_at t 18 rfl),
    ⟨_, _, staB_ok (all_at t 4 rfl), G_0⟩⟩
  have e := hfa.symm.trans (He.glo_ok X G (c1.fact 19 (f := .glo "law") rfl))
  cases e
  have b := FunD.bindsA (ps := ["_law_script"]) F_35 fun _ _ _ _ _ _ us hl => match us, hl with | [_], _ => rfl
  exact ⟨_, fun s v => b s [v] rfl, fun base _ _ => ok_law M F_35⟩
end My
open PySem PySem.W PyProof.Rows
set_option maxRecDepth 100000 in
set_option maxHeartbeats 0 in
theorem PySem.Challenge.cw_howmanyeach_k50_sizes_made_and_asked_holds : PySem.Challenge.rw_howmanyeach_k50_sizes_made_and_asked.Holds := by
  w_on; o_law
  refine HandSHeadRun.head_any (r := My.rowR) (q := view My.rowR.prog [30]) (H := My.hkL) (ob := My.obL) (M := 6000) (loose := My.looseL) (d := HandSHeadRun.topDef My.rowR.prog 30) (kwd := []) My.obL_eq (by kernel_rfl) (fun s => by kernel_rfl) My.runL (by kernel_rfl) (by kernel_rfl) (by kernel_rfl) (by rfl) (by first | assumption | decide +kernel) (by decide +kernel) ⟨rfl, rfl, rfl, rfl, rfl, by decide +kernel⟩ ?hw ?hc
  case hw => w_witness2
  case hc =>
    refine My.walkGE (l := PySem.Challenge.rw_howmanyeach_k50_sizes_made_and_asked) (n := 63) (k := 12) (x := "_law_script") rfl (by decide) (by kernel_rfl) ⟨⟨rfl, by decide, by decide⟩, rfl⟩ ?F
    intro w mg fa h Y G hmg0
    obtain ⟨K, KX, c⟩ := Y
    have hmg : mg ("law" : PySem.Str) = some (.ref fa) := by
      have e : (HandSHeadRun.topDef My.rowR.prog 30).name = ("law" : PySem.Str) := by kernel_rfl
      rw [← e]
      exact hmg0
    obtain ⟨fd, hb, hF⟩ := My.facts (P := (PySem.Challenge.rw_howmanyeach_k50_sizes_made_and_asked).prog) (w := w) KX G hmg c
    exact ⟨K, fd, My.spLaw K, KX, hb, fun H a ns hl _ hS => ⟨a, ns, rfl, hS, hl, fun _ => rfl⟩, hF⟩
end
