import PyProof.Rows.All
import Wide.All
import OpenK.AllK
import Wide.FinOn
import HandS.ForMost
import HandS.Wide
import HandS.WideBits
import HandS.Property
import HandS.Defaults
import HandS.RaiseMore
import HandS.IsInst
import HandS.Flow
import HandS.SetFor
import HandS.Strs
import HandS.Conv
import OpenK.KMeth
import KE.KOpsOwn
import KE.KIsAll
import PyProof.InstNe
import PyProof.Conv_bool
import HandS.DictComp
import HandS.More
import HandS.Finally
import HandS.Iter
import HandS.Text
import HandS.Small
import HandS.FStr
import OpenK.KMore
import HandS.ExcInit
import HandS.ExcField
import HandS.ExcIs
import KE.KExcInit
import KE.KExcLine
import HandS.ExcValue
import HandS.Dict
import HandS.ForDict
import HandS.Walk
import HandS.Style
import KE.KParC
import HandS.ClsMeth
import HandS.Head0
import HandS.Head1
import HandS.Head2
import HandS.HeadEnd
import HandS.HeadHook1
import HandS.HeadHook2
import HandS.HeadHook3
import HandS.HeadHook4
import HandS.ListItems
import KE.KCallOwn
import HandS.TryMany
import HandS.ExcOwn
import HandS.Replace
import HandS.Steps
import PySem.Challenge.RW_howmanyeach_k13_whole_manys_read_back
set_option Elab.async false
set_option linter.all false
set_option maxRecDepth 100000
set_option maxHeartbeats 4000000
namespace My
open PySem L2
/-! ### readings, one row each -/
section
variable {σ : L2.St} {H : Hp} {Q : VK} {i : Nat} {v x y : V} {ta tb te tc : TE} {r : R2} {D : Ends} {t u : TS} {tt tu : TT} {ts : TA} {g : TG} {K : PySem.W.Frag} {QB : Bool → Hp → Prop} {QA : List V → Hp → Prop}
theorem s_var (e : σ[i]? = some (some v)) (q : Q v H) : tVar i σ H Q := ⟨v, e, q⟩
theorem s_c (q : Q v H) : tC v σ H Q := q
theorem s_op (h : ta σ H fun x H1 => tb σ H1 fun y H2 => r x y H2 Q) : tOp r ta tb σ H Q := h
theorem s_un {r : V → Hp → VK → Prop} (h : ta σ H fun x H1 => r x H1 Q) : tUn r ta σ H Q := h
theorem s_cons (h : ta σ H fun x H1 => ts σ H1 fun xs H2 => QA (x :: xs) H2) : tCons ta ts σ H QA := h
theorem s_nil (h : QA [] H) : tNil σ H QA := h
theorem s_cb {r : List V → Hp → VK → Prop} (h : ts σ H fun vs H1 => r vs H1 Q) : tCB r ts σ H Q := h
theorem s_test (h : te σ H fun x H' => ∃ k, x = .bl k ∧ QB k H') : tTest te σ H QB := h
theorem s_B (h : te σ H fun x H' => ∃ k, x = .bl k ∧ QB k H') : tB te σ H QB := h
theorem s_not (h : tt σ H fun c H1 => QB (!c) H1) : tNot tt σ H QB := h
theorem s_and (h : tt σ H fun c H1 => if c = true then tu σ H1 QB else QB false H1) : tAnd tt tu σ H QB := h
theorem s_or (h : tt σ H fun c H1 => if c = true then QB true H1 else tu σ H1 QB) : tOr tt tu σ H QB := h
theorem s_if (h : tt σ H fun c H1 => if c = true then ta σ H1 Q else tb σ H1 Q) : tIf tt ta tb σ H Q := h
theorem s_notV (h : ta σ H fun x H1 => ∃ c, x = .bl c ∧ Q (.bl (!c)) H1) : tNotV ta σ H Q := h
theorem s_andV (h : ta σ H fun x H1 => ∃ c, x = .bl c ∧ if c = true then tb σ H1 Q else Q (.bl false) H1) : tAndV ta tb σ H Q := h
theorem s_orV (h : ta σ H fun x H1 => ∃ c, x = .bl c ∧ if c = true then Q (.bl true) H1 else tb σ H1 Q) : tOrV ta tb σ H Q := h
theorem s_isN (h : ta σ H fun x H1 => Q (.bl (decide (x = .non))) H1) : tIsN ta σ H Q := h
theorem s_notN (h : ta σ H fun x H1 => Q (.bl (!decide (x = .non))) H1) : tNotN ta σ H Q := h
theorem s_seq (h : t { D with nx := u D } σ H) : tSeq t u D σ H := h
theorem s_ifS (h : tt σ H fun b H1 => if b = true then t D σ H1 else u D σ H1) : tIfS tt t u D σ H := h
theorem s_asg (h : te σ H fun x H1 => g x σ H1 D.nx) : tAsg te g D σ H := h
theorem s_ret (h : te σ H D.rt) : tRet te D σ H := h
theorem s_drop (h : te σ H fun _ H1 => D.nx σ H1) : tDrop te D σ H := h
theorem s_next (h : D.nx σ H) : tNext D σ H := h
theorem s_break (h : D.bk σ H) : tBreak D σ H := h
theorem s_cont (h : D.ct σ H) : tCont D σ H := h
theorem s_gname {Q : L2.St → Hp → Prop} (h : Q (σ.set i (some v)) H) : gName i v σ H Q := h
theorem s_gsub {Q : L2.St → Hp → Prop} {to ti : TE} {t : TSet} (h : to σ H fun o H1 => ti σ H1 fun i H2 => t o i v H2 fun H3 => Q σ H3) : gSub to ti t v σ H Q := h
theorem s_gcons {Q : L2.St → Hp → Prop} {t : TG} {u : TGs} {vs : List V} (h : t v σ H fun σ' H' => u vs σ' H' Q) : gCons t u (v :: vs) σ H Q := ⟨v, vs, rfl, h⟩
theorem s_gnil {Q : L2.St → Hp → Prop} (h : Q σ H) : gNil [] σ H Q := ⟨rfl, h⟩
theorem s_gtup {Q : L2.St → Hp → Prop} {n : Nat} {t : TGs} {a : Addr} {xs : List V} (h1 : H a = some (.tup xs)) (h2 : xs.length = n) (h : t xs σ H Q) : gTup K n t (.ref a) σ H Q := ⟨a, xs, rfl, SqT.of h1, h2, h⟩
theorem s_I0 {g : Int → Int → V} {a b : Int} (q : Q (g a b) H) : rI0 g (.int a) (.int b) H Q := ⟨a, b, rfl, rfl, q⟩
theorem s_I {C : Int → Int → Prop} {g : Int → Int → V} {a b : Int} (hc : C a b) (q : Q (g a b) H) : rI C g (.int a) (.int b) H Q := ⟨a, b, rfl, rfl, hc, q⟩
theorem s_ixL {a : Addr} {xs : List V} {k : Int} (h : H a = some (.lst xs)) (e : atI xs k = some v) (q : Q v H) : rIxL K (.ref a) (.int k) H Q := ⟨a, xs, k, v, rfl, rfl, SqL.of h, e, q⟩
theorem s_ixT {a : Addr} {xs : List V} {k : Int} (h : H a = some (.tup xs)) (e : atI xs k = some v) (q : Q v H) : rIxT K (.ref a) (.int k) H Q := ⟨a, xs, k, v, rfl, rfl, SqT.of h, e, q⟩
theorem s_setL {a : Addr} {xs : List V} {k : Int} {j : Nat} {Q : Hp → Prop} (h : H a = some (.lst xs)) (e : ixN xs.length k = some j) (q : Q (upd H a (.lst (xs.set j v)))) : rSetL (.ref a) (.int k) v H Q := ⟨a, xs, k, j, rfl, rfl, h, e, q⟩
theorem s_tup (h : ts σ H fun xs H1 => xs.length ≤ sizeLine ∧ ∀ p, H1 p = none → Q (.ref p) (upd H1 p (.tup xs))) : tTup ts σ H Q := h
theorem s_lst (h : ts σ H fun xs H1 => xs.length ≤ sizeLine ∧ ∀ p, H1 p = none → Q (.ref p) (upd H1 p (.lst xs))) : tLst ts σ H Q := h
theorem s_call {sp : Sp} {dvs : List V} {E : XK} (h : ts σ H fun vs H1 => sp (vs ++ dvs) H1 Q E) : tCall sp dvs E ts σ H Q := h
theorem s_fld {a C dx : Addr} {fs : List (Str × V)} {f : Str} (h : ta σ H fun x H1 => ∃ a C dx fs v, x = .ref a ∧ H1 a = some (.ins C dx fs) ∧ Cls K C ∧ NoAttr K C f ∧ fs.lookup f = some v ∧ Q v H1) : tFld K ta f σ H Q := h
theorem ite_d {p : Prop} [Decidable p] {A B : Prop} (h1 : p → A) (h2 : ¬ p → B) : if decide p = true then A else B := by
  by_cases h : p
  · rw [if_pos (decide_eq_true h)]; exact h1 h
  · rw [if_neg (by simpa using h)]; exact h2 h
theorem ite_n {p : Prop} [Decidable p] {A B : Prop} (h1 : ¬ p → A) (h2 : p → B) : if (!decide p) = true then A else B := by
  by_cases h : p
  · rw [if_neg (by simpa using h)]; exact h2 h
  · rw [if_pos (by simpa using h)]; exact h1 h
end
theorem st_eq {N : List Str} {vs : List V} {σ : L2.St} {t : TS} {D : Ends} {H : Hp} (e : L2.start N vs = σ) (h : t D σ H) : t D (L2.start N vs) H := by
  rw [e]; exact h
theorem divp_wide {i j : Int} (h : 0 < j) (hb : j.natAbs.log2 < 9000) : CDivP i j := ⟨h, PyProof.noPylong_of_log2 hb⟩
/-! ### heaps -/
/-- all but r stays -/
def But (r : Addr) (H H' : Hp) : Prop := ∀ c o, H c = some o → c ≠ r → H' c = some o
theorem But.get {r c : Addr} {o : HO} {H H' : Hp} (b : But r H H') (h : H c = some o) (n : c ≠ r) : H' c = some o := b c o h n
theorem But.refl (r : Addr) (H : Hp) : But r H H := fun _ _ h _ => h
theorem But.trans {r : Addr} {H H1 H2 : Hp} (a : But r H H1) (b : But r H1 H2) : But r H H2 := fun c o h n => b c o (a c o h n) n
theorem But.new {r p : Addr} {o : HO} {H : Hp} (h : H p = none) : But r H (upd H p o) := fun c u e _ => by rw [upd_ne (ne_of_none e h)]; exact e
theorem But.at {r : Addr} {o : HO} {H : Hp} : But r H (upd H r o) := fun c u e n => by rw [upd_ne n]; exact e
theorem Same.get {c : Addr} {o : HO} {H H' : Hp} (b : Same H H') (h : H c = some o) : H' c = some o := b c o h
end My
namespace My
open PySem L2 PySem.Spec PyProof.Rows
/-! ### defs that may tell texts of containers: what is being shown already is known to be nothing -/
structure RoomG (k : Nat) (A : Around) : Prop where
  r : Room k A
  g : A.guards = some []
theorem RoomG.mono {j k : Nat} {A : Around} (q : RoomG k A) (h : j ≤ k) : RoomG j A := ⟨q.r.mono h, q.g⟩
theorem RoomG.units {k : Nat} {A : Around} (q : RoomG k A) : A.units + 64 < cLine := q.r.units
theorem RoomG.in1 {k : Nat} {A : Around} (q : RoomG (k + 1) A) : RoomG k A.in1 := ⟨q.r.in1, q.g⟩
theorem hug {A : Around} {k : Nat} (q : RoomG k A) : A.units + 1 < cLine := hu_of q.r
/-- the def at f keeps the promise sp wherever nothing is being shown -/
structure FnG (P : Program) (w : World) (K : PySem.W.Frag) (mg : Str → Option Value) (base : Heap) (CX : CXT) (k : Nat) (f : Addr) (fd : FuncData) (ps : List Str) (sp : Sp) : Prop where
  len : ∀ vs H Q E, sp vs H Q E → vs.length = ps.length
  go : ∀ (A : Around) (outer : List Env) (s : Shared) (H : Hp) (args : Args) (us : List Value) (vs : List V) (Q : VK) (E : XK), RoomG k A →
    Env0 P w K mg base A outer s H → BindsTo s fd args (ps.zip us) → Vals vs us → sp vs H Q E →
      codeAny (model P w) A (.call (.ref f) args) (CR CX outer P w H s Q E) s
section
variable {P : Program} {w : World} {K : PySem.W.Frag} {mg : Str → Option Value} {base : Heap} {CX : CXT} {k j : Nat} {f : Addr} {fd : FuncData} {ps : List Str} {sp sp' : Sp}
theorem FnG.of (F : FnOk P w K mg base CX k f fd ps sp) : FnG P w K mg base CX k f fd ps sp := ⟨F.len, fun A outer s H args us vs Q E hr => F.run A outer s H args us vs Q E hr.r⟩
theorem FnG.mono (F : FnG P w K mg base CX j f fd ps sp) (h : j ≤ k) : FnG P w K mg base CX k f fd ps sp := ⟨F.len, fun A outer s H args us vs Q E hr => F.go A outer s H args us vs Q E (hr.mono h)⟩
theorem FnG.imp (F : FnG P w K mg base CX k f fd ps sp) (h : ∀ vs H Q E, sp' vs H Q E → sp vs H Q E) : FnG P w K mg base CX k f fd ps sp' :=
  ⟨fun vs H Q E q => F.len vs H Q E (h _ _ _ _ q), fun A outer s H args us vs Q E hr a b c d => F.go A outer s H args us vs Q E hr a b c (h _ _ _ _ d)⟩
theorem fnG_body {x qual : Str} {st : Stmt} {N : List Str} {dvs0 : List V} {kws0 : List (Str × V)} (F : FunD K x qual (defArgs st) (defBody st) (defScope st) dvs0 kws0 f fd) (S : FnScope N ps (defScope st)) (len : ∀ vs H Q E, sp vs H Q E → vs.length = ps.length)
    (hb : ∀ (cdv : Value) (A : Around) (outer : List Env) (s : Shared) (H : Hp) (vs : List V) (Q : VK) (E : XK), RoomG k (A.deeper (envOfC qual (defScope st) s.heap.objs.size f cdv)) → sp vs H Q E →
      ∃ t, PSs (cxOf CX P w K mg base N qual (defScope st) f cdv A outer s H E) (defBody st) t ∧ t { nx := fun _ H' => Q .non H', rt := Q } (start N vs) H) :
    FnG P w K mg base CX (k + 1) f fd ps sp := by
  obtain ⟨oc, od, dV, kV, doc, pm, an, cdv, ct, osl, rfl, lk, hcd, _, _⟩ := F.ex
  constructor
  · exact len
  · intro A outer s H args us vs Q E hr e0 hbi r hsp
    have keeps0 : ∀ b o, base.get? b = some o → s.heap.get? b = some o := fun b o e => (e0.bs b o e).1
    have inK : K.In s.heap := e0.mod.kin.keeps keeps0
    refine codeAny_call_function hr.r.depth (inK _ _ lk) rfl S.co S.gen rfl (PySem.W.codeRec_of inK hcd) (hbi _ _ _ _ ?_)
    refine wpAny_newFunctionEnv_cells S.kind ?_ fun env he s1 x => ?_
    · intro ⟨n, v⟩ hy
      cases S.par n (List.of_mem_zip hy).1 with
      | inl q => exact Or.inl q
      | inr q => exact Or.inr ⟨q, PySem.W.cellsFrom_some _ _ _ (Or.inl q)⟩
    · subst he
      refine ⟨(e0.mod.nolimit.keeps keeps0).keeps x.toInCall.keep, codeAny_func ?_⟩
      obtain ⟨t, ht, hq⟩ := hb cdv A outer s H vs Q E ⟨hr.r.deeper _, hr.g⟩ hsp
      have I0 := inv_start (CX := CX) (P := P) (E := E) S hr.r.hd e0 (len _ _ _ _ hsp) r x
      refine wpAny_mono (ht.run [] s1 (start N vs) H _ I0 hq) ?_ (fun _ _ z => z)
      intro fl s' hs
      cases fl with
      | ret u => obtain ⟨v, σ', H', J, rv, q⟩ := hs; exact ⟨v, H', J.os, J.bare, J.base, J.hok, rv, q⟩
      | next => obtain ⟨σ', H', J, q⟩ := hs; exact ⟨V.non, H', J.os, J.bare, J.base, J.hok, rfl, q⟩
      | brk => exact hs.elim fun _ z => z.elim fun _ y => y.2.elim
      | cont => exact hs.elim fun _ z => z.elim fun _ y => y.2.elim
end
/-! ### bundles: a def, a class, a method, a property, by its name -/
structure Dn (P : Program) (w : World) (K : PySem.W.Frag) (mg : Str → Option Value) (base : Heap) (x : Str) (k : Nat) (ps : List Str) (dvs : List V) (sp : Sp) : Prop where
  ex : ∃ (f : Addr) (fd : FuncData) (ds : List Value), FnG P w K mg base CX0 k f fd ps sp ∧ mg x = some (.ref f) ∧ PySem.W.keepIn K (.ref f) = true ∧ Binds K fd ps ds ∧ Vals dvs ds
structure Mkn (P : Program) (w : World) (K : PySem.W.Frag) (mg : Str → Option Value) (base : Heap) (x : Str) (C : Addr) (k : Nat) (ps : List Str) (dvs : List V) (sp : Sp) : Prop where
  ex : ∃ (f : Addr) (fd : FuncData) (ds : List Value), Mk K C f ∧ FnG P w K mg base CX0 k f fd ps sp ∧ mg x = some (.ref C) ∧ Binds K fd ps ds ∧ Vals dvs ds
structure Mtn (P : Program) (w : World) (K : PySem.W.Frag) (mg : Str → Option Value) (base : Heap) (C : Addr) (m : Str) (k : Nat) (ps : List Str) (dvs : List V) (sp : Sp) : Prop where
  ex : ∃ (f : Addr) (fd : FuncData) (ds : List Value), Cls K C ∧ Meth K C m f ∧ FnG P w K mg base CX0 k f fd ps sp ∧ Binds K fd ps ds ∧ Vals dvs ds
structure Prn (P : Program) (w : World) (K : PySem.W.Frag) (mg : Str → Option Value) (base : Heap) (C : Addr) (m : Str) (k : Nat) (ps : List Str) (dvs : List V) (sp : Sp) : Prop where
  ex : ∃ (p g : Addr) (fd : FuncData) (ds : List Value), Cls K C ∧ PropOf K C m p g ∧ FnG P w K mg base CX0 k g fd ps sp ∧ Binds K fd ps ds ∧ Vals dvs ds
section
variable {X : Cx} {j k : Nat} {f C : Addr} {fd : FuncData} {ps : List Str} {sp : Sp} {dvs : List V} {ds : List Value} {x m : Str} {p pos apos : Pos} {e o : Expr} {es : List Expr} {ta : TE} {t : TA}
theorem goG {pins : List (Addr × Obj)} {σ : L2.St} {H : Hp} {s : Shared} {Q : VK} {us : List Value} {vs : List V} (F : FnG X.prog X.w X.K X.mg X.base CX0 k f fd ps sp) (hr : RoomG k X.A) (hb : Binds X.K fd ps ds) (hd : Vals dvs ds)
    (I : Inv X pins σ H s) (r : Vals vs us) (h : sp (vs ++ dvs) H Q E0) : wpAny (model X.prog X.w) X.A (call (.ref f) us) (EP X pins σ Q) X.xe s := by
  have r2 := r.append hd
  have hl : (us ++ ds).length = ps.length := r2.length.symm.trans (F.len _ _ _ _ h)
  refine wpAny_call (codeAny_mono (F.go X.A X.stack s H ⟨us, []⟩ (us ++ ds) _ Q E0 hr I.env0 (hb s us I.kIn hl) r2 h) ?_)
  intro r s' hq
  cases r with
  | error e => exact (show False from hq).elim
  | ok fl => cases fl with
    | ret u => exact I.after hq
    | next => exact (show False from hq).elim
    | brk => exact (show False from hq).elim
    | cont => exact (show False from hq).elim
theorem pe_callD (D : Dn X.prog X.w X.K X.mg X.base x k ps dvs sp) (hr : RoomG k X.A) (hg : Gl X x) (ha : PA X (e :: es) t) (hdb : (x == ("__debug__" : Str)) = false := by decide)
    (h1 : starEach (e :: es) X.env = (false, eval e X.env) :: starEach es X.env := by rfl) (h2 : (backTo pos (starEach es X.env)).any (·.1) = false := by rfl) : PE X (.Call (.Name x p) (e :: es) [] pos) (tCall sp dvs E0 t) := by
  obtain ⟨f, fd, ds, F, hm, hk, hb, hd⟩ := D.ex
  constructor
  intro pins s σ H Q I h
  exact wpAny_Call_Name_kw (ld_glob I hg hm (PySem.W.callWith_K (h₀ := X.base) I.ok.mod.kin hk (thn (ha.run pos pins s σ H _ I h) fun us s1 ⟨vs, H1, I1, r, q⟩ => ⟨I1.kIn, goG F hr hb hd I1 r q⟩) h1 h2) hdb)
theorem pe_call0D (D : Dn X.prog X.w X.K X.mg X.base x k ps dvs sp) (hr : RoomG k X.A) (hg : Gl X x) (hdb : (x == ("__debug__" : Str)) = false := by decide) : PE X (.Call (.Name x p) [] [] pos) (tCall sp dvs E0 tNil) := by
  obtain ⟨f, fd, ds, F, hm, hk, hb, hd⟩ := D.ex
  constructor
  intro pins s σ H Q I h
  exact wpAny_Call_Name_kw (ld_glob I hg hm (PySem.W.callWith_K0 I.kIn hk (goG (us := []) F hr hb hd I .nil h)) hdb)
theorem goMake {pins : List (Addr × Obj)} {σ : L2.St} {H : Hp} {s : Shared} {Q : VK} {us : List Value} {vs : List V} (M : Mk X.K C f) (F : FnG X.prog X.w X.K X.mg X.base CX0 k f fd ps sp) (hr : RoomG (k + 1) X.A) (hb : Binds X.K fd ps ds) (hd : Vals dvs ds)
    (I : Inv X pins σ H s) (r : Vals vs us) (h : ∀ x dx, H x = none → H dx = none → dx ≠ x → sp (.ref x :: (vs ++ dvs)) (upd (upd H dx (.own x)) x (.ins C dx [])) (fun v H2 => v = .non ∧ Q (.ref x) H2) E0) :
    wpAny (model X.prog X.w) X.A (call (.ref C) us) (EP X pins σ Q) X.xe s := by
  have nx : H (s.heap.objs.size + 1) = none := I.hok.fresh (Nat.le_succ _)
  have nd : H s.heap.objs.size = none := I.hok.fresh (Nat.le_refl _)
  have hq := h _ _ nx nd (Nat.ne_of_lt (Nat.lt_succ_self _))
  have J := Inv.made (C := C) I
  have r2 : Vals (V.ref (s.heap.objs.size + 1) :: (vs ++ dvs)) (Value.ref (s.heap.objs.size + 1) :: us ++ ds) := .cons rfl (r.append hd)
  have hl : (Value.ref (s.heap.objs.size + 1) :: us ++ ds).length = ps.length := r2.length.symm.trans (F.len _ _ _ _ hq)
  have hr2 : RoomG k (X.A.under (.builtin "type.__call__" ⟨.ref C :: us, []⟩)) := ⟨hr.r.make C us [], hr.g⟩
  refine wpAny_call (make_map (f := f) I.kIn M.makes M.init (beq_iff_eq.mp M.fn) (codeAny_mono
    (F.go _ X.stack _ _ ⟨Value.ref (s.heap.objs.size + 1) :: us, []⟩ _ _ _ E0 hr2 (J.env0.make C us []) (hb _ (Value.ref (s.heap.objs.size + 1) :: us) J.kIn hl) r2 hq) ?_))
  intro r s' hq'
  cases r with
  | error e => exact (show False from hq').elim
  | ok fl => cases fl with
    | ret u =>
      obtain ⟨v, H', I3, rv, ev, q3⟩ := J.after hq'
      subst ev
      exact ⟨rv, V.ref (s.heap.objs.size + 1), H', I3, rfl, q3⟩
    | next => exact (show False from hq').elim
    | brk => exact (show False from hq').elim
    | cont => exact (show False from hq').elim
theorem pe_makeD (D : Mkn X.prog X.w X.K X.mg X.base x C k ps dvs sp) (hr : RoomG (k + 1) X.A) (hg : Gl X x) (ha : PA X (e :: es) t) (hdb : (x == ("__debug__" : Str)) = false := by decide)
    (h1 : starEach (e :: es) X.env = (false, eval e X.env) :: starEach es X.env := by rfl) (h2 : (backTo pos (starEach es X.env)).any (·.1) = false := by rfl) : PE X (.Call (.Name x p) (e :: es) [] pos) (tMake C sp dvs E0 t) := by
  obtain ⟨f, fd, ds, M, F, hm, hb, hd⟩ := D.ex
  constructor
  intro pins s σ H Q I h
  exact wpAny_Call_Name_kw (ld_glob I hg hm (PySem.W.callWith_K (h₀ := X.base) I.ok.mod.kin M.kp (thn (ha.run pos pins s σ H _ I h) fun us s1 ⟨vs, H1, I1, r, q⟩ => ⟨I1.kIn, goMake M F hr hb hd I1 r q⟩) h1 h2) hdb)
theorem pe_make0D (D : Mkn X.prog X.w X.K X.mg X.base x C k ps dvs sp) (hr : RoomG (k + 1) X.A) (hg : Gl X x) (hdb : (x == ("__debug__" : Str)) = false := by decide) : PE X (.Call (.Name x p) [] [] pos) (tMake C sp dvs E0 tNil) := by
  obtain ⟨f, fd, ds, M, F, hm, hb, hd⟩ := D.ex
  constructor
  intro pins s σ H Q I h
  exact wpAny_Call_Name_kw (ld_glob I hg hm (PySem.W.callWith_K0 I.kIn M.kp (goMake (us := []) M F hr hb hd I .nil h)) hdb)
theorem pe_methD {pl : Sem Bool} (D : Mtn X.prog X.w X.K X.mg X.base C m k ps dvs sp) (he : PE X o ta) (hr : RoomG k X.A) (ha : PA X (e :: es) t)
    (h1 : starEach (e :: es) X.env = (false, eval e X.env) :: starEach es X.env := by rfl) (h2 : (backTo pos (starEach es X.env)).any (·.1) = false := by rfl)
    (h3 : eval (.Call (.Attribute o m apos) (e :: es) [] pos) X.env = (do
      let v ← eval o X.env
      standAt apos.atName
      let (g, fst) ← holding [v] (getMethod v m pl)
      callWith pos g fst (backTo pos (starEach (e :: es) X.env)) (backToKw pos (keywordEach [] X.env))) := by rfl) : PE X (.Call (.Attribute o m apos) (e :: es) [] pos) (tMeth C m sp dvs E0 ta t) := by
  obtain ⟨f, fd, ds, c, hm, F, hb, hd⟩ := D.ex
  constructor
  intro pins s σ H Q I h
  refine PySem.W.methodCall_KW (pl := pl) (thn (he.run pins s σ H _ I h) ?_) h3
  rintro u s1 ⟨x, H1, I1, rx, a, dx, fs, rfl, ea, l, q⟩
  obtain rfl : u = Value.ref a := rx
  exact getmeth_ok I1 ea c hm l (PySem.W.callWith_K (first := [.ref a]) I1.kIn hm.kp (thn (ha.run pos pins s1 σ H1 _ I1 q) fun us s2 ⟨vs, H2, I2, r, q2⟩ => ⟨I2.kIn, goG (vs := .ref a :: vs) F hr hb hd I2 (.cons rfl r) q2⟩) h1 h2)
theorem pe_meth0D {pl : Sem Bool} (D : Mtn X.prog X.w X.K X.mg X.base C m k ps dvs sp) (he : PE X o ta) (hr : RoomG k X.A)
    (h3 : eval (.Call (.Attribute o m apos) [] [] pos) X.env = (do
      let v ← eval o X.env
      standAt apos.atName
      let (g, fst) ← holding [v] (getMethod v m pl)
      callWith pos g fst (backTo pos (starEach [] X.env)) (backToKw pos (keywordEach [] X.env))) := by rfl) : PE X (.Call (.Attribute o m apos) [] [] pos) (tMeth C m sp dvs E0 ta tNil) := by
  obtain ⟨f, fd, ds, c, hm, F, hb, hd⟩ := D.ex
  constructor
  intro pins s σ H Q I h
  refine PySem.W.methodCall_KW (pl := pl) (thn (he.run pins s σ H _ I h) ?_) h3
  rintro u s1 ⟨x, H1, I1, rx, a, dx, fs, rfl, ea, l, q⟩
  obtain rfl : u = Value.ref a := rx
  exact getmeth_ok I1 ea c hm l (PySem.W.callWith_K0 (first := [.ref a]) I1.kIn hm.kp (goG (us := [.ref a]) (vs := [.ref a]) F hr hb hd I1 (.cons rfl .nil) q))
theorem pe_propD (D : Prn X.prog X.w X.K X.mg X.base C m k ps dvs sp) (he : PE X e ta) (hr : RoomG (k + 1) X.A) (hab : attributeBase e m X.env (eval e X.env) = eval e X.env) : PE X (.Attribute e m pos) (tProp C sp dvs E0 ta) := by
  obtain ⟨p, g, fd, ds, c, hp, F, hb, hd⟩ := D.ex
  constructor
  intro pins s σ H Q I h
  refine attr_of hab (thn (he.run pins s σ H _ I h) ?_)
  rintro u s1 ⟨x, H1, I1, rx, a, dx, fs, rfl, ea, q⟩
  obtain rfl : u = Value.ref a := rx
  obtain ⟨mA, O, _, _, _, _⟩ := ins_get I1.hok ea
  obtain ⟨od, J, _⟩ := O.look
  obtain ⟨rest, hrec⟩ := hp.rec_
  have I2 := I1.tok (s1.toks + 1)
  have hl : ([Value.ref a] ++ ds).length = ps.length := by
    have z := F.len _ _ _ _ q
    have y := hd.length
    simp only [List.length_cons, List.length_append, List.length_nil] at z ⊢
    omega
  have hc : (PySem.W.clsIn X.K C).isSome = true := by
    obtain ⟨cd, hc, _⟩ := PySem.W.any_some c.hd
    simp [hc]
  have pg := PySem.W.plainGet_of (c.get m)
  refine PySem.W.get_bind I1.kIn J pg.1 (PySem.W.findObj_data hc hp.at_ hp.get hp.tak) pg.2 (wpAny_call (PySem.W.prop_get (s := { s1 with toks := s1.toks + 1 }) I1.kIn hrec ?_))
  refine codeAny_mono (F.go X.A.in1 X.stack { s1 with toks := s1.toks + 1 } H1 ⟨[.ref a], []⟩ (.ref a :: ds) (.ref a :: dvs) Q E0 hr.in1 I2.env0.in1 (hb _ [.ref a] I2.kIn hl) (.cons rfl hd) q) ?_
  intro r s' hq
  cases r with
  | error er => exact (show False from hq).elim
  | ok fl => cases fl with
    | ret u =>
      obtain ⟨v, H', I3, rv, q3⟩ := I2.after hq
      show wpAny _ _ (handedOut u) _ _ _
      rw [PySem.W.handedOut_of (handed_of rv)]
      exact wpAny_pure ⟨v, H', I3, rv, q3⟩
    | next => exact (show False from hq).elim
    | brk => exact (show False from hq).elim
    | cont => exact (show False from hq).elim
/-- repr of data -/
theorem call_reprD (hr : RoomG k X.A) : CallR X (.builtin "repr") (fun xs H Q => ∃ y d, xs = [y] ∧ Dp X.K H y d ∧ SeqAt.shaped d = true ∧ d.showable = true ∧ d.hasDict = false ∧ d.shown.length ≤ sizeLine ∧ Q (.str d.shown) H) := by
  intro pins s σ H xs us Q I r h
  obtain ⟨y, d, rfl, hd, hs, hw, hn, hz, q⟩ := h
  obtain ⟨u, rfl, ru⟩ := vals1 r
  obtain ⟨as, rd⟩ := Dp.reads I d y u hd ru
  have hA : X.A.units + (d.depth + 1) < cLine := by
    have := SeqAt.depth_of_shaped hs
    have := hr.r.un
    omega
  have fin : ∀ {t : Tok} {s' : Shared}, Inv X pins σ H s' → EP X pins σ Q (.str d.shown t) s' := fun J => ⟨.str d.shown, H, J, ⟨_, rfl⟩, q⟩
  cases rd with
  | none => exact PySem.P.repr_of_none (fin (I.tok _))
  | bool b => exact PySem.P.repr_of_bool (fin (I.tok _))
  | int i t => exact PySem.P.repr_of_int (of_decide_eq_true hw) (fin (I.tok _))
  | str z t => exact PySem.P.repr_of_str (fin (I.tok _)) hz
  | list h1 h2 h3 h4 => exact PySem.repr_of_reads' (.list h1 h2 h3 h4) hw (PyData.noDict_hsm hn) hr.g hA (fun _ _ e => e) (fun h' t tk hk => fin (I.kept hk)) hz
  | tuple h1 h2 h3 h4 => exact PySem.repr_of_reads' (.tuple h1 h2 h3 h4) hw (PyData.noDict_hsm hn) hr.g hA (fun _ _ e => e) (fun h' t tk hk => fin (I.kept hk)) hz
  | dict h1 h2 h3 h4 h5 => simp [PyData.hasDict] at hn
end
end My
namespace My
open PySem L2 PySem.Spec PyProof.Rows PySem.W
section
variable {P : Program} {w : World} {K : Frag} {mg mb : Str → Option Value} {k : Nat} {fa a : Addr} {fd : FuncData} {x : Str} {sp : Sp} {s : Shared} {vs : List Value} {ns : List Int}
abbrev lawEnd (s : Shared) : Result → Shared → Prop := fun r s' => r = .ok (.ret (.bool true)) ∧ OldK s.heap s'.heap ∧ s'.os = s.os ∧ AllBare s'.gens
theorem lawG_from {H : Hp} (KX : K.In s.heap) (hns : s.heap.Ns mainGlobals mg) (hb : s.heap.Ns builtinsNs mb) (hbb : ∀ y : Str, y ≠ "__name__" → mb y = bootBuiltins y) (hlim : s.heap.NoLimit) (hg : s.gens = #[])
    (ha : s.heap.get? a = some { cls := .type "list", data := .seq vs.toArray }) (hr : RoomG k callerA)
    (F : ∀ base : Heap, K.In base → base.Ns mainGlobals mg → FnG P w K mg base CX0 k fa fd [x] sp) (bnd : ∀ (s : Shared) (u : Value), BindsTo s fd ⟨[u], []⟩ [(x, u)])
    (hsp : sp [.ref a] H (fun v _ => v = .bl true) E0) (only : Only H) (ok : HOk P w H s.heap) (atA : ∀ b, H b ≠ none → b = a) (nK : H a ≠ none → K.lookup a = none) :
    codeAny (model P w) callerA (.call (.ref fa) ⟨[.ref a], []⟩) (lawEnd s) s := by
  have free : ∀ {b : Addr}, b ≠ a → H b = none := fun {b} n => Classical.byContradiction fun z => n (atA b z)
  have nsB : ∀ {b : Addr} {m : Str → Option Value}, s.heap.Ns b m → (hidT s.heap H).Ns b m := by
    rintro b m ⟨o, es, ep, e, d, r⟩
    refine ⟨o, es, ep, hidT_get e (free ?_), d, r⟩
    rintro rfl
    rw [ha] at e
    cases e
    cases (show Data.seq vs.toArray _ = Data.dict es ep from d)
  have inB : K.In (hidT s.heap H) := by
    intro b o e
    refine hidT_get (KX b o e) (Classical.byContradiction fun z => ?_)
    have := nK (atA b z ▸ z)
    rw [atA b z, this] at e
    cases e
  obtain ⟨mc, l1, l2⟩ := hlim
  have md : Mod K mg (hidT s.heap H) := ⟨inB, nsB hns, ⟨mb, nsB hb, hbb⟩, mc, nsB l1, l2⟩
  have env : Env0 P w K mg (hidT s.heap H) callerA [] s H :=
    ⟨rfl, md, fun b o e => of_hidT e, Nat.le_of_eq (hidT_size _ _), trivial, fun b z => (List.not_mem_nil (show b ∈ ([] : List Addr) from z)).elim, ok, .of_eq hg⟩
  refine codeAny_mono ((F _ inB (nsB hns)).go callerA [] s H ⟨[.ref a], []⟩ [.ref a] [.ref a] _ _ hr env (bnd s (.ref a)) (.cons rfl .nil) hsp) ?_
  rintro (e | fl) s' h
  · exact (show False from h).elim
  · cases fl with
    | ret u =>
      obtain ⟨v, H', os, bare, un, ok', rv, (rfl : v = .bl true)⟩ := h
      obtain rfl : u = Value.bool true := rv
      refine ⟨rfl, OldK.of_keep ?_, os, bare⟩
      intro b o e
      cases q : H b with
      | none => exact un.keep b o e q (fun z => (List.not_mem_nil (show b ∈ ([] : List Addr) from z)).elim) (by simp)
      | some u =>
        rcases only b with z | ⟨ob, xs, z⟩
        · exact absurd (q.symm.trans z) (by simp)
        · have y1 := (ok b _ z).1
          have y2 := (ok' b _ (un.frzs b ob _ z)).1
          rw [e] at y1
          cases y1
          exact y2
    | next => exact (show False from h).elim
    | brk => exact (show False from h).elim
    | cont => exact (show False from h).elim
theorem lawG (KX : K.In s.heap) (hns : s.heap.Ns mainGlobals mg) (hb : s.heap.Ns builtinsNs mb) (hbb : ∀ y : Str, y ≠ "__name__" → mb y = bootBuiltins y) (hlim : s.heap.NoLimit) (hg : s.gens = #[])
    (ha : s.heap.get? a = some { cls := .type "list", data := .seq vs.toArray }) (hi : IntsAre vs ns) (hl : ns.length ≤ sizeLine) (hr : RoomG k callerA)
    (F : ∀ base : Heap, K.In base → base.Ns mainGlobals mg → FnG P w K mg base CX0 k fa fd [x] sp) (bnd : ∀ (s : Shared) (u : Value), BindsTo s fd ⟨[u], []⟩ [(x, u)])
    (hsp : ∀ H : Hp, Only H → SqL K H a (ns.map V.int) → sp [.ref a] H (fun v _ => v = .bl true) E0) :
    codeAny (model P w) callerA (.call (.ref fa) ⟨[.ref a], []⟩) (lawEnd s) s := by
  have rv := vals_ints hi
  cases hk : K.lookup a with
  | some o =>
    have e := (ha.symm.trans (KX a o hk))
    cases e
    have hS : SqL K (fun _ => none) a (ns.map V.int) := Or.inr ⟨_, vs.toArray, _, hk, rfl, rfl, rfl, by rw [List.size_toArray, hi.length]; exact hl, by simpa using rv⟩
    exact lawG_from (H := fun _ => none) KX hns hb hbb hlim hg ha hr F bnd (hsp _ (fun _ => Or.inl rfl) hS) (fun _ => Or.inl rfl) (fun b u z => nomatch z) (fun b z => (z rfl).elim) fun z => (z rfl).elim
  | none =>
    let H1 : Hp := upd (fun _ => none) a (.frz { cls := .type "list", data := .seq vs.toArray } (.lst (ns.map V.int)))
    have same : H1 a = some (.frz { cls := .type "list", data := .seq vs.toArray } (.lst (ns.map V.int))) := upd_same
    have els : ∀ b, b ≠ a → H1 b = none := fun b n => upd_ne n
    have on : Only H1 := fun b => (Classical.em (b = a)).elim (fun e => Or.inr ⟨_, _, e ▸ same⟩) fun n => Or.inl (els b n)
    refine lawG_from (H := H1) KX hns hb hbb hlim hg ha hr F bnd (hsp H1 on (Or.inl (Or.inr ⟨_, same⟩))) on ?_ (fun b z => Classical.byContradiction fun n => z (els b n)) fun _ => hk
    intro b u z
    rcases Classical.em (b = a) with e | n
    · subst e
      rw [same] at z
      cases z
      exact ⟨ha, by rw [List.length_map]; exact hl, vs, _, rv, ha⟩
    · rw [els b n] at z
      cases z
end
theorem walkG {l : OpenLaw} {n k : Nat} {q : Program} {loose : List Str} {XP : (Str → Option Value) → Heap → Prop} {YP : World → Heap → Prop} {d : DefRec} {K : Params → Frag} {sp : World → Sp} {x : Str}
    (hn : l.most = some n) (hn2 : n ≤ sizeLine) (hdf : d.params.defaults = []) (hr : RoomG k callerA) (hY : ∀ (w : World) (h : Heap), YP w h → (K w.params).In h)
    (F : ∀ (w : World) (mg : Str → Option Value) (fa : Addr) (h : Heap), (K w.params).In h → h.Ns mainGlobals mg → mg d.name = some (.ref fa) →
      ∃ fd : FuncData, (∀ (s : Shared) (u : Value), BindsTo s fd ⟨[u], []⟩ [(x, u)]) ∧ ∀ base : Heap, (K w.params).In base → base.Ns mainGlobals mg → FnG l.prog w (K w.params) mg base CX0 k fa fd [x] (sp w))
    (hsp : ∀ (w : World) (H : Hp) (a : Addr) (ns : List Int), ns.length ≤ n → Only H → SqL (K w.params) H a (ns.map V.int) → sp w [.ref a] H (fun v _ => v = .bl true) E0) :
    WalkO q loose XP YP l.row.toRowW d [] (fun f vs => PySem.call f vs) := by
  refine Att.attach_call hn hdf ?_
  intro w s₀ s₁ mg mb fa o pm cd doc a vs ns G Y ho hd hcd hmg hobj hints hlen hg
  obtain ⟨fd, hb, hF⟩ := F w mg fa _ (hY w _ Y) G.T.g hmg
  exact lawG (hY w _ Y) G.T.g G.T.b G.T.builtins G.T.nolimit hg hobj hints (Nat.le_trans hlen hn2) hr hF hb fun H h1 h2 => hsp w H a ns hlen h1 h2
end My

namespace My
open PySem L2 PySem.Spec PyProof.Rows
section
variable {σ : L2.St} {H : Hp} {Q : VK} {ta tb : TE} {K : PySem.W.Frag} {i : Int}
/-- slot i holds v -/
inductive GetAt : Nat → L2.St → V → Prop
  | zero {v : V} {l : L2.St} : GetAt 0 (some v :: l) v
  | succ {i : Nat} {v : V} {x : Option V} {l : L2.St} (h : GetAt i l v) : GetAt (i + 1) (x :: l) v
inductive SetAt : Nat → V → L2.St → L2.St → Prop
  | zero {v : V} {x : Option V} {l : L2.St} : SetAt 0 v (x :: l) (some v :: l)
  | succ {i : Nat} {v : V} {x : Option V} {l m : L2.St} (h : SetAt i v l m) : SetAt (i + 1) v (x :: l) (x :: m)
theorem GetAt.get {i : Nat} {σ : L2.St} {v : V} (h : GetAt i σ v) : σ[i]? = some (some v) := by
  induction h with
  | zero => rfl
  | succ _ ih => simpa using ih
theorem SetAt.set {i : Nat} {σ τ : L2.St} {v : V} (h : SetAt i v σ τ) : σ.set i (some v) = τ := by
  induction h with
  | zero => rfl
  | succ _ ih => simpa using ih
theorem s_varG {i : Nat} {v : V} (g : GetAt i σ v) (q : Q v H) : tVar i σ H Q := ⟨v, g.get, q⟩
theorem s_gnameG {i : Nat} {v : V} {τ : L2.St} {Q : L2.St → Hp → Prop} (g : SetAt i v σ τ) (q : Q τ H) : gName i v σ H Q := by
  show Q (σ.set i (some v)) H
  rw [g.set]
  exact q
theorem s_gnameE {i : Nat} {v : V} {τ : L2.St} {Q : L2.St → Hp → Prop} (e : σ.set i (some v) = τ) (q : Q τ H) : gName i v σ H Q := by
  show Q (σ.set i (some v)) H
  rw [e]
  exact q
theorem s_2setE {D : Ends} {i j : Nat} {t : TS} {x y : V} {τ : L2.St} (e : (σ.set i (some x)).set j (some y) = τ) (h : t D τ H) : t D ((σ.set i (some x)).set j (some y)) H := by
  rw [e]
  exact h
theorem s_orT (h : ta σ H fun x H1 => ∃ k, TruV K x H1 k ∧ if k = true then Q x H1 else tb σ H1 Q) : tOrT K ta tb σ H Q := h
theorem s_andT (h : ta σ H fun x H1 => ∃ k, TruV K x H1 k ∧ if k = true then tb σ H1 Q else Q x H1) : tAndT K ta tb σ H Q := h
theorem s_chain {r r' : R2} {tc : TE} (h : ta σ H fun x H1 => tb σ H1 fun y H2 => r x y H2 fun z H3 => ∃ k, z = .bl k ∧
  (if k = true then tc σ H3 fun w' H4 => r' y w' H4 Q else Q (.bl false) H3)) : tChain r r' ta tb tc σ H Q := h
theorem s_isi_int (q : Q (.bl true) H) : rIsi K [.int i, .ty "int"] H Q := ⟨_, _, _, _, true, rfl, .ty _, .base (.int i), kit_ty (by decide +kernel), q⟩
theorem s_isi_int_bool (q : Q (.bl false) H) : rIsi K [.int i, .ty "bool"] H Q := ⟨_, _, _, _, false, rfl, .ty _, .base (.int i), kit_ty (by decide +kernel), q⟩
theorem s_isi_own {a C : Addr} (t : TyOf K H (.ref a) (.ref C)) (q : Q (.bl true) H) : rIsi K [.ref a, .ref C] H Q := ⟨_, _, _, _, true, rfl, .own C, .base t, by simp [PySem.W.kitOne], q⟩
theorem s_prop {C : Addr} {sp : Sp} {dvs : List V} {E : XK} (h : ta σ H fun x H1 => ∃ a dx fs, x = .ref a ∧ H1 a = some (.ins C dx fs) ∧ sp (.ref a :: dvs) H1 Q E) : tProp C sp dvs E ta σ H Q := h
theorem s_sfld {D : Ends} {f : Str} (h : tb σ H fun y H1 => ta σ H1 fun x H2 => ∃ a C dx fs, x = .ref a ∧ H2 a = some (.ins C dx fs) ∧ Cls K C ∧ NoAttr K C f ∧ fs.length < 1000 ∧ D.nx σ (upd H2 a (.ins C dx (putF f y fs)))) : sFld K ta tb f D σ H := h
theorem s_fput {a C dx : Addr} {fs : List (Str × V)} {f : Str} {y : V} {Q : Hp → Prop} (e : H a = some (.ins C dx fs)) (c : Cls K C) (n : NoAttr K C f) (l : fs.length < 1000) (q : Q (upd H a (.ins C dx (putF f y fs)))) :
    ∃ a' C dx fs, V.ref a = .ref a' ∧ H a' = some (.ins C dx fs) ∧ Cls K C ∧ NoAttr K C f ∧ fs.length < 1000 ∧ Q (upd H a' (.ins C dx (putF f y fs))) := ⟨a, C, dx, fs, rfl, e, c, n, l, q⟩
theorem s_fget {a C dx : Addr} {fs : List (Str × V)} {f : Str} {v : V} (e : H a = some (.ins C dx fs)) (c : Cls K C) (n : NoAttr K C f) (l : fs.lookup f = some v) (q : Q v H) :
    ∃ a' C dx fs v, V.ref a = .ref a' ∧ H a' = some (.ins C dx fs) ∧ Cls K C ∧ NoAttr K C f ∧ fs.lookup f = some v ∧ Q v H := ⟨a, C, dx, fs, v, rfl, e, c, n, l, q⟩
theorem few0 {m : Nat} : ([] : List (Str × V)).length < m + 1 := Nat.succ_pos _
theorem few_put {m : Nat} {fs : List (Str × V)} {f : Str} {v : V} (h : fs.length < m) : (putF f v fs).length < m + 1 := by
  have e : ∀ fs : List (Str × V), (putF f v fs).length ≤ fs.length + 1 := by
    intro fs
    induction fs with
    | nil => exact Nat.le_refl _
    | cons x r ih =>
      obtain ⟨g, x⟩ := x
      unfold putF
      split
      · exact Nat.le_succ _
      · exact Nat.succ_le_succ ih
  exact Nat.lt_of_le_of_lt (e fs) (Nat.succ_lt_succ h)
theorem putF_nil {f : Str} {v : V} : putF f v [] = [(f, v)] := rfl
theorem putF_ne {f g : Str} {v x : V} {r : List (Str × V)} (h : g ≠ f) : putF f v ((g, x) :: r) = (g, x) :: putF f v r := if_neg h
theorem s_eqI {i j : Int} (q : Q (.bl (decide (i = j))) H) : rEq (.int i) (.int j) H Q := by
  refine ⟨rfl, ?_⟩
  rw [show decide (V.int i = V.int j) = decide (i = j) from by (rw [Bool.eq_iff_iff]; simp)]
  exact q
theorem s_neI {i j : Int} (q : Q (.bl (!decide (i = j))) H) : rNe (.int i) (.int j) H Q := by
  refine ⟨rfl, ?_⟩
  rw [show decide (V.int i = V.int j) = decide (i = j) from by (rw [Bool.eq_iff_iff]; simp)]
  exact q
theorem s_eqS {i j : Str} (q : Q (.bl (decide (i = j))) H) : rEq (.str i) (.str j) H Q := by
  refine ⟨rfl, ?_⟩
  rw [show decide (V.str i = V.str j) = decide (i = j) from by (rw [Bool.eq_iff_iff]; simp)]
  exact q
theorem s_neSr {i : Str} (q : Q (.bl false) H) : rNe (.str i) (.str i) H Q := by
  refine ⟨rfl, ?_⟩
  rw [decide_eq_true rfl]
  exact q
theorem s_neS {i j : Str} (q : Q (.bl (!decide (i = j))) H) : rNe (.str i) (.str j) H Q := by
  refine ⟨rfl, ?_⟩
  rw [show decide (V.str i = V.str j) = decide (i = j) from by (rw [Bool.eq_iff_iff]; simp)]
  exact q
theorem s_bm {T : String} {r : V → List V → Hp → VK → Prop} {t : TA} (h : ta σ H fun x H1 => tyV K T x H1 ∧ t σ H1 fun xs H2 => r x xs H2 Q) : tBM K T r ta t σ H Q := h
theorem s_bm0 {T : String} {r : V → List V → Hp → VK → Prop} (h : ta σ H fun x H1 => tyV K T x H1 ∧ r x [] H1 Q) : tBM0 K T r ta σ H Q := h
theorem s_tyL {a : Addr} {xs : List V} {P : Prop} (h : H a = some (.lst xs)) (q : P) : tyV K "list" (.ref a) H ∧ P := ⟨.inl ⟨rfl, xs, SqL.of h⟩, q⟩
theorem s_append {l : Addr} {xs : List V} {y : V} (h : H l = some (.lst xs)) (hz : xs.length < sizeLine) (q : Q .non (upd H l (.lst (xs ++ [y])))) : rAppend (.ref l) [y] H Q := ⟨l, xs, y, rfl, rfl, h, hz, q⟩
theorem s_extend {l b : Addr} {xs zs : List V} (h : H l = some (.lst xs)) (hb : H b = some (.lst zs)) (hz : xs.length + zs.length ≤ sizeLine) (q : Q .non (upd H l (.lst (xs ++ zs)))) : rExtend (.ref l) [.ref b] H Q := ⟨l, b, xs, zs, rfl, rfl, h, hb, hz, q⟩
theorem lt_size {n : Nat} (h : Nat.blt n sizeLine = true) : n < sizeLine := Nat.le_of_ble_eq_true h
theorem s_make {C : Addr} {sp : Sp} {dvs : List V} {E : XK} {t : TA} (h : t σ H fun vs H1 => ∀ x dx, H1 x = none → H1 dx = none → dx ≠ x → sp (.ref x :: (vs ++ dvs)) (upd (upd H1 dx (.own x)) x (.ins C dx [])) (fun v H2 => v = .non ∧ Q (.ref x) H2) E) : tMake C sp dvs E t σ H Q := h
theorem s_meth {C : Addr} {m : Str} {sp : Sp} {dvs : List V} {E : XK} {t : TA} (h : ta σ H fun x H1 => ∃ a dx fs, x = .ref a ∧ H1 a = some (.ins C dx fs) ∧ fs.lookup m = none ∧ t σ H1 fun vs H2 => sp (x :: (vs ++ dvs)) H2 Q E) : tMeth C m sp dvs E ta t σ H Q := h
theorem s_for {wi : TI} {g : TG} {tb : TS} {D0 : Ends}
    (h : ∀ D : Ends, D = D0 → wi σ H fun J H1 => ∃ W : Nat → Nat → L2.St → Hp → Prop, (∃ m, W 0 m σ H1) ∧ ∀ i m σ H, W i m σ H →
      (J.stop i H ∧ D.nx σ H) ∨ (J.go i H ∧ ∃ N : L2.St → Hp → Prop, (∀ σ' H', N σ' H' → ∃ m', m' < m ∧ W (i + 1) m' σ' H') ∧
        ∀ x H', J.yld i H x H' → g x σ H' fun σ2 H2 => tb { D with nx := N, ct := N, bk := D.nx } σ2 H2)) : tFor wi g tb D0 σ H := h D0 rfl
theorem s_lc {wi : TI} {g : TG} {tt : TT} {te : TE} {vs : List Nat}
    (h : wi σ H fun J H1 => ∀ D, H1 D = none → ∃ W : Nat → Nat → Hp → Prop, (∃ m, W 0 m (upd H1 D (.lst []))) ∧ ∀ i m H, W i m H →
      (J.stop i H ∧ Q (.ref D) H) ∨ (J.go i H ∧ ∃ Nx : Hp → Prop, (∀ H', Nx H' → ∃ m', m' < m ∧ W (i + 1) m' H') ∧
        ∀ x H', J.yld i H x H' → g x (wipe σ vs) H' fun σ2 H2 => wipe σ2 vs = wipe σ vs ∧ tt σ2 H2 fun b H3 =>
          if b = true then te σ2 H3 fun y H4 => ∃ acc, H4 D = some (.lst acc) ∧ acc.length < sizeLine ∧ Nx (upd H4 D (.lst (acc ++ [y]))) else Nx H3)) : tLc wi g tt te vs σ H Q := h
theorem s_iList {R : L2.It → Hp → Prop} (h : ta σ H fun x H1 => ∃ a, x = .ref a ∧ (∃ xs, SqL K H1 a xs) ∧ R (Itl K a) H1) : iList K ta σ H R := h
theorem s_iTup {R : L2.It → Hp → Prop} (h : ta σ H fun x H1 => ∃ a, x = .ref a ∧ (∃ xs, SqT K H1 a xs) ∧ R (Itt K a) H1) : iTup K ta σ H R := h
theorem s_iRng1 {R : L2.It → Hp → Prop} {t : TA} (h : t σ H fun vs H1 => ∃ j : Int, vs = [.int j] ∧ -(2 ^ 62) ≤ j ∧ j < 2 ^ 62 ∧ R (Itr 0 j.toNat) H1) : iRng1 t σ H R := h
theorem s_iRng2 {R : L2.It → Hp → Prop} {t : TA} (h : t σ H fun vs H1 => ∃ i j : Int, vs = [.int i, .int j] ∧ (-(2 ^ 62) ≤ i ∧ i < 2 ^ 62 ∧ -(2 ^ 62) ≤ j ∧ j < 2 ^ 62) ∧ R (Itr i (j - i).toNat) H1) : iRng2 t σ H R := h
theorem s_par {D : Ends} {i j : Nat} {t : TA} (h : t σ H fun vs H1 => ∃ v w, vs = [v, w] ∧ D.nx ((σ.set i (some v)).set j (some w)) H1) : tPar i j t D σ H := h
theorem s_2set {D : Ends} {i j : Nat} {t : TS} {x y : V} {τ υ : L2.St} (g : SetAt i x σ τ) (g2 : SetAt j y τ υ) (h : t D υ H) : t D ((σ.set i (some x)).set j (some y)) H := by
  rw [g.set, g2.set]
  exact h
theorem s_yes {QB : Bool → Hp → Prop} (h : QB true H) : tYes σ H QB := h
theorem s_fldE {f : Str} (h : ta σ H fun x H1 => ∃ a C dx fs v, x = .ref a ∧ H1 a = some (.ins C dx fs) ∧ Cls K C ∧ NoAttr K C f ∧ fs.lookup f = some v ∧ Q v H1) : tFld K ta f σ H Q := h
theorem s_isi_str {x : Str} (q : Q (.bl true) H) : rIsi K [.str x, .ty "str"] H Q := ⟨_, _, _, _, true, rfl, .ty _, .base (.str x), kit_ty (by decide +kernel), q⟩
theorem s_truInt {i : Int} {P : Bool → Prop} (q : P (i != 0)) : ∃ k, TruV K (.int i) H k ∧ P k := ⟨_, rfl, q⟩
theorem s_neB {i j : Bool} (q : Q (.bl (i != j)) H) : rNe (.bl i) (.bl j) H Q := by
  refine ⟨rfl, ?_⟩
  rw [show (!decide (V.bl i = V.bl j)) = (i != j) from by cases i <;> cases j <;> rfl]
  exact q
theorem s_eqB {i j : Bool} (q : Q (.bl (i == j)) H) : rEq (.bl i) (.bl j) H Q := by
  refine ⟨rfl, ?_⟩
  rw [show decide (V.bl i = V.bl j) = (i == j) from by cases i <;> cases j <;> rfl]
  exact q
theorem inV_ints (x : Int) (ns : List Int) : inV (.int x) (ns.map V.int) = decide (x ∈ ns) := by
  unfold inV
  rw [List.any_map, Bool.eq_iff_iff, List.any_eq_true, decide_eq_true_eq]
  constructor
  · rintro ⟨y, hy, e⟩
    have e2 : y = x := by simpa [eqV] using e
    exact e2 ▸ hy
  · intro h
    exact ⟨x, h, by simp [eqV]⟩
theorem flat_ints (ns : List Int) : (ns.map V.int).all flatV = true := by
  rw [List.all_map, List.all_eq_true]
  intro x _
  rfl
theorem le_size {n : Nat} (h : Nat.ble n sizeLine = true) : n ≤ sizeLine := Nat.le_of_ble_eq_true h
theorem ite_NN {A B : Prop} (h : A) : if decide (V.non = V.non) = true then A else B := by rw [if_pos (decide_eq_true rfl)]; exact h
theorem ite_IN {A B : Prop} {i : Int} (h : B) : if decide (V.int i = V.non) = true then A else B := by rw [if_neg (by simp)]; exact h
theorem ite_nNN {A B : Prop} (h : B) : if (!decide (V.non = V.non)) = true then A else B := by rw [if_neg (by simp)]; exact h
theorem ite_nIN {A B : Prop} {i : Int} (h : A) : if (!decide (V.int i = V.non)) = true then A else B := by rw [if_pos (by simp)]; exact h
/-- the test's answer c is known: what follows need not be read twice -/
theorem s_cut {tt : TT} {QB : Bool → Hp → Prop} (c : Bool) (h1 : QB c H) (h2 : ∀ QB' : Bool → Hp → Prop, QB' c H → tt σ H QB') : tt σ H QB := h2 QB h1
theorem qb_eq {QB : Bool → Hp → Prop} {c d : Bool} (h : QB c H) (e : c = true ↔ d = true) : QB d H := by
  rw [← (Bool.eq_iff_iff.mpr e)]
  exact h
theorem ite_RN {A B : Prop} {a : Addr} (h : B) : if decide (V.ref a = V.non) = true then A else B := by rw [if_neg (by simp)]; exact h
theorem ite_nRN {A B : Prop} {a : Addr} (h : A) : if (!decide (V.ref a = V.non)) = true then A else B := by rw [if_pos (by simp)]; exact h
theorem iteNT {A B : Prop} (h : B) : if (!true) = true then A else B := by simpa using h
theorem iteNF {A B : Prop} (h : A) : if (!false) = true then A else B := by simpa using h
theorem ite_b {b : Bool} {A B : Prop} (h1 : b = true → A) (h2 : b = false → B) : if b = true then A else B := by
  cases b
  · exact iteF (h2 rfl)
  · exact iteT (h1 rfl)
theorem ite_nb {b : Bool} {A B : Prop} (h1 : b = false → A) (h2 : b = true → B) : if (!b) = true then A else B := by
  cases b
  · exact iteNF (h1 rfl)
  · exact iteNT (h2 rfl)
end
section
variable {P : Program} {w : World} {K : PySem.W.Frag} {mg : Str → Option Value} {base : Heap} {x qual : Str} {params : Arguments} {body : List Stmt} {scope : Scope} {dvs : List V} {C : Addr} {k : Nat} {ps : List Str} {sp : Sp}
theorem dnN (e : ∃ (f : Addr) (fd : FuncData), FunD K x qual params body scope [] [] f fd ∧ mg x = some (.ref f)) (ok : ∀ {f : Addr} {fd : FuncData}, FunD K x qual params body scope [] [] f fd → FnG P w K mg base CX0 k f fd ps sp)
    (h : ∀ (kV doc pm : Value) (an : Option Addr) (cdv ct : Value) (us : List Value), us.length = ps.length → bindArgs (PySem.W.fnOf x qual params body scope .none kV doc pm an cdv ct) ⟨us, []⟩ = pure (ps.zip us)) : Dn P w K mg base x k ps [] sp := by
  obtain ⟨f, fd, F, hm⟩ := e
  exact ⟨f, fd, [], ok F, hm, F.kp, F.bindsN h, .nil⟩
theorem prN {q : Str} (e : ∃ (p f : Addr) (fd : FuncData), PropOf K C q p f ∧ FunD K x qual params body scope [] [] f fd) (c : Cls K C) (ok : ∀ {f : Addr} {fd : FuncData}, FunD K x qual params body scope [] [] f fd → FnG P w K mg base CX0 k f fd ps sp)
    (h : ∀ (kV doc pm : Value) (an : Option Addr) (cdv ct : Value) (us : List Value), us.length = ps.length → bindArgs (PySem.W.fnOf x qual params body scope .none kV doc pm an cdv ct) ⟨us, []⟩ = pure (ps.zip us)) : Prn P w K mg base C q k ps [] sp := by
  obtain ⟨p, f, fd, hp, F⟩ := e
  exact ⟨p, f, fd, [], c, hp, ok F, F.bindsN h, .nil⟩
theorem mtN {q : Str} (e : ∃ (f : Addr) (fd : FuncData), Meth K C q f ∧ FunD K x qual params body scope [] [] f fd) (c : Cls K C) (ok : ∀ {f : Addr} {fd : FuncData}, FunD K x qual params body scope [] [] f fd → FnG P w K mg base CX0 k f fd ps sp)
    (h : ∀ (kV doc pm : Value) (an : Option Addr) (cdv ct : Value) (us : List Value), us.length = ps.length → bindArgs (PySem.W.fnOf x qual params body scope .none kV doc pm an cdv ct) ⟨us, []⟩ = pure (ps.zip us)) : Mtn P w K mg base C q k ps [] sp := by
  obtain ⟨f, fd, hp, F⟩ := e
  exact ⟨f, fd, [], c, hp, ok F, F.bindsN h, .nil⟩
theorem mkN {y : Str} (e : ∃ (f : Addr) (fd : FuncData), Mk K C f ∧ FunD K x qual params body scope [] [] f fd) (m : mg y = some (.ref C)) (ok : ∀ {f : Addr} {fd : FuncData}, FunD K x qual params body scope [] [] f fd → FnG P w K mg base CX0 k f fd ps sp)
    (h : ∀ (kV doc pm : Value) (an : Option Addr) (cdv ct : Value) (us : List Value), us.length = ps.length → bindArgs (PySem.W.fnOf x qual params body scope .none kV doc pm an cdv ct) ⟨us, []⟩ = pure (ps.zip us)) : Mkn P w K mg base y C k ps [] sp := by
  obtain ⟨f, fd, hp, F⟩ := e
  exact ⟨f, fd, [], hp, ok F, m, F.bindsN h, .nil⟩
theorem mkD {y : Str} (n j : Nat) (e : ∃ (f : Addr) (fd : FuncData), Mk K C f ∧ FunD K x qual params body scope dvs [] f fd) (m : mg y = some (.ref C)) (ok : ∀ {f : Addr} {fd : FuncData}, FunD K x qual params body scope dvs [] f fd → FnG P w K mg base CX0 k f fd ps sp) (hd : dvs ≠ []) (hn : n + (dvs.length - j) = ps.length)
    (h : ∀ (T : Addr) (kV doc pm : Value) (an : Option Addr) (cdv ct : Value) (us its : List Value), us.length = n → its.length = dvs.length →
      ∃ k, bindArgs (PySem.W.fnOf x qual params body scope (.ref T) kV doc pm an cdv ct) ⟨us, []⟩ = seqItems? (.ref T) >>= k ∧ k (some its.toArray) = pure (ps.zip (us ++ its.drop j))) : Mkn P w K mg base y C k ps (dvs.drop j) sp := by
  obtain ⟨f, fd, hp, F⟩ := e
  obtain ⟨ds, hv, hb⟩ := F.binds1 n j hd hn h
  exact ⟨f, fd, ds, hp, ok F, m, hb, hv⟩
end
abbrev optV : Option Int → V
  | none => .non
  | some i => .int i
/-- a comprehension within a comprehension -/
def reS (scope sc : Scope) : Scope := { scope with names := scope.names.map fun p => if (p.2 == NameKind.free && sc.kind == ScopeKind.function && sc.names.lookup p.1 == some NameKind.cell) = true then (p.1, NameKind.cell) else p }
theorem reS_eq (scope : Scope) (env : Env) : PySem.relabel scope env = reS scope env.scope := by
  unfold PySem.relabel reS
  congr 1
theorem blkOk_nest {X : Cx} {s : Shared} {H : Hp} {scope0 scope : Scope} {cl : List (Str × Addr)} {C : Addr} {env : Env} {fp : List Addr} {own : List (Str × Nat)} (N : List Str) (sc : Scope) (e : X.N = N) (e2 : env.scope = sc) (h : blkC N (reS scope0 sc) scope own = true) :
    BlkOk (X.blk s H scope0 (compEnvC scope0 cl C env) fp).N (X.blk s H scope0 (compEnvC scope0 cl C env) fp).env.scope scope own := by
  have z := blkOk_by h
  subst e e2
  rw [← reS_eq] at z
  exact z
/-! ### rules within a comprehension: the written part by its own name -/
section
variable {X : Cx} {K : PySem.W.Frag} {l e : Expr} {tl ta : TE} {tg : Expr} {f : Str} {pos : Pos}
def rLen (K : PySem.W.Frag) : List V → Hp → VK → Prop := fun xs H Q => ∃ p ys, xs = [.ref p] ∧ (SqL K H p ys ∨ SqT K H p ys) ∧ Q (.int ys.length) H
theorem ix_listK (h : X.K = K) : IxR X (rIxL K) := h ▸ ix_list
theorem ix_tupK (h : X.K = K) : IxR X (rIxT K) := h ▸ ix_tup
theorem call_len_seqK (h : X.K = K) : CallR X (.builtin "len") (rLen K) := by
  subst h
  exact call_len_seq
theorem pi_listK (h : X.K = K) (hl : PE X l tl) : PI X tg l (iList K tl) := h ▸ pi_list hl
theorem pi_tupK (h : X.K = K) (hl : PE X l tl) : PI X tg l (iTup K tl) := h ▸ pi_tup hl
theorem cr_allK (h : X.K = K) (hc : X.calm = true) : CallR X (.builtin "all") (rAll K) := h ▸ cr_all hc
theorem cr_anyK (h : X.K = K) (hc : X.calm = true) : CallR X (.builtin "any") (rAny K) := h ▸ cr_any hc
theorem cr_sumK (h : X.K = K) (hc : X.calm = true) : CallR X (.builtin "sum") (rSum K) := h ▸ cr_sum hc
theorem cr_maxK (h : X.K = K) (hc : X.calm = true) : CallR X (.builtin "max") (rMax K) := h ▸ cr_max hc
theorem cr_minK (h : X.K = K) (hc : X.calm = true) : CallR X (.builtin "min") (rMin K) := h ▸ cr_min hc
theorem op_in_seqK (h : X.K = K) : OpR X (compareOp .In) (rIn K false) := h ▸ op_in_seq
theorem op_notIn_seqK (h : X.K = K) : OpR X (compareOp .NotIn) (rIn K true) := h ▸ op_notIn_seq
theorem op_eqDK (h : X.K = K) (hu : X.A.units + 64 < cLine) : OpR X (compareOp .Eq) (rEqD K) := h ▸ op_eqD hu
theorem op_neDK (h : X.K = K) (hu : X.A.units + 64 < cLine) : OpR X (compareOp .NotEq) (rNeD K) := h ▸ op_neD hu
theorem pe_fldK (h : X.K = K) (he : PE X e ta) (hb : attributeBase e f X.env (eval e X.env) = eval e X.env) : PE X (.Attribute e f pos) (tFld K ta f) := h ▸ pe_fld he hb
end
theorem s_len {K : PySem.W.Frag} {a : Addr} {xs : List V} {H : Hp} {Q : VK} (h : SqL K H a xs) (q : Q (.int xs.length) H) : rLen K [.ref a] H Q := ⟨a, xs, rfl, .inl h, q⟩
/-! ### bounds of ints -/
theorem Same.new {p : Addr} {o : HO} {H : Hp} (h : H p = none) : Same H (upd H p o) := fun c u e => by rw [upd_ne (ne_of_none e h)]; exact e
theorem Same.rfl' (H : Hp) : Same H H := fun _ _ e => e
theorem Same.tr {A B C : Hp} (x : Same A B) (y : Same B C) : Same A C := fun c u e => y c u (x c u e)
theorem Same.at_ {p : Addr} {o : HO} {H H1 : Hp} (h : H p = none) (s : Same H H1) : Same H (upd H1 p o) := fun c u e => by rw [upd_ne (ne_of_none e h)]; exact s c u e
theorem Same.but {r : Addr} {H H' : Hp} (s : Same H H') : But r H H' := fun c o h _ => s c o h
def Sm (k : Nat) (x : Int) : Prop := x.natAbs < 2 ^ k
instance {k : Nat} {x : Int} : Decidable (Sm k x) := inferInstanceAs (Decidable (_ < _))
theorem Sm.mono {j k : Nat} {x : Int} (h : Sm j x) (l : j ≤ k) : Sm k x := Nat.lt_of_lt_of_le h (Nat.pow_le_pow_right (by decide) l)
theorem Sm.mul {j k : Nat} {x y : Int} (h : Sm j x) (g : Sm k y) : Sm (j + k) (x * y) := by
  unfold Sm at *
  rw [Int.natAbs_mul, Nat.pow_add]
  exact Nat.mul_lt_mul'' h g
theorem Sm.add {k : Nat} {x y : Int} (h : Sm k x) (g : Sm k y) : Sm (k + 1) (x + y) := by
  unfold Sm at *
  rw [Nat.pow_succ]
  omega
theorem Sm.le {k : Nat} {x y : Int} (h0 : 0 ≤ x) (h : x ≤ y) (g : Sm k y) : Sm k x := by
  unfold Sm at *
  omega
theorem Sm.cmul {j k : Nat} {x y : Int} (h : Sm j x) (g : Sm k y) (h0 : 0 < j := by decide) (h1 : 0 < k := by decide) (l : j + k ≤ 1000000 := by decide) : CMulW x y := wide_mul h g h0 h1 l
theorem But.same {x : Addr} {H H1 H' : Hp} (b : But x H1 H') (s : Same H H1) (n : H x = none) : Same H H' := fun c o h => b c o (s c o h) (ne_of_none h n)
theorem lg {k : Nat} {x : Int} (h : Sm k x) (h0 : 0 < k := by decide) (hk : k ≤ 9000 := by decide) : x.natAbs.log2 < 9000 := Nat.lt_of_lt_of_le (PySem.Flt.log2_lt_of h0 h) hk
theorem sm62 {x : Int} (h0 : 0 ≤ x) (h : x < 4611686018427387904) : Sm 62 x := by
  show x.natAbs < 4611686018427387904
  omega
theorem cmul_small {i j : Int} (h0 : 0 ≤ i) (h1 : i < 2147483648) (g0 : 0 ≤ j) (g1 : j < 2147483648) : CMulW i j := wide_mul (a := 31) (b := 31) (by omega) (by omega) (by decide) (by decide) (by decide)
theorem atI_ints {ns : List Int} {k : Int} (h0 : 0 ≤ k) (h : k < (ns.map V.int).length) : ∃ c, atI (ns.map V.int) k = some (.int c) := by
  obtain ⟨j, rfl⟩ : ∃ j : Nat, k = j := ⟨k.toNat, by omega⟩
  rw [List.length_map] at h
  have hj : j < ns.length := by omega
  exact ⟨ns[j], atI_nat (by rw [List.getElem?_map, List.getElem?_eq_getElem hj]; rfl)⟩
theorem Sm.log {k : Nat} {x : Int} (h : Sm k x) (h0 : 0 < k := by decide) : x.natAbs.log2 < k := PySem.Flt.log2_lt_of h0 h
end My

namespace My
open PySem L2 PySem.Spec PyProof.Rows Sem
/-! ### set(xs), xs a list of ints -/
abbrev setO0 (w : World) : Obj := { cls := .type "set", dict := none, data := .set #[] 0 (.fresh 0 0 (!w.params.followText "set-order")) }
section
variable {P : Program} {w : World} {A : Around} {E : Value → Shared → Prop} {s : Shared}
theorem set_ints {l : Addr} {its : Array Value} (ks : List Int) {Q : Value → Shared → Prop} (calm : A.handled = none) (isl : s.heap.IsList l its) (are : IntsAre its.toList ks) (few : ks.length + 1 < scanBound)
    (fin : ∀ (hp : Heap) (tk c : Nat), SetR w hp s.heap.objs.size (fun j => decide (j ∈ ks)) c → c ≤ ks.length → (∀ b o, s.heap.get? b = some o → hp.get? b = some o) → Q (.ref s.heap.objs.size) { s with heap := hp, toks := tk }) :
    wpAny (model P w) A (call (.type "set") [.ref l]) Q E s := by
  have size_eq : its.size = ks.length := by simpa using IntsAre.length are
  have z1 := F.called_set.mro
  have z2 := F.called_set.made
  have z3 := F.called_set.sub
  have z4 := F.called_set.notType
  have z5 := F.called_set.canCreate
  have z6 := F.typeCall_set_1 (.ref l)
  obtain ⟨c0, tl0, mro0⟩ := z1
  apply wpAny_call; apply codeAny_of_tree
  show wpAny _ _ (callAny (Value.type "set") _) _ _ _
  apply wpAny_pure; refine ⟨Code.quiet_builtin _ (by decide +kernel), ?_⟩; apply codeAny_builtin F.entry_type_call
  rw [Around.under_plain (weight_type_call_type "set" [Value.ref l] []) (by rfl)]
  repeat (any_goals (first | assumption | wp_step))
  apply codeAny_mono (code_set_led1 (.ref l) (E := E) (Q₁ := fun v t => v = .ref s.heap.objs.size ∧ t = { s with heap := s.heap.push (setO0 w) }) ⟨rfl, rfl⟩)
  rintro (er | fl) t hq
  · exact hq
  cases fl with
  | ret v =>
    obtain ⟨rfl, rfl⟩ := hq
    have atS : (s.heap.push (setO0 w)).get? s.heap.objs.size = some (setO0 w) := Heap.get?_push_size _ rfl
    have ty : Shared.TypeIs { s with heap := s.heap.push (setO0 w) } (.ref s.heap.objs.size) "set" := ⟨_, atS, rfl⟩
    have i1 := F.called_set.init.lookup
    have i2 := F.called_set.init.bind (.ref s.heap.objs.size)
    repeat (any_goals (first | assumption | wp_step))
    refine codeAny_mono (codeAny_call_builtin (R := wants (fun v t => v = .none ∧ ∃ hp tk c, t = { s with heap := hp, toks := tk } ∧ SetR w hp s.heap.objs.size (fun j => decide (j ∈ ks)) c ∧ c ≤ ks.length ∧
      ∀ b o, s.heap.get? b = some o → hp.get? b = some o) E) F.called_set.init.plain F.entry_set_init (check_set_init_1 ty ?_)) ?_
    · obtain ⟨o1, at1, cls1, n1, dat1⟩ := isl
      obtain ⟨oc, od, odat, osl⟩ := o1
      simp only at cls1 dat1
      subst cls1 dat1
      have at2 : (s.heap.push (setO0 w)).get? l = some { cls := .type "list", dict := od, data := .seq its n1, slots := osl } := Heap.get?_push_of_some _ at1
      have u1 := F.sub_list_set
      have u2 := F.sub_list_frozenset
      have u3 : (Value.type "list" == Value.type "dict") = false := by decide
      have isl2 : (s.heap.push (setO0 w)).IsList l its := ⟨_, at2, rfl, n1, rfl⟩
      unfold Builtin.«set.__init__» noKeywords Builtin.Frozenset.updateFrom
      generalize gPI : pyIter = PI
      wp_walk
      subst gPI
      apply wpAny_pyIter_list isl2
      apply wpAny_bind; apply wpAny_runValue
      have lS : l < s.heap.objs.size := Heap.lt_size at1
      have calm3 : A.in1.in1.in1.handled = none := by simp [calm]
      have lI : l ≠ (s.heap.push (setO0 w)).objs.size := Heap.size_push .. ▸ Nat.ne_of_lt (Nat.lt_succ_of_lt lS)
      have Sf : s.heap.objs.size ∉ [(s.heap.push (setO0 w)).objs.size, l] := by
        rw [Heap.size_push, List.mem_cons, List.mem_singleton]
        rintro (z | z)
        · exact absurd z (Nat.ne_of_lt (Nat.lt_succ_self _))
        · exact absurd z.symm (Nat.ne_of_lt lS)
      have vals : ∀ (i : Nat) (v : Value), its[i]? = some v → ∃ k t, ks[i]? = some k ∧ v = .int k t := fun i v hv => by
        have lt : i < ks.length := size_eq ▸ (Array.getElem?_eq_some_iff.mp hv).1
        obtain ⟨t, e⟩ := IntsAre.int_at are i v (by simpa using hv)
        exact ⟨ks[i], t, List.getElem?_eq_getElem lt, by rw [e, List.getD_eq_getElem?_getD, List.getElem?_eq_getElem lt]; rfl⟩
      refine set_update_ints ((Walks.list calm3 _ l lI its).toS) s.heap.objs.size Sf ks size_eq few vals (its.size - 0) 0 _ (by omega) (Nat.zero_le _) ⟨⟨_, Heap.get?_push_size _ rfl, rfl, rfl⟩, isl2.push _⟩ ⟨0, Nat.le_refl 0, setR_new_at (Heap.get?_push_of_some _ atS)⟩ ?_
      intro t c moved le R
      obtain ⟨hp, gs, dr, tk, os⟩ := t
      have e1 : gs = s.gens := moved.gens
      have e2 : dr = s.drawn := moved.drawn
      have e3 : os = s.os := moved.os
      subst e1 e2 e3
      show wpAny _ _ _ _ _ _
      apply wpAny_pure
      show wpAny _ _ (ret Value.none) _ _ _
      refine wpAny_pure ⟨rfl, hp, tk, c, rfl, R, size_eq ▸ le, fun b o e => ?_⟩
      have b0 : b < s.heap.objs.size := Heap.lt_size e
      refine moved.heap b o ?_ (Heap.get?_push_of_some _ (Heap.get?_push_of_some _ e))
      rw [Heap.size_push]
      simp only [List.mem_cons, List.mem_singleton, List.not_mem_nil, or_false, not_or]
      exact ⟨Nat.ne_of_lt b0, Nat.ne_of_lt (Nat.lt_succ_of_lt b0)⟩
    · rintro (er | fl) t hq
      · exact hq
      cases fl with
      | ret v =>
        obtain ⟨rfl, hp, tk, c, rfl, R, le, keep⟩ := hq
        repeat (any_goals (first | assumption | wp_step))
        exact fin _ _ _ R le keep
      | _ => exact hq.elim
  | _ => exact hq.elim
end
section
variable {X : Cx}
/-- set(xs) of a list of ints: a new set -/
def rSetOfI (K : PySem.W.Frag) (w : World) : List V → Hp → VK → Prop := fun xs H Q => ∃ (l : Addr) (ns : List Int), xs = [.ref l] ∧ SqL K H l (ns.map V.int) ∧ ns.length + 1 < scanBound ∧
  ∀ (p : Addr) (ks : List Int), H p = none → ks.Nodup → (∀ k, k ∈ ks ↔ k ∈ ns) → Q (.ref p) (upd H p (SetO w p (fun j => decide (j ∈ ns)) ks.length))
theorem cr_setOfI (hc : X.calm = true) : CallR X (.type "set") (rSetOfI X.K X.w) := by
  intro pins s σ H xs us Q I r h
  obtain ⟨l, ns, rfl, hl, few, q⟩ := h
  rw [Vals.ref1 r]
  obtain ⟨its, rv, pl, _⟩ := I.list hl
  have fresh : H s.heap.objs.size = none := I.hok.fresh (Nat.le_refl _)
  refine set_ints (P := X.prog) (w := X.w) ns (I.ok.hd hc) pl.isList (by simpa using intsAre_of rv) few fun hp tk c R le keep => ?_
  refine ⟨.ref s.heap.objs.size, upd H s.heap.objs.size (SetO X.w s.heap.objs.size (fun j => decide (j ∈ ns)) c), I.laid (t' := tk) keep (Nat.le_refl _) (setO_new R), rfl, ?_⟩
  obtain ⟨o, es, ep, t, _, _, _, _, nd, hm, _, _, ln, _⟩ := id R
  have e : (es.toList.map keyOf).length = c := by rw [List.length_map, Array.length_toList, ln]
  rw [← e]
  exact q _ _ fresh nd fun k => ((hm k).symm).trans decide_eq_true_iff
end
/-- different numbers below n: at most n -/
theorem nd_len : ∀ (n : Nat) (ks : List Int), ks.Nodup → (∀ k ∈ ks, 0 ≤ k ∧ k < (n : Int)) → ks.length ≤ n
  | 0, ks, _, h => by
    cases ks with
    | nil => exact Nat.le_refl _
    | cons k ks =>
      have := h k (List.mem_cons_self ..)
      omega
  | n + 1, ks, nd, h => by
    by_cases hm : (n : Int) ∈ ks
    · have ih := nd_len n (ks.erase (n : Int)) (nd.erase _) fun k hk => by
        rw [nd.mem_erase_iff] at hk
        have := h k hk.2
        have := hk.1
        omega
      rw [List.length_erase_of_mem hm] at ih
      omega
    · have ih := nd_len n ks nd fun k hk => by
        have := h k hk
        have hne : k ≠ n := fun e => hm (e ▸ hk)
        omega
      omega
end My

namespace My
open PySem L2 PySem.Spec PyProof.Rows Sem
section
variable {X : Cx} {j k : Nat} {f C : Addr} {fd : FuncData} {ps : List Str} {sp : Sp} {dvs : List V} {ds : List Value} {m : Str} {pins : List (Addr × Obj)} {σ : L2.St} {H : Hp} {s : Shared}
/-- a def's call, seen from inside a builtin's run -/
theorem goIn {A : Around} {Q : VK} {us : List Value} {vs : List V} (F : FnG X.prog X.w X.K X.mg X.base CX0 k f fd ps sp) (hr : RoomG k A) (e0 : Env0 X.prog X.w X.K X.mg X.base A X.stack s H) (hb : Binds X.K fd ps ds) (hd : Vals dvs ds)
    (I : Inv X pins σ H s) (r : Vals vs us) (h : sp (vs ++ dvs) H Q E0) : wpAny (model X.prog X.w) A (call (.ref f) us) (EP X pins σ Q) X.xe s := by
  have r2 := r.append hd
  have hl : (us ++ ds).length = ps.length := r2.length.symm.trans (F.len _ _ _ _ h)
  refine wpAny_call (codeAny_mono (F.go A X.stack s H ⟨us, []⟩ (us ++ ds) _ Q E0 hr e0 (hb s us I.kIn hl) r2 h) ?_)
  intro r s' hq
  cases r with
  | error e => exact (show False from hq).elim
  | ok fl => cases fl with
    | ret u => exact I.after hq
    | next => exact (show False from hq).elim
    | brk => exact (show False from hq).elim
    | cont => exact (show False from hq).elim
/-- an object of the class, as the heap has it -/
theorem insAt {a dx : Addr} {fs : List (Str × V)} (I : Inv X pins σ H s) (e : H a = some (.ins C dx fs)) : ∃ ox od, PySem.W.InstAt s.heap a ox C od := by
  obtain ⟨mA, O, _⟩ := ins_get I.hok e
  obtain ⟨od, J, _⟩ := O.look
  exact ⟨_, _, J⟩
/-! ### x in o, o its own __contains__ -/
def rInO (C : Addr) (sp : Sp) (dvs : List V) (g : Bool → Bool) : R2 := fun x y H Q => ∃ a dx fs, y = .ref a ∧ H a = some (.ins C dx fs) ∧ sp (.ref a :: x :: dvs) H (fun v H' => ∃ b, v = .bl b ∧ Q (.bl (g b)) H') E0
theorem or_inO (D : Mtn X.prog X.w X.K X.mg X.base C "__contains__" k ps dvs sp) (hr : RoomG k X.A) : OpR X (compareOp .In) (rInO C sp dvs id) := by
  obtain ⟨f, fd, ds, c, hm, F, hb, hd⟩ := D.ex
  intro pins s σ H x y v u Q I rx ry h
  obtain ⟨a, dx, fs, rfl, ea, q⟩ := h
  obtain rfl : u = Value.ref a := ry
  obtain ⟨ox, od, J⟩ := insAt I ea
  obtain ⟨mf, fr⟩ := I.fr
  refine PySem.W.in_K fr I.mod.kin J hm.at_ hm.fn (wpAny_mono (goIn (us := [.ref a, v]) (vs := [.ref a, x]) F hr I.env0 hb hd I (.cons rfl (.cons rx .nil)) q) (fun w s1 hw => ?_) fun _ _ z => z)
  obtain ⟨t, H1, I1, rt, b, rfl, q1⟩ := hw
  obtain rfl : w = Value.bool b := rt
  exact wpAny_truthy_bool ⟨.bl b, H1, I1, rfl, q1⟩
theorem or_notInO (D : Mtn X.prog X.w X.K X.mg X.base C "__contains__" k ps dvs sp) (hr : RoomG k X.A) : OpR X (compareOp .NotIn) (rInO C sp dvs (!·)) := by
  obtain ⟨f, fd, ds, c, hm, F, hb, hd⟩ := D.ex
  intro pins s σ H x y v u Q I rx ry h
  obtain ⟨a, dx, fs, rfl, ea, q⟩ := h
  obtain rfl : u = Value.ref a := ry
  obtain ⟨ox, od, J⟩ := insAt I ea
  obtain ⟨mf, fr⟩ := I.fr
  refine PySem.W.notIn_K fr I.mod.kin J hm.at_ hm.fn (wpAny_mono (goIn (us := [.ref a, v]) (vs := [.ref a, x]) F hr I.env0 hb hd I (.cons rfl (.cons rx .nil)) q) (fun w s1 hw => ?_) fun _ _ z => z)
  obtain ⟨t, H1, I1, rt, b, rfl, q1⟩ := hw
  obtain rfl : w = Value.bool b := rt
  exact wpAny_truthy_bool ⟨.bl (!b), H1, I1, rfl, q1⟩
/-! ### len(o), repr(o) -/
theorem call_lenO (D : Mtn X.prog X.w X.K X.mg X.base C "__len__" k ps dvs sp) (hr : RoomG (k + 1) X.A) :
    CallR X (.builtin "len") (fun xs H Q => ∃ a dx fs, xs = [.ref a] ∧ H a = some (.ins C dx fs) ∧ sp (.ref a :: dvs) H (fun v H' => ∃ n : Int, v = .int n ∧ 0 ≤ n ∧ n < 2 ^ 63 ∧ Q (.int n) H') E0) := by
  obtain ⟨f, fd, ds, c, hm, F, hb, hd⟩ := D.ex
  intro pins s σ H xs us Q I r h
  obtain ⟨a, dx, fs, rfl, ea, q⟩ := h
  rw [Vals.ref1 r]
  obtain ⟨ox, od, J⟩ := insAt I ea
  obtain ⟨mf, fr⟩ := I.fr
  refine PySem.W.len_K fr I.mod.kin J hm.at_ hm.fn (wpAny_mono (goIn (us := [.ref a]) (vs := [.ref a]) F hr.in1 I.env0.in1 hb hd I (.cons rfl .nil) q) (fun w s1 hw => ?_) fun _ _ z => z)
  obtain ⟨t, H1, I1, rt, n, rfl, n0, n1, q1⟩ := hw
  obtain ⟨tk, rfl⟩ := (show ∃ t, w = Value.int n t from rt)
  exact ⟨⟨n0, n1⟩, .int n, H1, I1.tok _, ⟨_, rfl⟩, q1⟩
theorem call_reprO (D : Mtn X.prog X.w X.K X.mg X.base C "__repr__" k ps dvs sp) (hr : RoomG (k + 1) X.A) :
    CallR X (.builtin "repr") (fun xs H Q => ∃ a dx fs, xs = [.ref a] ∧ H a = some (.ins C dx fs) ∧ sp (.ref a :: dvs) H (fun v H' => ∃ y : Str, v = .str y ∧ Q (.str y) H') E0) := by
  obtain ⟨f, fd, ds, c, hm, F, hb, hd⟩ := D.ex
  intro pins s σ H xs us Q I r h
  obtain ⟨a, dx, fs, rfl, ea, q⟩ := h
  rw [Vals.ref1 r]
  obtain ⟨ox, od, J⟩ := insAt I ea
  obtain ⟨mf, fr⟩ := I.fr
  have hu : X.A.in1.units < cLine := by
    have := hr.in1.units
    omega
  refine PySem.W.repr_K hu fr I.mod.kin J hm.at_ hm.fn (wpAny_mono (goIn (us := [.ref a]) (vs := [.ref a]) F hr.in1 I.env0.in1 hb hd I (.cons rfl .nil) q) (fun w s1 hw => ?_) fun _ _ z => z)
  obtain ⟨t, H1, I1, rt, y, rfl, q1⟩ := hw
  obtain ⟨tk, rfl⟩ := (show ∃ t, w = Value.str y t from rt)
  exact ⟨.str y, H1, I1, ⟨_, rfl⟩, q1⟩
/-! ### o[k] -/
def rIxO (C : Addr) (sp : Sp) (dvs : List V) : R2 := fun x y H Q => ∃ a dx fs, x = .ref a ∧ H a = some (.ins C dx fs) ∧ sp (.ref a :: y :: dvs) H Q E0
theorem pe_ixO {a b : Expr} {ta tb : TE} {pos : Pos} (D : Mtn X.prog X.w X.K X.mg X.base C "__getitem__" k ps dvs sp) (hr : RoomG (k + 1) X.A) (hfn : ∀ f, PySem.W.findIn X.K (.ref C) "__getitem__" = some (some (.ref f)) → PySem.W.fnIn X.K f = true)
    (ha : PE X a ta) (hb : PE X b tb) (hs : ∀ o i, subscripted b true o i = runValue (.builtin "lifetime.subscript" ⟨[o, i], []⟩) := by intros; with_unfolding_all rfl) : PE X (.Subscript a b pos) (tOp (rIxO C sp dvs) ta tb) := by
  obtain ⟨f, fd, ds, c, hm, F, hbd, hd⟩ := D.ex
  refine ⟨fun pins s σ H Q I h => Subscript_ (binT ha hb I h fun v u s2 x y H2 I2 rx ry q => ?_)⟩
  obtain ⟨a, dx, fs, rfl, ea, q⟩ := q
  obtain rfl : v = Value.ref a := rx
  obtain ⟨ox, od, J⟩ := insAt I2 ea
  obtain ⟨mf, fr⟩ := I2.fr
  exact PySem.W.sub_K fr I2.mod.kin J hm.at_ (hfn f hm.at_) hm.fn (goIn (us := [.ref a, u]) (vs := [.ref a, y]) F hr.in1 I2.env0.in1 hbd hd I2 (.cons rfl (.cons ry .nil)) q) (hs _ _)
/-! ### o + p, both of the class -/
def rBinO (C : Addr) (sp : Sp) (dvs : List V) : R2 := fun x y H Q => ∃ a b dx dy fs gs, x = .ref a ∧ y = .ref b ∧ H a = some (.ins C dx fs) ∧ H b = some (.ins C dy gs) ∧ sp (.ref a :: .ref b :: dvs) H Q E0
theorem op_own {op : Operator} {nm : Str} (D : Mtn X.prog X.w X.K X.mg X.base C nm k ps dvs sp) (e : PySem.dunder op.info.2 = nm) (hc : PySem.W.selfFirst X.K C = true) (hr : RoomG k X.A) : OpR X (binaryOp op) (rBinO C sp dvs) := by
  subst e
  obtain ⟨f, fd, ds, c, hm, F, hb, hd⟩ := D.ex
  intro pins s σ H x y v u Q I rx ry h
  obtain ⟨a, b, dx, dy, fs, gs, rfl, rfl, ea, eb, q⟩ := h
  obtain rfl : v = Value.ref a := rx
  obtain rfl : u = Value.ref b := ry
  obtain ⟨ox, od, J⟩ := insAt I ea
  obtain ⟨oy, od2, J2⟩ := insAt I eb
  obtain ⟨mf, fr⟩ := I.fr
  refine PySem.W.binop_K fr I.mod.kin J J2.type hc hm.at_ hm.fn (wpAny_mono (goIn (us := [.ref a, .ref b]) (vs := [.ref a, .ref b]) F hr I.env0 hb hd I (.cons rfl (.cons rfl .nil)) q) (fun w s1 hw => ?_) fun _ _ z => z)
  obtain ⟨t, H1, I1, rt, q1⟩ := hw
  have ni : w ≠ .notImplemented := by
    rintro rfl
    cases t <;> simp [L2.RelV] at rt
  have hw : EP X pins σ Q w s1 := ⟨t, H1, I1, rt, q1⟩
  cases w with
  | notImplemented => exact absurd rfl ni
  | none => exact hw
  | ellipsis => exact hw
  | bool _ => exact hw
  | int _ _ => exact hw
  | float _ _ => exact hw
  | str _ _ => exact hw
  | bytes _ _ => exact hw
  | type _ => exact hw
  | builtin _ => exact hw
  | ref _ => exact hw
/-- a method never gives NotImplemented back -/
theorem back {Q : VK} {w : Value} {s1 : Shared} (hw : EP X pins σ Q w s1) : PySem.W.CmpBack (EP X pins σ Q) w s1 := by
  obtain ⟨t, H1, I1, rt, q1⟩ := id hw
  have ni : w ≠ .notImplemented := by
    rintro rfl
    cases t <;> simp [L2.RelV] at rt
  cases w with
  | notImplemented => exact absurd rfl ni
  | none => exact hw
  | ellipsis => exact hw
  | bool _ => exact hw
  | int _ _ => exact hw
  | float _ _ => exact hw
  | str _ _ => exact hw
  | bytes _ _ => exact hw
  | type _ => exact hw
  | builtin _ => exact hw
  | ref _ => exact hw
/-! ### o == y, o != y, y of any kind -/
def rEqO (C : Addr) (sp : Sp) (dvs : List V) (g : Bool → Bool) : R2 := fun x y H Q => ∃ (K : PySem.W.Frag) (a dx : Addr) (fs : List (Str × V)) (t : Value), x = .ref a ∧ H a = some (.ins C dx fs) ∧ TyX K H y t ∧ PySem.W.notFirst K C t = true ∧ sp (.ref a :: y :: dvs) H (fun v H' => ∃ b, v = .bl b ∧ Q (.bl (g b)) H') E0
theorem or_eqO (D : Mtn X.prog X.w X.K X.mg X.base C "__eq__" k ps dvs sp) (hr : RoomG k X.A) : OpR X (compareOp .Eq) (fun x y H Q => ∃ (a dx : Addr) (fs : List (Str × V)) (t : Value), x = .ref a ∧ H a = some (.ins C dx fs) ∧ TyX X.K H y t ∧ PySem.W.notFirst X.K C t = true ∧ sp (.ref a :: y :: dvs) H Q E0) := by
  obtain ⟨f, fd, ds, c, hm, F, hb, hd⟩ := D.ex
  intro pins s σ H x y v u Q I rx ry h
  obtain ⟨a, dx, fs, t, rfl, ea, ty, nf, q⟩ := h
  obtain rfl : v = Value.ref a := rx
  obtain ⟨ox, od, J⟩ := insAt I ea
  obtain ⟨mf, fr⟩ := I.fr
  obtain ⟨PH, Z, pH, _⟩ := kit_of I ry ty
  have hu : X.A.units < cLine := by
    have := hr.units
    omega
  exact PySem.W.cmp_K (op := .Eq) hu fr I.mod.kin J (Z.ty _ _ I.kIn pH) nf hm.at_ hm.fn (wpAny_mono (goIn (us := [.ref a, u]) (vs := [.ref a, y]) F hr I.env0 hb hd I (.cons rfl (.cons ry .nil)) q) (fun w s1 hw => back hw) fun _ _ z => z)
/-- the comparison by object.__ne__ and an own __eq__ -/
theorem ne_inK {prog : Program} {w : World} {A : Around} {E : Value → Shared → Prop} {s : Shared} {K : PySem.W.Frag} {x C f : Addr} {ox : Obj} {od : Option Obj} {b tb : Value} {Q : Value → Shared → Prop} (hu : A.units + 1 < cLine) (XK : K.In s.heap) (I : PySem.W.InstAt s.heap x ox C od)
    (hb : PySem.W.Looks (model prog w) s.heap (typeOf b) tb) (hn : PySem.W.notFirst K C tb = true) (hne : PySem.W.findIn K (.ref C) "__ne__" = some (some (.builtin "object.__ne__"))) (hob : PySem.W.mroIn K C (.type "object") = some true)
    (hs : PySem.W.findIn K (.ref C) "__eq__" = some (some (.ref f))) (hf : PySem.W.isFn K (.ref f) = true)
    (h : wpAny (model prog w) A.in1 (call (.ref f) [.ref x, b]) (fun v s' => ∃ c, v = .bool c ∧ Q (.bool (!c)) s') E s) : wpAny (model prog w) A (compareOp .NotEq (.ref x) b) Q E s := by
  have one : wpAny (model prog w) A (tryCompare (.ref x) "__ne__" b) (fun r s' => ∃ v, r = some v ∧ Q v s') E s := by
    unfold tryCompare
    refine wpAny_bind ?_
    simp only [callSpecialIfBound?, bindSpecialIfBound?]
    refine wpAny_holding (wpAny_bind (wpAny_bind (wpAny_bind (I.type.here ((PySem.W.looks_findIn XK hne).here ?_)))))
    refine wpAny_bind (wpAny_askSetting (wpAny_ite ?_))
    have body : wpAny (model prog w) A (call (.builtin "object.__ne__") ([.ref x] ++ [b])) (fun v s' => ∃ c, v = .bool c ∧ Q (.bool c) s') E s := by
      refine wpAny_call (codeAny_call_builtin F.cmp_object.ne.plain F.cmpEntry_ne ?_)
      have sub : PySem.W.Looks (model prog w) s.heap (isInstance (.ref x) (.type "object")) true := I.type.andThen (PySem.W.looks_mroIn XK hob)
      refine @PySem.W.check_slot (model prog w) _ _ _ "object.__ne__" "object" "__ne__" (.ref x) [b] [] _ F.cmpKind_ne F.cmpSplit_ne sub (F.cmpArgs_ne _ _) ?_
      unfold Builtin.«object.__ne__»
      refine wpAny_bind (wpAny_of_eq (a := ((Value.ref x : Value), [b])) (by first | rfl | (simp only [slotArgs]; rfl)) ?_)
      have hu1 : A.in1.units < cLine := hu
      refine wpAny_bind (wpAny_cRoomFor hu1 ?_)
      refine wpAny_bind (PySem.W.ifBound_K XK I hs hf (wpAny_mono h (fun v s' hv => ?_) fun _ _ z => z))
      obtain ⟨c, rfl, hq⟩ := hv
      refine wpAny_bind (wpAny_truthy_bool ?_)
      exact wpAny_pure ⟨_, rfl, hq⟩
    have fin : wpAny (model prog w) A (call (.builtin "object.__ne__") ([.ref x] ++ [b]) >>= fun v => Pure.pure (some v)) (fun r s' => ∃ c, r = some (.bool c) ∧ Q (.bool c) s') E s :=
      wpAny_bind (wpAny_mono body (fun v s' z => by
        obtain ⟨c, rfl, q⟩ := z
        exact wpAny_pure ⟨c, rfl, q⟩) fun _ _ z => z)
    rw [F.cmp_object.ne.bind]
    have fin2 : wpAny (model prog w) A (call (.builtin "object.__ne__") ([.ref x] ++ [b]) >>= fun v => Pure.pure (some v)) (fun r s' => wpAny (model prog w) A (match r with | some .notImplemented | none => Pure.pure none | some v => Pure.pure (some v)) (fun r s' => ∃ v, r = some v ∧ Q v s') E s') E s :=
      wpAny_mono fin (fun r s' z => by
        obtain ⟨c, rfl, q⟩ := z
        exact wpAny_pure ⟨_, rfl, q⟩) fun _ _ z => z
    split
    · refine wpAny_bind (wpAny_pure (wpAny_pure ?_))
      exact fin2
    · refine wpAny_tryCatch (wpAny_bind (wpAny_pure (wpAny_pure ?_)))
      exact fin2
  show wpAny (model prog w) A (richCompare .NotEq (.ref x) b) Q E s
  unfold richCompare
  simp only [oneThing_ref]
  have hu0 : A.units < cLine := by omega
  refine wpAny_holding (wpAny_bind (wpAny_cRoomFor hu0 ?_))
  refine wpAny_bind (I.type.here ?_)
  refine wpAny_bind (hb.here ?_)
  split
  · rename_i q
    have e : PySem.W.subIn K tb (.ref C) = some false := by
      rcases Bool.or_eq_true_iff.mp hn with e | e
      · rw [beq_iff_eq.mp e] at q
        simp at q
      · exact beq_iff_eq.mp e
    refine wpAny_bind ((PySem.W.looks_subIn XK e).here ?_)
    rw [if_neg Bool.false_ne_true]
    refine wpAny_bind (wpAny_mono one (fun r s' z => ?_) fun _ _ z => z)
    obtain ⟨v, rfl, q⟩ := z
    exact wpAny_pure q
  · refine wpAny_bind (wpAny_pure ?_)
    rw [if_neg Bool.false_ne_true]
    refine wpAny_bind (wpAny_mono one (fun r s' z => ?_) fun _ _ z => z)
    obtain ⟨v, rfl, q⟩ := z
    exact wpAny_pure q
theorem or_neO (D : Mtn X.prog X.w X.K X.mg X.base C "__eq__" k ps dvs sp) (hne : PySem.W.findIn X.K (.ref C) "__ne__" = some (some (.builtin "object.__ne__"))) (hob : PySem.W.mroIn X.K C (.type "object") = some true) (hr : RoomG (k + 1) X.A) :
    OpR X (compareOp .NotEq) (fun x y H Q => ∃ (a dx : Addr) (fs : List (Str × V)) (t : Value), x = .ref a ∧ H a = some (.ins C dx fs) ∧ TyX X.K H y t ∧ PySem.W.notFirst X.K C t = true ∧ sp (.ref a :: y :: dvs) H (fun v H' => ∃ b, v = .bl b ∧ Q (.bl (!b)) H') E0) := by
  obtain ⟨f, fd, ds, c, hm, F, hb, hd⟩ := D.ex
  intro pins s σ H x y v u Q I rx ry h
  obtain ⟨a, dx, fs, t, rfl, ea, ty, nf, q⟩ := h
  obtain rfl : v = Value.ref a := rx
  obtain ⟨ox, od, J⟩ := insAt I ea
  obtain ⟨PH, Z, pH, _⟩ := kit_of I ry ty
  refine ne_inK (hug hr) I.kIn J (Z.ty _ _ I.kIn pH) nf hne hob hm.at_ hm.fn (wpAny_mono (goIn (us := [.ref a, u]) (vs := [.ref a, y]) F hr.in1 I.env0.in1 hb hd I (.cons rfl (.cons ry .nil)) q) (fun w s1 hw => ?_) fun _ _ z => z)
  obtain ⟨t1, H1, I1, rt, b, rfl, q1⟩ := hw
  obtain rfl : w = Value.bool b := rt
  exact ⟨b, rfl, .bl (!b), H1, I1, rfl, q1⟩
/-! ### o * y, y of a built-in type -/
theorem op_ownT {op : Operator} {nm : Str} {T : String} {fo ro rc : Option Value} (D : Mtn X.prog X.w X.K X.mg X.base C nm k ps dvs sp) (e : PySem.dunder op.info.2 = nm) (hc : PySem.W.selfFirst X.K C = true) (hr : RoomG k X.A)
    (h0 : PySem.W.findIn X.K (.ref C) (dunderR op.info.2) = some rc) (hp : rc = none ∨ ∃ g : Addr, rc = some (.ref g)) (h1 : PySem.W.findIn X.K (.type T) (PySem.dunder op.info.2) = some fo) (h2 : PySem.W.findIn X.K (.type T) (dunderR op.info.2) = some ro) (h3 : PySem.W.subIn X.K (.type T) (.ref C) = some false)
    (hT : ∀ y u, L2.RelV y u → (∃ i, y = .int i) → typeOf u = Pure.pure (.type T)) :
    OpR X (binaryOp op) (fun x y H Q => ∃ a dx fs, x = .ref a ∧ H a = some (.ins C dx fs) ∧ (∃ i, y = .int i) ∧ sp (.ref a :: y :: dvs) H Q E0) := by
  subst e
  obtain ⟨f, fd, ds, c, hm, F, hb, hd⟩ := D.ex
  intro pins s σ H x y v u Q I rx ry h
  obtain ⟨a, dx, fs, rfl, ea, hy, q⟩ := h
  obtain rfl : v = Value.ref a := rx
  obtain ⟨ox, od, J⟩ := insAt I ea
  obtain ⟨mf, fr⟩ := I.fr
  exact PySem.W.ksp_binT fr I.mod.kin J (hT _ _ ry hy) hc hm.at_ hm.fn h0 hp h1 h2 h3 (wpAny_mono (goIn (us := [.ref a, u]) (vs := [.ref a, y]) F hr I.env0 hb hd I (.cons rfl (.cons ry .nil)) q) (fun w s1 hw => back hw) fun _ _ z => z)
theorem typeOf_int {y : V} {u : Value} (r : L2.RelV y u) (h : ∃ i, y = .int i) : typeOf u = Pure.pure (.type "int") := by
  obtain ⟨i, rfl⟩ := h
  obtain ⟨t, rfl⟩ := (show ∃ t, u = Value.int i t from r)
  rfl
/-! ### i * o, by o's own __rmul__ -/
theorem insAt' {a dx : Addr} {fs : List (Str × V)} (I : Inv X pins σ H s) (e : H a = some (.ins C dx fs)) : ∃ od, PySem.W.InstAt s.heap a (PySem.W.instObj C dx) C (some od) := by
  obtain ⟨mA, O, _⟩ := ins_get I.hok e
  obtain ⟨od, J, _⟩ := O.look
  exact ⟨_, J⟩
theorem int_mul_own (i : Int) (t : Tok) (x C dx : Addr) : Meets (Builtin.«int.__mul__» ⟨[.int i t, .ref x], []⟩) (fun _ R s => s.heap.get? x = some (PySem.W.instObj C dx) ∧ R (.ok (.ret Value.notImplemented)) s) :=
  .of_wp fun prog w A R s h => by
    obtain ⟨hp, g, d, tk, os⟩ := s
    obtain ⟨hl, h⟩ := h
    unfold PySem.W.instObj at hl
    wp_walk
    exact ⟨_, rfl, h⟩
theorem rmul_inK {prog : Program} {w : World} {A : Around} {E : Value → Shared → Prop} {s : Shared} {K : PySem.W.Frag} {x C dx f f0 : Addr} {od : Option Obj} {i : Int} {t : Tok} {Q : Value → Shared → Prop} (XK : K.In s.heap) (I : PySem.W.InstAt s.heap x (PySem.W.instObj C dx) C od) (hc : PySem.W.selfFirst K C = true)
    (hs : PySem.W.findIn K (.ref C) "__mul__" = some (some (.ref f0))) (hr : PySem.W.findIn K (.ref C) "__rmul__" = some (some (.ref f))) (hf : PySem.W.isFn K (.ref f) = true) (hsub : PySem.W.subIn K (.ref C) (.type "int") = some false)
    (h : wpAny (model prog w) A (call (.ref f) [.ref x, .int i t]) (PySem.W.CmpBack Q) E s) : wpAny (model prog w) A (binaryOp .Mult (.int i t) (.ref x)) Q E s := by
  obtain ⟨cd, rest, hcd, hm⟩ := PySem.W.ksp_first hc
  have one := PySem.W.ksp_try XK I hr hf h
  have L2 := PySem.W.fills_K (M := model prog w) (nm := "mul") XK hcd hm hs
  unfold binaryOp
  refine wpAny_holding (wpAny_bind ?_)
  simp only [binaryOp1]
  refine wpAny_bind (wpAny_typeOf (typeIs_int s i t) (wpAny_bind (I.type.here (wpAny_bind (wpAny_of_eq F.fills_int_mul ?_)))))
  have hne : (Value.type "int" == Value.ref C) = false := Bool.eq_false_iff.mpr fun q => by cases beq_iff_eq.mp q
  rw [if_neg (by rw [hne]; exact Bool.false_ne_true)]
  refine wpAny_bind (L2.here ?_)
  rw [if_pos (show (true && true) = true from rfl)]
  refine wpAny_bind ((PySem.W.looks_subIn XK hsub).here ?_)
  rw [if_neg Bool.false_ne_true]
  simp only [Bool.not_false, Bool.and_self, if_true]
  have hpy : numberSlotInPython (.type "int") "mul" = Pure.pure false := rfl
  rw [hpy]
  simp only [pure_bind, Bool.false_eq_true, if_false]
  have dec : wpAny (model prog w) A (call (.builtin "int.__mul__") [.int i t, .ref x]) (fun v s' => v = .notImplemented ∧ s' = s) E s :=
    call_meets F.slot_int_mul (typeIs_int s i t) F.entry_int_mul (F.args_int_mul_2 _ _) (int_mul_own i t x C dx) ⟨I.at_, rfl, rfl⟩
  refine wpAny_bind (wpAny_tryMethod_declines (typeIs_int s i t) F.slot_int_mul (wpAny_mono dec (fun v s' z => ⟨z.1, ?_⟩) fun _ _ z => z))
  obtain ⟨_, rfl⟩ := z
  dsimp only
  refine wpAny_bind (wpAny_mono one (fun r s' z => ?_) fun _ _ z => z)
  obtain ⟨v, rfl, q⟩ := z
  refine wpAny_bind (wpAny_rule (wpAny_pure ?_))
  exact wpAny_pure q
theorem op_rmulO (D0 : ∃ f0 : Addr, PySem.W.findIn X.K (.ref C) "__mul__" = some (some (.ref f0))) (D : Mtn X.prog X.w X.K X.mg X.base C "__rmul__" k ps dvs sp) (hc : PySem.W.selfFirst X.K C = true) (hsub : PySem.W.subIn X.K (.ref C) (.type "int") = some false) (hr : RoomG k X.A) :
    OpR X (binaryOp .Mult) (fun x y H Q => ∃ (i : Int) (a dx : Addr) (fs : List (Str × V)), x = .int i ∧ y = .ref a ∧ H a = some (.ins C dx fs) ∧ sp (.ref a :: .int i :: dvs) H Q E0) := by
  obtain ⟨f0, h0⟩ := D0
  obtain ⟨f, fd, ds, c, hm, F, hb, hd⟩ := D.ex
  intro pins s σ H x y v u Q I rx ry h
  obtain ⟨i, a, dx, fs, rfl, rfl, ea, q⟩ := h
  obtain ⟨t, rfl⟩ := (show ∃ t, v = Value.int i t from rx)
  obtain rfl : u = Value.ref a := ry
  obtain ⟨od, J⟩ := insAt' I ea
  exact rmul_inK I.kIn J hc h0 hm.at_ hm.fn hsub (wpAny_mono (goIn (us := [.ref a, .int i t]) (vs := [.ref a, .int i]) F hr I.env0 hb hd I (.cons rfl (.cons ⟨t, rfl⟩ .nil)) q) (fun w s1 hw => back hw) fun _ _ z => z)
end
end My

namespace My
open PySem L2 PySem.Spec PyProof.Rows Sem
/-! ### calls with keywords -/
/-- a method as it is called with n values (itself among them) and keywords ks -/
structure Mtk (P : Program) (w : World) (K : PySem.W.Frag) (mg : Str → Option Value) (base : Heap) (C : Addr) (m : Str) (k : Nat) (n : Nat) (ks : List Str) (gV : List V → List V → List V) (sp : Sp) : Prop where
  ex : ∃ (f : Addr) (fd : FuncData) (ps : List Str) (g : List Value → List Value → List Value), Cls K C ∧ Meth K C m f ∧ FnG P w K mg base CX0 k f fd ps sp ∧ KBn K fd ps n ks g gV
/-- a class likewise, by its __init__ -/
structure Mkk (P : Program) (w : World) (K : PySem.W.Frag) (mg : Str → Option Value) (base : Heap) (x : Str) (C : Addr) (k : Nat) (n : Nat) (ks : List Str) (gV : List V → List V → List V) (sp : Sp) : Prop where
  ex : ∃ (f : Addr) (fd : FuncData) (ps : List Str) (g : List Value → List Value → List Value), Mk K C f ∧ FnG P w K mg base CX0 k f fd ps sp ∧ mg x = some (.ref C) ∧ KBn K fd ps n ks g gV
theorem kbn0 {K : PySem.W.Frag} {x qual : Str} {params : Arguments} {body : List Stmt} {scope : Scope} {f : Addr} {fd : FuncData} {ps : List Str} (F : FunD K x qual params body scope [] [] f fd) (n : Nat) (ks : List Str) (g : {α : Type} → List α → List α → List α)
    (hrel : ∀ {vs zs : List V} {us ws : List Value}, Vals vs us → Vals zs ws → Vals (g vs zs) (g us ws))
    (h : ∀ (kV doc pm : Value) (an : Option Addr) (cdv ct : Value) (us ws : List Value), us.length = n → ws.length = ks.length → bindArgs (PySem.W.fnOf x qual params body scope .none kV doc pm an cdv ct) ⟨us, ks.zip ws⟩ = Pure.pure (ps.zip (g us ws))) :
    KBn K fd ps n ks (fun us ws => g us ws) (fun vs zs => g vs zs) := by
  obtain ⟨oc, od, dV, kV, doc, pm, an, cdv, ct, osl, rfl, lk, hcd, hD, hK⟩ := F.ex
  rcases hD with ⟨_, rfl⟩ | ⟨z, _⟩
  · refine ⟨fun s us ws _ l1 l2 => ?_, fun r1 r2 => hrel r1 r2⟩
    refine BindsTo.of_looks fun M => ?_
    rw [h kV doc pm an cdv ct us ws l1 l2]
    exact .of_pure rfl
  · exact absurd rfl z
section
variable {X : Cx} {j k n : Nat} {C : Addr} {sp : Sp} {m x : Str} {ks : List Str} {gV : List V → List V → List V} {p pos apos : Pos} {o : Expr} {kws : List Keyword} {ta : TE} {t tk : TA} {pins : List (Addr × Obj)} {σ : L2.St} {H : Hp} {s : Shared}
theorem goKw {f : Addr} {fd : FuncData} {ps : List Str} {g : List Value → List Value → List Value} {Q : VK} {us ws : List Value} {vs zs : List V} (F : FnG X.prog X.w X.K X.mg X.base CX0 k f fd ps sp) (hr : RoomG k X.A) (hb : KBn X.K fd ps n ks g gV)
    (I : Inv X pins σ H s) (r : Vals vs us) (rz : Vals zs ws) (l1 : vs.length = n) (l2 : zs.length = ks.length) (h : sp (gV vs zs) H Q E0) : wpAny (model X.prog X.w) X.A (call (.ref f) us (ks.zip ws)) (EP X pins σ Q) X.xe s := by
  refine wpAny_call (codeAny_mono (F.go X.A X.stack s H ⟨us, ks.zip ws⟩ (g us ws) (gV vs zs) Q E0 hr I.env0 (hb.to s us ws I.kIn (r.length.symm.trans l1) (rz.length.symm.trans l2)) (hb.rel r rz) h) fun r s' hq => ?_)
  cases r with
  | error e => exact (show False from hq).elim
  | ok fl => cases fl with
    | ret u => exact I.after hq
    | next => exact (show False from hq).elim
    | brk => exact (show False from hq).elim
    | cont => exact (show False from hq).elim
/-- o.m(k = v, ..) -/
def tMethK (C : Addr) (m : Str) (l : Nat) (sp : Sp) (gV : List V → List V → List V) (ta : TE) (tk : TA) : TE := fun σ H Q => ta σ H fun y H1 => ∃ a dx fs, y = .ref a ∧ H1 a = some (.ins C dx fs) ∧ fs.lookup m = none ∧ tk σ H1 fun zs H2 => zs.length = l ∧ sp (gV [.ref a] zs) H2 Q E0
theorem pe_methK {pl : Sem Bool} (D : Mtk X.prog X.w X.K X.mg X.base C m k 1 ks gV sp) (he : PE X o ta) (hr : RoomG k X.A) (hkw : PK X kws tk) (hall : (backToKw pos (keywordEach kws X.env)).all (·.1.isSome) = true := by rfl) (hks : (backToKw pos (keywordEach kws X.env)).filterMap (·.1) = ks := by rfl)
    (hpl : ((backTo pos (starEach [] X.env)).any (fun q => q.1) || (backToKw pos (keywordEach kws X.env)).any (fun q => q.1.isNone)) = false := by rfl)
    (h3 : eval (.Call (.Attribute o m apos) [] kws pos) X.env = (do
      let v ← eval o X.env
      standAt apos.atName
      let (g, fst) ← holding [v] (getMethod v m pl)
      callWith pos g fst (backTo pos (starEach [] X.env)) (backToKw pos (keywordEach kws X.env))) := by rfl) : PE X (.Call (.Attribute o m apos) [] kws pos) (tMethK C m ks.length sp gV ta tk) := by
  obtain ⟨f, fd, ps, g, c, hm, F, hb⟩ := D.ex
  constructor
  intro pins s σ H Q I h
  refine PySem.W.methodCall_KW (pl := pl) (thn (he.run pins s σ H _ I h) ?_) h3
  rintro u s1 ⟨y, H1, I1, ry, a, dx, fs, rfl, ea, l, q⟩
  obtain rfl : u = Value.ref a := ry
  refine getmeth_ok I1 ea c hm l ?_
  refine PySem.W.callWith_KW0 (first := [.ref a]) (h₀ := X.base) I1.ok.mod.kin hm.kp hall ?_ hpl
  refine thn (hkw.run pos pins s1 σ H1 _ I1 q) fun ws s2 ⟨zs, H2, I2, rz, l2, q2⟩ => ⟨I2.kIn, ?_⟩
  rw [hks]
  exact goKw (us := [.ref a]) (vs := [.ref a]) F hr hb I2 (.cons rfl .nil) rz rfl l2 q2
/-- C(k = v, ..) -/
def tMakeKw (C : Addr) (l : Nat) (sp : Sp) (gV : List V → List V → List V) (tk : TA) : TE := fun σ H Q => tk σ H fun zs H2 => zs.length = l ∧ ∀ x dx, H2 x = none → H2 dx = none → dx ≠ x → sp (gV [.ref x] zs) (upd (upd H2 dx (.own x)) x (.ins C dx [])) (fun v H3 => v = .non ∧ Q (.ref x) H3) E0
theorem pe_makeKw (D : Mkk X.prog X.w X.K X.mg X.base x C k 1 ks gV sp) (hr : RoomG (k + 1) X.A) (hg : Gl X x) (hkw : PK X kws tk)
    (h1 : (backToKw pos (keywordEach kws X.env)).all (fun q => q.1.isSome) = true := by rfl)
    (h2 : (backToKw pos (keywordEach kws X.env)).filterMap (fun q => q.1) = ks := by rfl)
    (h3 : ((backTo pos (starEach [] X.env)).any (fun q => q.1) || (backToKw pos (keywordEach kws X.env)).any (fun q => q.1.isNone)) = false := by rfl) (h4 : (x == ("__debug__" : Str)) = false := by decide) :
    PE X (.Call (.Name x p) [] kws pos) (tMakeKw C ks.length sp gV tk) := by
  obtain ⟨f, fd, ps, g, M, F, hm, hb⟩ := D.ex
  refine ⟨fun pins s σ H Q I h => ?_⟩
  refine wpAny_Call_Name_kw (ld_glob I hg hm ?_ h4)
  have kin := I.ok.mod.kin
  refine PySem.W.callWith_KW0 (first := []) kin M.kp h1 ?_ h3
  refine thn (hkw.run pos pins s σ H _ I h) fun ws s2 ⟨zs, H2, I2, rz, l2, q2⟩ => ⟨I2.kIn, ?_⟩
  rw [h2]
  have hq := q2 (s2.heap.objs.size + 1) s2.heap.objs.size (I2.hok.fresh (Nat.le_succ _)) (I2.hok.fresh (Nat.le_refl _)) (Nat.ne_of_lt (Nat.lt_succ_self _))
  have I3 := Inv.made (C := C) I2
  have hr2 : RoomG k (X.A.under (.builtin "type.__call__" ⟨.ref C :: [], ks.zip ws⟩)) := ⟨hr.r.make C [] (ks.zip ws), hr.g⟩
  have r1 : Vals [V.ref (s2.heap.objs.size + 1)] [Value.ref (s2.heap.objs.size + 1)] := .cons rfl .nil
  refine wpAny_call (make_map (f := f) I2.kIn M.makes M.init (beq_iff_eq.mp M.fn) (codeAny_mono (F.go _ X.stack _ _ ⟨[Value.ref (s2.heap.objs.size + 1)], ks.zip ws⟩ (g [Value.ref (s2.heap.objs.size + 1)] ws) _ _ E0 hr2
    (I3.env0.make C [] (ks.zip ws)) (hb.to _ [Value.ref (s2.heap.objs.size + 1)] ws I3.kIn rfl (rz.length.symm.trans l2)) (hb.rel r1 rz) hq) fun r s' hq' => ?_))
  cases r with
  | error e => exact (show False from hq').elim
  | ok fl => cases fl with
    | ret u =>
      obtain ⟨v, H', I4, rv, ev, q3⟩ := I3.after hq'
      subst ev
      exact ⟨rv, V.ref (s2.heap.objs.size + 1), H', I4, rfl, q3⟩
    | next => exact (show False from hq').elim
    | brk => exact (show False from hq').elim
    | cont => exact (show False from hq').elim
end
end My

namespace My
open PySem L2 PySem.Spec PyProof.Rows Sem
section
variable {X : Cx} {j k n : Nat} {C : Addr} {sp : Sp} {ps : List Str} {dvs : List V} {pins : List (Addr × Obj)} {σ : L2.St} {H : Hp} {s : Shared}
/-! ### bool(o), by o's own __bool__ -/
theorem plain_bool_new : plainId "bool.__new__" = true := by decide +kernel
theorem call_boolO (D : Mtn X.prog X.w X.K X.mg X.base C "__bool__" k ps dvs sp) (hr : RoomG (k + 2) X.A) :
    CallR X (.type "bool") (fun xs H Q => ∃ a dx fs, xs = [.ref a] ∧ H a = some (.ins C dx fs) ∧ sp (.ref a :: dvs) H (fun v H' => ∃ b, v = .bl b ∧ Q (.bl b) H') E0) := by
  obtain ⟨f, fd, ds, c, hm, F, hb, hd⟩ := D.ex
  intro pins s σ H xs us Q I r h
  obtain ⟨a, dx, fs, rfl, ea, q⟩ := h
  rw [Vals.ref1 r]
  obtain ⟨ox, od, J⟩ := insAt I ea
  obtain ⟨mf, fr⟩ := I.fr
  refine callType_codes (Q₁ := fun obj s1 => ∃ b, obj = .bool b ∧ EP X pins σ Q (.bool b) s1) PySem.F.called_bool (PySem.F.typeCall_bool_1 _) PySem.F.entry_object_init ?_ fun obj s1 h1 => ?_
  · refine codeAny_of_tree ?_
    show wpAny _ X.A.in1.in1 (do checkBuiltinCall "bool.__new__" ⟨[.type "bool", .ref a], []⟩; again (.builtin "bool.__new__" ⟨[.type "bool", .ref a], []⟩)) _ _ s
    refine wpAny_bind (wpAny_of_eq (PySem.F.newCall_bool_1 _) (wpAny_pure ⟨plainId_quiet plain_bool_new _, codeAny_builtin PySem.F.entry_bool_new ?_⟩))
    rw [Around.under_plainId plain_bool_new _]
    have f1 := PySem.F.conv_sub_bool
    have tr : ∀ (Q' : Bool → Shared → Prop), (∀ b s', EP X pins σ Q (.bool b) s' → Q' b s') → wpAny (model X.prog X.w) X.A.in1.in1 (truthy (.ref a)) Q' (fun e s' => X.xe e s') s := fun Q' hq =>
      PySem.W.truthy_K fr I.mod.kin J hm.at_ hm.fn (wpAny_mono (goIn (us := [.ref a]) (vs := [.ref a]) F hr.in1.in1 I.env0.in1.in1 hb hd I (.cons rfl .nil) q) (fun w s1 hw => by
        obtain ⟨t, H1, I1, rt, b, rfl, q1⟩ := hw
        obtain rfl : w = Value.bool b := rt
        exact hq b s1 ⟨.bl b, H1, I1, rfl, q1⟩) fun _ _ z => z)
    unfold Builtin.«bool.__new__»
    repeat (any_goals (first | assumption | with_reducible refine wpAny_bind (tr _ ?_) | wp_step))
    intro b s' hb'
    exact wpAny_pure ⟨b, rfl, hb'⟩
  · obtain ⟨b, rfl, q1⟩ := h1
    refine ⟨show Shared.TypeIs s1 (.bool b) "bool" from PySem.typeIs_bool _ _, PySem.F.args_object_init_2 _ _, ?_⟩
    have f2 := PySem.F.called_bool.init.lookup
    have f3 := PySem.F.called_bool.made
    have f4 := PySem.F.newNe_bool
    unfold Builtin.«object.__init__»
    repeat (any_goals (first | assumption | wp_step))
    all_goals exact ⟨rfl, q1⟩
end
end My

namespace My
open PySem L2 PySem.Spec PyProof.Rows PySem.W Builtin Builtin.ObjectAttr
/-! ### own exception objects as values -/
/-- what the written part says of an own exception class with an __init__, over a built-in base -/
structure OexG (K : Frag) (C : Addr) : Prop where
  base : ∃ (B newId initId : String) (bmB : List Value), ExcBaseFacts B newId initId bmB ∧ StoreFacts B bmB "object.__setattr__" "object" ∧ excInitIn K C bmB newId = true ∧ excOver K C bmB = true
  hd : hasDictIn K C = true
  sa : findIn K (.ref C) "__setattr__" = some (some (.builtin "object.__setattr__"))
  kp : keepIn K (.ref C) = true
section
variable {prog : Program} {w : World} {A : Around} {R : Result → Shared → Prop} {hp : Heap} {g : Array GenState} {d : Drawn} {t : Nat} {os : OsState} {K : Frag}
theorem osaNew {B : String} {bmB : List Value} {name : Str} {tk : Tok} {v : Value} {x C : Addr} {fv : Array Value} (SF : StoreFacts B bmB "object.__setattr__" "object") (X : K.In hp) (hx : hp.get? x = some { cls := .ref C, data := .fields fv }) (ov : excOver K C bmB = true) (hh : hasDictIn K C = true)
    (ha : NoAttr K C name)
    (hq : ∀ h' tk' dx, (∀ b o, b ≠ x → hp.get? b = some o → h'.get? b = some o) → hp.objs.size ≤ dx → dx ≠ x → h'.get? x = some { cls := .ref C, dict := some dx, data := .fields fv } → h'.Ns1 dx (fun y => if y = name then some v else none) → R (.ok (.ret .none)) ⟨h', g, d, tk', os⟩) :
    codeAny (model prog w) A (.call (.builtin "object.__setattr__") ⟨[.ref x, .str name tk, v], []⟩) R ⟨hp, g, d, t, os⟩ := by
  have I : InstAt hp x { cls := .ref C, data := .fields fv } C none := ⟨hx, rfl, rfl, trivial⟩
  obtain ⟨cd, hc, hdct⟩ := any_some hh
  have hxs : x ≠ hp.objs.size := Nat.ne_of_lt (Heap.lt_size hx)
  have Lc : Looks (model prog w) hp (classData C) cd := looks_clsIn X hc
  refine osa_openX SF X I ov ha.taker fun b => ?_
  show wpAny _ _ (storeInOwnDict (.ref x) (.ref C) (.str name tk) name v b) _ _ _
  obtain ⟨nm, bs, mro, ns, qn, hd, sn, sb, ab, col, del⟩ := cd
  dsimp only at hdct
  subst hdct
  unfold storeInOwnDict ownDictForStores
  repeat (first | with_reducible refine HandSPX.store_in_new ?_ ?_ | with_reducible refine wpAny_loadPart_at hx ?_ | with_reducible refine Lc.at ?_ | wp_step)
  · exact ⟨_, #[], _, (Heap.get?_update_ne _ _ _ _ hxs.symm).trans (Heap.get?_push_at rfl rfl), rfl, fun e he => absurd he (by simp), fun _ => rfl⟩
  · intro h' tk' hn' hs
    have hx1 : (hp.push { cls := .type "dict", data := .dict #[] }).get? x = some { cls := .ref C, data := .fields fv } := Heap.get?_push_of_some _ hx
    refine hq h' tk' hp.objs.size (fun b o nb ho => ?_) (Nat.le_refl _) hxs.symm ((hs.2 x hxs).trans (Heap.get?_update_self _ hx1 rfl)) hn'
    have nb2 : b ≠ hp.objs.size := Nat.ne_of_lt (Heap.lt_size ho)
    exact (hs.2 b nb2).trans ((Heap.get?_update_ne _ _ _ _ nb).trans (Heap.get?_push_of_some _ ho))
theorem osaOld {B : String} {bmB : List Value} {name : Str} {tk : Tok} {v : Value} {x C dx : Addr} {fv : Array Value} {m0 : Str → Option Value} {nl : List Str} (SF : StoreFacts B bmB "object.__setattr__" "object") (X : K.In hp) (hx : hp.get? x = some { cls := .ref C, dict := some dx, data := .fields fv })
    (hns : hp.Ns1 dx m0) (hw : Within m0 nl) (hz : nl.length ≤ 1000) (ov : excOver K C bmB = true) (hh : hasDictIn K C = true) (ha : NoAttr K C name)
    (hq : ∀ h' tk', (∀ b o, b ≠ dx → hp.get? b = some o → h'.get? b = some o) → h'.Ns1 dx (fun y => if y = name then some v else m0 y) → R (.ok (.ret .none)) ⟨h', g, d, tk', os⟩) :
    codeAny (model prog w) A (.call (.builtin "object.__setattr__") ⟨[.ref x, .str name tk, v], []⟩) R ⟨hp, g, d, t, os⟩ := by
  obtain ⟨oD, esD, epD, hoD, hdD, _⟩ := hns.count hw
  have I : InstAt hp x { cls := .ref C, dict := some dx, data := .fields fv } C (some oD) := ⟨hx, rfl, rfl, hoD⟩
  obtain ⟨cd, hc, hdct⟩ := any_some hh
  have Lc : Looks (model prog w) hp (classData C) cd := looks_clsIn X hc
  refine osa_openX SF X I ov ha.taker fun b => ?_
  show wpAny _ _ (storeInOwnDict (.ref x) (.ref C) (.str name tk) name v b) _ _ _
  obtain ⟨nm, bs, mro, ns, qn, hd, sn, sb, ab, col, del⟩ := cd
  dsimp only at hdct
  subst hdct
  unfold storeInOwnDict ownDictForStores
  repeat (first | with_reducible refine OEX.store_in_old hns hw hz ?_ | with_reducible refine wpAny_loadPart_at hx ?_ | with_reducible refine Lc.at ?_ | wp_step)
  intro h' tk' hn' hs
  exact hq h' tk' (fun b o nb ho => (hs.2 b nb).trans ho) hn'
end
section
variable {X : Cx} {pins : List (Addr × Obj)} {σ : L2.St} {H : Hp} {s : Shared} {a C dx : Addr} {f : Str} {y : V} {u : Value} {fs : List (Str × V)} {Q : Unit → Shared → Prop} {E : Value → Shared → Prop} {A : Around}
/-- a.f = y, the first field -/
theorem ostNew (T : OexG X.K C) (I : Inv X pins σ H s) (e : H a = some (exo a C none)) (hno : NoAttr X.K C f) (ry : L2.RelV y u)
    (h : ∀ dx s', H dx = none → dx ≠ a → Inv X pins σ (L2.upd (L2.upd H dx (exd dx [(f, y)])) a (exo a C (some dx))) s' → Q () s') : wpAny (model X.prog X.w) A (setAttr (.ref a) f u) Q E s := by
  obtain ⟨B, ni, ii, bmB, FB, SF, ini, ov⟩ := T.base
  obtain ⟨t1, ho⟩ := exo_at I.hok e
  obtain ⟨hp, g, d, t, os⟩ := s
  refine set_plain I.kIn (ox := { cls := .ref C, dict := none, data := .fields #[.ref t1, .none, .none, .none, .bool false, .none] }) (od := none) ⟨ho, rfl, rfl, trivial⟩ T.sa ?_
  refine osaNew SF I.kIn ho ov T.hd hno fun h' tk' dx k dn dne hx hn => ?_
  have hnd : H dx = none := I.hok.fresh dn
  have nd : ∀ {b : Addr} {o : Obj}, hp.get? b = some o → b ≠ dx := fun {b o} q => Nat.ne_of_lt (Nat.lt_of_lt_of_le (Heap.lt_size q) dn)
  have na : ∀ {b : Addr}, H b = none → b ≠ a := fun {b} n z => by
    rw [z, e] at n
    cases n
  have U : Un X.fs [] H (L2.upd (L2.upd H dx (exd dx [(f, y)])) a (exo a C (some dx))) hp h' := by
    constructor
    · intro b o q n _ _
      exact k b o (na n) q
    · intro b o q n _ _
      exact ⟨o.slots, k b o (na n) q⟩
    · intro b o q n _
      rw [upd_ne (na n), upd_ne (nd q)]
      exact n
    · intro b o q _
      by_cases hb : b = a
      · exact ⟨_, by rw [hb]; exact hx⟩
      · exact ⟨o, k b o hb q⟩
    · intro b xs q
      rw [upd_ne (at_ne e q exo_tup), upd_ne (ne_of_none q hnd)]
      exact q
    · intro b o v q
      rw [upd_ne (at_ne e q exo_frz), upd_ne (ne_of_none q hnd)]
      exact q
    · intro b ps q
      exact ⟨#[], by rw [upd_ne (at_ne e q exo_tbl), upd_ne (ne_of_none q hnd), q]; simp⟩
  refine h dx _ hnd dne (I.un (t' := tk') U fun b o q => ?_)
  by_cases hb : b = a
  · subst hb
    rw [upd_same] at q
    cases q
    exact exo_ok hx
  rw [upd_ne hb] at q
  by_cases hd : b = dx
  · subst hd
    rw [upd_same] at q
    cases q
    exact exd_ok hn (relO_put (fs := []) ry fun g => True.intro)
  rw [upd_ne hd] at q
  refine (I.hok b o q).stay (fun c v hc z => k c v ?_ z) (fun c hc => ?_) fun c xs hc => ?_
  · rcases hc with hc | hc
    · rw [hc]
      exact hb
    · exact at_ne e hc exo_own
  · rw [upd_ne (at_ne e hc exo_own), upd_ne (ne_of_none hc hnd)]
    exact hc
  · rw [upd_ne (at_ne e hc exo_tup), upd_ne (ne_of_none hc hnd)]
    exact hc
/-- a.f = y, a further field -/
theorem ostOld (T : OexG X.K C) (I : Inv X pins σ H s) (e : H a = some (exo a C (some dx))) (ed : H dx = some (exd dx fs)) (hl : fs.length ≤ 900) (hno : NoAttr X.K C f) (ry : L2.RelV y u)
    (h : ∀ s', Inv X pins σ (L2.upd H dx (exd dx ((f, y) :: fs))) s' → Q () s') : wpAny (model X.prog X.w) A (setAttr (.ref a) f u) Q E s := by
  obtain ⟨B, ni, ii, bmB, FB, SF, ini, ov⟩ := T.base
  obtain ⟨t1, ho⟩ := exo_at I.hok e
  obtain ⟨mA, hns, rel⟩ := exd_at I.hok ed
  have hw := within_of rel
  obtain ⟨hp, g, d, t, os⟩ := s
  obtain ⟨oD, _, _, hoD, _, _⟩ := hns.count hw
  refine set_plain I.kIn (ox := { cls := .ref C, dict := some dx, data := .fields #[.ref t1, .none, .none, .none, .bool false, .none] }) (od := some oD) ⟨ho, rfl, rfl, hoD⟩ T.sa ?_
  refine osaOld SF I.kIn ho hns hw (by rw [List.length_map]; omega) ov T.hd hno fun h' tk' k hn => ?_
  have hd : ∃ o, h'.get? dx = some o := by
    obtain ⟨o, _, _, e', _⟩ := hn
    exact ⟨o, e'⟩
  exact h _ (I.write (t' := tk') (x := dx) (e := dx) (o := exd dx ((f, y) :: fs)) (by rw [ed]; exact True.intro) (.inl rfl) k hd (exd_ok hn (relO_put ry rel)))
end
section
variable {X : Cx} {o e : Expr} {es : List Expr} {to te : TE} {ta tk : TA} {f m : Str} {p p' pos : Pos} {pins : List (Addr × Obj)} {σ : L2.St} {H : Hp} {s : Shared}
/-- self.f = e of an exception that is being made -/
def tOstG (K : Frag) (f : Str) (to te : TE) : TS := fun D σ H => te σ H fun y H1 => to σ H1 fun x H2 => ∃ a C : Addr, x = .ref a ∧ OexG K C ∧ NoAttr K C f ∧
  ((H2 a = some (exo a C none) ∧ ∀ dx, H2 dx = none → dx ≠ a → D.nx σ (L2.upd (L2.upd H2 dx (exd dx [(f, y)])) a (exo a C (some dx)))) ∨
    ∃ (dx : Addr) (fs : List (Str × V)), H2 a = some (exo a C (some dx)) ∧ H2 dx = some (exd dx fs) ∧ fs.length ≤ 900 ∧ D.nx σ (L2.upd H2 dx (exd dx ((f, y) :: fs))))
theorem ps_ostG (ho : PE X o to) (he : PE X e te) (hs : swapsWith e (some (.Attribute o f p')) pos.line X.env = pure false := by rfl) : PS X (.Assign [.Attribute o f p'] e pos) (tOstG X.K f to te) := by
  constructor
  intro pins s σ H D I h
  refine plainObj_wpAny_Assign_Attribute (thn (he.run pins s σ H _ I h) fun v s1 z1 => ?_) hs
  obtain ⟨y, H1, I1, r1, q1⟩ := z1
  refine thn (ho.run pins s1 σ H1 _ I1 q1) fun u s2 z2 => ?_
  obtain ⟨x, H2, I2, r2, a, C, ex, T, hno, q⟩ := z2
  subst ex
  cases (show u = Value.ref a from r2)
  rcases q with ⟨ea, q⟩ | ⟨dx, fs, ea, ed, hl, q⟩
  · exact ostNew T I2 ea hno r1 fun dx s' n ne J => ⟨σ, _, J, q dx n ne⟩
  · exact ostOld T I2 ea ed hl hno r1 fun s' J => ⟨σ, _, J, q⟩
end
/-- an own exception class by its name, with its __init__ -/
structure Exn (P : Program) (w : World) (K : Frag) (mg : Str → Option Value) (base : Heap) (x : Str) (C : Addr) (k : Nat) (ps : List Str) (sp : Sp) : Prop where
  ex : ∃ (f : Addr) (fd : FuncData), OexG K C ∧ findIn K (.ref C) "__init__" = some (some (.ref f)) ∧ isFn K (.ref f) = true ∧ FnG P w K mg base CX0 k f fd ps sp ∧ mg x = some (.ref C) ∧ Binds K fd ps []
/-- C(e, ..): the exception object, then its __init__ -/
def tMkE (C : Addr) (sp : Sp) (ta : TA) : TE := fun σ H Q => ta σ H fun vs H1 => vs.length ≤ 1000 ∧ ∀ a, H1 a = none → sp (.ref a :: vs) (L2.upd H1 a (exo a C none)) (fun v H2 => v = .non ∧ Q (.ref a) H2) E0
section
variable {X : Cx} {k : Nat} {C : Addr} {x : Str} {ps : List Str} {sp : Sp} {e : Expr} {es : List Expr} {ta : TA} {p pos : Pos}
theorem pe_mkE (D : Exn X.prog X.w X.K X.mg X.base x C k ps sp) (hr : RoomG (k + 1) X.A) (hg : Gl X x) (ha : PA X (e :: es) ta)
    (h1 : (x == ("__debug__" : Str)) = false := by decide) (h2 : starEach (e :: es) X.env = (false, eval e X.env) :: starEach es X.env := by rfl) (h3 : (backTo pos (starEach es X.env)).any (fun q => q.1) = false := by rfl) :
    PE X (.Call (.Name x p) (e :: es) [] pos) (tMkE C sp ta) := by
  obtain ⟨f, fd, T, iC, fC, F, hm, hb⟩ := D.ex
  obtain ⟨B, ni, ii, bmB, FB, SF, ini, ov⟩ := T.base
  constructor
  intro pins s σ H Q I h
  refine wpAny_Call_Name_kw (ld_glob I hg hm ?_ h1)
  refine callWith_K (h₀ := X.base) I.ok.mod.kin T.kp (thn (ha.run pos pins s σ H _ I h) fun us s1 z => ?_) h2 h3
  obtain ⟨vs, H1, I1, r1, hz, q1⟩ := z
  refine ⟨I1.kIn, ?_⟩
  show wpAny _ _ (call (.ref C) us) _ _ _
  obtain ⟨hp, g, dr, tk, os⟩ := s1
  obtain ⟨nm, N, qn, bs, bm, hdct, sn, sub, ab, col, dd, k0, k1, k2, k3, k5, hC, hT⟩ := excInit_of I1.kIn ini
  have hsz : hp.objs.size ≤ hp.objs.size + 1 := Nat.le_succ _
  have hn : H1 (hp.objs.size + 1) = none := I1.hok.fresh hsz
  have hq := q1 (hp.objs.size + 1) hn
  have kk : ∀ b o, hp.get? b = some o → ((hp.push (kdv_tup us)).push (HandSPX.excO C hp.objs.size)).get? b = some o := fun b o z => Heap.get?_push_of_some _ (Heap.get?_push_of_some _ z)
  have hget : ((hp.push (kdv_tup us)).push (HandSPX.excO C hp.objs.size)).get? (hp.objs.size + 1) = some (HandSPX.excO C hp.objs.size) := by heap_get
  have I2 : Inv X pins σ (L2.upd H1 (hp.objs.size + 1) (exo (hp.objs.size + 1) C none)) ⟨(hp.push (kdv_tup us)).push (HandSPX.excO C hp.objs.size), g, dr, tk, os⟩ := I1.laid (t' := tk) kk hsz (exo_ok hget)
  have r2 : Vals (V.ref (hp.objs.size + 1) :: vs) (Value.ref (hp.objs.size + 1) :: us) := .cons rfl r1
  have hl : (Value.ref (hp.objs.size + 1) :: us ++ []).length = ps.length := by
    have z := r2.length
    rw [F.len _ _ _ _ hq] at z
    rw [List.append_nil]
    exact z.symm
  have hus : us.length ≤ sizeLine := by
    rw [← r1.length, sizeLine_eq]
    omega
  have bd := hb _ (Value.ref (hp.objs.size + 1) :: us) I2.kIn hl
  rw [List.append_nil] at bd
  have hr2 : RoomG k (X.A.under (.builtin "type.__call__" ⟨.ref C :: us, []⟩)) := ⟨hr.r.make C us [], hr.g⟩
  refine wpAny_call (HandSPX.call_own FB hT hC (looks_findIn I1.kIn iC) (fun self => bind_fn I1.kIn self (beq_iff_eq.mp fC)) hus
    (codeAny_mono (F.go _ X.stack _ _ ⟨Value.ref (hp.objs.size + 1) :: us, []⟩ _ _ _ E0 hr2 (I2.env0.make C us []) bd r2 hq) fun r s' hq' => ?_))
  cases r with
  | error er => exact (show False from hq').elim
  | ok fl => cases fl with
    | ret u =>
      obtain ⟨v, H', I3, rv, ev, q3⟩ := I2.after hq'
      subst ev
      exact ⟨rv, V.ref (hp.objs.size + 1), H', I3, rfl, q3⟩
    | next => exact (show False from hq').elim
    | brk => exact (show False from hq').elim
    | cont => exact (show False from hq').elim
end
end My

namespace My
open PySem L2 PySem.Spec PyProof.Rows PySem.W Builtin Builtin.ObjectAttr
/-! ### an exception class called with keywords alone -/
section
variable {M : Model} {A : Around} {E : Value → Shared → Prop} {h : Heap} {g : Array GenState} {d : Drawn} {t : Nat} {os : OsState}
variable {nm q : Str} {C N : Addr} {bs bm bmB : List Value} {hdct : Bool} {sn : List Str} {sub : List Value} {ab : Bool} {col : Option Bool} {dd : Option Addr} {k0 k1 k2 k3 k5 : Option Value} {B newId initId : String} {kw : List (Str × Value)}
theorem kwCheck (FB : ExcBaseFacts B newId initId bmB) (hT : ∀ X : String, bm.contains (.type X) = bmB.contains (.type X)) {Q : Unit → Shared → Prop}
    (hC : h.get? C = some (excClassObj nm q C N bs bm hdct sn sub ab col dd k0 k1 k2 k3 k5 newId)) (hq : Q () ⟨h, g, d, t, os⟩) : wpAny M A (checkBuiltinCall newId ⟨[.ref C], kw⟩) Q E ⟨h, g, d, t, os⟩ := by
  have hB : (Value.ref C :: bm).contains (.type B) = true := by
    rw [List.contains_cons, hT, FB.hasB, Bool.or_true]
  have st := FB.noStar
  simp only [checkBuiltinCall, FB.newKind, FB.newSplit, FB.newRow]
  repeat (first | refine wpAny_loadPart_at hC ?_ | (refine wpAny_isSubtype_exc hC ?_; rw [hB]) | refine wpAny_staticBase_exc hC ?_ | refine wpAny_madeBy_exc hC ?_ | simp only [bne_self_eq_false, Bool.false_eq_true, if_false] | wp_step)
  exact hq
end
section
variable {prog : Program} {w : World} {A : Around} {E : Value → Shared → Prop} {R : Result → Shared → Prop} {h : Heap} {g : Array GenState} {d : Drawn} {t : Nat} {os : OsState}
variable {nm q : Str} {C N : Addr} {bs bm bmB : List Value} {hdct : Bool} {sn : List Str} {sub : List Value} {ab : Bool} {col : Option Bool} {dd : Option Addr} {k0 k1 k2 k3 k5 : Option Value} {B newId initId : String} {kw : List (Str × Value)}
theorem kwNew (FB : ExcBaseFacts B newId initId bmB) (hT : ∀ X : String, bm.contains (.type X) = bmB.contains (.type X)) (hC : h.get? C = some (excClassObj nm q C N bs bm hdct sn sub ab col dd k0 k1 k2 k3 k5 newId))
    (hq : R (.ok (.ret (.ref (h.objs.size + 1)))) ⟨(h.push (kdv_tup [])).push (HandSPX.excO C h.objs.size), g, d, t, os⟩) :
    codeAny (model prog w) A (.builtin newId ⟨[.ref C], kw⟩) R ⟨h, g, d, t, os⟩ := by
  have en := FB.ends
  have hB : (Value.ref C :: bm).contains (.type B) = true := by
    rw [List.contains_cons, hT, FB.hasB, Bool.or_true]
  have hA : (Value.ref C :: bm).contains (.type "AttributeError") = false := by
    rw [List.contains_cons, hT, FB.noAttr]
    rfl
  have hN : (Value.ref C :: bm).contains (.type "NameError") = false := by
    rw [List.contains_cons, hT, FB.noName]
    rfl
  refine codeAny_builtinAt FB.entry ?_
  unfold Builtin.«BaseException.__new__»
  refine PySem.wpAt_bind ?_
  show PySem.wpAt _ _ _ (stack >>= _) _ _ _
  refine PySem.wpAt_bind (PySem.wpAt_stack fun p below => PySem.wpAt_of_wpAny ?_)
  wp_walk
  refine PySem.wpAt_of_wpAny ?_
  rw [FB.owner]
  repeat (first | with_reducible refine wpAny_madeHere_exc FB.canon hC ?_ | with_reducible refine wpAny_loadPart_at hC ?_ | (with_reducible refine wpAny_isSubtype_exc hC ?_; first | rw [hB] | rw [hA] | rw [hN]) | wp_step)
  show R _ _
  rw [Heap.size_push]
  exact hq
theorem kwType (FB : ExcBaseFacts B newId initId bmB) (hT : ∀ X : String, bm.contains (.type X) = bmB.contains (.type X)) {fI : Addr} {Q : PySem.Fin → Shared → Prop}
    (hC : h.get? C = some (excClassObj nm q C N bs bm hdct sn sub ab col dd k0 k1 k2 k3 k5 newId)) (hi : Looks (model prog w) h (typeLookup (.ref C) "__init__") (some (.ref fI))) (hb : ∀ self, Looks (model prog w) h (bindSpecial (.ref fI) self) (.ref fI, [self]))
    (hq : codeAny (model prog w) A (.call (.ref fI) ⟨[.ref (h.objs.size + 1)], kw⟩) (fun r s' => match r with | .ok (.ret v) => v = .none ∧ Q (.done (.ret (.ref (h.objs.size + 1)))) s' | .ok _ => False | .error e => E e s')
      ⟨(h.push (kdv_tup [])).push (HandSPX.excO C h.objs.size), g, d, t, os⟩) :
    wpAny (model prog w) A (Builtin.«type.__call__» ⟨[.ref C], kw⟩) Q E ⟨h, g, d, t, os⟩ := by
  repeat (first | with_reducible refine wpAny_loadPart_at hC ?_ | with_reducible refine wpAny_madeBy_exc hC ?_ | wp_step)
  refine codeAny_call_builtin_code (Code.quiet_builtin _ FB.quiet) (kwCheck FB hT hC ?_)
  refine kwNew FB hT hC ?_
  show wpAny _ _ _ _ _ _
  have k : ∀ b o, h.get? b = some o → ((h.push (kdv_tup [])).push (HandSPX.excO C h.objs.size)).get? b = some o := fun b o z => Heap.get?_push_of_some _ (Heap.get?_push_of_some _ z)
  have hC1 := k _ _ hC
  have hget : ((h.push (kdv_tup [])).push (HandSPX.excO C h.objs.size)).get? (h.objs.size + 1) = some (HandSPX.excO C h.objs.size) := by heap_get
  have hcC : (Value.ref C :: bm).contains (.ref C) = true := by simp
  have i1 := hi.keeps k
  have b1 := (hb (.ref (h.objs.size + 1))).keeps k
  unfold isInstance
  repeat (first | with_reducible refine wpAny_loadPart_at hget ?_ | (with_reducible refine wpAny_isSubtype_exc hC1 ?_; rw [hcC]) | wp_step)
  show wpAny _ _ (typeLookup (.ref C) _) _ _ _
  refine i1.at (wpAny_holding (wpAny_bind (b1.at ?_)))
  refine wpAny_bind (wpAny_call (codeAny_mono hq fun r s' z => ?_))
  rcases r with e | (v | _ | _ | _) <;> first | exact z | exact z.elim | skip
  obtain ⟨rfl, z⟩ := z
  first
    | exact wpAny_pure (wpAny_pure z)
    | (wp_walk; exact z)
theorem kwTop {Q : Unit → Shared → Prop} (hC : h.get? C = some (excClassObj nm q C N bs bm hdct sn sub ab col dd k0 k1 k2 k3 k5 newId)) (hq : Q () ⟨h, g, d, t, os⟩) : wpAny (model prog w) A (checkBuiltinCall "type.__call__" ⟨[.ref C], kw⟩) Q E ⟨h, g, d, t, os⟩ := by
  have f3 := tc_sub
  have hTy : (⟨h, g, d, t, os⟩ : Shared).TypeIs (.ref C) "type" := ⟨_, hC, rfl⟩
  simp only [checkBuiltinCall, tc_kind, tc_split]
  repeat (any_goals (first | assumption | with_reducible refine wpAny_loadPart_at hC ?_ | with_reducible refine wpAny_onRaise ?_ | with_reducible refine wpAny_map ?_ | wp_step))
theorem kwCall (FB : ExcBaseFacts B newId initId bmB) (hT : ∀ X : String, bm.contains (.type X) = bmB.contains (.type X)) {fI : Addr}
    (hC : h.get? C = some (excClassObj nm q C N bs bm hdct sn sub ab col dd k0 k1 k2 k3 k5 newId)) (hi : Looks (model prog w) h (typeLookup (.ref C) "__init__") (some (.ref fI))) (hb : ∀ self, Looks (model prog w) h (bindSpecial (.ref fI) self) (.ref fI, [self]))
    (hq : codeAny (model prog w) (A.under (.builtin "type.__call__" ⟨[.ref C], kw⟩)) (.call (.ref fI) ⟨[.ref (h.objs.size + 1)], kw⟩) (InitBack (h.objs.size + 1) R) ⟨(h.push (kdv_tup [])).push (HandSPX.excO C h.objs.size), g, d, t, os⟩) :
    codeAny (model prog w) A (.call (.ref C) ⟨[], kw⟩) R ⟨h, g, d, t, os⟩ := by
  have f1 := tc_lookup
  have f2 := tc_bind (.ref C)
  have hTy : (⟨h, g, d, t, os⟩ : Shared).TypeIs (.ref C) "type" := ⟨_, hC, rfl⟩
  refine codeAny_of_tree ?_
  show wpAny _ _ (callAny (.ref C) _) _ _ _
  repeat (any_goals (first | assumption | with_reducible refine wpAny_loadPart_at hC ?_ | wp_step))
  refine ⟨rfl, codeAny_call_builtin_at (Code.quiet_builtin _ (by decide +kernel)) entry_typeCall (kwTop hC (kwType FB hT hC hi hb ?_))⟩
  refine codeAny_mono hq fun r s' z => ?_
  rcases r with e | (v | _ | _ | _) <;> exact z
end
end My

namespace My
open PySem L2 PySem.Spec PyProof.Rows PySem.W Builtin Builtin.ObjectAttr
/-! ### C(k = v, ..) of an exception class -/
structure Exk (P : Program) (w : World) (K : Frag) (mg : Str → Option Value) (base : Heap) (x : Str) (C : Addr) (k : Nat) (ks : List Str) (gV : List V → List V → List V) (sp : Sp) : Prop where
  ex : ∃ (f : Addr) (fd : FuncData) (ps : List Str) (g : List Value → List Value → List Value), OexG K C ∧ findIn K (.ref C) "__init__" = some (some (.ref f)) ∧ isFn K (.ref f) = true ∧ FnG P w K mg base CX0 k f fd ps sp ∧ mg x = some (.ref C) ∧ KBn K fd ps 1 ks g gV
def tMkEK (C : Addr) (l : Nat) (sp : Sp) (gV : List V → List V → List V) (tk : TA) : TE := fun σ H Q => tk σ H fun zs H1 => zs.length = l ∧ ∀ a, H1 a = none → sp (gV [.ref a] zs) (L2.upd H1 a (exo a C none)) (fun v H2 => v = .non ∧ Q (.ref a) H2) E0
section
variable {X : Cx} {k : Nat} {C : Addr} {x : Str} {ks : List Str} {gV : List V → List V → List V} {sp : Sp} {kws : List Keyword} {tk : TA} {p pos : Pos}
theorem pe_mkEK (D : Exk X.prog X.w X.K X.mg X.base x C k ks gV sp) (hr : RoomG (k + 1) X.A) (hg : Gl X x) (hkw : PK X kws tk)
    (h1 : (backToKw pos (keywordEach kws X.env)).all (fun q => q.1.isSome) = true := by rfl)
    (h2 : (backToKw pos (keywordEach kws X.env)).filterMap (fun q => q.1) = ks := by rfl)
    (h3 : ((backTo pos (starEach [] X.env)).any (fun q => q.1) || (backToKw pos (keywordEach kws X.env)).any (fun q => q.1.isNone)) = false := by rfl) (h4 : (x == ("__debug__" : Str)) = false := by decide) :
    PE X (.Call (.Name x p) [] kws pos) (tMkEK C ks.length sp gV tk) := by
  obtain ⟨f, fd, ps, gg, T, iC, fC, F, hm, hb⟩ := D.ex
  obtain ⟨B, ni, ii, bmB, FB, SF, ini, ov⟩ := T.base
  constructor
  intro pins s σ H Q I h
  refine wpAny_Call_Name_kw (ld_glob I hg hm ?_ h4)
  have kin := I.ok.mod.kin
  refine callWith_KW0 (first := []) kin T.kp h1 ?_ h3
  refine thn (hkw.run pos pins s σ H _ I h) fun ws s1 z => ?_
  obtain ⟨zs, H1, I1, rz, l2, q1⟩ := z
  refine ⟨I1.kIn, ?_⟩
  rw [h2]
  obtain ⟨hp, g, dr, tt, os⟩ := s1
  obtain ⟨nm, N, qn, bs, bm, hdct, sn, sub, ab, col, dd, k0, k1, k2, k3, k5, hC, hT⟩ := excInit_of I1.kIn ini
  have hsz : hp.objs.size ≤ hp.objs.size + 1 := Nat.le_succ _
  have hn : H1 (hp.objs.size + 1) = none := I1.hok.fresh hsz
  have hq := q1 (hp.objs.size + 1) hn
  have kk : ∀ b o, hp.get? b = some o → ((hp.push (kdv_tup [])).push (HandSPX.excO C hp.objs.size)).get? b = some o := fun b o z => Heap.get?_push_of_some _ (Heap.get?_push_of_some _ z)
  have hget : ((hp.push (kdv_tup [])).push (HandSPX.excO C hp.objs.size)).get? (hp.objs.size + 1) = some (HandSPX.excO C hp.objs.size) := by heap_get
  have I2 : Inv X pins σ (L2.upd H1 (hp.objs.size + 1) (exo (hp.objs.size + 1) C none)) ⟨(hp.push (kdv_tup [])).push (HandSPX.excO C hp.objs.size), g, dr, tt, os⟩ := I1.laid (t' := tt) kk hsz (exo_ok hget)
  have r1 : Vals [V.ref (hp.objs.size + 1)] [Value.ref (hp.objs.size + 1)] := .cons rfl .nil
  have hr2 : RoomG k (X.A.under (.builtin "type.__call__" ⟨[.ref C], ks.zip ws⟩)) := ⟨hr.r.make C [] (ks.zip ws), hr.g⟩
  refine wpAny_call (kwCall FB hT hC (looks_findIn I1.kIn iC) (fun self => bind_fn I1.kIn self (beq_iff_eq.mp fC))
    (codeAny_mono (F.go _ X.stack _ _ ⟨[Value.ref (hp.objs.size + 1)], ks.zip ws⟩ (gg [Value.ref (hp.objs.size + 1)] ws) _ _ E0 hr2 (I2.env0.make C [] (ks.zip ws)) (hb.to _ [Value.ref (hp.objs.size + 1)] ws I2.kIn rfl (rz.length.symm.trans l2)) (hb.rel r1 rz) hq) fun r s' hq' => ?_))
  cases r with
  | error er => exact (show False from hq').elim
  | ok fl => cases fl with
    | ret u =>
      obtain ⟨v, H', I3, rv, ev, q3⟩ := I2.after hq'
      subst ev
      exact ⟨rv, V.ref (hp.objs.size + 1), H', I3, rfl, q3⟩
    | next => exact (show False from hq').elim
    | brk => exact (show False from hq').elim
    | cont => exact (show False from hq').elim
/-- C() of an exception class without an __init__ of its own -/
theorem pe_mkE0 {bmB : List Value} {B newId initId : String} (FB : ExcBaseFacts B newId initId bmB) (q : excIn X.K C bmB newId = true) (gC : X.mg x = some (.ref C)) (kC : keepIn X.K (.ref C) = true) (hg : Gl X x) (h4 : (x == ("__debug__" : Str)) = false := by decide) :
    PE X (.Call (.Name x p) [] [] pos) (fun _ H Q => ∀ a, H a = none → Q (.ref a) (L2.upd H a (exo a C none))) := by
  constructor
  intro pins s σ H Q I h
  refine wpAny_Call_Name_kw (ld_glob I hg gC (callWith_K0 I.kIn kC ?_) h4)
  show wpAny _ _ (call (.ref C) []) _ _ _
  obtain ⟨bm, N, nm, qn, bs, hdct, sn, sub, ab, col, dd, k0, k1, k2, k3, k5, mN, hC, hN, hni, T⟩ := exc_obj I.kIn q
  refine wpAny_call_exc_subT FB T hC hN hni (fun h' a hm => ?_) (by rw [sizeLine_eq]; exact Nat.zero_le _)
  have hn : H a = none := I.hok.gone hm.new
  obtain ⟨t, ht, _, _⟩ := hm.there
  exact ⟨.ref a, L2.upd H a (exo a C none), I.laidN hm.keeps hm.new hn (exo_ok ht), rfl, h a hn⟩
end
/-! ### its fields -/
/-- o.f, o an exception object with a dict -/
def tXfO (K : Frag) (f : Str) (te : TE) : TE := fun σ H Q => te σ H fun x H1 => ∃ (a C dd : Addr) (fs : List (Str × V)) (v : V), x = .ref a ∧ XfC K C ∧ NoAttr K C f ∧ H1 a = some (exo a C (some dd)) ∧ H1 dd = some (exd dd fs) ∧ fs.lookup f = some v ∧ Q v H1
theorem pe_xfO {X : Cx} {e : Expr} {te : TE} {pos : Pos} {f : Str} (he : PE X e te) (hb : attributeBase e f X.env (eval e X.env) = eval e X.env := by rfl) : PE X (.Attribute e f pos) (tXfO X.K f te) := by
  constructor
  intro pins s σ H Q I h
  refine attr_of hb (thn (he.run pins s σ H _ I h) fun u s1 z => ?_)
  obtain ⟨x, H1, I1, rx, a, C, dd, fs, v, rfl, T, hno, ea, ed, l, q⟩ := z
  cases (show u = Value.ref a from rx)
  obtain ⟨t1, ho⟩ := exo_at I1.hok ea
  obtain ⟨mA, hns1, rel⟩ := exd_at I1.hok ed
  obtain ⟨od, hod, hl⟩ := lookIn_ns hns1
  obtain ⟨u, hu, ru⟩ := RelO.some_of (v := v) (o := mA f) (by rw [← l]; exact rel f)
  have J : InstAt s1.heap a { cls := .ref C, dict := some dd, data := .fields #[.ref t1, .none, .none, .none, .bool false, .none] } C (some od) := ⟨ho, rfl, rfl, hod⟩
  exact HandSPX.exc_get I1.kIn J T.ga T.gg T.exC (findObj_own T.hdC hno rfl (by rw [hl, hu])) (handed_of ru) ⟨v, H1, I1.tok _, ru, q⟩
/-! ### isinstance of an exception object -/
section
variable {prog : Program} {w : World} {A : Around} {E : Value → Shared → Prop} {s : Shared} {K : Frag} {x D : Addr} {ox : Obj} {od : Option Obj}
theorem exClass {Q : Option Value → Shared → Prop} (T : ExcC K D) (X : K.In s.heap) (I : InstAt s.heap x ox D od) (h : Q (some (.ref D)) { s with toks := s.toks + 1 }) : wpAny (model prog w) A (getAttr? (.ref x) "__class__") Q E s := by
  have hf : findObj K D od "__class__" = some (.bind (.builtin "getset_descriptor.__get__") (.builtin "object.__class__")) := by
    have hc : (clsIn K D).isSome = true := by
      obtain ⟨cd, hc, _⟩ := any_some T.hd
      rw [hc]
      rfl
    cases od with
    | none => exact findObj_dataN hc T.ha T.hn T.ht
    | some od => exact findObj_data hc T.ha T.hn T.ht
  obtain ⟨hp, g, d, t, os⟩ := s
  have l0 := I.type (M := model prog w)
  have l1 := looks_findIn (M := model prog w) X T.hg
  have l2 := looks_findIn (M := model prog w) X T.hk
  have l3 := looks_find (M := model prog w) X I hf
  have sub : Looks (model prog w) hp (isInstance (.ref x) (.type "BaseException")) true := l0.andThen (looks_subIn X T.hs)
  have b2 : (Value.builtin "BaseException.__getattribute__" == Value.builtin "object.__getattribute__") = false := by decide +kernel
  have b1 : (onTheHeap (Value.ref D) && Value.builtin "BaseException.__getattribute__" == Value.builtin "object.__getattribute__") = false := by
    rw [b2]
    rfl
  have b0 : (false && onTheHeap (Value.builtin "BaseException.__getattribute__")) = false := rfl
  unfold getAttr? getAttrBy? getAttrBy
  refine wpAny_bind (wpAny_mkText (wpAny_bind (wpAny_attempt (wpAny_holding (wpAny_bind (l0.at (wpAny_bind (l1.at ?_))))))))
  show wpAny _ _ (if (onTheHeap (Value.ref D) && Value.builtin "BaseException.__getattribute__" == Value.builtin "object.__getattribute__") = true then _ else _) _ _ _
  rw [b1, if_neg Bool.false_ne_true]
  unfold getAttrByItsOwn hookBefore
  refine wpAny_bind ?_
  rw [if_pos (show onTheHeap (Value.ref D) = true from rfl)]
  refine l2.at (wpAny_bind (wpAny_attempt (wpAny_holding ?_)))
  unfold callGetattribute
  rw [b0, if_neg Bool.false_ne_true]
  unfold boundAndCalled
  rw [PySem.F.excAttr_ValueError.ga.bind (.ref x)]
  refine wpAny_bind (wpAny_pure ?_)
  show wpAny _ _ (call (.builtin "BaseException.__getattribute__") [.ref x, .str "__class__" t]) _ _ _
  refine wpAny_call (codeAny_call_builtin PySem.F.excAttr_ValueError.ga.plain PySem.F.entry_bexc_ga ?_)
  refine @check_slot (model prog w) _ _ ⟨hp, g, d, t + 1, os⟩ "BaseException.__getattribute__" "BaseException" "__getattribute__" (.ref x) [.str "__class__" t] [] _ (by decide +kernel) (by decide +kernel) sub (PySem.F.args_bexc_ga (.ref x) (.str "__class__" t)) ?_
  unfold Builtin.«object.__getattribute__»
  refine wpAny_bind (wpAny_of_eq (a := ((Value.ref x : Value), [Value.str "__class__" t])) (by first | rfl | (simp only [slotArgs]; rfl)) ?_)
  refine wpAny_bind (wpAny_pure (wpAny_bind (l0.at (wpAny_bind (l3.at ?_)))))
  show wpAny _ _ (holding [Value.builtin "object.__class__"] (call (.builtin "getset_descriptor.__get__") [.builtin "object.__class__", .ref x, .ref D]) >>= ret) _ _ _
  refine wpAny_bind (wpAny_holding (wpAny_call (class_get (s := ⟨hp, g, d, t + 1, os⟩) (ox := ox) (od := od) X I T.hm ?_)))
  refine wpAny_pure ?_
  show wpAny _ _ (handedOut (.ref D)) _ _ _
  rw [handedOut_of (v := .ref D) rfl]
  first
    | exact wpAny_pure (wpAny_pure h)
    | exact wpAny_pure h
    | exact wpAny_pure (wpAny_bind (wpAny_pure (wpAny_pure h)))
theorem exKit (T : ExcC K D) : KitX K (.ref x) (.ref D) (fun h => InstAt h x ox D od) where
  ty := fun _ _ _ I => I.type
  it := fun _ _ X _ => by
    obtain ⟨cdD, hcD, _⟩ := any_some T.hd
    unfold clsIn at hcD
    split at hcD
    · rename_i c' d' cd' sl' ho
      intro A' Q' E' s' k q
      unfold isType loadHead
      exact wpAny_bind (wpAny_loadPart (k _ _ (X _ _ ho)) (wpAny_pure q))
    · cases hcD
  ne := fun h tp dd its n sl X htp => by
    obtain ⟨cdD, hcD, _⟩ := any_some T.hd
    refine Bool.eq_false_iff.mpr fun q => ?_
    have e : D = tp := Value.ref.inj (beq_iff_eq.mp q)
    subst e
    unfold clsIn at hcD
    split at hcD
    · rename_i c' d' cd' sl' ho
      cases (X _ _ ho).symm.trans htp
    · cases hcD
  ca := fun X I k => exClass T X I k
end
/-- an exception object of the class at C: with its dict or without one -/
def IsExo (H : Hp) (a C : Addr) : Prop := H a = some (exo a C none) ∨ ∃ (dd : Addr) (fs : List (Str × V)), H a = some (exo a C (some dd)) ∧ H dd = some (exd dd fs)
def rIsX (K : Frag) : List V → Hp → VK → Prop := fun xs H Q => ∃ (a C : Addr) (c : V) (u : Value) (b : Bool), xs = [.ref a, c] ∧ IsExo H a C ∧ ExcC K C ∧ ClsV c u ∧ kitOne K (.ref C) u = some b ∧ Q (.bl b) H
theorem call_isX {X : Cx} : CallR X (.builtin "isinstance") (rIsX X.K) := by
  intro pins s σ H xs us Q I r h
  obtain ⟨a, C, c, u, b, rfl, hx, T, kc, e, q⟩ := h
  obtain ⟨u1, u2, rfl, r1, r2⟩ := vals2 r
  cases (show u1 = Value.ref a from r1)
  have e2 := kc.eq r2
  subst e2
  obtain ⟨ox, od, J⟩ : ∃ ox od, InstAt s.heap a ox C od := by
    rcases hx with ea | ⟨dd, fs, ea, ed⟩
    · obtain ⟨t1, ho⟩ := exo_at I.hok ea
      exact ⟨_, none, ho, rfl, rfl, trivial⟩
    · obtain ⟨t1, ho⟩ := exo_at I.hok ea
      obtain ⟨mA, hns1, _⟩ := exd_at I.hok ed
      obtain ⟨od, hod, _⟩ := lookIn_ns hns1
      exact ⟨_, some od, ho, rfl, rfl, hod⟩
  exact kia_one (exKit T) I.kIn J e (fun z => nomatch z) fun tk => ⟨.bl b, H, I.tok tk, rfl, q⟩
end My

namespace My
open PySem L2 PySem.Spec PyProof.Rows PySem.W
/-! ### what the written part says of an exception class -/
structure ExF (K : Frag) (C : Addr) (mro : List Value) (newId : String) : Prop where
  look : ∃ (nm qn : Str) (bs sb : List Value) (ns : Addr) (sn : List Str) (ab : Bool) (co : Option Bool) (dd : Option Addr) (k0 k1 k2 k3 k5 : Option Value), K.lookup C = some ⟨.type "type", dd, .cls ⟨nm, bs, mro, ns, qn, true, sn, sb, ab, co, false⟩, #[k0, k1, k2, k3, some (.builtin newId), k5]⟩
  sa : findIn K (.ref C) "__setattr__" = some (some (.builtin "object.__setattr__"))
  kp : keepIn K (.ref C) = true
  ga : findIn K (.ref C) "__getattribute__" = some (some (.builtin "BaseException.__getattribute__"))
  gg : findIn K (.ref C) "__getattr__" = some none
  ca : findIn K (.ref C) "__class__" = some (some (.builtin "object.__class__"))
  ty : typeIn K (.ref C) = some (.type "type")
section
variable {K : Frag} {C D : Addr} {m m' : List Value} {n n' : String}
theorem ExF.cls (x : ExF K C m n) : ∃ cd, clsIn K C = some cd ∧ cd.mro = m ∧ cd.hasDict = true := by
  obtain ⟨nm, qn, bs, sb, ns, sn, ab, co, dd, k0, k1, k2, k3, k5, e⟩ := x.look
  exact ⟨_, by unfold clsIn; rw [e], rfl, rfl⟩
theorem ExF.sub (x : ExF K C m n) (h : m.isEmpty = false) (v : Value) : subIn K (.ref C) v = some (m.contains v) := by
  obtain ⟨cd, e, rfl, _⟩ := x.cls
  show mroIn K C v = _
  unfold mroIn
  rw [e, Option.bind_some, if_neg (by rw [h]; exact Bool.false_ne_true)]
theorem ExF.hd (x : ExF K C m n) : hasDictIn K C = true := by
  obtain ⟨cd, e, _, h⟩ := x.cls
  unfold hasDictIn
  rw [e]
  exact h
/-- an own class over a built-in one -/
structure Ups (C : Addr) (m bm : List Value) : Prop where
  head : ∃ r, m = .ref C :: r ∧ excTail bm r = true
  base : m.contains (.type "BaseException") = true
  obj : m.contains (.type "object") = true
theorem ups (C G : Addr) (b : String) : Ups C (.ref C :: .ref G :: .type b :: [.type "Exception", .type "BaseException", .type "object"]) (.type b :: [.type "Exception", .type "BaseException", .type "object"]) := by
  refine ⟨⟨_, rfl, ?_⟩, ?_, ?_⟩
  · show (Value.type b :: [.type "Exception", .type "BaseException", .type "object"] == _) = true
    exact beq_self_eq_true _
  · simp
  · simp
theorem ups0 (C : Addr) (b : String) : Ups C (.ref C :: .type b :: [.type "Exception", .type "BaseException", .type "object"]) (.type b :: [.type "Exception", .type "BaseException", .type "object"]) := by
  refine ⟨⟨_, rfl, ?_⟩, ?_, ?_⟩
  · show (Value.type b :: [.type "Exception", .type "BaseException", .type "object"] == _) = true
    exact beq_self_eq_true _
  · simp
  · simp
theorem Ups.ne {bm : List Value} (u : Ups C m bm) : m.isEmpty = false := by
  obtain ⟨r, rfl, _⟩ := u.head
  rfl
theorem ExF.oex {bm : List Value} {B ii : String} (x : ExF K C m n) (u : Ups C m bm) (FB : ExcBaseFacts B n ii bm) (SF : StoreFacts B bm "object.__setattr__" "object") : OexG K C := by
  obtain ⟨r, rfl, ht⟩ := u.head
  refine ⟨⟨B, n, ii, bm, FB, SF, ?_, ?_⟩, x.hd, x.sa, x.kp⟩
  · obtain ⟨nm, qn, bs, sb, ns, sn, ab, co, dd, k0, k1, k2, k3, k5, e⟩ := x.look
    unfold excInitIn
    rw [e]
    simp [ht]
  · obtain ⟨cd, e, hm, _⟩ := x.cls
    unfold excOver
    rw [e]
    show (match cd.mro with | .ref C' :: bm' => C' == C && excTail bm bm' | _ => false) = true
    rw [hm]
    simp [ht]
theorem ExF.xf {bm : List Value} (x : ExF K C m n) (u : Ups C m bm) : XfC K C := ⟨x.ga, x.gg, by rw [x.sub u.ne, u.base], x.hd⟩
theorem ExF.exc {bm : List Value} (x : ExF K C m n) (u : Ups C m bm) (h1 : specialIn K (.builtin "object.__class__") "__get__" = some (some (.builtin "getset_descriptor.__get__"))) (h2 : takesIn K (.builtin "object.__class__") = some true) : ExcC K C :=
  ⟨x.ga, x.gg, by rw [x.sub u.ne, u.base], x.hd, x.ca, h1, h2, (x.sub u.ne _).trans (by rw [u.obj])⟩
theorem ExF.kit {bm : List Value} (x : ExF K C m n) (u : Ups C m bm) (y : ExF K D m' n') : kitOne K (.ref C) (.ref D) = some (m.contains (.ref D)) := by
  unfold kitOne
  obtain ⟨r, hm, _⟩ := u.head
  by_cases h : C = D
  · subst h
    rw [if_pos (beq_self_eq_true _), hm]
    simp
  · rw [if_neg (by simpa using h)]
    unfold kitCls
    obtain ⟨cd, e, _, _⟩ := y.cls
    show (if ((clsIn K D).isSome && typeIn K (.ref D) == some (.type "type")) = true then subIn K (.ref C) (.ref D) else none) = _
    rw [e, y.ty, if_pos (by simp), x.sub u.ne]
theorem ExF.kitT {bm : List Value} {T : String} (x : ExF K C m n) (u : Ups C m bm) (h : kitMeta T = true) : kitOne K (.ref C) (.type T) = some (m.contains (.type T)) := by
  unfold kitOne
  rw [if_neg (by simp)]
  show (if kitMeta T = true then subIn K (.ref C) (.type T) else none) = _
  rw [if_pos h, x.sub u.ne]
end
end My

namespace My
open PySem L2 PySem.Spec PyProof.Rows
section
variable {X : Cx} {pins : List (Addr × Obj)} {σ : L2.St} {H : Hp} {s : Shared}
/-! ### new lists, none of them where sys.modules stands -/
def tLstN (t : TA) : TE := fun σ H Q => t σ H fun xs H1 => xs.length ≤ sizeLine ∧ ∀ p, H1 p = none → p ≠ sysModules → Q (.ref p) (L2.upd H1 p (.lst xs))
theorem pe_lstN {es : List Expr} {t : TA} {pos : Pos} (h : PA X es t) : PE X (.List es pos) (tLstN t) := by
  constructor
  intro pins s σ H Q I hq
  refine wpAny_List_spliced (thn (h.run pos pins s σ H _ I hq) fun us s1 y => ?_)
  obtain ⟨xs, H1, I1, r, z, q⟩ := y
  refine ⟨by rw [← r.length]; exact z, ?_⟩
  have hf : H1 s1.heap.objs.size = none := I1.hok.fresh (Nat.le_refl _)
  exact ⟨.ref s1.heap.objs.size, L2.upd H1 s1.heap.objs.size (.lst xs), I1.laid (t' := s1.toks) (fun b u e => Heap.get?_push_of_some _ e) (Nat.le_refl _) ⟨z, us, 0, r, Heap.get?_push_size _ rfl⟩, rfl, q _ hf (Nat.ne_of_gt I1.big)⟩
def rSlN (K : PySem.W.Frag) : V → Option Int → Option Int → Hp → VK → Prop := fun x lo hi H Q => ∃ a xs, x = .ref a ∧ SqL K H a xs ∧ ∀ p, H p = none → p ≠ sysModules → Q (.ref p) (L2.upd H p (.lst (cutV xs lo hi)))
theorem sl_listN : SlR X (rSlN X.K) := by
  intro pins s σ H x v vl vu lo hi sl Q I rx hs pl pu h
  obtain ⟨a, xs, rfl, hx, q⟩ := h
  cases (show v = Value.ref a from rx)
  obtain ⟨its, r, ht, hz⟩ := I.list hx
  have hlen := r.length
  refine ⟨"list", _, slot_list_getitem.lookup, ht.isList.typeIs, ?_⟩
  refine wpAny_getItem_list_slice ht.isList hs pl pu .none (by simp) ?_ (by rw [List.size_toArray] <;> omega)
  rw [slicePick_cut, ← hlen]
  have new : ObjOk X.prog X.w (L2.upd H s.heap.objs.size (.lst (cutV xs lo hi))) (s.heap.push { cls := .type "list", data := .seq ((its.drop (HT.sIx xs.length 0 lo)).take (HT.sIx xs.length xs.length hi - HT.sIx xs.length 0 lo)).toArray }) s.heap.objs.size (.lst (cutV xs lo hi)) :=
    ⟨Nat.le_trans (cutV_length xs lo hi) hz, _, 0, (r.drop (HT.sIx xs.length 0 lo)).take (HT.sIx xs.length xs.length hi - HT.sIx xs.length 0 lo), Heap.get?_push_size _ rfl⟩
  exact ⟨.ref s.heap.objs.size, _, I.laid (t' := s.toks) (fun b ob q => Heap.get?_push_of_some _ q) (Nat.le_refl _) new, rfl, q _ (I.hok.fresh (Nat.le_refl _)) (Nat.ne_of_gt I.big)⟩
/-! ### data with a dict of one entry in it -/
mutual
inductive Dq (H : Hp) : V → PyData → Prop
  | non : Dq H .non .none
  | bl (b : Bool) : Dq H (.bl b) (.bool b)
  | int (i : Int) : Dq H (.int i) (.int i)
  | str (x : Str) : Dq H (.str x) (.str x)
  | lst {a : Addr} {xs : List V} {ds : List PyData} (h : H a = some (.lst xs)) (n : a ≠ sysModules) (r : DqAll H xs ds) : Dq H (.ref a) (.list ds)
  | tup {a : Addr} {xs : List V} {ds : List PyData} (h : H a = some (.tup xs)) (r : DqAll H xs ds) : Dq H (.ref a) (.tuple ds)
  | dct {a : Addr} {x : Str} {i : Int} (h : H a = some (.dK [(.inr x, .int i)])) : Dq H (.ref a) (.dict [(.str x, .int i)])
inductive DqAll (H : Hp) : List V → List PyData → Prop
  | nil : DqAll H [] []
  | cons {x : V} {xs : List V} {d : PyData} {ds : List PyData} (h : Dq H x d) (r : DqAll H xs ds) : DqAll H (x :: xs) (d :: ds)
end
mutual
theorem Dq.same {H H' : Hp} (s : Same H H') : ∀ {v : V} {d : PyData}, Dq H v d → Dq H' v d
  | _, _, .non => .non
  | _, _, .bl b => .bl b
  | _, _, .int i => .int i
  | _, _, .str x => .str x
  | _, _, .lst h n r => .lst (s _ _ h) n (DqAll.same s r)
  | _, _, .tup h r => .tup (s _ _ h) (DqAll.same s r)
  | _, _, .dct h => .dct (s _ _ h)
theorem DqAll.same {H H' : Hp} (s : Same H H') : ∀ {vs : List V} {ds : List PyData}, DqAll H vs ds → DqAll H' vs ds
  | _, _, .nil => .nil
  | _, _, .cons h r => .cons (Dq.same s h) (DqAll.same s r)
end
theorem dctReads {a : Addr} {x : Str} {i : Int} (I : Inv X pins σ H s) (h : H a = some (.dK [(.inr x, .int i)])) : ∃ as, Reads s.heap (.ref a) (.dict [(.str x, .int i)]) as ∧ sysModules ∉ as := by
  obtain ⟨_, hd, vs, kv, o, es, ep, ho, hx, hdt, hk, hp, _⟩ := dk_of I.hok h
  have na : a ≠ sysModules := by simpa using hd
  cases kv with
  | @cons _ p _ ps hkv rest =>
    cases rest
    obtain ⟨k', u⟩ := p
    obtain ⟨ek, ru⟩ := hkv
    obtain ⟨t, rfl⟩ := (show ∃ t, u = Value.int i t from ru)
    dsimp only at ek
    subst ek
    cases he : es.toList with
    | nil =>
      rw [he] at hp
      cases hp
    | cons e1 er =>
      rw [he] at hp
      cases hp with
      | cons h1 h2 h3 =>
        cases h3
        obtain ⟨t2, hk2⟩ : ∃ t2, e1.key = .str x t2 := by
          have h1' : keyIs (Sum.inr x) e1.key = true := h1
          rcases keyIs_shape h1' with ⟨j, t2, z, _⟩ | ⟨y, t2, z, q⟩
          · cases z
          · cases z
            exact ⟨t2, q⟩
        have h2' : e1.val = Value.int i t := h2
        refine ⟨_, Reads.dict ho hx.1 hdt (kvs := [(.str x, .int i)]) (by rw [he]; simp only [List.map_cons, List.map_nil]; rw [hk2]; exact ReadsAll.cons (Reads.str x t2) ReadsAll.nil) (by rw [he]; simp only [List.map_cons, List.map_nil]; rw [h2']; exact ReadsAll.cons (Reads.int i t) ReadsAll.nil), ?_⟩
        simp
        exact na.symm
mutual
theorem Dq.reads (I : Inv X pins σ H s) : ∀ (d : PyData) (v : V) (u : Value), Dq H v d → L2.RelV v u → ∃ as, Reads s.heap u d as ∧ sysModules ∉ as
  | .none, _, _, h, r => by
    cases h
    cases r
    exact ⟨_, Reads.none, by simp⟩
  | .bool b, _, _, h, r => by
    cases h
    cases r
    exact ⟨_, Reads.bool b, by simp⟩
  | .int i, _, _, h, r => by
    cases h
    obtain ⟨t, rfl⟩ := r
    exact ⟨_, Reads.int i t, by simp⟩
  | .str x, _, _, h, r => by
    cases h
    obtain ⟨t, rfl⟩ := r
    exact ⟨_, Reads.str x t, by simp⟩
  | .list ds, _, _, h, r => by
    cases h with
    | lst hs n ha =>
      cases r
      obtain ⟨_, its, m, rv, ho⟩ := I.hok _ _ hs
      obtain ⟨as, hr, hn⟩ := DqAll.reads I ds _ its ha rv
      exact ⟨_, Reads.list ho rfl rfl hr, by
        rw [List.mem_cons, not_or]
        exact ⟨n.symm, hn⟩⟩
  | .tuple ds, _, _, h, r => by
    cases h with
    | tup hs ha =>
      cases r
      obtain ⟨_, its, rv, o, ho, hc, m, hd⟩ := I.hok _ _ hs
      obtain ⟨as, hr, hn⟩ := DqAll.reads I ds _ its ha rv
      exact ⟨_, Reads.tuple ho hc hd hr, hn⟩
  | .dict kvs, _, _, h, r => by
    cases h with
    | dct hs =>
      cases r
      exact dctReads I hs
theorem DqAll.reads (I : Inv X pins σ H s) : ∀ (ds : List PyData) (vs : List V) (us : List Value), DqAll H vs ds → Vals vs us → ∃ as, ReadsAll s.heap us ds as ∧ sysModules ∉ as
  | [], _, _, h, r => by
    cases h
    cases r
    exact ⟨_, ReadsAll.nil, by simp⟩
  | d :: ds, _, _, h, r => by
    cases h with
    | cons h1 h2 =>
      cases r with
      | cons r1 r2 =>
        obtain ⟨as, q1, n1⟩ := Dq.reads I d _ _ h1 r1
        obtain ⟨bs, q2, n2⟩ := DqAll.reads I ds _ _ h2 r2
        exact ⟨_, ReadsAll.cons q1 q2, by
          rw [List.mem_append, not_or]
          exact ⟨n1, n2⟩⟩
end
end
section
variable {X : Cx} {k : Nat}
theorem call_reprQ (hr : RoomG k X.A) : CallR X (.builtin "repr") (fun xs H Q => ∃ y d, xs = [y] ∧ Dq H y d ∧ d.depth ≤ 64 ∧ d.showable = true ∧ d.shown.length ≤ sizeLine ∧ Q (.str d.shown) H) := by
  intro pins s σ H xs us Q I r h
  obtain ⟨y, d, rfl, hd, hdp, hw, hz, q⟩ := h
  obtain ⟨u, rfl, ru⟩ := vals1 r
  obtain ⟨as, rd, nm⟩ := Dq.reads I d y u hd ru
  have hA : X.A.units + (d.depth + 1) < cLine := by
    have := hr.r.un
    omega
  have fin : ∀ {t : Tok} {s' : Shared}, Inv X pins σ H s' → EP X pins σ Q (.str d.shown t) s' := fun J => ⟨.str d.shown, H, J, ⟨_, rfl⟩, q⟩
  cases rd with
  | none => exact PySem.P.repr_of_none (fin (I.tok _))
  | bool b => exact PySem.P.repr_of_bool (fin (I.tok _))
  | int i t => exact PySem.P.repr_of_int (of_decide_eq_true hw) (fin (I.tok _))
  | str z t => exact PySem.P.repr_of_str (fin (I.tok _)) hz
  | list h1 h2 h3 h4 => exact PySem.repr_of_reads' (.list h1 h2 h3 h4) hw (fun _ => nm) hr.g hA (fun _ _ e => e) (fun h' t tk hk => fin (I.kept hk)) hz
  | tuple h1 h2 h3 h4 => exact PySem.repr_of_reads' (.tuple h1 h2 h3 h4) hw (fun _ => nm) hr.g hA (fun _ _ e => e) (fun h' t tk hk => fin (I.kept hk)) hz
  | dict h1 h2 h3 h4 h5 => exact PySem.repr_of_reads' (.dict h1 h2 h3 h4 h5) hw (fun _ => nm) hr.g hA (fun _ _ e => e) (fun h' t tk hk => fin (I.kept hk)) hz
end
section
variable {σ : L2.St} {H : Hp} {D : Ends} {Q : VK} {K : PySem.W.Frag} {C : Addr} {sp : Sp} {f : Str} {l : Nat} {gV : List V → List V → List V} {to te : TE} {ta tk : TA}
theorem s_ostG (h : te σ H fun y H1 => to σ H1 fun x H2 => ∃ a C : Addr, x = .ref a ∧ OexG K C ∧ NoAttr K C f ∧
  ((H2 a = some (exo a C none) ∧ ∀ dx, H2 dx = none → dx ≠ a → D.nx σ (L2.upd (L2.upd H2 dx (exd dx [(f, y)])) a (exo a C (some dx)))) ∨
    ∃ (dx : Addr) (fs : List (Str × V)), H2 a = some (exo a C (some dx)) ∧ H2 dx = some (exd dx fs) ∧ fs.length ≤ 900 ∧ D.nx σ (L2.upd H2 dx (exd dx ((f, y) :: fs))))) : tOstG K f to te D σ H := h
theorem s_mkE (h : ta σ H fun vs H1 => vs.length ≤ 1000 ∧ ∀ a, H1 a = none → sp (.ref a :: vs) (L2.upd H1 a (exo a C none)) (fun v H2 => v = .non ∧ Q (.ref a) H2) E0) : tMkE C sp ta σ H Q := h
theorem s_mkEK (h : tk σ H fun zs H1 => zs.length = l ∧ ∀ a, H1 a = none → sp (gV [.ref a] zs) (L2.upd H1 a (exo a C none)) (fun v H2 => v = .non ∧ Q (.ref a) H2) E0) : tMkEK C l sp gV tk σ H Q := h
theorem s_xf (h : te σ H fun x H1 => ∃ (a C dd : Addr) (fs : List (Str × V)) (v : V), x = .ref a ∧ XfC K C ∧ NoAttr K C f ∧ H1 a = some (exo a C (some dd)) ∧ H1 dd = some (exd dd fs) ∧ fs.lookup f = some v ∧ Q v H1) : tXfO K f te σ H Q := h
theorem s_lstN (h : ta σ H fun xs H1 => xs.length ≤ sizeLine ∧ ∀ p, H1 p = none → p ≠ sysModules → Q (.ref p) (L2.upd H1 p (.lst xs))) : tLstN ta σ H Q := h
end
end My

namespace My
open PySem L2 PySem.Spec PyProof.Rows
/-! ### dicts from texts to ints -/
def dk (d : List (Str × Int)) : List (Key × V) := d.map fun p => (.inr p.1, .int p.2)
def look : List (Str × Int) → Str → Option Int
  | [], _ => none
  | p :: r, k => if p.1 = k then some p.2 else look r k
theorem valV_dk (d : List (Str × Int)) (k : Str) : valV (dk d) (.inr k) = (look d k).map V.int := by
  induction d with
  | nil => rfl
  | cons p r ih =>
    unfold look
    by_cases h : p.1 = k
    · rw [if_pos h]
      exact valV_pos (congrArg Sum.inr h)
    · rw [if_neg h]
      exact (valV_neg (fun z => h (Sum.inr.inj z))).trans ih
theorem dk_length (d : List (Str × Int)) : (dk d).length = d.length := List.length_map ..
/-- all of d is in e -/
def subD (d e : List (Str × Int)) : Bool := d.all fun p => decide (look e p.1 = some p.2)
section
variable {X : Cx} {pins : List (Addr × Obj)} {σ : L2.St} {H : Hp} {s : Shared}
theorem hits_dk {A : Around} {e : List (Str × Int)} {vb : List (Key × Value)} (rb : KV (dk e) vb) : ∀ {d : List (Str × Int)} {va : List (Key × Value)}, KV (dk d) va → PySem.W.KeqHits A s vb va (subD d e) := by
  intro d
  induction d with
  | nil =>
    intro va ra
    cases ra
    exact .nil
  | cons p r ih =>
    intro va ra
    cases ra with
    | @cons _ q _ qs h t =>
      obtain ⟨h1, h2⟩ := h
      obtain ⟨k, v⟩ := q
      obtain ⟨tk, h3⟩ := (show ∃ tk, v = Value.int p.2 tk from h2)
      have h4 : (Sum.inr p.1 : Key) = k := h1
      clear h1 h2
      subst h4
      subst h3
      have rr := rb.val (Sum.inr p.1)
      rw [valV_dk] at rr
      cases hl : look e p.1 with
      | none =>
        rw [hl] at rr
        have e0 : subD (p :: r) e = false := by
          unfold subD
          rw [List.all_cons, hl]
          rfl
        rw [e0]
        refine .miss ?_
        cases hv : valueAt vb (Sum.inr p.1) with
        | none => rfl
        | some y =>
          rw [hv] at rr
          exact rr.elim
      | some i =>
        rw [hl] at rr
        obtain ⟨y, hy, ry⟩ := rr.some_of
        obtain ⟨tk2, rz⟩ := (show ∃ tk, y = Value.int i tk from ry)
        clear ry
        subst rz
        have e1 : subD (p :: r) e = ((p.2 == i) && subD r e) := by
          unfold subD
          rw [List.all_cons, hl]
          congr 1
          by_cases z : p.2 = i
          · rw [z]
            simp
          · rw [decide_eq_false (fun q => z (Option.some.inj q).symm)]
            exact (beq_false_of_ne z).symm
        rw [e1]
        refine .hit hy ?_ (ih t)
        have q := PySem.W.keq_flat (A := A) (s := s) (v := .int p.2 tk) (y := .int i tk2) (d := .int p.2) (e := .int i) (fun h => .int _ _) (fun h => .int _ _)
        rw [show PyData.eqv (.int p.2) (.int i) = (p.2 == i) by simp [PyData.eqv]] at q
        exact q
def eqD (d e : List (Str × Int)) : Bool := d.length == e.length && subD d e
/-- a == b, both dicts from texts to ints -/
def rEqDD (g : Bool → Bool) : R2 := fun x y H Q => ∃ a b d e, x = .ref a ∧ y = .ref b ∧ H a = some (.dK (dk d)) ∧ H b = some (.dK (dk e)) ∧ Q (.bl (g (eqD d e))) H
theorem op_eqDD (hu : X.A.units + 1 < cLine) : OpR X (compareOp .Eq) (rEqDD id) := by
  intro pins s σ H x y v u Q I rx ry h
  obtain ⟨a, b, d, e, rfl, rfl, ea, eb, q⟩ := h
  cases (show v = Value.ref a from rx)
  cases (show u = Value.ref b from ry)
  obtain ⟨_, ya, va, ra, da⟩ := dk_of I.hok ea
  obtain ⟨_, yb, vb, rb, db⟩ := dk_of I.hok eb
  refine PySem.W.keq_eq (r := subD d e) ya yb da db (by omega) (fun _ => hits_dk rb ra) (fin_bl I q ?_)
  unfold eqD
  rw [← ra.length, ← rb.length, dk_length, dk_length]
  rfl
theorem op_neDD (hu : X.A.units + 1 < cLine) : OpR X (compareOp .NotEq) (rEqDD (!·)) := by
  intro pins s σ H x y v u Q I rx ry h
  obtain ⟨a, b, d, e, rfl, rfl, ea, eb, q⟩ := h
  cases (show v = Value.ref a from rx)
  cases (show u = Value.ref b from ry)
  obtain ⟨_, ya, va, ra, da⟩ := dk_of I.hok ea
  obtain ⟨_, yb, vb, rb, db⟩ := dk_of I.hok eb
  refine PySem.W.keq_ne (r := subD d e) ya yb da db (by omega) (fun _ => hits_dk rb ra) (fin_bl I q ?_)
  unfold eqD
  rw [← ra.length, ← rb.length, dk_length, dk_length]
/-! ### the text of such a dict -/
def dP (d : List (Str × Int)) : PyData := .dict (d.map fun p => (.str p.1, .int p.2))
theorem pairs_reads {h : Heap} {P : Program} {w : World} : ∀ {d : List (Str × Int)} {va : List (Key × Value)} {es : List DictEntry}, KV (dk d) va → Pairs (mixKind P w) es va →
    ReadsAll h (es.map (·.key)) ((d.map fun p => ((PyData.str p.1, PyData.int p.2) : PyData × PyData)).map (·.1)) [] ∧ ReadsAll h (es.map (·.val)) ((d.map fun p => ((PyData.str p.1, PyData.int p.2) : PyData × PyData)).map (·.2)) [] := by
  intro d
  induction d with
  | nil =>
    intro va es ra pr
    cases ra
    cases pr
    exact ⟨.nil, .nil⟩
  | cons p r ih =>
    intro va es ra pr
    cases ra with
    | @cons _ q _ qs h1 t =>
      obtain ⟨h1, h2⟩ := h1
      obtain ⟨k, v⟩ := q
      obtain ⟨tk, h3⟩ := (show ∃ tk, v = Value.int p.2 tk from h2)
      have h4 : (Sum.inr p.1 : Key) = k := h1
      clear h1 h2
      subst h4
      subst h3
      cases pr with
      | @cons e1 _ er _ k1 k2 k3 =>
        obtain ⟨i1, i2⟩ := ih t k3
        have k1' : keyIs (Sum.inr p.1) e1.key = true := k1
        obtain ⟨t2, hk2⟩ : ∃ t2, e1.key = .str p.1 t2 := by
          rcases keyIs_shape k1' with ⟨j, t2, z, _⟩ | ⟨y, t2, z, q⟩
          · cases z
          · cases z
            exact ⟨t2, q⟩
        have k2' : e1.val = Value.int p.2 tk := k2
        refine ⟨?_, ?_⟩
        · rw [List.map_cons, hk2]
          exact ReadsAll.cons (Reads.str _ _) i1
        · rw [List.map_cons, k2']
          exact ReadsAll.cons (Reads.int _ _) i2
theorem dk_reads {a : Addr} {d : List (Str × Int)} (I : Inv X pins σ H s) (h : H a = some (.dK (dk d))) : ∃ as, Reads s.heap (.ref a) (dP d) as ∧ sysModules ∉ as := by
  obtain ⟨_, hd, vs, kv, o, es, ep, ho, hx, hdt, hk, hp, _⟩ := dk_of I.hok h
  have na : a ≠ sysModules := by simpa using hd
  obtain ⟨r1, r2⟩ := pairs_reads (h := s.heap) kv hp
  refine ⟨_, Reads.dict ho hx.1 hdt r1 r2, ?_⟩
  simp
  exact na.symm
end
section
variable {X : Cx} {k : Nat} {e : Expr} {te : TE} {pos : Pos}
/-- {x!r}, x a dict from texts to ints -/
def tFmtRD (te : TE) : TE := fun σ H Q => te σ H fun x H1 => ∃ a d, x = .ref a ∧ H1 a = some (.dK (dk d)) ∧ (dP d).showable = true ∧ (dP d).shown.length ≤ sizeLine ∧ Q (.str (dP d).shown) H1
theorem pe_fmtRD (hr : RoomG k X.A) (he : PE X e te) : PE X (.FormattedValue e 114 none pos) (tFmtRD te) := by
  constructor
  intro pins s σ H Q I h
  refine wpAny_FormattedValue_repr (thn (he.run pins s σ H _ I h) ?_)
  rintro v s1 ⟨x, H1, I1, rx, a, d, rfl, ea, hw, hz, q⟩
  cases (show v = Value.ref a from rx)
  obtain ⟨as, rd, nm⟩ := dk_reads I1 ea
  have hdep : (dP d).depth ≤ 1 := by
    unfold dP
    simp only [PyData.depth]
    have : ∀ d : List (Str × Int), PyData.depthKv (d.map fun p => (PyData.str p.1, PyData.int p.2)) = 0 := by
      intro d
      induction d with
      | nil => simp [PyData.depthKv]
      | cons p r ih => simp [PyData.depthKv, PyData.depth, ih]
    rw [this]
    exact Nat.le_refl _
  have hA : X.A.units + (dP d).depth < cLine := by
    have := hr.r.un
    omega
  refine pyReprObj_of_reads rd hw (fun _ => nm) hr.g hA (fun _ _ e => e) (fun h' u tk hk => ?_) hz
  exact wpAny_formatField_str ⟨.str (dP d).shown, H1, I1.kept (t' := tk) hk, ⟨_, rfl⟩, q⟩ ⟨.str (dP d).shown, H1, (I1.kept (t' := tk) hk).tok _, ⟨_, rfl⟩, q⟩ hz
end
end My

namespace My
open PySem L2 PySem.Spec PyProof.Rows Sem
section
variable {prog : Program} {w : World} {A : Around} {E : Value → Shared → Prop} {s : Shared}
theorem wpAny_putDict {d : Addr} {kvs : List (Key × Value)} {k : Key} {key v : Value} {Q : Unit → Shared → Prop} (hkey : (mixKind prog w).is k key = true) (hm : s.heap.DictOf (mixKind prog w) d kvs)
    (hQ : ∀ h', h'.DictOf (mixKind prog w) d (stored kvs k v) → Heap.SameBut d s.heap h' → Q () { s with heap := h' }) (hsz : kvs.length ≤ sizeLine) :
    wpAny (model prog w) A (dictPut d ((mixKind prog w).hash k) key v) Q E s := by
  obtain ⟨o, es, ep, ho, hc, hd, hk, hp, hn⟩ := hm
  have hes : es.size ≤ sizeLine := by
    have e1 := hp.length
    have e2 : es.toList.length = es.size := by simp
    omega
  have hidx : (es.findIdx? fun e => (mixKind prog w).is k e.key) = kvs.findIdx? fun kv => decide (kv.1 = k) := by
    rw [← hp.findIdx k]
    obtain ⟨l⟩ := es
    simp
  unfold dictPut
  refine wpAny_bind (wpAny_dictFind_of hkey ho hd hk ?_)
  cases hi : es.findIdx? fun e => (mixKind prog w).is k e.key with
  | some i =>
    have hany := any_of_findIdx_some (hidx ▸ hi)
    refine wpAny_updateDict ho hd (hQ _ ⟨_, _, ep, Heap.get?_update_self _ ho (Obj.isFreed_of_dict (Obj.data_mapDict hd _)), hc.mapDict _, Obj.data_mapDict hd _, hk.modify _ _, ?_, ?_⟩ (Heap.SameBut.update ..))
    · have hl : (es.toList.findIdx? fun e => (mixKind prog w).is k e.key) = some i := by
        rw [← hi]
        obtain ⟨l⟩ := es
        simp
      have := hp.modify hn hl v
      rw [stored, if_pos hany]
      obtain ⟨l⟩ := es
      simpa using this
    · rw [stored, if_pos hany, keys_map_store]
      exact hn
  | none =>
    have hnot : k ∉ kvs.map (·.1) := not_mem_of_findIdx_none (hidx ▸ hi)
    have hany : ¬ (kvs.any fun kv => decide (kv.1 = k)) = true := by
      intro z
      obtain ⟨kv, hkv, he⟩ := List.any_eq_true.mp z
      exact hnot (List.mem_map.mpr ⟨kv, hkv, of_decide_eq_true he⟩)
    refine wpAny_updateDictKeys (hz := hes) ho hd (hQ _ ⟨_, _, ep + 1, Heap.get?_update_self _ ho (Obj.isFreed_of_dict (Obj.data_mapDictKeys hd _)), hc.mapDictKeys _, Obj.data_mapDictKeys hd _, hk.push hkey _, ?_, ?_⟩ (Heap.SameBut.update ..))
    · have := hp.append hkey ((mixKind prog w).hash k) v
      rw [stored, if_neg hany]
      obtain ⟨l⟩ := es
      simpa using this
    · rw [stored, if_neg hany, List.map_append, List.nodup_append]
      refine ⟨hn, by simp, fun a ha b hb => ?_⟩
      simp only [List.map_cons, List.map_nil, List.mem_singleton] at hb
      rw [hb]
      exact fun e => hnot (e ▸ ha)
theorem loop_none {es : Array DictEntry} (hk : KeysOf (mixKind prog w) es) : ∀ e ∈ es.toList, ∀ a : Addr, e.key ≠ .ref a := by
  intro e he a z
  obtain ⟨k, h1, _⟩ := hk e (by simpa using he)
  have h1' : keyIs k e.key = true := h1
  rcases keyIs_shape h1' with ⟨j, t2, z1, q⟩ | ⟨y, t2, z1, q⟩
  · rw [z] at q
    cases q
  · rw [z] at q
    cases q
theorem wpAny_mergeDD {d o : Addr} {kvs more : List (Key × Value)} {Q : Unit → Shared → Prop} (hdo : d ≠ o) (hoS : (o == sysModules) = false) (hd : s.heap.DictOf (mixKind prog w) d kvs) (ho : s.heap.DictOf (mixKind prog w) o more)
    (hQ : ∀ h', h'.DictOf (mixKind prog w) d (merged kvs more) → Heap.SameBut d s.heap h' → Q () { s with heap := h' }) (hsz : kvs.length + more.length ≤ sizeLine) :
    wpAny (model prog w) A (mergeMapping d (.ref o) false) Q E s := by
  obtain ⟨od, esd, epd, hod, hcd, hdd, hkd, hpd, hnd⟩ := id hd
  obtain ⟨oo, eso, epo, hoo, hco, hdo', hko, hpo, hno⟩ := id ho
  have hlen : more.length = eso.size := by
    rw [← hpo.length]
    simp
  have loop : wpAny (model prog w) A (do
      let l ← dictEntries o
      let epoch ← dictEpoch o
      forIn (List.range l.size) PUnit.unit fun i (_ : PUnit) => (do
          let l' ← dictEntries o
          match l'[i]? with
            | some e => do
              holding [e.key, e.val] (dictPut d e.hash e.key e.val)
              let ep' ← dictEpoch o
              if (ep' != epoch) = true then do
                  (PySem.unsupported "dict.changed-during-merge" : Sem PUnit)
                  Pure.pure (ForInStep.yield PUnit.unit)
                else Pure.pure (ForInStep.yield PUnit.unit)
            | _ => do
              (PySem.unsupported "dict.changed-during-merge" : Sem PUnit)
              Pure.pure (ForInStep.yield PUnit.unit) : Sem (ForInStep PUnit))
      Pure.pure ()) Q E s := by
    refine wpAny_bind (wpAny_dictEntries hoo hdo' (wpAny_bind (wpAny_dictEpoch hoo hdo' (wpAny_bind ?_))))
    rw [List.range_eq_range']
    refine wpAny_forIn_list _ (fun rest _ s' => ∃ h' i, s' = { s with heap := h' } ∧ rest = List.range' i (eso.size - i) ∧ i ≤ eso.size ∧ h'.DictOf (mixKind prog w) d (merged kvs (more.take i)) ∧ h'.get? o = some oo ∧ Heap.SameBut d s.heap h') _ ?_ ?_ _ _
      ⟨s.heap, 0, rfl, by simp, Nat.zero_le _, by simpa [merged] using hd, hoo, Heap.SameBut.refl _ _⟩
    · rintro x rest b s' ⟨h', i, rfl, hr, hi, hd', hoo', hs'⟩
      have hlt : i < eso.size := by
        rcases Nat.lt_or_ge i eso.size with h | h
        · exact h
        · rw [Nat.sub_eq_zero_of_le h] at hr
          simp at hr
      have e1 : eso.size - i = (eso.size - (i + 1)) + 1 := by omega
      rw [e1, List.range'_succ] at hr
      injection hr with hx hrest
      subst hx
      obtain ⟨kv, hkv⟩ : ∃ kv, more[x]? = some kv := ⟨more[x]'(by rw [hlen]; exact hlt), List.getElem?_eq_getElem _⟩
      obtain ⟨k, v⟩ := kv
      obtain ⟨hkey, hval⟩ := hpo.get? (e := eso[x]) (by simp [hlt]) hkv
      obtain ⟨k', hkey', hhash⟩ := hko eso[x] (Array.getElem_mem hlt)
      have ek : k' = k := (mixKind prog w).inj _ _ _ hkey' hkey
      subst ek
      refine wpAny_bind (wpAny_dictEntries hoo' hdo' ?_)
      rw [Array.getElem?_eq_getElem hlt]
      show wpAny _ _ (holding [eso[x].key, eso[x].val] (dictPut d eso[x].hash eso[x].key eso[x].val) >>= _) _ _ _
      rw [hhash, hval]
      have hmx : (merged kvs (more.take x)).length ≤ sizeLine := by
        have l1 := merged_length_le kvs (more.take x)
        have l2 : (more.take x).length ≤ more.length := by
          rw [List.length_take]
          omega
        omega
      refine wpAny_bind (wpAny_holding (wpAny_putDict hkey hd' (fun h2 hd2 hs2 => ?_) hmx))
      have hoo2 : h2.get? o = some oo := (hs2.2 o (Ne.symm hdo)).trans hoo'
      refine wpAny_bind (wpAny_dictEpoch hoo2 hdo' ?_)
      rw [if_neg (by simp)]
      exact wpAny_pure ⟨h2, x + 1, rfl, hrest, hlt, by rw [merged_take_succ kvs more x (k', v) hkv]; exact hd2, hoo2, hs'.trans hs2⟩
    · rintro b s' ⟨h', i, rfl, hr, hi, hd', hoo', hs'⟩
      have hin : i = eso.size := by
        rcases Nat.lt_or_ge i eso.size with h | h
        · have e1 : eso.size - i = (eso.size - (i + 1)) + 1 := by omega
          rw [e1, List.range'_succ] at hr
          exact nomatch hr
        · exact Nat.le_antisymm hi h
      rw [hin, ← hlen, List.take_length] at hd'
      exact wpAny_pure (hQ h' hd' hs')
  unfold mergeMapping
  refine wpAny_bind (wpAny_isInstance (T := "dict") ho.typeIs PySem.F.sub_dict_dict ?_)
  rw [if_pos rfl]
  refine wpAny_bind (wpAny_specialOf ho.typeIs PySem.F.slot_dict_iter.lookup (wpAny_bind (wpAny_pure ?_)))
  simp only [beq_self_eq_true]
  rw [if_neg (by rw [hoS]; exact Bool.false_ne_true)]
  refine wpAny_bind (wpAny_dictEntries hod hdd ?_)
  split
  · refine wpAny_bind (wpAny_dictEntries hoo hdo' (wpAny_bind ?_))
    have nr := loop_none hko
    refine wpAny_forIn_array' _ (fun l _ s' => s' = s ∧ ∀ e ∈ l, ∀ a : Addr, e.key ≠ .ref a) _ (fun e rest b s1 hI => ?_) (fun b s1 hI => ?_) _ _ ⟨rfl, nr⟩
    · obtain ⟨rfl, hI⟩ := hI
      have ne := hI e List.mem_cons_self
      cases hk : e.key with
      | ref a => exact absurd hk (ne a)
      | _ =>
        dsimp only
        exact wpAny_pure ⟨rfl, fun e' h' => hI e' (List.mem_cons_of_mem _ h')⟩
    · obtain ⟨rfl, _⟩ := hI
      exact loop
  · exact loop
end
end My

namespace My
open PySem L2 PySem.Spec PyProof.Rows Sem
/-- {**d, k: v}, keys ints and texts -/
def tSplat (td tk tv : TE) : TE := fun σ H Q => ∀ p, H p = none → td σ (L2.upd H p (.dK [])) fun x H1 => ∃ (a : Addr) (kvs : List (Key × V)), x = .ref a ∧ a ≠ p ∧ H1 p = some (.dK []) ∧ Rd H1 a (.dK kvs) ∧
  ∀ q, q ≠ p → (L2.upd H1 p (.dK (mergeK [] kvs))) q = none → tk σ (L2.upd (L2.upd H1 p (.dK (mergeK [] kvs))) q (.dK [])) fun y H2 => tv σ H2 fun z H3 => ∃ (k : Key) (ms : List (Key × V)), y = kV k ∧ H3 q = some (.dK []) ∧ H3 p = some (.dK ms) ∧ ms.length < sizeLine ∧
    Q (.ref p) (L2.upd (L2.upd H3 q (.dK [(k, z)])) p (.dK (mergeK ms [(k, z)])))
section
variable {X : Cx} {d k v : Expr} {td tk tv : TE} {pos : Pos}
theorem pe_splat (hd : PE X d td) (hk : PE X k tk) (hv : PE X v tv) : PE X (.Dict [none, some k] [d, v] pos) (tSplat td tk tv) := by
  constructor
  intro pins s σ H Q I h
  rw [arm_eval_Dict]
  refine wpAny_bind (wpAny_standAt ?_)
  have e1 : (evalEachOpt [none, some k] X.env).zip ((evalEach [d, v] X.env).map fun v => do let x ← v; standAt pos; Pure.pure x) = [(none, (do let x ← eval d X.env; standAt pos; Pure.pure x)), (some (eval k X.env), (do let x ← eval v X.env; standAt pos; Pure.pure x))] := by
    rfl
  rw [e1]
  unfold dictDisplay
  simp only [List.forIn_cons, List.forIn_nil, List.isEmpty_nil, if_true]
  have hn := I.hok.fresh (Nat.le_refl s.heap.objs.size)
  have I1 := I.laid (a := s.heap.objs.size) (o := .dK []) (h' := s.heap.push { cls := .type "dict", data := .dict #[] }) (t' := s.toks) (fun _ _ q => Heap.get?_push_of_some _ q) (Nat.le_refl _) (dk_empty s.heap I.big)
  refine wpAny_bind (wpAny_bind (wpAny_bind (wpAny_bind (wpAny_pure ?_))))
  refine wpAny_pure ?_
  dsimp only
  refine wpAny_bind (wpAny_alloc ?_)
  refine wpAny_bind (wpAny_holding (wpAny_bind (thn (hd.run pins _ σ _ _ I1 (h _ hn)) ?_)))
  rintro u s2 ⟨x, H1, I2, rx, a, kvs, rfl, nap, hp, ha, q⟩
  cases (show u = Value.ref a from rx)
  refine wpAny_bind (wpAny_standAt (wpAny_pure ?_))
  obtain ⟨zl, ya, va, ra, da⟩ := dk_rd I2.hok ha
  obtain ⟨_, yp, vp, rp, dp⟩ := dk_of I2.hok hp
  cases rp
  have hl := ra.length
  refine wpAny_bind (wpAny_onRaise (wpAny_tryCatch (wpAny_onRaise (wpAny_holding (wpAny_mergeDD (Ne.symm nap) ya dp da (fun h3 d3 s3 => ?_) (by simp; omega))))))
  have lm := length_mergeK kvs []
  rw [List.length_nil] at lm
  have he3 : ∃ z, h3.get? s.heap.objs.size = some z := let ⟨z, _, _, hz, _⟩ := d3; ⟨z, hz⟩
  have I3 := d_write (t' := s2.toks) I2 (by rw [hp]; exact True.intro) s3 he3 (dk_new (by omega) yp (ra.merge .nil) d3)
  have big3 := I3.big
  have pl : s.heap.objs.size < h3.objs.size := by
    obtain ⟨z, hz⟩ := he3
    exact Heap.lt_size hz
  have n4 := I3.hok.fresh (Nat.le_refl h3.objs.size)
  have I4 := I3.laid (a := h3.objs.size) (o := .dK []) (h' := h3.push { cls := .type "dict", data := .dict #[] }) (t' := s2.toks) (fun _ _ q => Heap.get?_push_of_some _ q) (Nat.le_refl _) (dk_empty h3 I3.big)
  have q' := q h3.objs.size (Nat.ne_of_gt pl) n4
  refine wpAny_pure ?_
  dsimp only
  rw [if_neg (by simp)]
  refine wpAny_bind (wpAny_pure ?_)
  dsimp only
  refine wpAny_pure ?_
  rw [if_neg (by simp)]
  dsimp only
  refine wpAny_bind (wpAny_bind (wpAny_holding (wpAny_subDict (knd := mixKind X.prog X.w) (by simp) ?_)))
  refine evalPairs_cons (thn (hk.run pins _ σ _ _ I4 q') ?_)
  rintro yv s5 ⟨y, H5, I5, ry, q5⟩
  refine wpAny_bind (thn (hv.run pins s5 σ H5 _ I5 q5) ?_)
  rintro zv s6 ⟨z, H6, I6, rz, ky, ms, rfl, eq, ep, lms, q6⟩
  refine wpAny_bind (wpAny_standAt (wpAny_pure (evalPairs_nil ?_)))
  obtain ⟨_, yq, vq, rq, dq⟩ := dk_of I6.hok eq
  cases rq
  refine ⟨[(ky, zv)], ⟨kV_is ry, rfl, True.intro⟩, dq, fun h7 d7 s7 => ?_⟩
  have he7 : ∃ z, h7.get? h3.objs.size = some z := let ⟨z, _, _, hz, _⟩ := d7; ⟨z, hz⟩
  have k1 : KV [(ky, z)] [(ky, zv)] := .cons ⟨rfl, rz⟩ .nil
  have I7 := d_write (t' := s6.toks + 1) I6 (by rw [eq]; exact True.intro) s7 he7 (dk_new (by rw [sizeLine_eq]; show 1 ≤ 16777216; decide) yq (k1.merge .nil) d7)
  have ep7 : (L2.upd H6 h3.objs.size (.dK (mergeK [] [(ky, z)]))) s.heap.objs.size = some (.dK ms) := (upd_ne (Nat.ne_of_lt pl)).trans ep
  obtain ⟨_, yp7, vp7, rp7, dp7⟩ := dk_of I7.hok ep7
  have lp7 := rp7.length
  refine wpAny_bind (wpAny_onRaise (wpAny_holding (wpAny_mergeDD (Nat.ne_of_lt pl) yq dp7 d7 (fun h8 d8 s8 => ?_) (by rw [← lp7]; show ms.length + 1 ≤ sizeLine; omega))))
  have he8 : ∃ z, h8.get? s.heap.objs.size = some z := let ⟨z, _, _, hz, _⟩ := d8; ⟨z, hz⟩
  have lm8 := length_mergeK [(ky, z)] ms
  have I8 := d_write (t' := s6.toks + 1) I7 (by rw [ep7]; exact True.intro) s8 he8 (dk_new (by rw [List.length_singleton] at lm8; omega) yp7 (k1.merge rp7) d8)
  refine wpAny_pure ?_
  dsimp only
  refine wpAny_pure ⟨.ref s.heap.objs.size, _, I8, rfl, ?_⟩
  exact q6
end
end My

namespace My
open PySem L2 PySem.Spec PyProof.Rows Sem
/-! ### a def with **kw: what it gathers -/
def kwK (ex : List (Str × Value)) : List (Key × Value) := ex.map fun x => (.inr x.1, x.2)
section
variable {prog : Program} {w : World} {A : Around} {E : Value → Shared → Prop} {d : Addr}
theorem nsSet_at {s : Shared} {es : List DictEntry} {n : Nat} {k : Str} {v : Value} {Q : Unit → Shared → Prop} (D : s.heap.get? d = some (PySem.W.dictOf es n)) (hs : ∀ e ∈ es, e.key.isStr k = false) (hr : ∀ e ∈ es, e.refKey = false)
    (h : ∀ h', h'.get? d = some (PySem.W.dictOf (es ++ [⟨PyData.keyHash w.params k, .str k s.toks, v⟩]) (n + 1)) → Heap.SameBut d s.heap h' → Q () { s with heap := h', toks := s.toks + 1 }) : wpAny (model prog w) A (nsSet d k v) Q E s := by
  have e1 : es.any (·.key.isStr k) = false := by
    rw [Bool.eq_false_iff]
    intro q
    obtain ⟨e, he, z⟩ := List.any_eq_true.mp q
    rw [hs e he] at z
    cases z
  have e2 : es.any (·.refKey) = false := by
    rw [Bool.eq_false_iff]
    intro q
    obtain ⟨e, he, z⟩ := List.any_eq_true.mp q
    rw [hr e he] at z
    cases z
  have put : Obj.putName k (PyData.keyHash w.params k) (.str k s.toks) v (PySem.W.dictOf es n) = PySem.W.dictOf (es ++ [⟨PyData.keyHash w.params k, .str k s.toks, v⟩]) (n + 1) := by
    rw [PySem.W.putName_dict, PySem.W.putL_new hs]
    show PySem.W.dictOf _ (if es.any (·.key.isStr k) then n else n + 1) = _
    rw [e1, if_neg Bool.false_ne_true]
  have c : aRefKeyMayBeTheName k es.toArray = false := by
    rw [aRefKeyMayBeTheName_at, ← Array.any_toList, ← Array.any_toList]
    show (!es.any (·.key.isStr k) && es.any (·.refKey)) = false
    rw [e2, Bool.and_false]
  unfold nsSet
  refine wpAny_bind (wpAny_bind (wpAny_askSetting (wpAny_pure (wpAny_bind (wpAny_mkText (wpAny_bind (wpAny_loadPart D ?_)))))))
  dsimp only
  rw [c]
  refine wpAny_updatePart D (h _ ?_ (Heap.SameBut.update ..))
  rw [← put]
  exact Heap.get?_update_self _ D ((congrArg Obj.isFreed put).trans rfl)
theorem fill_at {Q : PUnit → Shared → Prop} : ∀ (ex : List (Str × Value)) (s : Shared) (es : List DictEntry) (n : Nat), s.heap.get? d = some (PySem.W.dictOf es n) → (∀ e ∈ es, ∀ x ∈ ex, e.key.isStr x.1 = false) → (∀ e ∈ es, e.refKey = false) → (ex.map (·.1)).Nodup →
    (∀ h', h'.get? d = some (PySem.W.dictOf (es ++ PySem.W.kwEs w.params s.toks ex) (n + ex.length)) → Heap.SameBut d s.heap h' → Q ⟨⟩ { s with heap := h', toks := s.toks + ex.length }) →
    wpAny (model prog w) A (forIn ex PUnit.unit fun x _ => (nsSet d x.1 x.2 >>= fun _ => Pure.pure (ForInStep.yield PUnit.unit))) Q E s := by
  intro ex
  induction ex with
  | nil =>
    intro s es n D _ _ _ h
    rw [List.forIn_nil]
    refine wpAny_pure (h s.heap ?_ (Heap.SameBut.refl _ _))
    show s.heap.get? d = some (PySem.W.dictOf (es ++ []) (n + 0))
    rw [List.append_nil]
    exact D
  | cons x r ih =>
    intro s es n D h1 h2 h3 h
    rw [List.map_cons, List.nodup_cons] at h3
    rw [List.forIn_cons]
    refine wpAny_bind (wpAny_bind (nsSet_at D (fun e he => h1 e he x List.mem_cons_self) h2 fun h' D' s' => wpAny_pure ?_))
    refine ih { s with heap := h', toks := s.toks + 1 } _ _ D' (fun e he y hy => ?_) (fun e he => ?_) h3.2 fun h5 D5 s5 => ?_
    · rcases List.mem_append.mp he with z | z
      · exact h1 e z y (List.mem_cons_of_mem _ hy)
      · rw [List.mem_singleton.mp z]
        show (x.1 == y.1) = false
        exact beq_false_of_ne fun q => h3.1 (List.mem_map.mpr ⟨y, hy, q.symm⟩)
    · rcases List.mem_append.mp he with z | z
      · exact h2 e z
      · rw [List.mem_singleton.mp z]
        rfl
    · have q := h h5 (by
        rw [D5, List.append_assoc]
        show _ = some (PySem.W.dictOf _ (n + (r.length + 1)))
        rw [show n + 1 + r.length = n + (r.length + 1) by omega]
        rfl) (s'.trans s5)
      have e : s.toks + 1 + r.length = s.toks + (r.length + 1) := by omega
      show Q _ { s with heap := h5, toks := s.toks + 1 + r.length }
      rw [e]
      exact q
theorem kwEs_mix : ∀ (ex : List (Str × Value)) (t : Tok), Pairs (mixKind prog w) (PySem.W.kwEs w.params t ex) (kwK ex)
  | [], _ => Pairs.nil
  | x :: r, t => Pairs.cons (kV_is (P := prog) (w := w) (k := .inr x.1) ⟨t, rfl⟩) rfl (kwEs_mix r (t + 1))
theorem kw_dict {h : Heap} {ex : List (Str × Value)} {t : Tok} {n : Nat} (e : h.get? d = some (PySem.W.dictOf (PySem.W.kwEs w.params t ex) n)) (nd : (ex.map (·.1)).Nodup) : h.DictOf (mixKind prog w) d (kwK ex) := by
  refine ⟨_, _, n, e, ⟨rfl, rfl, rfl⟩, rfl, fun e he => ?_, by simpa using kwEs_mix ex t, ?_⟩
  · obtain ⟨k, u, hk, hh⟩ := PySem.W.kwEs_key ex t e (List.mem_toArray.mp he)
    refine ⟨.inr k, ?_, ?_⟩
    · rw [hk]
      exact kV_is (P := prog) (w := w) (k := .inr k) ⟨u, rfl⟩
    · exact hh.trans rfl
  · unfold kwK
    rw [List.map_map]
    have e2 : ((fun x : Key × Value => x.1) ∘ fun x : Str × Value => ((Sum.inr x.1, x.2) : Key × Value)) = (Sum.inr : Str → Key) ∘ fun x : Str × Value => x.1 := rfl
    rw [e2, ← List.map_map]
    exact List.Pairwise.map _ (fun a b (h : a ≠ b) q => h (Sum.inr.inj q)) nd
end
section
variable {prog : Program} {w : World} {A : Around} {E : Value → Shared → Prop}
theorem gather (kw : List (Str × Value)) (g : Str × Value → List (Str × Value) × List (Str × Value) → Sem (ForInStep (List (Str × Value) × List (Str × Value)))) (hg : ∀ x e, g x ([], e) = Pure.pure (.yield ([], e ++ [x]))) :
    ∀ e : List (Str × Value), forIn kw (([], e) : List (Str × Value) × List (Str × Value)) g = Pure.pure ([], e ++ kw) := by
  induction kw with
  | nil =>
    intro e
    rw [List.forIn_nil, List.append_nil]
  | cons x r ih =>
    intro e
    rw [List.forIn_cons, hg, pure_bind]
    show forIn r ([], e ++ [x]) g = _
    rw [ih, List.append_assoc]
    rfl
theorem bind_kw {fd : FuncData} {kw : List (Str × Value)} {p : Arg} {s : Shared} {Q : List (Str × Value) → Shared → Prop} (h1 : fd.params = { posonlyargs := [], args := [], vararg := none, kwonlyargs := [], kw_defaults := [], kwarg := some p, defaults := [] }) (h2 : fd.defaults = .none) (nd : (kw.map (·.1)).Nodup) (hz : kw.length ≤ 1000)
    (h : ∀ h' tk, h'.DictOf (mixKind prog w) s.heap.objs.size (kwK kw) → (∀ b o, s.heap.get? b = some o → h'.get? b = some o) → Q [(p.arg, .ref s.heap.objs.size)] { s with heap := h', toks := tk }) :
    wpAny (model prog w) A (bindArgs fd ⟨[], kw⟩) Q E s := by
  unfold bindArgs
  rw [h1, h2]
  simp only [List.map_nil, List.append_nil, List.length_nil, List.zip_nil_left, List.contains_nil, Bool.false_or, Option.isSome_some, if_true, Bool.false_eq_true, if_false]
  rw [gather kw _ (fun x e => rfl) [], pure_bind, List.nil_append]
  have e0 : (seqItems? Value.none : Sem (Option (Array Value))) = Pure.pure none := rfl
  rw [e0, pure_bind]
  simp only [Option.getD_none, List.drop_nil, List.take_nil, List.filter_nil, List.isEmpty_nil, List.length_nil, List.zip_nil_left, List.forIn_nil, pure_bind, Bool.not_true, Bool.false_eq_true, if_false, List.filterMap_nil, List.nil_append]
  rw [if_neg (by decide), if_neg (by rw [sizeLine_eq]; omega)]
  refine wpAny_bind (wpAny_alloc (wpAny_bind ?_))
  have D0 : (s.heap.push { cls := Value.type "dict", data := Data.dict #[] }).get? s.heap.objs.size = some (PySem.W.dictOf [] 0) := Heap.get?_push_size _ rfl
  refine fill_at kw { s with heap := s.heap.push { cls := Value.type "dict", data := Data.dict #[] } } [] 0 D0 (fun e he => nomatch he) (fun e he => nomatch he) nd fun h' D' s' => wpAny_pure ?_
  rw [List.nil_append] at D'
  refine h h' (s.toks + kw.length) (kw_dict D' nd) fun b o e => ?_
  have nb : b ≠ s.heap.objs.size := Nat.ne_of_lt (Heap.lt_size e)
  exact (s'.2 b nb).trans (Heap.get?_push_of_some _ e)
/-! ### C.m(k = v, ..), m a staticmethod with **kw alone -/
end
section
variable {X : Cx} {pins : List (Addr × Obj)} {σ : L2.St} {H : Hp} {s : Shared} {C p f : Addr} {m : Str} {mc : Value} {k : Nat}
/-- C.m is a staticmethod: its record at p, its def at f -/
structure StaM (K : PySem.W.Frag) (C : Addr) (m : Str) (f : Addr) : Prop where
  ex : ∃ (mc : Value) (p : Addr) (rest : List Value), PySem.W.readsIn K C mc = true ∧ PySem.W.specialIn K (.ref C) "__getattribute__" = some (some (.builtin "type.__getattribute__")) ∧
    PySem.W.findCls K (.ref C) mc m = some (.get (.builtin "staticmethod.__get__") (.ref p) .none (.ref C)) ∧ PySem.W.recIn K p "staticmethod" = some (.ref f :: rest)
  kp : PySem.W.keepIn K (.ref f) = true
theorem getsta {pl : Sem Bool} {A : Around} {E : Value → Shared → Prop} {Q : Value × List Value → Shared → Prop} (I : Inv X pins σ H s) (r : StaM X.K C m f) (h : ∀ s', Inv X pins σ H s' → Q (.ref f, []) s') : wpAny (model X.prog X.w) A (getMethod (.ref C) m pl) Q E s := by
  obtain ⟨mc, p, rest, r1, r2, r3, r4⟩ := r.ex
  refine PySem.W.method_cls I.kIn r2 (PySem.W.cls_bind I.kIn r1 r3 (wpAny_call (PySem.W.sm_get (s := { s with toks := s.toks + 1 }) I.kIn r4 (PySem.W.handed_on rfl ?_))))
  exact h _ (I.tok _)
/-- the promise of a def whose one parameter is **kw: the pairs handed in -/
def keyV (ks : List Str) (zs : List V) : List (Key × V) := (ks.zip zs).map fun x => (.inr x.1, x.2)
theorem kv_zip : ∀ {ks : List Str} {zs : List V} {us : List Value}, Vals zs us → KV (keyV ks zs) (kwK (ks.zip us))
  | [], _, _, _ => by
    show KV ([] : List (Key × V)) ([] : List (Key × Value))
    exact .nil
  | _ :: _, _, _, .nil => by
    show KV ([] : List (Key × V)) ([] : List (Key × Value))
    exact .nil
  | k :: ks, _, _, .cons r t => .cons ⟨rfl, r⟩ (kv_zip t)
end
end My

namespace My
open PySem L2 PySem.Spec PyProof.Rows Sem
theorem pe_globE {X : Cx} {x : Str} {v : V} {pos : Pos} (hg : Gl X x) (h : ∃ u, X.mg x = some u ∧ RelV v u) (hdb : (x == ("__debug__" : Str)) = false := by decide) : PE X (.Name x pos) (tC v) := by
  obtain ⟨u, h1, h2⟩ := h
  exact pe_glob hg h1 h2 hdb
section
variable {X : Cx} {pins : List (Addr × Obj)} {σ : L2.St} {H : Hp} {s : Shared} {C f : Addr} {fd : FuncData} {m x qual : Str} {k : Nat} {st : Stmt} {N : List Str} {p : Arg} {ks : List Str}
theorem zip_keys : ∀ {ks : List Str} {us : List Value}, us.length = ks.length → (ks.zip us).map (·.1) = ks
  | [], _, _ => rfl
  | k :: ks, [], h => by simp at h
  | k :: ks, u :: us, h => by
    show k :: (ks.zip us).map (·.1) = _
    rw [zip_keys (by simpa using h)]
/-- the promise of such a def: where its dict will stand, the heap with it -/
abbrev SpK := List V → Hp → VK → Prop
theorem go_kw {zs : List V} {us : List Value} {Q : VK} (F : FunD X.K x qual (defArgs st) (defBody st) (defScope st) [] [] f fd) (S : FnScope N [p.arg] (defScope st)) (hp : defArgs st = { posonlyargs := [], args := [], vararg := none, kwonlyargs := [], kw_defaults := [], kwarg := some p, defaults := [] })
    (nd : ks.Nodup) (hz : ks.length ≤ 1000) (hr : RoomG (k + 1) X.A) (I : Inv X pins σ H s) (rz : Vals zs us) (hl : zs.length = ks.length)
    (hb : ∀ (cdv : Value) (s1 : Shared) (d : Addr), H d = none → RoomG k (X.A.deeper (envOfC qual (defScope st) s1.heap.objs.size f cdv)) → ∃ t, PSs (cxOf CX0 X.prog X.w X.K X.mg X.base N qual (defScope st) f cdv X.A X.stack s1 (L2.upd H d (.dK (keyV ks zs))) E0) (defBody st) t ∧
      t { nx := fun _ H' => Q .non H', rt := Q } (L2.start N [.ref d]) (L2.upd H d (.dK (keyV ks zs)))) :
    wpAny (model X.prog X.w) X.A (call (.ref f) [] (ks.zip us)) (EP X pins σ Q) X.xe s := by
  obtain ⟨oc, od, dV, kV, doc, pm, an, cdv, ct, osl, rfl, lk, hcd, hD, _⟩ := F.ex
  have dV0 : dV = .none := by
    rcases hD with ⟨_, z⟩ | ⟨z, _⟩
    · exact z
    · exact absurd rfl z
  subst dV0
  have hlu : us.length = ks.length := rz.length.symm.trans hl
  have ndz : ((ks.zip us).map (·.1)).Nodup := by
    rw [zip_keys hlu]
    exact nd
  have lz : (ks.zip us).length ≤ 1000 := by
    rw [List.length_zip]
    omega
  refine wpAny_call (codeAny_mono (R := fun r s' => match r with | .ok (.ret u) => EP X pins σ Q u s' | _ => False) ?_ fun r s' hq => ?_)
  · refine codeAny_call_function hr.r.depth (I.kIn _ _ lk) rfl S.co S.gen rfl (PySem.W.codeRec_of I.kIn hcd) (bind_kw (by exact hp) rfl ndz lz fun h' tk hd hk => ?_)
    have nH := I.hok.fresh (Nat.le_refl s.heap.objs.size)
    have rel : KV (keyV ks zs) (kwK (ks.zip us)) := kv_zip rz
    have zl : (keyV ks zs).length ≤ sizeLine := by
      unfold keyV
      rw [List.length_map, List.length_zip, sizeLine_eq]
      omega
    have I1 := I.laid (a := s.heap.objs.size) (t' := tk) hk (Nat.le_refl _) (o := .dK (keyV ks zs)) ⟨zl, beq_eq_false_iff_ne.mpr (Ne.symm (Nat.ne_of_lt I.big)), _, rel, hd⟩
    have e0 := I1.env0
    refine wpAny_newFunctionEnv_cells S.kind ?_ fun env he s1 xx => ?_
    · rintro ⟨n, v⟩ hy
      have hn : n = p.arg := (show n = p.arg ∧ v = Value.ref s.heap.objs.size by simpa using hy).1
      subst hn
      cases S.par _ (List.mem_singleton.mpr rfl) with
      | inl q => exact Or.inl q
      | inr q => exact Or.inr ⟨q, PySem.W.cellsFrom_some _ _ _ (Or.inl q)⟩
    · subst he
      refine ⟨(I1.nolimit).keeps xx.toInCall.keep, codeAny_func ?_⟩
      obtain ⟨t, ht, hq⟩ := hb cdv { s with heap := h', toks := tk } s.heap.objs.size nH ⟨hr.r.deeper _, hr.g⟩
      have I0 := inv_start (CX := CX0) (P := X.prog) (E := E0) (ps := [p.arg]) (us := [.ref s.heap.objs.size]) (vs := [.ref s.heap.objs.size]) S hr.r.hd e0 rfl (.cons rfl .nil) xx
      refine wpAny_mono (ht.run [] s1 (L2.start N [.ref s.heap.objs.size]) _ _ I0 hq) ?_ (fun _ _ z => ?_)
      · intro fl s' hs
        have fin : ∀ {u : Value} {v : V} {H' : Hp} {σ' : L2.St}, Inv (cxOf CX0 X.prog X.w X.K X.mg X.base N qual (defScope st) f cdv X.A X.stack { s with heap := h', toks := tk } (L2.upd H s.heap.objs.size (.dK (keyV ks zs))) E0) [] σ' H' s' → RelV v u → Q v H' → EP X pins σ Q u s' := fun {u v H' σ'} J rv q => I1.after ⟨v, H', J.os, J.bare, J.base, J.hok, rv, q⟩
        cases fl with
        | ret u => obtain ⟨v, σ', H', J, rv, q⟩ := hs; exact fin J rv q
        | next => obtain ⟨σ', H', J, q⟩ := hs; exact fin (v := V.non) J rfl q
        | brk => exact hs.elim fun _ z => z.elim fun _ y => y.2.elim
        | cont => exact hs.elim fun _ z => z.elim fun _ y => y.2.elim
      · exact z
  · cases r with
    | error e => exact (show False from hq).elim
    | ok fl => cases fl with
      | ret u => exact hq
      | next => exact (show False from hq).elim
      | brk => exact (show False from hq).elim
      | cont => exact (show False from hq).elim
/-- C.m(k = v, ..) -/
def tStaK (l : Nat) (sp : SpK) (tk : TA) : TE := fun σ H Q => tk σ H fun zs H1 => zs.length = l ∧ sp zs H1 Q
/-- a staticmethod with **kw by its class's name -/
structure StaK (P : Program) (w : World) (K : PySem.W.Frag) (mg : Str → Option Value) (base : Heap) (y : Str) (C : Addr) (m : Str) (k : Nat) (ks : List Str) (sp : SpK) : Prop where
  ex : ∃ (f : Addr) (fd : FuncData) (qual : Str) (st : Stmt) (N : List Str) (p : Arg), mg y = some (.ref C) ∧ StaM K C m f ∧ FunD K m qual (defArgs st) (defBody st) (defScope st) [] [] f fd ∧ FnScope N [p.arg] (defScope st) ∧
    defArgs st = { posonlyargs := [], args := [], vararg := none, kwonlyargs := [], kw_defaults := [], kwarg := some p, defaults := [] } ∧ ks.Nodup ∧ ks.length ≤ 1000 ∧
    ∀ (cdv : Value) (A : Around) (outer : List Env) (s1 : Shared) (H : Hp) (zs : List V) (Q : VK) (d : Addr), zs.length = ks.length → H d = none → sp zs H Q → RoomG k (A.deeper (envOfC qual (defScope st) s1.heap.objs.size f cdv)) →
      ∃ t, PSs (cxOf CX0 P w K mg base N qual (defScope st) f cdv A outer s1 (L2.upd H d (.dK (keyV ks zs))) E0) (defBody st) t ∧ t { nx := fun _ H' => Q .non H', rt := Q } (L2.start N [.ref d]) (L2.upd H d (.dK (keyV ks zs)))
theorem pe_staK {y : Str} {sp : SpK} {tk : TA} {kws : List Keyword} {p1 pos apos : Pos} {pl : Sem Bool} (D : StaK X.prog X.w X.K X.mg X.base y C m k ks sp) (hr : RoomG (k + 1) X.A) (hg : Gl X y) (hkw : PK X kws tk)
    (hall : (backToKw pos (keywordEach kws X.env)).all (·.1.isSome) = true := by rfl) (hks : (backToKw pos (keywordEach kws X.env)).filterMap (·.1) = ks := by rfl)
    (hpl : ((backTo pos (starEach [] X.env)).any (fun q => q.1) || (backToKw pos (keywordEach kws X.env)).any (fun q => q.1.isNone)) = false := by rfl)
    (h3 : eval (.Call (.Attribute (.Name y p1) m apos) [] kws pos) X.env = (do
      let v ← eval (.Name y p1) X.env
      standAt apos.atName
      let (g, fst) ← holding [v] (getMethod v m pl)
      callWith pos g fst (backTo pos (starEach [] X.env)) (backToKw pos (keywordEach kws X.env))) := by rfl) (hdb : (y == ("__debug__" : Str)) = false := by decide) : PE X (.Call (.Attribute (.Name y p1) m apos) [] kws pos) (tStaK ks.length sp tk) := by
  obtain ⟨f, fd, qual, st, N, p, hm, hS, F, S, hp, nd, hz, hb⟩ := D.ex
  constructor
  intro pins s σ H Q I h
  refine PySem.W.methodCall_KW (pl := pl) (ld_glob I hg hm ?_ hdb) h3
  refine getsta I hS fun s1 I1 => ?_
  refine PySem.W.callWith_KW0 (first := []) (h₀ := X.base) I1.ok.mod.kin hS.kp hall ?_ hpl
  refine thn (hkw.run pos pins s1 σ H _ I1 h) fun ws s2 ⟨zs, H2, I2, rz, l2, q2⟩ => ⟨I2.kIn, ?_⟩
  rw [hks]
  exact go_kw F S hp nd hz hr I2 rz l2 fun cdv s3 d nd' hr' => hb cdv X.A X.stack s3 H2 zs Q d l2 nd' q2 hr'
end
end My

namespace My
open PySem L2 PySem.Spec PyProof.Rows PySem.W
/-! ### an end by one run of the top -/
theorem walkGE {l : OpenLaw} {n k : Nat} {q : Program} {loose : List Str} {XP : (Str → Option Value) → Heap → Prop} {YP : World → Heap → Prop} {d : DefRec} {x : Str} (hn : l.most = some n) (hn2 : n ≤ sizeLine) (hdf : d.params.defaults = []) (hr : RoomG k callerA)
    (F : ∀ (w : World) (mg : Str → Option Value) (fa : Addr) (h : Heap), YP w h → h.Ns mainGlobals mg → mg d.name = some (.ref fa) → ∃ (K : Frag) (fd : FuncData) (sp : Sp), K.In h ∧ (∀ (s : Shared) (u : Value), BindsTo s fd ⟨[u], []⟩ [(x, u)]) ∧
      (∀ (H : Hp) (a : Addr) (ns : List Int), ns.length ≤ n → Only H → SqL K H a (ns.map V.int) → sp [.ref a] H (fun v _ => v = .bl true) E0) ∧ ∀ base : Heap, K.In base → base.Ns mainGlobals mg → FnG l.prog w K mg base CX0 k fa fd [x] sp) :
    WalkO q loose XP YP l.row.toRowW d [] (fun f vs => PySem.call f vs) := by
  refine Att.attach_call hn hdf ?_
  intro w s₀ s₁ mg mb fa o pm cd doc a vs ns G Y ho hd hcd hmg hobj hints hlen hg
  obtain ⟨K, fd, sp, KX, hb, hsp, hF⟩ := F w mg fa _ Y G.T.g hmg
  exact lawG KX G.T.g G.T.b G.T.builtins G.T.nolimit hg hobj hints (Nat.le_trans hlen hn2) hr hF hb fun H h1 h2 => hsp H a ns hlen h1 h2
/-! ### the facts of an exception class as one test -/
def exfB (K : Frag) (C : Addr) (mro : List Value) (newId : String) : Bool :=
  match K.lookup C with
    | some ⟨c, _, .cls cd, sl⟩ => decide (c = .type "type") && (decide (cd.mro = mro) && (cd.hasDict && (!cd.hasDel && (decide (sl.toList.length = 6) && decide (sl.toList[4]? = some (some (.builtin newId)))))))
    | _ => false
theorem exfB_ok {K : Frag} {C : Addr} {mro : List Value} {newId : String} (h : exfB K C mro newId = true) : ∃ (nm qn : Str) (bs sb : List Value) (ns : Addr) (sn : List Str) (ab : Bool) (co : Option Bool) (dd : Option Addr) (k0 k1 k2 k3 k5 : Option Value),
    K.lookup C = some ⟨.type "type", dd, .cls ⟨nm, bs, mro, ns, qn, true, sn, sb, ab, co, false⟩, #[k0, k1, k2, k3, some (.builtin newId), k5]⟩ := by
  unfold exfB at h
  split at h
  · rename_i c dd cd sl e
    simp only [Bool.and_eq_true, decide_eq_true_eq, Bool.not_eq_true'] at h
    obtain ⟨h1, h2, h3, h4, h5, h6⟩ := h
    obtain ⟨nm, bs, mr, ns, qn, hd, sn, sb, ab, co, hl⟩ := cd
    obtain ⟨l⟩ := sl
    dsimp only at h1 h2 h3 h4 h5 h6
    subst h1
    subst h2
    subst h3
    subst h4
    match l, h5, h6 with
    | [a0, a1, a2, a3, a4, a5], _, h6 =>
      have e4 : a4 = some (.builtin newId) := Option.some.inj h6
      subst e4
      exact ⟨nm, qn, bs, sb, ns, sn, ab, co, dd, a0, a1, a2, a3, a5, e⟩
  · cases h
def eqO (a b : Option (Option Value)) : Bool := decide (a = b)
def excB (K : Frag) (C : Addr) (mro : List Value) (newId : String) : Bool :=
  exfB K C mro newId && (eqO (findIn K (.ref C) "__setattr__") (some (some (.builtin "object.__setattr__"))) && (keepIn K (.ref C) && (eqO (findIn K (.ref C) "__getattribute__") (some (some (.builtin "BaseException.__getattribute__"))) &&
    (eqO (findIn K (.ref C) "__getattr__") (some none) && (eqO (findIn K (.ref C) "__class__") (some (some (.builtin "object.__class__"))) && decide (typeIn K (.ref C) = some (.type "type")))))))
theorem excB_ok {K : Frag} {C : Addr} {mro : List Value} {newId : String} (h : excB K C mro newId = true) : ExF K C mro newId := by
  unfold excB eqO at h
  simp only [Bool.and_eq_true, decide_eq_true_eq] at h
  obtain ⟨h1, h2, h3, h4, h5, h6, h7⟩ := h
  exact ⟨exfB_ok h1, h2, h3, h4, h5, h6, h7⟩
/-- an own __init__ -/
def iniB (K : Frag) (C : Addr) : Bool := eqO (findIn K (.ref C) "__init__") (some (some (.ref (He.ma K C "__init__")))) && isFn K (.ref (He.ma K C "__init__"))
theorem iniB_ok {K : Frag} {C : Addr} (h : iniB K C = true) : findIn K (.ref C) "__init__" = some (some (.ref (He.ma K C "__init__"))) ∧ isFn K (.ref (He.ma K C "__init__")) = true := by
  unfold iniB eqO at h
  simp only [Bool.and_eq_true, decide_eq_true_eq] at h
  exact h
/-- tests one behind the other, each found again by its place -/
theorem all_at {ts : List Bool} (h : (ts.all id) = true) (i : Nat) {b : Bool} (e : ts[i]? = some b) : b = true := by
  exact List.all_eq_true.mp h b (List.mem_of_getElem? e)
end My

namespace My
open PySem L2 PySem.Spec PyProof.Rows PySem.W
/-! ### defs that stand elsewhere: a staticmethod's, a property's -/
def fnA (K : Frag) (a : Addr) : He.FnW := match K.lookup a with
  | some ⟨_, _, .func fd, _⟩ => some (fd.name, fd.qualname, fd.params, fd.body, fd.scope, fd.globals, fd.closure, fd.builtins)
  | _ => none
def okA (K : Frag) (a : Addr) (d : He.DefD) : Bool := keepIn K (.ref a) && (match K.lookup a with
  | some ⟨_, _, .func fd, _⟩ => codeIn K fd.code d.qual && (He.dflB K fd.defaults (d.dvs K) && He.kwdB K fd.kwdefaults (d.kws K))
  | _ => false)
theorem funA {K : Frag} {a : Addr} {d : He.DefD} (e : fnA K a = d.val) (c : okA K a d = true) : ∃ fd, FunD K d.name d.qual d.params d.body d.scope (d.dvs K) (d.kws K) a fd := by
  obtain ⟨kp, c2⟩ := He.ba c
  unfold fnA at e
  cases q : K.lookup a with
  | none =>
    rw [q] at c2
    cases c2
  | some o =>
    obtain ⟨oc, od, dt, osl⟩ := o
    rw [q] at c2 e
    cases dt with
    | func fd =>
      obtain ⟨n1, n2, n3, n4, n5, n6, n7, n8, n9, n10, n11, n12, n13, n14, n15⟩ := fd
      have e2 : (some (n1, n2, n3, n4, n5, n6, n7, n15) : He.FnW) = some (d.name, d.qual, d.params, .stmts d.body, d.scope, mainGlobals, [], builtinsNs) := e
      simp only [Option.some.injEq, Prod.mk.injEq] at e2
      obtain ⟨h1, h2, h3, h4, h5, h6, h7, h8⟩ := e2
      subst h1 h2 h3 h4 h5 h6 h7 h8
      obtain ⟨k1, k2⟩ := He.ba (show (codeIn K n13 d.qual && (He.dflB K n8 (d.dvs K) && He.kwdB K n9 (d.kws K))) = true from c2)
      obtain ⟨k3, k4⟩ := He.ba k2
      exact ⟨_, ⟨oc, od, n8, n9, n10, n11, n12, n13, n14, osl, rfl, q, k1, He.dflB_ok k3, He.kwdB_ok k4⟩, kp⟩
    | _ => cases c2
abbrev AtD : Type := (Frag → Addr) × He.DefD
abbrev AlY : Type := He.AlD × (Bool × List He.FnW)
def obsY (fa : List He.Fa) (fn : List He.DefD) (ad : List AtD) (ex : Frag → Bool) (K : Frag) : AlY := (He.obsD fa fn K, (ex K && ad.all fun d => okA K (d.1 K) d.2, ad.map fun d => fnA K (d.1 K)))
def valY (fn : List He.DefD) (ad : List AtD) : AlY := (He.valD fn, (true, ad.map fun d => d.2.val))
def SaysY (fa : List He.Fa) (fn : List He.DefD) (ad : List AtD) (ex : Frag → Bool) (K : Frag) : Prop := obsY fa fn ad ex K = valY fn ad
def obsYG (n : Nat) (fa : List He.Fa) (fn : List He.DefD) (ad : List AtD) (ex : Frag → Bool) (g : Addr → Option Obj) : AlY := obsY fa fn ad ex (He.frG g (He.asD g n ++ [cStatics]))
def hookY (n : Nat) (fa : List He.Fa) (fn : List He.DefD) (ad : List AtD) (ex : Frag → Bool) : Hook where
  α := AlY
  obs := fun s => obsYG n fa fn ad ex s.heap.get?
  val := fun _ => valY fn ad
  says := fun _ h => ∃ K : Frag, K.In h ∧ SaysY fa fn ad ex K
  of := fun _ _ e => ⟨_, He.frG_in, e⟩
  keeps := fun _ _ _ ⟨K, hK, c⟩ k => ⟨K, Frag.In.keeps hK k, c⟩
theorem obsYG_eq {n : Nat} {fa : List He.Fa} {fn : List He.DefD} {ad : List AtD} {ex : Frag → Bool} {g : Addr → Option Obj} {s : Shared} (h : ∀ a, g a = s.heap.get? a) : obsYG n fa fn ad ex g = (hookY n fa fn ad ex).obs s := by
  have e : g = s.heap.get? := funext h
  rw [e]
  rfl
section
variable {fa : List He.Fa} {fn : List He.DefD} {ad : List AtD} {ex : Frag → Bool} {K : Frag}
theorem SaysY.d (c : SaysY fa fn ad ex K) : He.SaysD fa fn K := congrArg (fun z : AlY => z.1) c
theorem SaysY.more (c : SaysY fa fn ad ex K) : ex K = true ∧ (ad.all fun d => okA K (d.1 K) d.2) = true := He.ba (congrArg (fun z : AlY => z.2.1) c)
theorem SaysY.at_ (c : SaysY fa fn ad ex K) (i : Nat) {d : AtD} (h : ad[i]? = some d) : ∃ fd, FunD K d.2.name d.2.qual d.2.params d.2.body d.2.scope (d.2.dvs K) (d.2.kws K) (d.1 K) fd := by
  have e : (ad.map fun d => fnA K (d.1 K)) = ad.map fun d => d.2.val := congrArg (fun z : AlY => z.2.2) c
  have e2 := congrArg (fun l => l[i]?) e
  simp only [List.getElem?_map, h, Option.map_some, Option.some.injEq] at e2
  exact funA e2 (List.all_eq_true.mp c.more.2 d (List.mem_of_getElem? h))
end
/-! ### staticmethods -/
def staP (K : Frag) (C : Addr) (m : Str) : Addr := match findCls K (.ref C) (.type "type") m with
  | some (.get _ (.ref p) _ _) => p
  | _ => 0
def staF (K : Frag) (C : Addr) (m : Str) : Addr := match recIn K (staP K C m) "staticmethod" with
  | some (.ref f :: _) => f
  | _ => 0
def staB (K : Frag) (C : Addr) (m : Str) : Bool := readsIn K C (.type "type") && (eqO (specialIn K (.ref C) "__getattribute__") (some (some (.builtin "type.__getattribute__"))) && (match findCls K (.ref C) (.type "type") m with
  | some (.get g (.ref _) o t) => decide (g = .builtin "staticmethod.__get__") && (decide (o = .none) && (decide (t = .ref C) && (match recIn K (staP K C m) "staticmethod" with
    | some (.ref _ :: _) => keepIn K (.ref (staF K C m))
    | _ => false)))
  | _ => false))
theorem staB_ok {K : Frag} {C : Addr} {m : Str} (h : staB K C m = true) : StaM K C m (staF K C m) := by
  obtain ⟨h1, h2⟩ := He.ba h
  obtain ⟨h3, h4⟩ := He.ba h2
  have h5 : specialIn K (.ref C) "__getattribute__" = some (some (.builtin "type.__getattribute__")) := of_decide_eq_true h3
  have key : ∀ g p o t, findCls K (.ref C) (.type "type") m = some (.get g (.ref p) o t) → StaM K C m (staF K C m) := by
    intro g p o t e
    have ep : staP K C m = p := by
      unfold staP
      rw [e]
    rw [e] at h4
    obtain ⟨k1, k2⟩ := He.ba (show (decide (g = .builtin "staticmethod.__get__") && _) = true from h4)
    obtain ⟨k3, k4⟩ := He.ba k2
    obtain ⟨k5, k6⟩ := He.ba k4
    have g1 := of_decide_eq_true k1
    have g2 := of_decide_eq_true k3
    have g3 := of_decide_eq_true k5
    subst g1
    subst g2
    subst g3
    rw [ep] at k6
    split at k6
    · rename_i f rest er
      have ef : staF K C m = f := by
        unfold staF
        rw [ep, er]
      rw [ef]
      rw [ef] at k6
      exact ⟨⟨_, p, rest, h1, h5, e, er⟩, k6⟩
    · cases k6
  revert h4
  split
  · rename_i g p o t e
    intro _
    exact key g p o t e
  · intro z
    cases z
theorem int_okE {K : Frag} {h : Heap} {mg : Str → Option Value} (X : K.In h) (G : h.Ns mainGlobals mg) {x : Str} {i : Int} (c : (He.Fa.int x i).ok K = true) : ∃ u, mg x = some u ∧ RelV (.int i) u := by
  obtain ⟨t, e⟩ := He.int_ok X G c
  exact ⟨_, e, ⟨t, rfl⟩⟩
theorem str_okE {K : Frag} {h : Heap} {mg : Str → Option Value} (X : K.In h) (G : h.Ns mainGlobals mg) {x z : Str} (c : (He.Fa.str x z).ok K = true) : ∃ u, mg x = some u ∧ RelV (.str z) u := by
  obtain ⟨t, e⟩ := He.str_ok X G c
  exact ⟨_, e, ⟨t, rfl⟩⟩
/-- an own object's class, as isinstance sees it -/
theorem ins_ok {K : Frag} {C : Addr} (k : Cls K C) (ha : findIn K (.ref C) "__class__" = some (some (.builtin "object.__class__"))) (hn : specialIn K (.builtin "object.__class__") "__get__" = some (some (.builtin "getset_descriptor.__get__"))) (ht : takesIn K (.builtin "object.__class__") = some true)
    (hm : mroIn K C (.type "object") = some true) : ∀ {H : Hp} {a dx : Addr} {fs : List (Str × V)}, H a = some (.ins C dx fs) → TyOf K H (.ref a) (.ref C) := fun e => .ins e k ha hn ht hm
end My

namespace My
open PySem L2 PySem.Spec PyProof.Rows PySem.W
/-! ### displays over a dict's keys, over texts -/
theorem dc_it {J : It} {n : Nat} {G : Hp → Prop} {Y : Nat → Hp → V → Hp → Prop} (w : Walk J n G Y) {g : TG} {tt : TT} {tk tv : TE} {vs : List Nat} {σ : L2.St} {H1 : Hp} {D : Addr} {Qd : Hp → Prop} (Pv : Nat → Hp → Prop) (h0 : Pv 0 (L2.upd H1 D (.dK []))) (hG : ∀ i H, i ≤ n → Pv i H → G H)
    (hs : ∀ i x H H', i < n → Pv i H → Y i H x H' → g x (wipe σ vs) H' fun σ2 H2 => wipe σ2 vs = wipe σ vs ∧ tt σ2 H2 fun b H3 =>
      if b = true then tk σ2 H3 fun y H4 => tv σ2 H4 fun z H5 => ∃ kvs k, y = kV k ∧ H5 D = some (.dK kvs) ∧ kvs.length < sizeLine ∧ Pv (i + 1) (L2.upd H5 D (.dK (putK kvs k z))) else Pv (i + 1) H3) (hd : ∀ H, Pv n H → Qd H) :
    ∃ W : Nat → Nat → Hp → Prop, (∃ m, W 0 m (L2.upd H1 D (.dK []))) ∧ ∀ i m H, W i m H →
      (J.stop i H ∧ Qd H) ∨ (J.go i H ∧ ∃ Nx : Hp → Prop, (∀ H', Nx H' → ∃ m', m' < m ∧ W (i + 1) m' H') ∧ ∀ x H', J.yld i H x H' → g x (wipe σ vs) H' fun σ2 H2 => wipe σ2 vs = wipe σ vs ∧ tt σ2 H2 fun b H3 =>
        if b = true then tk σ2 H3 fun y H4 => tv σ2 H4 fun z H5 => ∃ kvs k, y = kV k ∧ H5 D = some (.dK kvs) ∧ kvs.length < sizeLine ∧ Nx (L2.upd H5 D (.dK (putK kvs k z))) else Nx H3) := by
  refine ⟨fun i m H => m = n - i ∧ (i ≤ n ∧ Pv i H), ⟨n, ⟨by simp, Nat.zero_le _, h0⟩⟩, fun i m H hW => ?_⟩
  obtain ⟨rfl, hi, p⟩ := hW
  have q := hG i H hi p
  rcases Nat.lt_or_ge i n with hlt | hge
  · exact .inr ⟨w.goes i H hlt q, Pv (i + 1), fun H' p' => ⟨n - (i + 1), by omega, ⟨rfl, hlt, p'⟩⟩, fun x H' y => hs i x H H' hlt p (w.yields i H x H' hlt q y)⟩
  · obtain rfl : i = n := Nat.le_antisymm hi hge
    exact .inl ⟨w.stops H q, hd H p⟩
theorem putK_new {κ : Type} [DecidableEq κ] {kvs : List (κ × V)} {k : κ} {v : V} (h : ∀ p ∈ kvs, p.1 ≠ k) : putK kvs k v = kvs ++ [(k, v)] := by
  unfold putK
  rw [if_neg]
  intro z
  obtain ⟨p, hp, e⟩ := List.any_eq_true.mp z
  exact h p hp (of_decide_eq_true e)
theorem dk_append (a b : List (Str × Int)) : dk (a ++ b) = dk a ++ dk b := List.map_append
theorem dk_at {d : List (Str × Int)} {i : Nat} {k : Key} {v : V} (h : (dk d)[i]? = some (k, v)) : ∃ p, d[i]? = some p ∧ k = .inr p.1 := by
  unfold dk at h
  rw [List.getElem?_map] at h
  cases e : d[i]? with
  | none => rw [e] at h; cases h
  | some p =>
    rw [e] at h
    have h2 := Option.some.inj h
    exact ⟨p, rfl, (congrArg Prod.fst h2).symm⟩
/-- one more, at its end, in the dict of the first i -/
theorem putK_dk {d : List (Str × Int)} {i : Nat} {p : Str × Int} (nd : (d.map (·.1)).Nodup) (h : d[i]? = some p) : putK (dk (d.take i)) (.inr p.1) (.int p.2) = dk (d.take (i + 1)) := by
  rw [putK_new]
  · rw [List.take_add_one, h, dk_append]
    rfl
  · intro q hq e
    obtain ⟨r, hr, rfl⟩ := List.mem_map.mp hq
    have e2 : r.1 = p.1 := Sum.inr.inj e
    obtain ⟨j, hj, ej⟩ := List.getElem_of_mem hr
    rw [List.length_take] at hj
    obtain ⟨hi, ei⟩ := List.getElem?_eq_some_iff.mp h
    have hj2 : j < d.length := by omega
    rw [List.getElem_take] at ej
    have hne := (List.nodup_iff_pairwise_ne.mp nd)
    have := List.pairwise_iff_getElem.mp hne j i (by simpa using hj2) (by simpa using hi) (by omega)
    simp only [List.getElem_map] at this
    rw [ej, ei] at this
    exact this e2
section
variable {K : PySem.W.Frag} {d : List (Str × Int)} {q : Addr} {g : TG} {te tk tv td : TE} {vs : List Nat} {σ : L2.St} {H : Hp} {Q : VK}
/-- [e for k in d]: Rel by the list's place, the turn, the value -/
theorem lock_lcR (Rel : Addr → Nat → V → Hp → Prop) (hq : H q = some (.dK (dk d))) (hl : d.length < 1000)
    (hm : ∀ D i v H1 H2, (∀ x o, x ≠ q → x ≠ D → H1 x = some o → H2 x = some o) → Rel D i v H1 → Rel D i v H2)
    (ht : ∀ (H' : Hp) (R : VK), (∀ x, x ≠ q → H' x = H x) → R (.ref q) H' → td σ H' R)
    (hs : ∀ (od : Obj) (D : Addr) (i : Nat) (p : Str × Int) (H' : Hp) (R : VK) (F : Hp → Prop), d[i]? = some p → H D = none → D ≠ q → H' q = some (.frz od (.dK (dk d))) → (∀ x o, x ≠ q → H x = some o → H' x = some o) → H' D ≠ none →
      (∀ v H5, L2.Same H' H5 → Rel D i v H5 → R v H5) → g (.str p.1) (wipe σ vs) H' fun σ2 H2 => wipe σ2 vs = wipe σ vs ∧ tYes σ2 H2 fun b H3 => if b = true then te σ2 H3 R else F H3)
    (hQ : ∀ D H' xs, H D = none → L2.Same H H' → H' D = some (.lst xs) → xs.length = d.length → (∀ i v, xs[i]? = some v → Rel D i v H') → Q (.ref D) H') : tLockE (tLc (iKeys td) g tYes te vs) σ H Q := by
  refine ⟨q, _, hq, True.intro, fun od => ?_⟩
  refine s_lc ?_
  refine ht _ _ (fun x e => upd_ne e) ?_
  refine ⟨q, od, rfl, .inl ⟨_, upd_same, fun D nD => ?_⟩⟩
  have hDq : D ≠ q := fun e => by
    rw [e, upd_same] at nD
    cases nD
  have nD0 : H D = none := by
    rw [upd_ne hDq] at nD
    exact nD
  refine L2.lc_it walk_keys (fun i H' => H' q = some (.frz od (.dK (dk d))) ∧ (∀ x o, x ≠ q → H x = some o → H' x = some o) ∧ ∃ xs, H' D = some (.lst xs) ∧ xs.length = i ∧ ∀ j v, xs[j]? = some v → Rel D j v H') ?_ (fun _ _ _ h => h.1) ?_ ?_
  · refine ⟨(upd_ne hDq.symm).trans upd_same, fun x o hx e => ?_, [], upd_same, rfl, fun j v e => by cases e⟩
    have hxD : x ≠ D := fun z => by
      rw [z, nD0] at e
      cases e
    exact (upd_ne hxD).trans ((upd_ne hx).trans e)
  · rintro i x H1 H2 hi ⟨h1, h2, xs, hD, hlen, hr⟩ ⟨rfl, k, v, hk, rfl⟩
    obtain ⟨p, hp, rfl⟩ := dk_at hk
    refine hs od D i p H2 _ _ hp nD0 hDq h1 h2 (by rw [hD]; simp) (fun y H5 s5 r5 => ⟨xs, s5 _ _ hD, ?_, ?_⟩)
    · rw [dk_length] at hi
      rw [sizeLine_eq]
      omega
    · have up : ∀ x o, x ≠ q → x ≠ D → H5 x = some o → (L2.upd H5 D (.lst (xs ++ [y]))) x = some o := fun x o _ hx e => (upd_ne hx).trans e
      refine ⟨(upd_ne hDq.symm).trans (s5 _ _ h1), fun x o hx e => ?_, _, upd_same, by rw [List.length_append, hlen]; rfl, fun j z ez => ?_⟩
      · have hxD : x ≠ D := fun z => by
          rw [z, nD0] at e
          cases e
        exact (upd_ne hxD).trans (s5 _ _ (h2 x o hx e))
      · rcases Nat.lt_or_ge j xs.length with hj | hj
        · rw [List.getElem?_append_left hj] at ez
          exact hm D j z _ _ up (hm D j z _ _ (fun x o _ _ e => s5 x o e) (hr j z ez))
        · rw [List.getElem?_append_right hj] at ez
          have ej : j = i := by
            rcases Nat.eq_or_lt_of_le hj with e | e
            · omega
            · rw [List.getElem?_eq_none (by simp; omega)] at ez
              cases ez
          subst ej
          rw [hlen, Nat.sub_self] at ez
          have e2 : y = z := Option.some.inj ez
          subst e2
          exact hm D j y _ _ up r5
  · rintro H1 ⟨h1, h2, xs, hD, hlen, hr⟩
    refine ⟨h1, hQ D _ xs nD0 (fun x o e => ?_) ((upd_ne hDq).trans hD) (hlen.trans (dk_length d)) fun i v e => hm D i v _ _ (fun x o hx _ e => (upd_ne hx).trans e) (hr i v e)⟩
    by_cases hx : x = q
    · subst hx
      rw [upd_same, ← hq]
      exact e
    · exact (upd_ne hx).trans (h2 x o hx e)
/-- .. whose values are no new things -/
theorem lock_lc (f : Str × Int → V) (hq : H q = some (.dK (dk d))) (hl : d.length < 1000)
    (ht : ∀ (H' : Hp) (R : VK), (∀ x, x ≠ q → H' x = H x) → R (.ref q) H' → td σ H' R)
    (hs : ∀ (od : Obj) (D : Addr) (i : Nat) (p : Str × Int) (H' : Hp) (R : VK) (F : Hp → Prop), d[i]? = some p → H D = none → D ≠ q → H' q = some (.frz od (.dK (dk d))) → (∀ x o, x ≠ q → H x = some o → H' x = some o) → H' D ≠ none →
      (∀ H5, L2.Same H' H5 → R (f p) H5) → g (.str p.1) (wipe σ vs) H' fun σ2 H2 => wipe σ2 vs = wipe σ vs ∧ tYes σ2 H2 fun b H3 => if b = true then te σ2 H3 R else F H3)
    (hQ : ∀ D H', H D = none → L2.Same H H' → H' D = some (.lst (d.map f)) → Q (.ref D) H') : tLockE (tLc (iKeys td) g tYes te vs) σ H Q := by
  refine lock_lcR (fun _ i v _ => d[i]?.map f = some v) hq hl (fun _ _ _ _ _ _ h => h) ht (fun od D i p H' R F h1 h2 h3 h4 h5 h6 h7 => hs od D i p H' R F h1 h2 h3 h4 h5 h6 fun H5 s5 => h7 _ H5 s5 (by rw [h1]; rfl)) fun D H' xs h1 h2 h3 h4 h5 => hQ D H' h1 h2 ?_
  rw [h3]
  congr 2
  refine List.ext_getElem (by rw [h4, List.length_map]) fun i hi hj => ?_
  have := h5 i xs[i] (List.getElem?_eq_getElem hi)
  rw [List.getElem?_eq_getElem (by rw [← h4]; exact hi)] at this
  rw [List.getElem_map]
  exact (Option.some.inj this).symm
/-- {k: e for k in d} -/
theorem lock_dc (f : Str × Int → Int) (hq : H q = some (.dK (dk d))) (hl : d.length < 1000) (nd : (d.map (·.1)).Nodup)
    (ht : ∀ (H' : Hp) (R : VK), (∀ x, x ≠ q → H' x = H x) → R (.ref q) H' → td σ H' R)
    (hs : ∀ (od : Obj) (D : Addr) (i : Nat) (p : Str × Int) (H' : Hp) (R : V → V → Hp → Prop) (F : Hp → Prop), d[i]? = some p → H D = none → D ≠ q → H' q = some (.frz od (.dK (dk d))) → (∀ x o, x ≠ q → H x = some o → H' x = some o) → H' D ≠ none →
      (∀ H5, L2.Same H' H5 → R (.str p.1) (.int (f p)) H5) → g (.str p.1) (wipe σ vs) H' fun σ2 H2 => wipe σ2 vs = wipe σ vs ∧ tYes σ2 H2 fun b H3 => if b = true then tk σ2 H3 fun y H4 => tv σ2 H4 fun z H5 => R y z H5 else F H3)
    (hQ : ∀ D H', H D = none → L2.Same H H' → H' D = some (.dK (dk (d.map fun p => (p.1, f p)))) → Q (.ref D) H') : tLockE (tDc (iKeys td) g tYes tk tv vs) σ H Q := by
  refine ⟨q, _, hq, True.intro, fun od => ?_⟩
  refine ht _ _ (fun x e => upd_ne e) ?_
  refine ⟨q, od, rfl, .inl ⟨_, upd_same, fun D nD => ?_⟩⟩
  have hDq : D ≠ q := fun e => by
    rw [e, upd_same] at nD
    cases nD
  have nD0 : H D = none := by
    rw [upd_ne hDq] at nD
    exact nD
  have nd2 : ((d.map fun p => (p.1, f p)).map (·.1)).Nodup := by
    rw [List.map_map]
    exact nd
  refine dc_it walk_keys (fun i H' => H' q = some (.frz od (.dK (dk d))) ∧ (∀ x o, x ≠ q → H x = some o → H' x = some o) ∧ H' D = some (.dK (dk ((d.map fun p => (p.1, f p)).take i)))) ?_ (fun _ _ _ h => h.1) ?_ ?_
  · refine ⟨(upd_ne hDq.symm).trans upd_same, fun x o hx e => ?_, upd_same⟩
    have hxD : x ≠ D := fun z => by
      rw [z, nD0] at e
      cases e
    exact (upd_ne hxD).trans ((upd_ne hx).trans e)
  · rintro i x H1 H2 hi ⟨h1, h2, hD⟩ ⟨rfl, k, v, hk, rfl⟩
    obtain ⟨p, hp, rfl⟩ := dk_at hk
    refine hs od D i p H2 (fun y z H5 => ∃ kvs k, y = kV k ∧ H5 D = some (.dK kvs) ∧ kvs.length < sizeLine ∧ _) _ hp nD0 hDq h1 h2 (by rw [hD]; simp) (fun H5 s5 => ⟨_, .inr p.1, rfl, s5 _ _ hD, ?_, ?_⟩)
    · rw [dk_length, List.length_take, List.length_map, sizeLine_eq]
      omega
    · rw [putK_dk (p := (p.1, f p)) nd2 (by rw [List.getElem?_map, hp]; rfl)]
      refine ⟨(upd_ne hDq.symm).trans (s5 _ _ h1), fun x o hx e => ?_, upd_same⟩
      have hxD : x ≠ D := fun z => by
        rw [z, nD0] at e
        cases e
      exact (upd_ne hxD).trans (s5 _ _ (h2 x o hx e))
  · rintro H1 ⟨h1, h2, hD⟩
    rw [dk_length, List.take_of_length_le (by rw [List.length_map]; exact Nat.le_refl _)] at hD
    refine ⟨h1, hQ D _ nD0 (fun x o e => ?_) ((upd_ne hDq).trans hD)⟩
    by_cases hx : x = q
    · subst hx
      rw [upd_same, ← hq]
      exact e
    · exact (upd_ne hx).trans (h2 x o hx e)
theorem s_tdc {wi : TI} {tt : TT} (h : wi σ H fun J H1 => ∀ D, H1 D = none → ∃ W : Nat → Nat → Hp → Prop, (∃ m, W 0 m (L2.upd H1 D (.dK []))) ∧ ∀ i m H, W i m H →
  (J.stop i H ∧ Q (.ref D) H) ∨ (J.go i H ∧ ∃ Nx : Hp → Prop, (∀ H', Nx H' → ∃ m', m' < m ∧ W (i + 1) m' H') ∧ ∀ x H', J.yld i H x H' → g x (wipe σ vs) H' fun σ2 H2 => wipe σ2 vs = wipe σ vs ∧ tt σ2 H2 fun b H3 =>
    if b = true then tk σ2 H3 fun y H4 => tv σ2 H4 fun z H5 => ∃ kvs k, y = kV k ∧ H5 D = some (.dK kvs) ∧ kvs.length < sizeLine ∧ Nx (L2.upd H5 D (.dK (putK kvs k z))) else Nx H3)) : tDc wi g tt tk tv vs σ H Q := h
/-- {y: e for y in ys}, ys texts of which Cond holds -/
theorem list_dc {ta : TE} (Cond : List Str → Prop) (f : Str → Int) (hc : ∀ ys, Cond ys → ys.length < 1000 ∧ ys.Nodup)
    (ht : ∀ R : VK, (∀ ys p H', Cond ys → SqL K H' p (ys.map V.str) → L2.Same H H' → R (.ref p) H') → ta σ H R)
    (hs : ∀ (ys : List Str) (D : Addr) (i : Nat) (y : Str) (H' : Hp) (R : V → V → Hp → Prop) (F : Hp → Prop), Cond ys → ys[i]? = some y → H D = none → L2.Same H H' → H' D ≠ none →
      (∀ H5, L2.Same H' H5 → R (.str y) (.int (f y)) H5) → g (.str y) (wipe σ vs) H' fun σ2 H2 => wipe σ2 vs = wipe σ vs ∧ tYes σ2 H2 fun b H3 => if b = true then tk σ2 H3 fun y H4 => tv σ2 H4 fun z H5 => R y z H5 else F H3)
    (hQ : ∀ ys D H', Cond ys → H D = none → L2.Same H H' → H' D = some (.dK (dk (ys.map fun y => (y, f y)))) → Q (.ref D) H') : tDc (iList K ta) g tYes tk tv vs σ H Q := by
  refine ht _ fun ys p H0 cy e0 s0 => ?_
  obtain ⟨hl, nd⟩ := hc ys cy
  refine ⟨p, rfl, ⟨_, e0⟩, fun D nD => ?_⟩
  have nD0 : H D = none := L2.Same.free s0 nD
  have nd2 : ((ys.map fun y => (y, f y)).map (·.1)).Nodup := by
    rw [List.map_map]
    exact (List.map_id'' (fun _ => rfl) ys).symm ▸ nd
  refine dc_it (walk_list (xs := ys.map V.str)) (fun i H' => L2.Same H0 H' ∧ H' D = some (.dK (dk ((ys.map fun y => (y, f y)).take i)))) ⟨My.Same.new nD, upd_same⟩ (fun _ _ _ h => L2.Same.seq h.1 e0) ?_ ?_
  · rintro i x H1 H2 hi ⟨h2, hD⟩ ⟨rfl, hx⟩
    rw [List.getElem?_map] at hx
    cases ey : ys[i]? with
    | none => rw [ey] at hx; cases hx
    | some y =>
      rw [ey] at hx
      cases hx
      refine hs ys D i y H2 (fun y z H5 => ∃ kvs k, y = kV k ∧ H5 D = some (.dK kvs) ∧ kvs.length < sizeLine ∧ _) _ cy ey nD0 (My.Same.tr s0 h2) (by rw [hD]; simp) (fun H5 s5 => ⟨_, .inr y, rfl, s5 _ _ hD, ?_, ?_⟩)
      · rw [dk_length, List.length_take, List.length_map, sizeLine_eq]
        omega
      · rw [putK_dk (p := (y, f y)) nd2 (by rw [List.getElem?_map, ey]; rfl)]
        exact ⟨My.Same.at_ nD (My.Same.tr h2 s5), upd_same⟩
  · rintro H1 ⟨h2, hD⟩
    rw [List.length_map, List.take_of_length_le (by rw [List.length_map]; exact Nat.le_refl _)] at hD
    exact hQ ys D _ cy nD0 (My.Same.tr s0 h2) hD
/-- [e for x in xs], xs at a -/
theorem list_lcW {a D : Addr} {xs : List V} {H1 : Hp} {Qd : Hp → Prop} (Rel : Nat → V → Hp → Prop) (e0 : SqL K H1 a xs) (nD : H1 D = none) (hl : xs.length < 1000)
    (hm : ∀ i v H H', (∀ x o, x ≠ D → H x = some o → H' x = some o) → Rel i v H → Rel i v H')
    (hs : ∀ (i : Nat) (x : V) (H' : Hp) (R : VK) (F : Hp → Prop), xs[i]? = some x → L2.Same H1 H' → H' D ≠ none → (∀ v H5, L2.Same H' H5 → Rel i v H5 → R v H5) →
      g x (wipe σ vs) H' fun σ2 H2 => wipe σ2 vs = wipe σ vs ∧ tYes σ2 H2 fun b H3 => if b = true then te σ2 H3 R else F H3)
    (hQ : ∀ H' zs, L2.Same H1 H' → H' D = some (.lst zs) → zs.length = xs.length → (∀ i v, zs[i]? = some v → Rel i v H') → Qd H') :
    ∃ W : Nat → Nat → Hp → Prop, (∃ m, W 0 m (L2.upd H1 D (.lst []))) ∧ ∀ i m H, W i m H →
      ((Itl K a).stop i H ∧ Qd H) ∨ ((Itl K a).go i H ∧ ∃ Nx : Hp → Prop, (∀ H', Nx H' → ∃ m', m' < m ∧ W (i + 1) m' H') ∧ ∀ x H', (Itl K a).yld i H x H' → g x (wipe σ vs) H' fun σ2 H2 => wipe σ2 vs = wipe σ vs ∧ tYes σ2 H2 fun b H3 =>
        if b = true then te σ2 H3 fun y H4 => ∃ acc, H4 D = some (.lst acc) ∧ acc.length < sizeLine ∧ Nx (L2.upd H4 D (.lst (acc ++ [y]))) else Nx H3) := by
  refine L2.lc_it (walk_list (xs := xs)) (fun i H' => L2.Same H1 H' ∧ ∃ zs, H' D = some (.lst zs) ∧ zs.length = i ∧ ∀ j v, zs[j]? = some v → Rel j v H') ⟨My.Same.new nD, [], upd_same, rfl, fun j v e => by cases e⟩ (fun _ _ _ h => L2.Same.seq h.1 e0) ?_ ?_
  · rintro i x H0 H2 hi ⟨h2, zs, hD, hlen, hr⟩ ⟨rfl, hx⟩
    refine hs i x H2 _ _ hx h2 (by rw [hD]; simp) (fun y H5 s5 r5 => ⟨zs, s5 _ _ hD, ?_, ?_⟩)
    · rw [sizeLine_eq]
      omega
    · have up : ∀ x o, x ≠ D → H5 x = some o → (L2.upd H5 D (.lst (zs ++ [y]))) x = some o := fun x o hx e => (upd_ne hx).trans e
      refine ⟨My.Same.at_ nD (My.Same.tr h2 s5), _, upd_same, by rw [List.length_append, hlen]; rfl, fun j z ez => ?_⟩
      rcases Nat.lt_or_ge j zs.length with hj | hj
      · rw [List.getElem?_append_left hj] at ez
        exact hm j z _ _ up (hm j z _ _ (fun x o _ e => s5 x o e) (hr j z ez))
      · rw [List.getElem?_append_right hj] at ez
        have ej : j = i := by
          rcases Nat.eq_or_lt_of_le hj with e | e
          · omega
          · rw [List.getElem?_eq_none (by simp; omega)] at ez
            cases ez
        subst ej
        rw [hlen, Nat.sub_self] at ez
        have e2 : y = z := Option.some.inj ez
        subst e2
        exact hm j y _ _ up r5
  · rintro H0 ⟨h2, zs, hD, hlen, hr⟩
    exact hQ H0 zs h2 hD hlen hr
/-- .. whose values are no new things -/
theorem list_lcF {a D : Addr} {xs : List V} {H1 : Hp} {Qd : Hp → Prop} (f : Nat → V) (e0 : SqL K H1 a xs) (nD : H1 D = none) (hl : xs.length < 1000)
    (hs : ∀ (i : Nat) (x : V) (H' : Hp) (R : VK) (F : Hp → Prop), xs[i]? = some x → L2.Same H1 H' → H' D ≠ none → (∀ H5, L2.Same H' H5 → R (f i) H5) →
      g x (wipe σ vs) H' fun σ2 H2 => wipe σ2 vs = wipe σ vs ∧ tYes σ2 H2 fun b H3 => if b = true then te σ2 H3 R else F H3)
    (hQ : ∀ H', L2.Same H1 H' → H' D = some (.lst ((List.range xs.length).map f)) → Qd H') :
    ∃ W : Nat → Nat → Hp → Prop, (∃ m, W 0 m (L2.upd H1 D (.lst []))) ∧ ∀ i m H, W i m H →
      ((Itl K a).stop i H ∧ Qd H) ∨ ((Itl K a).go i H ∧ ∃ Nx : Hp → Prop, (∀ H', Nx H' → ∃ m', m' < m ∧ W (i + 1) m' H') ∧ ∀ x H', (Itl K a).yld i H x H' → g x (wipe σ vs) H' fun σ2 H2 => wipe σ2 vs = wipe σ vs ∧ tYes σ2 H2 fun b H3 =>
        if b = true then te σ2 H3 fun y H4 => ∃ acc, H4 D = some (.lst acc) ∧ acc.length < sizeLine ∧ Nx (L2.upd H4 D (.lst (acc ++ [y]))) else Nx H3) := by
  refine list_lcW (fun i v _ => f i = v) e0 nD hl (fun _ _ _ _ _ h => h) (fun i x H' R F h1 h2 h3 h7 => hs i x H' R F h1 h2 h3 fun H5 s5 => h7 _ H5 s5 rfl) (fun H' zs h2 h3 h4 h5 => hQ H' h2 ?_)
  rw [h3]
  congr 2
  refine List.ext_getElem (by simp [h4]) fun i hi hj => ?_
  have := h5 i zs[i] (List.getElem?_eq_getElem hi)
  rw [List.getElem_map, List.getElem_range]
  exact this.symm
theorem s_tdget {td ty : TE} (h : td σ H fun x H1 => ty σ H1 fun y H2 => ∃ a v, x = .ref a ∧ DGet H2 a y (some v) ∧ Q v H2) : tDGet td ty σ H Q := h
theorem s_tdin {td ty : TE} (h : ty σ H fun y H1 => td σ H1 fun x H2 => ∃ a o, x = .ref a ∧ DGet H2 a y o ∧ Q (.bl o.isSome) H2) : tDIn ty td σ H Q := h
theorem s_din {P : V → Prop} {a : Addr} {k : Str} (h : Rd H a (.dK (dk d))) (q : P (.bl (look d k).isSome)) : ∃ b o, V.ref a = .ref b ∧ DGet H b (.str k) o ∧ P (.bl o.isSome) :=
  ⟨a, (look d k).map V.int, rfl, .inl ⟨_, .inr k, h, rfl, by rw [valV_dk]⟩, by rw [Option.isSome_map]; exact q⟩
theorem s_dget {P : V → Prop} {a : Addr} {k : Str} {i : Int} (h : Rd H a (.dK (dk d))) (e : look d k = some i) (q : P (.int i)) : ∃ b v, V.ref a = .ref b ∧ DGet H b (.str k) (some v) ∧ P v :=
  ⟨a, .int i, rfl, .inl ⟨_, .inr k, h, rfl, by rw [valV_dk, e]; rfl⟩, q⟩
end
/-! ### an own class's methods behind * and [] -/
section
variable {K : PySem.W.Frag} {C : Addr} {m q : Str} {params : Arguments} {body : List Stmt} {scope : Scope} {dvs : List V}
theorem hasM (e : ∃ (f : Addr) (fd : FuncData), Meth K C m f ∧ FunD K m q params body scope dvs [] f fd) : ∃ g : Addr, PySem.W.findIn K (.ref C) m = some (some (.ref g)) := by
  obtain ⟨f, fd, h, F⟩ := e
  exact ⟨f, h.at_⟩
theorem gi_of (e : ∃ (f : Addr) (fd : FuncData), Meth K C m f ∧ FunD K m q params body scope dvs [] f fd) : ∀ f, PySem.W.findIn K (.ref C) m = some (some (.ref f)) → PySem.W.fnIn K f = true := by
  obtain ⟨f, fd, h, F⟩ := e
  intro g hg
  rw [h.at_] at hg
  cases hg
  obtain ⟨oc, od, dV, kV, doc, pm, an, cdv, ct, osl, rfl, lk, _⟩ := F.ex
  unfold PySem.W.fnIn
  rw [lk]
end
section
variable {X : Cx} {C : Addr} {k : Nat} {ps : List Str} {dvs : List V} {sp : Sp}
theorem op_mulT (hm : ∃ g : Addr, PySem.W.findIn X.K (.ref C) "__rmul__" = some (some (.ref g))) (D : Mtn X.prog X.w X.K X.mg X.base C "__mul__" k ps dvs sp) (hc : PySem.W.selfFirst X.K C = true)
    (h1 : PySem.W.findIn X.K (.type "int") "__mul__" = some (some (.builtin "int.__mul__"))) (h2 : PySem.W.findIn X.K (.type "int") "__rmul__" = some (some (.builtin "int.__rmul__"))) (h3 : PySem.W.subIn X.K (.type "int") (.ref C) = some false) (hr : RoomG k X.A) :
    OpR X (binaryOp .Mult) (fun x y H Q => ∃ a dx fs, x = .ref a ∧ H a = some (.ins C dx fs) ∧ (∃ i, y = .int i) ∧ sp (.ref a :: y :: dvs) H Q E0) := by
  obtain ⟨g, hg⟩ := hm
  refine op_ownT (T := "int") D rfl hc hr hg (.inr ⟨g, rfl⟩) h1 h2 h3 fun y u r e => ?_
  obtain ⟨i, rfl⟩ := e
  obtain ⟨t, rfl⟩ := (show ∃ t, u = Value.int i t from r)
  rfl
end
end My

namespace My
open PySem L2 PySem.Spec PyProof.Rows
/-! ### rules within a comprehension: repr -/
def rReprD (K : PySem.W.Frag) : List V → Hp → VK → Prop := fun xs H Q => ∃ y d, xs = [y] ∧ Dp K H y d ∧ SeqAt.shaped d = true ∧ d.showable = true ∧ d.hasDict = false ∧ d.shown.length ≤ sizeLine ∧ Q (.str d.shown) H
theorem call_reprDK {X : Cx} {K : PySem.W.Frag} {k : Nat} (h : X.K = K) (hr : RoomG k X.A) : CallR X (.builtin "repr") (rReprD K) := by
  subst h
  exact call_reprD hr
theorem pg_tupK {X : Cx} {K : PySem.W.Frag} {es : List Expr} {k : Nat} {t : TGs} {n : Nat} {pos : Pos} (hK : X.K = K) (hc : X.calm = true) (h : PGs X es t)
    (hn : (assignEach es X.env).length = n := by rfl) (hst : (assignEach es X.env).findIdx? (·.1) = none := by rfl) : PG X (.Tuple es k pos) (gTup K n t) := by
  subst hK
  exact pg_tup hc h hn hst
end My

namespace My
open PySem L2 PySem.Spec PyProof.Rows PySem.W
/-! ### str(o) by an own __str__ -/
section
variable {X : Cx} {j k : Nat} {f C : Addr} {fd : FuncData} {ps : List Str} {sp : Sp} {dvs : List V} {ds : List Value} {m : Str} {pins : List (Addr × Obj)} {σ : L2.St} {H : Hp} {s : Shared}
theorem call_strO (D : Mtn X.prog X.w X.K X.mg X.base C "__str__" k ps dvs sp) (hr : RoomG (k + 2) X.A) :
    CallR X (.type "str") (fun xs H Q => ∃ a dx fs, xs = [.ref a] ∧ H a = some (.ins C dx fs) ∧ sp (.ref a :: dvs) H (fun v H' => ∃ y : Str, v = .str y ∧ Q (.str y) H') E0) := by
  obtain ⟨f, fd, ds, c, hm, F, hb, hd⟩ := D.ex
  intro pins s σ H xs us Q I r h
  obtain ⟨a, dx, fs, rfl, ea, q⟩ := h
  rw [Vals.ref1 r]
  obtain ⟨ox, od, J⟩ := insAt I ea
  have hu : X.A.in1.in1.units < cLine := by
    have := hr.in1.in1.units
    omega
  refine kso_call hu I.kIn J hm.at_ hm.fn (wpAny_mono (goIn (us := [.ref a]) (vs := [.ref a]) F hr.in1.in1 I.env0.in1.in1 hb hd I (.cons rfl .nil) q) (fun w s1 hw => ?_) fun _ _ z => z)
  obtain ⟨t, H1, I1, rt, y, rfl, q1⟩ := hw
  obtain ⟨tk, rfl⟩ := (show ∃ t, w = Value.str y t from rt)
  exact ⟨.str y, H1, I1, ⟨_, rfl⟩, q1⟩
end
/-! ### an own exception made and raised -/
/-- C(e, ..), C's own __init__ keeping sp, to be raised -/
def tRaE (C : Addr) (sp : Sp) (ta : TA) : L2.St → Hp → XK → Prop := fun σ H Q => ta σ H fun vs H1 => vs.length ≤ 1000 ∧ ∀ a, H1 a = none → sp (.ref a :: vs) (L2.upd H1 a (exo a C none))
  (fun v H2 => v = .non ∧ ∃ (d : Addr) (fs : List (Str × V)), H2 a = some (exo a C (some d)) ∧ H2 d = some (exd d fs) ∧ H1 d = none ∧ Q (.ref C) (some d) (L2.upd (L2.del H2 a) d (.xd fs))) E0
theorem ExF.raises {X : Cx} {C : Addr} {m bm : List Value} {n : String} (x : ExF X.K C m n) (u : Ups C m bm) : Raises X (.ref C) := by
  refine raises_own ?_ x.ty
  rw [x.sub u.ne, u.base]
section
variable {X : Cx} {k : Nat} {C : Addr} {x : Str} {ps : List Str} {sp : Sp} {e : Expr} {es : List Expr} {ta : TA} {p pos : Pos}
theorem pmk_E (R : Raises X (.ref C)) (D : Exn X.prog X.w X.K X.mg X.base x C k ps sp) (hr : RoomG (k + 1) X.A) (hg : Gl X x) (ha : PA X (e :: es) ta)
    (h1 : (x == ("__debug__" : Str)) = false := by decide) (h2 : starEach (e :: es) X.env = (false, eval e X.env) :: starEach es X.env := by rfl) (h3 : (backTo pos (starEach es X.env)).any (fun q => q.1) = false := by rfl) :
    PMk X (.Call (.Name x p) (e :: es) [] pos) (tRaE C sp ta) := by
  obtain ⟨f, fd, T, iC, fC, F, hm, hb⟩ := D.ex
  obtain ⟨B, ni, ii, bmB, FB, SF, ini, ov⟩ := T.base
  intro pins s σ H Q I h
  refine wpAny_Call_Name_kw (ld_glob I hg hm ?_ h1)
  refine callWith_K (h₀ := X.base) I.ok.mod.kin T.kp (thn (ha.run pos pins s σ H _ I h) fun us s1 z => ?_) h2 h3
  obtain ⟨vs, H1, I1, r1, hz, q1⟩ := z
  refine ⟨I1.kIn, ?_⟩
  show wpAny _ _ (call (.ref C) us) _ _ _
  obtain ⟨hp, g, dr, tk, os⟩ := s1
  obtain ⟨nm, N, qn, bs, bm, hdct, sn, sub, ab, col, dd, k0, k1, k2, k3, k5, hC, hT⟩ := excInit_of I1.kIn ini
  have hsz : hp.objs.size ≤ hp.objs.size + 1 := Nat.le_succ _
  have hn : H1 (hp.objs.size + 1) = none := I1.hok.fresh hsz
  have hq := q1 (hp.objs.size + 1) hn
  have kk : ∀ b o, hp.get? b = some o → ((hp.push (kdv_tup us)).push (HandSPX.excO C hp.objs.size)).get? b = some o := fun b o z => Heap.get?_push_of_some _ (Heap.get?_push_of_some _ z)
  have hget : ((hp.push (kdv_tup us)).push (HandSPX.excO C hp.objs.size)).get? (hp.objs.size + 1) = some (HandSPX.excO C hp.objs.size) := by heap_get
  have I2 : Inv X pins σ (L2.upd H1 (hp.objs.size + 1) (exo (hp.objs.size + 1) C none)) ⟨(hp.push (kdv_tup us)).push (HandSPX.excO C hp.objs.size), g, dr, tk, os⟩ := I1.laid (t' := tk) kk hsz (exo_ok hget)
  have r2 : Vals (V.ref (hp.objs.size + 1) :: vs) (Value.ref (hp.objs.size + 1) :: us) := .cons rfl r1
  have hl : (Value.ref (hp.objs.size + 1) :: us ++ []).length = ps.length := by
    have z := r2.length
    rw [F.len _ _ _ _ hq] at z
    rw [List.append_nil]
    exact z.symm
  have hus : us.length ≤ sizeLine := by
    rw [← r1.length, sizeLine_eq]
    omega
  have bd := hb _ (Value.ref (hp.objs.size + 1) :: us) I2.kIn hl
  rw [List.append_nil] at bd
  have hr2 : RoomG k (X.A.under (.builtin "type.__call__" ⟨.ref C :: us, []⟩)) := ⟨hr.r.make C us [], hr.g⟩
  refine wpAny_call (HandSPX.call_own FB hT hC (looks_findIn I1.kIn iC) (fun self => bind_fn I1.kIn self (beq_iff_eq.mp fC)) hus
    (codeAny_mono (F.go _ X.stack _ _ ⟨Value.ref (hp.objs.size + 1) :: us, []⟩ _ _ _ E0 hr2 (I2.env0.make C us []) bd r2 hq) fun r s' hq' => ?_))
  cases r with
  | error er => exact (show False from hq').elim
  | ok fl => cases fl with
    | ret u =>
      obtain ⟨v, H2, os2, bare2, un2, hok2, rv, ev, d, fs, ea, ed, hd1, q2⟩ := hq'
      subst ev
      obtain ⟨h2, g2, d2, t2, os'⟩ := s'
      exact ⟨rv, mk_end R I1 hsz kk un2 hok2 os2 bare2 ea ed hd1 q2⟩
    | next => exact (show False from hq').elim
    | brk => exact (show False from hq').elim
    | cont => exact (show False from hq').elim
end
/-! ### calls of defs that may raise -/
section
variable {X : Cx} {CX : CXT} {j k : Nat} {f C : Addr} {fd : FuncData} {ps : List Str} {sp : Sp} {dvs : List V} {ds : List Value} {x m : Str} {p pos apos : Pos} {e o : Expr} {es : List Expr} {ta : TE} {t : TA} {W : WX}
/-- as goG, for a def that may raise: what it lets out is taken -/
theorem goX {pins : List (Addr × Obj)} {σ : L2.St} {H : Hp} {s : Shared} {Q : VK} {us : List Value} {vs : List V} (F : FnG X.prog X.w X.K X.mg X.base (L2.CX X.prog X.w) k f fd ps sp) (tk : Takes X W) (hr : RoomG k X.A) (hb : Binds X.K fd ps ds) (hd : Vals dvs ds)
    (I : Inv X pins σ H s) (r : Vals vs us) (h : sp (vs ++ dvs) H Q (WE W σ)) : wpAny (model X.prog X.w) X.A (call (.ref f) us) (EP X pins σ Q) X.xe s := by
  have r2 := r.append hd
  have hl : (us ++ ds).length = ps.length := r2.length.symm.trans (F.len _ _ _ _ h)
  refine wpAny_call (codeAny_mono (F.go X.A X.stack s H ⟨us, []⟩ (us ++ ds) _ Q (WE W σ) hr I.env0 (hb s us I.kIn hl) r2 h) ?_)
  intro r s' hq
  cases r with
  | error er => exact passAt tk σ pins H s er s' I hq
  | ok fl => cases fl with
    | ret u => exact I.after hq
    | next => exact (show False from hq).elim
    | brk => exact (show False from hq).elim
    | cont => exact (show False from hq).elim
structure DnX (P : Program) (w : World) (K : PySem.W.Frag) (mg : Str → Option Value) (base : Heap) (x : Str) (k : Nat) (ps : List Str) (dvs : List V) (sp : Sp) : Prop where
  ex : ∃ (f : Addr) (fd : FuncData) (ds : List Value), FnG P w K mg base (L2.CX P w) k f fd ps sp ∧ mg x = some (.ref f) ∧ PySem.W.keepIn K (.ref f) = true ∧ Binds K fd ps ds ∧ Vals dvs ds
def tCallX (sp : Sp) (dvs : List V) (W : WX) (t : TA) : TE := fun σ H Q => t σ H fun vs H1 => sp (vs ++ dvs) H1 Q (WE W σ)
theorem pe_callX (D : DnX X.prog X.w X.K X.mg X.base x k ps dvs sp) (tk : Takes X W) (hr : RoomG k X.A) (hg : Gl X x) (ha : PA X (e :: es) t) (hdb : (x == ("__debug__" : Str)) = false := by decide)
    (h1 : starEach (e :: es) X.env = (false, eval e X.env) :: starEach es X.env := by rfl) (h2 : (backTo pos (starEach es X.env)).any (·.1) = false := by rfl) : PE X (.Call (.Name x p) (e :: es) [] pos) (tCallX sp dvs W t) := by
  obtain ⟨f, fd, ds, F, hm, hk, hb, hd⟩ := D.ex
  constructor
  intro pins s σ H Q I h
  exact wpAny_Call_Name_kw (ld_glob I hg hm (PySem.W.callWith_K (h₀ := X.base) I.ok.mod.kin hk (thn (ha.run pos pins s σ H _ I h) fun us s1 ⟨vs, H1, I1, r, q⟩ => ⟨I1.kIn, goX F tk hr hb hd I1 r q⟩) h1 h2) hdb)
/-- a staticmethod by its class's name, of given parameters -/
structure StaX (P : Program) (w : World) (K : PySem.W.Frag) (mg : Str → Option Value) (base : Heap) (y : Str) (C : Addr) (m : Str) (k : Nat) (ps : List Str) (sp : Sp) : Prop where
  ex : ∃ (f : Addr) (fd : FuncData), mg y = some (.ref C) ∧ StaM K C m f ∧ FnG P w K mg base (L2.CX P w) k f fd ps sp ∧ Binds K fd ps []
theorem pe_staX {y : Str} {p1 : Pos} {pl : Sem Bool} (D : StaX X.prog X.w X.K X.mg X.base y C m k ps sp) (tk : Takes X W) (hr : RoomG k X.A) (hg : Gl X y) (ha : PA X (e :: es) t)
    (h1 : starEach (e :: es) X.env = (false, eval e X.env) :: starEach es X.env := by rfl) (h2 : (backTo pos (starEach es X.env)).any (·.1) = false := by rfl)
    (h3 : eval (.Call (.Attribute (.Name y p1) m apos) (e :: es) [] pos) X.env = (do
      let v ← eval (.Name y p1) X.env
      standAt apos.atName
      let (g, fst) ← holding [v] (getMethod v m pl)
      callWith pos g fst (backTo pos (starEach (e :: es) X.env)) (backToKw pos (keywordEach [] X.env))) := by rfl) (hdb : (y == ("__debug__" : Str)) = false := by decide) :
    PE X (.Call (.Attribute (.Name y p1) m apos) (e :: es) [] pos) (tCallX sp [] W t) := by
  obtain ⟨f, fd, hm, hS, F, hb⟩ := D.ex
  constructor
  intro pins s σ H Q I h
  refine PySem.W.methodCall_KW (pl := pl) (ld_glob I hg hm ?_ hdb) h3
  refine getsta I hS fun s1 I1 => ?_
  exact callWith_K (first := []) (h₀ := X.base) I1.ok.mod.kin hS.kp (thn (ha.run pos pins s1 σ H _ I1 h) fun us s2 ⟨vs, H2, I2, r, q2⟩ => ⟨I2.kIn, goX F tk hr hb .nil I2 r q2⟩) h1 h2
/-- .. with keywords alone -/
structure StaXk (P : Program) (w : World) (K : PySem.W.Frag) (mg : Str → Option Value) (base : Heap) (y : Str) (C : Addr) (m : Str) (k : Nat) (ks : List Str) (gV : List V → List V → List V) (sp : Sp) : Prop where
  ex : ∃ (f : Addr) (fd : FuncData) (ps : List Str) (g : List Value → List Value → List Value), mg y = some (.ref C) ∧ StaM K C m f ∧ FnG P w K mg base (L2.CX P w) k f fd ps sp ∧ KBn K fd ps 0 ks g gV
def tStaXk (l : Nat) (sp : Sp) (gV : List V → List V → List V) (W : WX) (tk : TA) : TE := fun σ H Q => tk σ H fun zs H1 => zs.length = l ∧ sp (gV [] zs) H1 Q (WE W σ)
theorem pe_staXk {y : Str} {ks : List Str} {gV : List V → List V → List V} {tq : TA} {kws : List Keyword} {p1 : Pos} {pl : Sem Bool} (D : StaXk X.prog X.w X.K X.mg X.base y C m k ks gV sp) (tk : Takes X W) (hr : RoomG k X.A) (hg : Gl X y) (hkw : PK X kws tq)
    (hall : (backToKw pos (keywordEach kws X.env)).all (·.1.isSome) = true := by rfl) (hks : (backToKw pos (keywordEach kws X.env)).filterMap (·.1) = ks := by rfl)
    (hpl : ((backTo pos (starEach [] X.env)).any (fun q => q.1) || (backToKw pos (keywordEach kws X.env)).any (fun q => q.1.isNone)) = false := by rfl)
    (h3 : eval (.Call (.Attribute (.Name y p1) m apos) [] kws pos) X.env = (do
      let v ← eval (.Name y p1) X.env
      standAt apos.atName
      let (g, fst) ← holding [v] (getMethod v m pl)
      callWith pos g fst (backTo pos (starEach [] X.env)) (backToKw pos (keywordEach kws X.env))) := by rfl) (hdb : (y == ("__debug__" : Str)) = false := by decide) :
    PE X (.Call (.Attribute (.Name y p1) m apos) [] kws pos) (tStaXk ks.length sp gV W tq) := by
  obtain ⟨f, fd, ps, g, hm, hS, F, hb⟩ := D.ex
  constructor
  intro pins s σ H Q I h
  refine PySem.W.methodCall_KW (pl := pl) (ld_glob I hg hm ?_ hdb) h3
  refine getsta I hS fun s1 I1 => ?_
  refine PySem.W.callWith_KW0 (first := []) (h₀ := X.base) I1.ok.mod.kin hS.kp hall ?_ hpl
  refine thn (hkw.run pos pins s1 σ H _ I1 h) fun ws s2 ⟨zs, H2, I2, rz, l2, q2⟩ => ⟨I2.kIn, ?_⟩
  rw [hks]
  refine wpAny_call (codeAny_mono (F.go X.A X.stack s2 H2 ⟨[], ks.zip ws⟩ (g [] ws) (gV [] zs) Q (WE W σ) hr I2.env0 (hb.to s2 [] ws I2.kIn rfl (rz.length.symm.trans l2)) (hb.rel .nil rz) q2) fun r s' hq => ?_)
  cases r with
  | error er => exact passAt tk σ pins H2 s2 er s' I2 hq
  | ok fl => cases fl with
    | ret u => exact I2.after hq
    | next => exact (show False from hq).elim
    | brk => exact (show False from hq).elim
    | cont => exact (show False from hq).elim
end
/-! ### within an except suite: isinstance of what is caught, texts of leaves -/
def rIsS (K : PySem.W.Frag) (cls : Value) (d : Option Addr) (a : Addr) : List V → Hp → VK → Prop := fun xs H Q => ∃ D : Addr, cls = .ref D ∧ L2.ExcC K D ∧ (∀ dd, d = some dd → ∃ fs, H dd = some (.xd fs)) ∧ rIsE K D a xs H Q
theorem call_isS {X : Cx} {a : Addr} {cls : Value} {oe : Obj} {d : Option Addr} {pn : List (Addr × Obj)} (hz : Zc cls d oe) (hf : ∃ vs, oe.data = .fields vs) :
    CallR (X.suite a ((a, oe) :: pn)) (.builtin "isinstance") (rIsS X.K cls d a) := by
  intro pins s σ H xs us Q I r h
  obtain ⟨D, ecls, C, hdd, c, cv, b, rfl, hcv, e, q⟩ := h
  subst ecls
  cases r with
  | cons rx rr =>
    cases rr with
    | cons rt rr =>
      cases rr
      cases rx
      have ec := hcv _ rt
      subst ec
      obtain ⟨hget, _⟩ := I.pin (a, oe) (List.mem_append.mpr (.inl List.mem_cons_self))
      obtain ⟨vs, hv⟩ := hf
      have J : ∃ od, PySem.W.InstAt s.heap a oe D od := by
        obtain ⟨oc, oda, odt, osl⟩ := oe
        obtain ⟨h1, h2⟩ := hz
        dsimp only at h1 h2 hv
        subst h1 h2 hv
        cases oda with
        | none => exact ⟨none, hget, rfl, rfl, trivial⟩
        | some dd =>
          obtain ⟨fs, hx⟩ := hdd dd rfl
          have hx2 : ObjOk X.prog X.w H s.heap dd (.xd fs) := I.hok dd _ hx
          obtain ⟨mA, hns, hr⟩ := hx2
          obtain ⟨od, ho, hl⟩ := lookIn_ns hns
          exact ⟨some od, hget, rfl, rfl, ho⟩
      obtain ⟨od, J⟩ := J
      exact PySem.W.kia_one (exKit C) I.kIn J e (fun z => nomatch z) fun tk => ⟨.bl b, H, I.kept (t' := tk) fun _ _ z => z, rfl, q⟩
/-- the text of an int or a bool -/
def rReprL : List V → Hp → VK → Prop := fun xs H Q => (∃ i : Int, xs = [.int i] ∧ i.natAbs.log2 < 1920 ∧ Q (.str (PyData.shown (.int i))) H) ∨ ∃ b : Bool, xs = [.bl b] ∧ Q (.str (PyData.shown (.bool b))) H
theorem call_reprL {X : Cx} : CallR X (.builtin "repr") rReprL := by
  intro pins s σ H xs us Q I r h
  rcases h with ⟨i, rfl, hz, q⟩ | ⟨b, rfl, q⟩
  · obtain ⟨u, rfl, ru⟩ := vals1 r
    obtain ⟨t, rfl⟩ := (show ∃ t, u = Value.int i t from ru)
    exact PySem.P.repr_of_int hz ⟨.str _, H, I.tok _, ⟨_, rfl⟩, q⟩
  · obtain ⟨u, rfl, ru⟩ := vals1 r
    obtain rfl : u = Value.bool b := ru
    exact PySem.P.repr_of_bool ⟨.str _, H, I.tok _, ⟨_, rfl⟩, q⟩

/-! ### properties: the record's address, its getter -/
def prP (K : PySem.W.Frag) (c m : Str) : Addr := match PySem.W.findIn K (.ref (He.ga K c)) m with
  | some (some (.ref p)) => p
  | _ => 0
def prA (K : PySem.W.Frag) (c m : Str) : Addr := match PySem.W.recIn K (prP K c m) "property" with
  | some (.ref g :: _) => g
  | _ => 0
def prB (K : PySem.W.Frag) (c m : Str) : Bool := eqO (PySem.W.findIn K (.ref (He.ga K c)) m) (some (some (.ref (prP K c m)))) && (eqO (PySem.W.specialIn K (.ref (prP K c m)) "__get__") (some (some (.builtin "property.__get__"))) &&
  (decide (PySem.W.takesIn K (.ref (prP K c m)) = some true) && (match PySem.W.recIn K (prP K c m) "property" with
    | some (.ref _ :: _) => true
    | _ => false)))
theorem prB_ok {K : PySem.W.Frag} {c m : Str} (h : prB K c m = true) : PropOf K (He.ga K c) m (prP K c m) (prA K c m) := by
  obtain ⟨h1, h2⟩ := He.ba h
  obtain ⟨h3, h4⟩ := He.ba h2
  obtain ⟨h5, h6⟩ := He.ba h4
  refine ⟨of_decide_eq_true h1, of_decide_eq_true h3, of_decide_eq_true h5, ?_⟩
  unfold prA
  split at h6
  · rename_i g rest e
    rw [e]
    exact ⟨rest, rfl⟩
  · cases h6
/-! ### an exception with one field, raised -/
def spE1 (C : Addr) (n : Str) : Sp := fun vs H Q _ => ∃ (a : Addr) (y : V), vs = [.ref a, y] ∧ H a = some (exo a C none) ∧ ∀ d, H d = none → d ≠ a → Q .non (L2.upd (L2.upd H d (exd d [(n, y)])) a (exo a C (some d)))
def spE2 (C : Addr) (n m : Str) : Sp := fun vs H Q _ => ∃ (a : Addr) (y z : V), vs = [.ref a, y, z] ∧ H a = some (exo a C none) ∧ ∀ d, H d = none → d ≠ a → Q .non (L2.upd (L2.upd (L2.upd H d (exd d [(n, y)])) a (exo a C (some d))) d (exd d [(m, z), (n, y)]))
theorem s_raE {C : Addr} {sp : Sp} {ta : TA} {σ : L2.St} {H : Hp} {Q : XK} (h : ta σ H fun vs H1 => vs.length ≤ 1000 ∧ ∀ a, H1 a = none → sp (.ref a :: vs) (L2.upd H1 a (exo a C none))
  (fun v H2 => v = .non ∧ ∃ (d : Addr) (fs : List (Str × V)), H2 a = some (exo a C (some d)) ∧ H2 d = some (exd d fs) ∧ H1 d = none ∧ Q (.ref C) (some d) (L2.upd (L2.del H2 a) d (.xd fs))) E0) : tRaE C sp ta σ H Q := h
theorem raise1 {C : Addr} {n : Str} {H : Hp} {v : V} {Q : XK} (q : ∀ d H', L2.Same H H' → H d = none → H' d = some (.xd [(n, v)]) → Q (.ref C) (some d) H') :
    [v].length ≤ 1000 ∧ ∀ a, H a = none → spE1 C n (.ref a :: [v]) (L2.upd H a (exo a C none))
      (fun w H2 => w = .non ∧ ∃ (d : Addr) (fs : List (Str × V)), H2 a = some (exo a C (some d)) ∧ H2 d = some (exd d fs) ∧ H d = none ∧ Q (.ref C) (some d) (L2.upd (L2.del H2 a) d (.xd fs))) E0 := by
  refine ⟨by simp, fun a na => ⟨a, v, rfl, upd_same, fun d nd ne => ⟨rfl, d, [(n, v)], upd_same, (upd_ne ne).trans upd_same, ?_, ?_⟩⟩⟩
  · rw [upd_ne ne] at nd
    exact nd
  · rw [upd_ne ne] at nd
    refine q d _ (fun c o e => ?_) nd upd_same
    have h1 := ne_of_none e nd
    have h2 := ne_of_none e na
    rw [upd_ne h1, L2.del_ne h2, upd_ne h2, upd_ne h1, upd_ne h2]
    exact e
theorem s_callX {sp : Sp} {dvs : List V} {W : WX} {t : TA} {σ : L2.St} {H : Hp} {Q : VK} (h : t σ H fun vs H1 => sp (vs ++ dvs) H1 Q (WE W σ)) : tCallX sp dvs W t σ H Q := h
theorem s_staXk {l : Nat} {sp : Sp} {gV : List V → List V → List V} {W : WX} {tk : TA} {σ : L2.St} {H : Hp} {Q : VK} (h : tk σ H fun zs H1 => zs.length = l ∧ sp (gV [] zs) H1 Q (WE W σ)) : tStaXk l sp gV W tk σ H Q := h
/-! ### comparisons of own objects, by K's own name -/
section
variable {X : Cx} {K : PySem.W.Frag} {k : Nat} {C : Addr} {ps : List Str} {sp : Sp} {dvs : List V}
theorem or_eqOK (h : X.K = K) (D : Mtn X.prog X.w X.K X.mg X.base C "__eq__" k ps dvs sp) (hr : RoomG k X.A) : OpR X (compareOp .Eq) (fun x y H Q => ∃ (a dx : Addr) (fs : List (Str × V)) (t : Value), x = .ref a ∧ H a = some (.ins C dx fs) ∧ TyX K H y t ∧ PySem.W.notFirst K C t = true ∧ sp (.ref a :: y :: dvs) H Q E0) := by
  subst h
  exact or_eqO D hr
theorem or_neOK (h : X.K = K) (D : Mtn X.prog X.w X.K X.mg X.base C "__eq__" k ps dvs sp) (hne : PySem.W.findIn X.K (.ref C) "__ne__" = some (some (.builtin "object.__ne__"))) (hob : PySem.W.mroIn X.K C (.type "object") = some true) (hr : RoomG (k + 1) X.A) :
    OpR X (compareOp .NotEq) (fun x y H Q => ∃ (a dx : Addr) (fs : List (Str × V)) (t : Value), x = .ref a ∧ H a = some (.ins C dx fs) ∧ TyX K H y t ∧ PySem.W.notFirst K C t = true ∧ sp (.ref a :: y :: dvs) H (fun v H' => ∃ b, v = .bl b ∧ Q (.bl (!b)) H') E0) := by
  subst h
  exact or_neO D hne hob hr
end
end My

section
namespace My
open PySem L2
def top (i : Nat) : Stmt := PySem.Challenge.pw_howmanyeach_k13_whole_manys_read_back.main.body.getD i (.Pass ⟨0, 0, 0, 0⟩)
abbrev st_is_integer : Stmt := top 9
abbrev N_is_integer : List Str := ["value"]
abbrev P_is_integer : List Str := ["value"]
theorem sc_is_integer : FnScope N_is_integer P_is_integer (defScope st_is_integer) := ⟨rfl, rfl, rfl, by decide +kernel, rfl, by decide +kernel, by decide +kernel⟩
abbrev st_is_count : Stmt := top 10
abbrev N_is_count : List Str := ["value"]
abbrev P_is_count : List Str := ["value"]
theorem sc_is_count : FnScope N_is_count P_is_count (defScope st_is_count) := ⟨rfl, rfl, rfl, by decide +kernel, rfl, by decide +kernel, by decide +kernel⟩
abbrev st_number_in : Stmt := top 11
abbrev N_number_in : List Str := ["text", "sign"]
abbrev P_number_in : List Str := ["text"]
theorem sc_number_in : FnScope N_number_in P_number_in (defScope st_number_in) := ⟨rfl, rfl, rfl, by decide +kernel, rfl, by decide +kernel, by decide +kernel⟩
abbrev st__is_up_to : Stmt := top 14
abbrev N__is_up_to : List Str := ["number", "most"]
abbrev P__is_up_to : List Str := ["number", "most"]
theorem sc__is_up_to : FnScope N__is_up_to P__is_up_to (defScope st__is_up_to) := ⟨rfl, rfl, rfl, by decide +kernel, rfl, by decide +kernel, by decide +kernel⟩
abbrev st__law_rng : Stmt := top 18
abbrev N__law_rng : List Str := ["_law_script", "_law_k", "_law_cell"]
abbrev P__law_rng : List Str := ["_law_script", "_law_k"]
theorem sc__law_rng : FnScope N__law_rng P__law_rng (defScope st__law_rng) := ⟨rfl, rfl, rfl, by decide +kernel, rfl, by decide +kernel, by decide +kernel⟩
abbrev st__law_draw : Stmt := top 19
abbrev N__law_draw : List Str := ["_law_rng_here", "_law_sides", "_law_digit"]
abbrev P__law_draw : List Str := ["_law_rng_here", "_law_sides"]
theorem sc__law_draw : FnScope N__law_draw P__law_draw (defScope st__law_draw) := ⟨rfl, rfl, rfl, by decide +kernel, rfl, by decide +kernel, by decide +kernel⟩
abbrev st__law_choice : Stmt := top 20
abbrev N__law_choice : List Str := ["_law_rng_here", "_law_some"]
abbrev P__law_choice : List Str := ["_law_rng_here", "_law_some"]
theorem sc__law_choice : FnScope N__law_choice P__law_choice (defScope st__law_choice) := ⟨rfl, rfl, rfl, by decide +kernel, rfl, by decide +kernel, by decide +kernel⟩
abbrev st__law_low : Stmt := top 21
abbrev N__law_low : List Str := ["_law_rng_here"]
abbrev P__law_low : List Str := ["_law_rng_here"]
theorem sc__law_low : FnScope N__law_low P__law_low (defScope st__law_low) := ⟨rfl, rfl, rfl, by decide +kernel, rfl, by decide +kernel, by decide +kernel⟩
abbrev st__law_pair : Stmt := top 22
abbrev N__law_pair : List Str := ["_law_rng_here", "_law_low_here", "_law_way"]
abbrev P__law_pair : List Str := ["_law_rng_here"]
theorem sc__law_pair : FnScope N__law_pair P__law_pair (defScope st__law_pair) := ⟨rfl, rfl, rfl, by decide +kernel, rfl, by decide +kernel, by decide +kernel⟩
abbrev st__law_words : Stmt := top 23
abbrev N__law_words : List Str := ["_law_pair_here"]
abbrev P__law_words : List Str := ["_law_pair_here"]
theorem sc__law_words : FnScope N__law_words P__law_words (defScope st__law_words) := ⟨rfl, rfl, rfl, by decide +kernel, rfl, by decide +kernel, by decide +kernel⟩
abbrev st__law_number : Stmt := top 24
abbrev N__law_number : List Str := ["_law_line", "_law_sign", "_law_found"]
abbrev P__law_number : List Str := ["_law_line"]
theorem sc__law_number : FnScope N__law_number P__law_number (defScope st__law_number) := ⟨rfl, rfl, rfl, by decide +kernel, rfl, by decide +kernel, by decide +kernel⟩
abbrev st__law_read : Stmt := top 25
abbrev N__law_read : List Str := ["_law_line", "_law_at", "_law_low_here", "_law_high"]
abbrev P__law_read : List Str := ["_law_line"]
theorem sc__law_read : FnScope N__law_read P__law_read (defScope st__law_read) := ⟨rfl, rfl, rfl, by decide +kernel, rfl, by decide +kernel, by decide +kernel⟩
abbrev st__law_told : Stmt := top 26
abbrev N__law_told : List Str := ["_law_x", "_law_told_here", "_law_made", "e"]
abbrev P__law_told : List Str := ["_law_x"]
theorem sc__law_told : FnScope N__law_told P__law_told (defScope st__law_told) := ⟨rfl, rfl, rfl, by decide +kernel, rfl, by decide +kernel, by decide +kernel⟩
abbrev st__law_bent : Stmt := top 27
abbrev N__law_bent : List Str := ["_law_rng_here", "_law_line", "_law_turn", "_law_at", "_law_way", "_law_sign", "_law_turned"]
abbrev P__law_bent : List Str := ["_law_rng_here", "_law_line"]
theorem sc__law_bent : FnScope N__law_bent P__law_bent (defScope st__law_bent) := ⟨rfl, rfl, rfl, by decide +kernel, rfl, by decide +kernel, by decide +kernel⟩
abbrev st__law_joined : Stmt := top 28
abbrev N__law_joined : List Str := ["_law_rng_here", "_law_parts", "_law_turn"]
abbrev P__law_joined : List Str := ["_law_rng_here"]
theorem sc__law_joined : FnScope N__law_joined P__law_joined (defScope st__law_joined) := ⟨rfl, rfl, rfl, by decide +kernel, rfl, by decide +kernel, by decide +kernel⟩
abbrev st__law_text_right : Stmt := top 29
abbrev N__law_text_right : List Str := ["_law_line", "_law_pair_here", "_law_due"]
abbrev P__law_text_right : List Str := ["_law_line"]
theorem sc__law_text_right : FnScope N__law_text_right P__law_text_right (defScope st__law_text_right) := ⟨rfl, rfl, rfl, by decide +kernel, rfl, by decide +kernel, by decide +kernel⟩
abbrev st__law_right : Stmt := top 30
abbrev N__law_right : List Str := ["_law_rng_here", "_law_turn", "_law_pair_here", "_law_line", "_law_some", "_law_far", "_law_odd", "_law_one", "_law_again"]
abbrev P__law_right : List Str := ["_law_rng_here"]
theorem sc__law_right : FnScope N__law_right P__law_right (defScope st__law_right) := ⟨rfl, rfl, rfl, by decide +kernel, rfl, by decide +kernel, by decide +kernel⟩
abbrev st_Many___init__ : Stmt := inClass (top 13) 1
abbrev N_Many___init__ : List Str := ["self", "least", "most"]
abbrev P_Many___init__ : List Str := ["self", "least", "most"]
theorem sc_Many___init__ : FnScope N_Many___init__ P_Many___init__ (defScope st_Many___init__) := ⟨rfl, rfl, rfl, by decide +kernel, rfl, by decide +kernel, by decide +kernel⟩
abbrev st_Many_least : Stmt := inClass (top 13) 2
abbrev N_Many_least : List Str := ["self"]
abbrev P_Many_least : List Str := ["self"]
theorem sc_Many_least : FnScope N_Many_least P_Many_least (defScope st_Many_least) := ⟨rfl, rfl, rfl, by decide +kernel, rfl, by decide +kernel, by decide +kernel⟩
abbrev st_Many_most : Stmt := inClass (top 13) 3
abbrev N_Many_most : List Str := ["self"]
abbrev P_Many_most : List Str := ["self"]
theorem sc_Many_most : FnScope N_Many_most P_Many_most (defScope st_Many_most) := ⟨rfl, rfl, rfl, by decide +kernel, rfl, by decide +kernel, by decide +kernel⟩
abbrev st_Many___eq__ : Stmt := inClass (top 13) 14
abbrev N_Many___eq__ : List Str := ["self", "other"]
abbrev P_Many___eq__ : List Str := ["self", "other"]
theorem sc_Many___eq__ : FnScope N_Many___eq__ P_Many___eq__ (defScope st_Many___eq__) := ⟨rfl, rfl, rfl, by decide +kernel, rfl, by decide +kernel, by decide +kernel⟩
abbrev st_Many___str__ : Stmt := inClass (top 13) 19
abbrev N_Many___str__ : List Str := ["self"]
abbrev P_Many___str__ : List Str := ["self"]
theorem sc_Many___str__ : FnScope N_Many___str__ P_Many___str__ (defScope st_Many___str__) := ⟨rfl, rfl, rfl, by decide +kernel, rfl, by decide +kernel, by decide +kernel⟩
abbrev st_InvalidText___init__ : Stmt := inClass (top 5) 0
abbrev N_InvalidText___init__ : List Str := ["self", "line"]
abbrev P_InvalidText___init__ : List Str := ["self", "line"]
theorem sc_InvalidText___init__ : FnScope N_InvalidText___init__ P_InvalidText___init__ (defScope st_InvalidText___init__) := ⟨rfl, rfl, rfl, by decide +kernel, rfl, by decide +kernel, by decide +kernel⟩
abbrev st_Many_read : Stmt := inClass (top 13) 5
abbrev N_Many_read : List Str := ["text", "start", "dots", "end", "least", "most"]
abbrev P_Many_read : List Str := ["text"]
theorem sc_Many_read : FnScope N_Many_read P_Many_read (defScope st_Many_read) := ⟨rfl, rfl, rfl, by decide +kernel, rfl, by decide +kernel, by decide +kernel⟩
abbrev st_law : Stmt := top 31
abbrev N_law : List Str := ["_law_script", "_law_k"]
abbrev P_law : List Str := ["_law_script"]
theorem sc_law : FnScope N_law P_law (defScope st_law) := ⟨rfl, rfl, rfl, by decide +kernel, rfl, by decide +kernel, by decide +kernel⟩
structure Md (K : PySem.W.Frag) (mg : Str → Option Value) (C_Many C_EachError C_InvalidText : Addr) : Prop where
  b_isinstance : mg "isinstance" = none
  b_int : mg "int" = none
  b_str : mg "str" = none
  b_bool : mg "bool" = none
  b_max : mg "max" = none
  b_min : mg "min" = none
  b_abs : mg "abs" = none
  b_divmod : mg "divmod" = none
  b_len : mg "len" = none
  b_range : mg "range" = none
  b_all : mg "all" = none
  b_repr : mg "repr" = none
  f_is_integer : ∃ (f : Addr) (fd : FuncData), FunD K "is_integer" "is_integer" (defArgs st_is_integer) (defBody st_is_integer) (defScope st_is_integer) [] [] f fd ∧ mg "is_integer" = some (.ref f)
  f_is_count : ∃ (f : Addr) (fd : FuncData), FunD K "is_count" "is_count" (defArgs st_is_count) (defBody st_is_count) (defScope st_is_count) [] [] f fd ∧ mg "is_count" = some (.ref f)
  f_number_in : ∃ (f : Addr) (fd : FuncData), FunD K "number_in" "number_in" (defArgs st_number_in) (defBody st_number_in) (defScope st_number_in) [] [] f fd ∧ mg "number_in" = some (.ref f)
  f__is_up_to : ∃ (f : Addr) (fd : FuncData), FunD K "_is_up_to" "_is_up_to" (defArgs st__is_up_to) (defBody st__is_up_to) (defScope st__is_up_to) [] [] f fd ∧ mg "_is_up_to" = some (.ref f)
  f__law_rng : ∃ (f : Addr) (fd : FuncData), FunD K "_law_rng" "_law_rng" (defArgs st__law_rng) (defBody st__law_rng) (defScope st__law_rng) [] [] f fd ∧ mg "_law_rng" = some (.ref f)
  f__law_draw : ∃ (f : Addr) (fd : FuncData), FunD K "_law_draw" "_law_draw" (defArgs st__law_draw) (defBody st__law_draw) (defScope st__law_draw) [] [] f fd ∧ mg "_law_draw" = some (.ref f)
  f__law_choice : ∃ (f : Addr) (fd : FuncData), FunD K "_law_choice" "_law_choice" (defArgs st__law_choice) (defBody st__law_choice) (defScope st__law_choice) [] [] f fd ∧ mg "_law_choice" = some (.ref f)
  f__law_low : ∃ (f : Addr) (fd : FuncData), FunD K "_law_low" "_law_low" (defArgs st__law_low) (defBody st__law_low) (defScope st__law_low) [] [] f fd ∧ mg "_law_low" = some (.ref f)
  f__law_pair : ∃ (f : Addr) (fd : FuncData), FunD K "_law_pair" "_law_pair" (defArgs st__law_pair) (defBody st__law_pair) (defScope st__law_pair) [] [] f fd ∧ mg "_law_pair" = some (.ref f)
  f__law_words : ∃ (f : Addr) (fd : FuncData), FunD K "_law_words" "_law_words" (defArgs st__law_words) (defBody st__law_words) (defScope st__law_words) [] [] f fd ∧ mg "_law_words" = some (.ref f)
  f__law_number : ∃ (f : Addr) (fd : FuncData), FunD K "_law_number" "_law_number" (defArgs st__law_number) (defBody st__law_number) (defScope st__law_number) [] [] f fd ∧ mg "_law_number" = some (.ref f)
  f__law_read : ∃ (f : Addr) (fd : FuncData), FunD K "_law_read" "_law_read" (defArgs st__law_read) (defBody st__law_read) (defScope st__law_read) [] [] f fd ∧ mg "_law_read" = some (.ref f)
  f__law_told : ∃ (f : Addr) (fd : FuncData), FunD K "_law_told" "_law_told" (defArgs st__law_told) (defBody st__law_told) (defScope st__law_told) [] [] f fd ∧ mg "_law_told" = some (.ref f)
  f__law_bent : ∃ (f : Addr) (fd : FuncData), FunD K "_law_bent" "_law_bent" (defArgs st__law_bent) (defBody st__law_bent) (defScope st__law_bent) [] [] f fd ∧ mg "_law_bent" = some (.ref f)
  f__law_joined : ∃ (f : Addr) (fd : FuncData), FunD K "_law_joined" "_law_joined" (defArgs st__law_joined) (defBody st__law_joined) (defScope st__law_joined) [] [] f fd ∧ mg "_law_joined" = some (.ref f)
  f__law_text_right : ∃ (f : Addr) (fd : FuncData), FunD K "_law_text_right" "_law_text_right" (defArgs st__law_text_right) (defBody st__law_text_right) (defScope st__law_text_right) [] [] f fd ∧ mg "_law_text_right" = some (.ref f)
  f__law_right : ∃ (f : Addr) (fd : FuncData), FunD K "_law_right" "_law_right" (defArgs st__law_right) (defBody st__law_right) (defScope st__law_right) [] [] f fd ∧ mg "_law_right" = some (.ref f)
  m_Many : mg "Many" = some (.ref C_Many)
  k_Many : Cls K C_Many
  i_Many : ∃ (f : Addr) (fd : FuncData), Mk K C_Many f ∧ FunD K "__init__" "Many.__init__" (defArgs st_Many___init__) (defBody st_Many___init__) (defScope st_Many___init__) [.non] [] f fd
  z_Many : ∀ {H : Hp} {a dx : Addr} {fs : List (Str × V)}, H a = some (.ins C_Many dx fs) → TyOf K H (.ref a) (.ref C_Many)
  n_Many__least : NoAttr K C_Many "_least"
  n_Many__most : NoAttr K C_Many "_most"
  n_Many__key : NoAttr K C_Many "_key"
  e_Many___eq__ : ∃ (f : Addr) (fd : FuncData), Meth K C_Many "__eq__" f ∧ FunD K "__eq__" "Many.__eq__" (defArgs st_Many___eq__) (defBody st_Many___eq__) (defScope st_Many___eq__) [] [] f fd
  e_Many___str__ : ∃ (f : Addr) (fd : FuncData), Meth K C_Many "__str__" f ∧ FunD K "__str__" "Many.__str__" (defArgs st_Many___str__) (defBody st_Many___str__) (defScope st_Many___str__) [] [] f fd
  p_Many_least : ∃ (p f : Addr) (fd : FuncData), PropOf K C_Many "least" p f ∧ FunD K "least" "Many.least" (defArgs st_Many_least) (defBody st_Many_least) (defScope st_Many_least) [] [] f fd
  p_Many_most : ∃ (p f : Addr) (fd : FuncData), PropOf K C_Many "most" p f ∧ FunD K "most" "Many.most" (defArgs st_Many_most) (defBody st_Many_most) (defScope st_Many_most) [] [] f fd
  ne_Many : PySem.W.findIn K (.ref C_Many) "__ne__" = some (some (.builtin "object.__ne__"))
  ks_Many : PySem.W.kitOne K (.ref C_Many) (.type "str") = some false
  mo_Many : PySem.W.mroIn K C_Many (.type "object") = some true
  t_Many_read : ∃ (f : Addr) (fd : FuncData), StaM K C_Many "read" f ∧ FunD K "read" "Many.read" (defArgs st_Many_read) (defBody st_Many_read) (defScope st_Many_read) [] [] f fd
  nd_exc : [C_EachError, C_InvalidText].Nodup
  hn_exc : PySem.W.specialIn K (.builtin "object.__class__") "__get__" = some (some (.builtin "getset_descriptor.__get__"))
  ht_exc : PySem.W.takesIn K (.builtin "object.__class__") = some true
  m_EachError : mg "EachError" = some (.ref C_EachError)
  x_EachError : ExF K C_EachError [.ref C_EachError, .type "ValueError", .type "Exception", .type "BaseException", .type "object"] "ValueError.__new__"
  q_EachError : PySem.W.excIn K C_EachError [.type "ValueError", .type "Exception", .type "BaseException", .type "object"] "ValueError.__new__" = true
  m_InvalidText : mg "InvalidText" = some (.ref C_InvalidText)
  x_InvalidText : ExF K C_InvalidText [.ref C_InvalidText, .ref C_EachError, .type "ValueError", .type "Exception", .type "BaseException", .type "object"] "ValueError.__new__"
  i_InvalidText : ∃ (f : Addr) (fd : FuncData), PySem.W.findIn K (.ref C_InvalidText) "__init__" = some (some (.ref f)) ∧ PySem.W.isFn K (.ref f) = true ∧ FunD K "__init__" "InvalidText.__init__" (defArgs st_InvalidText___init__) (defBody st_InvalidText___init__) (defScope st_InvalidText___init__) [] [] f fd
  n_InvalidText_line : NoAttr K C_InvalidText "line"
end My
open My L2 PySem
open My L2 PySem
local macro_rules | `(tactic| walk_at "as") => `(tactic| with_reducible assumption)
local macro_rules | `(tactic| walk_at "hp") => `(tactic| first
  | walk_at "as" | exact upd_same
  | (rw [upd_ne (by walk_at "ne")]; walk_at "hp")
  | (refine But.get (by walk_at "as") ?hp1 ?hp2; (case hp1 => walk_at "hp"); (case hp2 => walk_at "ne"))
  | (refine My.Same.get (by walk_at "as") ?hp1; (case hp1 => walk_at "hp")))
local macro_rules | `(tactic| walk_at "ne") => `(tactic| first
  | walk_at "as" | exact Ne.symm (by walk_at "as")
  | (refine' ne_of_none ?ne1 ?ne2; (case ne2 => walk_at "as"); (case ne1 => walk_at "hp"))
  | (refine' Ne.symm (ne_of_none ?ne1 ?ne2); (case ne2 => walk_at "as"); (case ne1 => walk_at "hp"))
  | exact ne_of (by walk_at "hp") (by walk_at "hp") (by intro z; cases z))
local macro_rules | `(tactic| walk_at "sd") => `(tactic| first
  | walk_at "as" | omega | decide | exact ⟨by omega, by omega⟩ | exact .inl ⟨by omega, by omega⟩ | exact .inr ⟨by omega, by omega⟩ | exact divp_wide (by walk_at "as") (by walk_at "as") | exact Sm.cmul (by walk_at "as") (by walk_at "as") | exact cmul_small (by omega) (by omega) (by omega) (by omega) | exact ⟨by omega, by decide⟩)
local macro_rules | `(tactic| walk_at "bt") => `(tactic| first
  | walk_at "as" | exact But.refl _ _ | exact Same.but (by walk_at "as")
  | (refine But.trans ?bt1 But.at; (case bt1 => walk_at "bt"))
  | (refine But.trans ?bt1 (But.new (by first | walk_at "as" | walk_at "hp")); (case bt1 => walk_at "bt"))
  | (refine But.trans ?bt1 (by walk_at "as"); (case bt1 => walk_at "bt"))
  | (refine But.trans ?bt1 (Same.but (by walk_at "as")); (case bt1 => walk_at "bt")))
local macro_rules | `(tactic| walk_at "sm") => `(tactic| first
  | walk_at "as" | exact My.Same.rfl' _
  | (refine' My.Same.at_ ?sm1 ?sm2; (case sm1 => walk_at "as"); (case sm2 => walk_at "sm"))
  | (refine' My.Same.tr ?sm1 (My.Same.new ?sm2); (case sm2 => walk_at "as"); (case sm1 => walk_at "sm"))
  | (refine' My.Same.tr ?sm1 ?sm2; (case sm2 => walk_at "as"); (case sm1 => walk_at "sm")))
local macro_rules | `(tactic| walk_at "sz") => `(tactic| first
  | assumption | exact lt_size (by rfl) | exact le_size (by rfl) | (rw [sizeLine_eq]; omega)
  | (rw [sizeLine_eq]; simp only [List.length_append, List.length_map, List.length_cons, List.length_nil]; omega))
local macro_rules | `(tactic| walk_at "few") => `(tactic| (repeat refine few_put ?_); exact few0)
local macro_rules | `(tactic| walk_at "rd1") => `(tactic| first
  | (with_reducible show tVar _ _ _ _); refine s_var rfl ?_
  | with_reducible refine s_c ?_ | with_reducible refine s_op ?_ | with_reducible refine s_un ?_
  | with_reducible refine s_cons ?_ | with_reducible refine s_nil ?_ | with_reducible refine s_cb ?_
  | with_reducible refine s_test ?_ | with_reducible refine s_B ?_ | with_reducible refine s_not ?_ | with_reducible refine s_and ?_ | with_reducible refine s_or ?_
  | with_reducible refine s_if ?_ | with_reducible refine s_notV ?_ | with_reducible refine s_andV ?_ | with_reducible refine s_orV ?_
  | with_reducible refine s_orT ?_ | with_reducible refine s_andT ?_ | with_reducible refine s_chain ?_
  | with_reducible refine s_isi_int ?_ | with_reducible refine s_isi_int_bool ?_ | with_reducible refine s_isi_str ?_
  | with_reducible refine iteT ?_ | with_reducible refine iteF ?_ | with_reducible refine iteNT ?_ | with_reducible refine iteNF ?_
  | with_reducible refine s_isN ?_ | with_reducible refine s_notN ?_
  | ((with_reducible refine' s_2setE ?g1 ?_); (case g1 => first | (dsimp only [List.set, L2.wipe, List.map, List.foldl]; done) | (dsimp only [List.set, L2.wipe, List.map, List.foldl]; rfl)))
  | with_reducible refine s_seq ?_ | with_reducible refine s_ifS ?_ | with_reducible refine s_asg ?_ | with_reducible refine s_ret ?_ | with_reducible refine s_drop ?_ | with_reducible refine s_next ?_
  | ((with_reducible refine' s_gnameE ?g1 ?_); (case g1 => first | (dsimp only [List.set, L2.wipe, List.map, List.foldl]; done) | (dsimp only [List.set, L2.wipe, List.map, List.foldl]; rfl)))
  | with_reducible refine s_gsub ?_ | with_reducible refine s_gcons ?_ | with_reducible refine s_gnil ?_
  | (with_reducible show gTup _ _ _ _ _ _ _); refine s_gtup (by walk_at "hp") rfl ?_
  | with_reducible refine s_eqI ?_ | with_reducible refine s_neI ?_ | with_reducible refine s_eqS ?_ | with_reducible refine s_neB ?_ | with_reducible refine s_eqB ?_ | with_reducible refine s_neSr ?_ | with_reducible refine s_neS ?_
  | with_reducible refine s_I0 ?_
  | (with_reducible show rI _ _ _ _ _ _); refine s_I (by walk_at "sd") ?_
  | (with_reducible show rIxL _ _ _ _ _); refine s_ixL (by walk_at "hp") rfl ?_
  | (with_reducible show rIxT _ _ _ _ _); refine s_ixT (by walk_at "hp") rfl ?_
  | (with_reducible show rSetL _ _ _ _ _); refine s_setL (by walk_at "hp") rfl ?_
  | with_reducible refine s_prop ?_
  | (with_reducible show _ ≤ sizeLine ∧ _); refine ⟨le_size (by rfl), ?_⟩
  | with_reducible refine ite_NN ?_ | with_reducible refine ite_IN ?_ | with_reducible refine ite_nNN ?_ | with_reducible refine ite_nIN ?_ | with_reducible refine ite_RN ?_ | with_reducible refine ite_nRN ?_
  | with_reducible refine s_sfld ?_
  | ((with_reducible refine' ⟨_, _, _, _, rfl, ?fp1, ?fp2, ?fp3, ?fp4, ?_⟩); (case fp1 => walk_at "hp"); (case fp2 => assumption); (case fp3 => assumption); (case fp4 => walk_at "few"))
  | with_reducible refine s_fldE ?_
  | ((with_reducible refine' ⟨_, _, _, _, _, rfl, ?fp1, ?fp2, ?fp3, ?fp4, ?_⟩); (case fp1 => walk_at "hp"); (case fp2 => assumption); (case fp3 => assumption); (case fp4 => rfl))
  | with_reducible refine s_bm ?_ | with_reducible refine s_bm0 ?_
  | ((with_reducible refine' s_tyL ?ty1 ?_); (case ty1 => walk_at "hp"))
  | ((with_reducible refine' s_append ?ap1 ?ap2 ?_); (case ap1 => walk_at "hp"); (case ap2 => walk_at "sz"))
  | ((with_reducible refine' s_extend ?ap1 ?ap2 ?ap3 ?_); (case ap1 => walk_at "hp"); (case ap2 => walk_at "hp"); (case ap3 => walk_at "sz"))
  | with_reducible refine s_for (fun _ _ => ?_) | with_reducible refine s_lc ?_ | with_reducible refine s_iList ?_ | with_reducible refine s_iTup ?_ | with_reducible refine s_iRng1 ?_ | with_reducible refine s_iRng2 ?_
  | with_reducible refine s_yes ?_ | with_reducible refine s_par ?_
  | with_reducible refine s_make ?_ | with_reducible refine s_meth ?_
  | with_reducible refine s_tup ?_ | with_reducible refine s_lst ?_ | with_reducible refine s_call ?_
  | with_reducible refine ⟨rfl, ?_⟩
  | with_reducible refine ⟨_, rfl, ?_⟩
  | ((with_reducible refine' ⟨_, _, rfl, ?sd1, ?_⟩); (case sd1 => walk_at "sd"))
  | with_reducible refine ⟨_, _, rfl, ?_⟩
  | with_reducible refine .inl ⟨_, rfl, ?_⟩
  | dsimp only [List.set]
  | walk_at "rdx"
  | (refine fun _ _ => ?_))
local macro_rules | `(tactic| walk_at "rd") => `(tactic| repeat (first
  | (with_reducible show tVar _ _ _ _); refine s_var rfl ?_
  | with_reducible refine s_c ?_ | with_reducible refine s_op ?_ | with_reducible refine s_un ?_
  | with_reducible refine s_cons ?_ | with_reducible refine s_nil ?_ | with_reducible refine s_cb ?_
  | with_reducible refine s_test ?_ | with_reducible refine s_B ?_ | with_reducible refine s_not ?_ | with_reducible refine s_and ?_ | with_reducible refine s_or ?_
  | with_reducible refine s_if ?_ | with_reducible refine s_notV ?_ | with_reducible refine s_andV ?_ | with_reducible refine s_orV ?_
  | with_reducible refine s_orT ?_ | with_reducible refine s_andT ?_ | with_reducible refine s_chain ?_
  | with_reducible refine s_isi_int ?_ | with_reducible refine s_isi_int_bool ?_ | with_reducible refine s_isi_str ?_
  | with_reducible refine iteT ?_ | with_reducible refine iteF ?_ | with_reducible refine iteNT ?_ | with_reducible refine iteNF ?_
  | with_reducible refine s_isN ?_ | with_reducible refine s_notN ?_
  | ((with_reducible refine' s_2setE ?g1 ?_); (case g1 => first | (dsimp only [List.set, L2.wipe, List.map, List.foldl]; done) | (dsimp only [List.set, L2.wipe, List.map, List.foldl]; rfl)))
  | with_reducible refine s_seq ?_ | with_reducible refine s_ifS ?_ | with_reducible refine s_asg ?_ | with_reducible refine s_ret ?_ | with_reducible refine s_drop ?_ | with_reducible refine s_next ?_
  | ((with_reducible refine' s_gnameE ?g1 ?_); (case g1 => first | (dsimp only [List.set, L2.wipe, List.map, List.foldl]; done) | (dsimp only [List.set, L2.wipe, List.map, List.foldl]; rfl)))
  | with_reducible refine s_gsub ?_ | with_reducible refine s_gcons ?_ | with_reducible refine s_gnil ?_
  | (with_reducible show gTup _ _ _ _ _ _ _); refine s_gtup (by walk_at "hp") rfl ?_
  | with_reducible refine s_eqI ?_ | with_reducible refine s_neI ?_ | with_reducible refine s_eqS ?_ | with_reducible refine s_neB ?_ | with_reducible refine s_eqB ?_ | with_reducible refine s_neSr ?_ | with_reducible refine s_neS ?_
  | with_reducible refine s_I0 ?_
  | (with_reducible show rI _ _ _ _ _ _); refine s_I (by walk_at "sd") ?_
  | (with_reducible show rIxL _ _ _ _ _); refine s_ixL (by walk_at "hp") rfl ?_
  | (with_reducible show rIxT _ _ _ _ _); refine s_ixT (by walk_at "hp") rfl ?_
  | (with_reducible show rSetL _ _ _ _ _); refine s_setL (by walk_at "hp") rfl ?_
  | with_reducible refine s_prop ?_
  | (with_reducible show _ ≤ sizeLine ∧ _); refine ⟨le_size (by rfl), ?_⟩
  | with_reducible refine ite_NN ?_ | with_reducible refine ite_IN ?_ | with_reducible refine ite_nNN ?_ | with_reducible refine ite_nIN ?_ | with_reducible refine ite_RN ?_ | with_reducible refine ite_nRN ?_
  | with_reducible refine s_sfld ?_
  | ((with_reducible refine' ⟨_, _, _, _, rfl, ?fp1, ?fp2, ?fp3, ?fp4, ?_⟩); (case fp1 => walk_at "hp"); (case fp2 => assumption); (case fp3 => assumption); (case fp4 => walk_at "few"))
  | with_reducible refine s_fldE ?_
  | ((with_reducible refine' ⟨_, _, _, _, _, rfl, ?fp1, ?fp2, ?fp3, ?fp4, ?_⟩); (case fp1 => walk_at "hp"); (case fp2 => assumption); (case fp3 => assumption); (case fp4 => rfl))
  | with_reducible refine s_bm ?_ | with_reducible refine s_bm0 ?_
  | ((with_reducible refine' s_tyL ?ty1 ?_); (case ty1 => walk_at "hp"))
  | ((with_reducible refine' s_append ?ap1 ?ap2 ?_); (case ap1 => walk_at "hp"); (case ap2 => walk_at "sz"))
  | ((with_reducible refine' s_extend ?ap1 ?ap2 ?ap3 ?_); (case ap1 => walk_at "hp"); (case ap2 => walk_at "hp"); (case ap3 => walk_at "sz"))
  | with_reducible refine s_for (fun _ _ => ?_) | with_reducible refine s_lc ?_ | with_reducible refine s_iList ?_ | with_reducible refine s_iTup ?_ | with_reducible refine s_iRng1 ?_ | with_reducible refine s_iRng2 ?_
  | with_reducible refine s_yes ?_ | with_reducible refine s_par ?_
  | with_reducible refine s_make ?_ | with_reducible refine s_meth ?_
  | with_reducible refine s_tup ?_ | with_reducible refine s_lst ?_ | with_reducible refine s_call ?_
  | with_reducible refine ⟨rfl, ?_⟩
  | with_reducible refine ⟨_, rfl, ?_⟩
  | ((with_reducible refine' ⟨_, _, rfl, ?sd1, ?_⟩); (case sd1 => walk_at "sd"))
  | with_reducible refine ⟨_, _, rfl, ?_⟩
  | with_reducible refine .inl ⟨_, rfl, ?_⟩
  | dsimp only [List.set]
  | walk_at "rdx"
  | (refine fun _ _ => ?_)))
end
section
namespace My
open PySem L2 PySem.W
def dd_is_integer : He.DefD := ⟨("is_integer", none), "is_integer", "is_integer", defArgs st_is_integer, defBody st_is_integer, defScope st_is_integer, [], []⟩
def dd_is_count : He.DefD := ⟨("is_count", none), "is_count", "is_count", defArgs st_is_count, defBody st_is_count, defScope st_is_count, [], []⟩
def dd_number_in : He.DefD := ⟨("number_in", none), "number_in", "number_in", defArgs st_number_in, defBody st_number_in, defScope st_number_in, [], []⟩
def dd__is_up_to : He.DefD := ⟨("_is_up_to", none), "_is_up_to", "_is_up_to", defArgs st__is_up_to, defBody st__is_up_to, defScope st__is_up_to, [], []⟩
def dd__law_rng : He.DefD := ⟨("_law_rng", none), "_law_rng", "_law_rng", defArgs st__law_rng, defBody st__law_rng, defScope st__law_rng, [], []⟩
def dd__law_draw : He.DefD := ⟨("_law_draw", none), "_law_draw", "_law_draw", defArgs st__law_draw, defBody st__law_draw, defScope st__law_draw, [], []⟩
def dd__law_choice : He.DefD := ⟨("_law_choice", none), "_law_choice", "_law_choice", defArgs st__law_choice, defBody st__law_choice, defScope st__law_choice, [], []⟩
def dd__law_low : He.DefD := ⟨("_law_low", none), "_law_low", "_law_low", defArgs st__law_low, defBody st__law_low, defScope st__law_low, [], []⟩
def dd__law_pair : He.DefD := ⟨("_law_pair", none), "_law_pair", "_law_pair", defArgs st__law_pair, defBody st__law_pair, defScope st__law_pair, [], []⟩
def dd__law_words : He.DefD := ⟨("_law_words", none), "_law_words", "_law_words", defArgs st__law_words, defBody st__law_words, defScope st__law_words, [], []⟩
def dd__law_number : He.DefD := ⟨("_law_number", none), "_law_number", "_law_number", defArgs st__law_number, defBody st__law_number, defScope st__law_number, [], []⟩
def dd__law_read : He.DefD := ⟨("_law_read", none), "_law_read", "_law_read", defArgs st__law_read, defBody st__law_read, defScope st__law_read, [], []⟩
def dd__law_told : He.DefD := ⟨("_law_told", none), "_law_told", "_law_told", defArgs st__law_told, defBody st__law_told, defScope st__law_told, [], []⟩
def dd__law_bent : He.DefD := ⟨("_law_bent", none), "_law_bent", "_law_bent", defArgs st__law_bent, defBody st__law_bent, defScope st__law_bent, [], []⟩
def dd__law_joined : He.DefD := ⟨("_law_joined", none), "_law_joined", "_law_joined", defArgs st__law_joined, defBody st__law_joined, defScope st__law_joined, [], []⟩
def dd__law_text_right : He.DefD := ⟨("_law_text_right", none), "_law_text_right", "_law_text_right", defArgs st__law_text_right, defBody st__law_text_right, defScope st__law_text_right, [], []⟩
def dd__law_right : He.DefD := ⟨("_law_right", none), "_law_right", "_law_right", defArgs st__law_right, defBody st__law_right, defScope st__law_right, [], []⟩
def dd_Many___init__ : He.DefD := ⟨("Many", some "__init__"), "__init__", "Many.__init__", defArgs st_Many___init__, defBody st_Many___init__, defScope st_Many___init__, [.non], []⟩
def dd_Many___eq__ : He.DefD := ⟨("Many", some "__eq__"), "__eq__", "Many.__eq__", defArgs st_Many___eq__, defBody st_Many___eq__, defScope st_Many___eq__, [], []⟩
def dd_Many___str__ : He.DefD := ⟨("Many", some "__str__"), "__str__", "Many.__str__", defArgs st_Many___str__, defBody st_Many___str__, defScope st_Many___str__, [], []⟩
def dd_InvalidText___init__ : He.DefD := ⟨("InvalidText", some "__init__"), "__init__", "InvalidText.__init__", defArgs st_InvalidText___init__, defBody st_InvalidText___init__, defScope st_InvalidText___init__, [], []⟩
def dd_law : He.DefD := ⟨("law", none), "law", "law", defArgs st_law, defBody st_law, defScope st_law, [], []⟩
def dd_Many_least : He.DefD := ⟨("Many", some "least"), "least", "Many.least", defArgs st_Many_least, defBody st_Many_least, defScope st_Many_least, [], []⟩
def dd_Many_most : He.DefD := ⟨("Many", some "most"), "most", "Many.most", defArgs st_Many_most, defBody st_Many_most, defScope st_Many_most, [], []⟩
def dd_Many_read : He.DefD := ⟨("Many", some "read"), "read", "Many.read", defArgs st_Many_read, defBody st_Many_read, defScope st_Many_read, [], []⟩
def fnL : List He.DefD := ([dd_is_integer, dd_is_count, dd_number_in, dd__is_up_to, dd__law_rng, dd__law_draw, dd__law_choice, dd__law_low, dd__law_pair, dd__law_words, dd__law_number, dd__law_read, dd__law_told, dd__law_bent, dd__law_joined, dd__law_text_right, dd__law_right, dd_Many___init__, dd_Many___eq__, dd_Many___str__, dd_InvalidText___init__, dd_law] : List He.DefD)
def adL : List AtD := ([(fun K => prA K "Many" "least", dd_Many_least), (fun K => prA K "Many" "most", dd_Many_most), (fun K => staF K (He.ga K "Many") "read", dd_Many_read)] : List AtD)
def faL : List He.Fa := ([.glo "is_integer", .glo "is_count", .glo "number_in", .glo "_is_up_to", .glo "_law_rng", .glo "_law_draw", .glo "_law_choice", .glo "_law_low", .glo "_law_pair", .glo "_law_words", .glo "_law_number", .glo "_law_read", .glo "_law_told", .glo "_law_bent", .glo "_law_joined", .glo "_law_text_right", .glo "_law_right", .glo "Many", .glo "EachError", .glo "InvalidText", .glo "law", .free "isinstance", .free "int", .free "str", .free "bool", .free "max", .free "min", .free "abs", .free "divmod", .free "len"] : List He.Fa) ++ ([.free "range", .free "all", .free "repr", .cls "Many", .mkr "Many", .noat "Many" "_least", .noat "Many" "_most", .noat "Many" "_key", .meth "Many" "__eq__", .meth "Many" "__str__"] : List He.Fa)
def tests (K : PySem.W.Frag) : List Bool := ([decide (specialIn K (.builtin "object.__class__") "__get__" = some (some (.builtin "getset_descriptor.__get__"))), decide (takesIn K (.builtin "object.__class__") = some true), decide [(He.ga K "EachError"), (He.ga K "InvalidText")].Nodup, excB K (He.ga K "EachError") [.ref (He.ga K "EachError"), .type "ValueError", .type "Exception", .type "BaseException", .type "object"] "ValueError.__new__", excIn K (He.ga K "EachError") [.type "ValueError", .type "Exception", .type "BaseException", .type "object"] "ValueError.__new__", excB K (He.ga K "InvalidText") [.ref (He.ga K "InvalidText"), .ref (He.ga K "EachError"), .type "ValueError", .type "Exception", .type "BaseException", .type "object"] "ValueError.__new__", iniB K (He.ga K "InvalidText"), eqO (findIn K (.ref (He.ga K "InvalidText")) "line") (some none), eqO (findIn K (.ref (He.ga K "Many")) "__class__") (some (some (.builtin "object.__class__"))), decide (mroIn K (He.ga K "Many") (.type "object") = some true), prB K "Many" "least", prB K "Many" "most", staB K (He.ga K "Many") "read", decide (PySem.W.findIn K (.ref (He.ga K "Many")) "__ne__" = some (some (.builtin "object.__ne__"))), decide (PySem.W.kitOne K (.ref (He.ga K "Many")) (.type "str") = some false), decide (PySem.W.mroIn K (He.ga K "Many") (.type "object") = some true)] : List Bool)
def exB (K : PySem.W.Frag) : Bool := (tests K).all id
def looseL : List PySem.Str := (["_wall", "EachError", "InvalidCount", "InvalidMany", "InvalidText", "StateError", "Apart", "is_integer", "is_count", "number_in", "Many", "_is_up_to", "_most_of_sum", "_most_of_product", "_law_rng", "_law_draw", "_law_choice", "_law_low", "_law_pair", "_law_words", "_law_number", "_law_read", "_law_told", "_law_bent", "_law_joined", "_law_text_right", "_law_right"] : List PySem.Str)
abbrev rowR : PySem.W.OpenRow := PySem.W.OpenLaw.row PySem.Challenge.rw_howmanyeach_k13_whole_manys_read_back
abbrev hkL : PySem.W.Hook := hookY 5 faL fnL adL exB
def obL (s : PySem.W.SharedT) : AlY := obsYG 5 faL fnL adL exB (HandSHeadRun.getT s)
theorem obL_eq (s : PySem.W.SharedT) : obL s = hkL.obs s.abs := obsYG_eq (HandSHeadRun.getT_eq s)
theorem runL (w : World) : HandSHeadRun.RunEq rowR (PySem.W.view rowR.prog [31]) hkL obL 6000 looseL w := by
  intro os
  kernel_rfl
end My
end
section
namespace My
open PySem L2 PySem.Spec PyProof.Rows
/-! ### numbers as texts -/
def digB (c : Nat) : Bool := decide (48 ≤ c ∧ c ≤ 57)
def numOk (t : List Nat) : Bool := !t.isEmpty && t.all digB && !(decide (t.head? = some 48) && decide (1 < t.length))
def numIn (t : List Nat) : Option Nat := if numOk t = true then some (NumText.digitsVal t) else none
theorem numL_head : ∀ n : Nat, 1 ≤ n → (TL.numL n).head? ≠ some 48 := by
  intro n
  induction n using Nat.strongRecOn with
  | ind n ih =>
    intro h
    rcases Nat.lt_or_ge n 10 with h10 | h10
    · rw [TL.numL_lt h10]
      simp
      omega
    · rw [TL.numL_step h10]
      have := ih (n / 10) (by omega) (by omega)
      cases e : TL.numL (n / 10) with
      | nil => exact absurd e (TL.numL_ne _)
      | cons a r =>
        rw [e] at this
        simpa using this
theorem numL_len1 (n : Nat) (h : 1 < (TL.numL n).length) : 1 ≤ n := by
  rcases Nat.eq_zero_or_pos n with z | z
  · rw [z, TL.numL_lt (by decide)] at h
    simp at h
  · exact z
theorem digs_all (n : Nat) : (TL.numL n).all digB = true := by
  rw [List.all_eq_true]
  intro c hc
  exact decide_eq_true (TL.numL_digits n c hc)
theorem numOk_num (n : Nat) : numOk (TL.numL n) = true := by
  unfold numOk
  rw [digs_all]
  have h1 : (TL.numL n).isEmpty = false := by
    cases e : TL.numL n with
    | nil => exact absurd e (TL.numL_ne _)
    | cons _ _ => rfl
  rw [h1]
  by_cases h : 1 < (TL.numL n).length
  · rw [decide_eq_false (numL_head n (numL_len1 n h))]
    rfl
  · rw [decide_eq_false h, Bool.and_false]
    rfl
theorem numIn_num (n : Nat) : numIn (TL.numL n) = some n := by
  unfold numIn
  rw [if_pos (numOk_num n), TL.numL_val]
theorem val_snoc (t : List Nat) (c : Nat) : NumText.digitsVal (t ++ [c]) = NumText.digitsVal t * 10 + (c - 48) := by
  unfold NumText.digitsVal
  rw [List.foldl_append]
  rfl
theorem snoc_ind {P : List Nat → Prop} (h0 : P []) (h1 : ∀ t d, P t → P (t ++ [d])) (t : List Nat) : P t := by
  have h : ∀ r : List Nat, P r.reverse := by
    intro r
    induction r with
    | nil => exact h0
    | cons a r ih =>
      rw [List.reverse_cons]
      exact h1 _ _ ih
  have := h t.reverse
  rw [List.reverse_reverse] at this
  exact this
theorem val_pos {t : List Nat} {c : Nat} (h : 48 < c) : 1 ≤ NumText.digitsVal (c :: t) := by
  refine snoc_ind (P := fun t => 1 ≤ NumText.digitsVal (c :: t)) ?_ (fun t d ih => ?_) t
  · show 1 ≤ 0 * 10 + (c - 48)
    omega
  · have e : NumText.digitsVal (c :: (t ++ [d])) = NumText.digitsVal (c :: t) * 10 + (d - 48) := val_snoc (c :: t) d
    rw [e]
    omega
theorem num_of (t : List Nat) : t ≠ [] → t.all digB = true → (t.head? = some 48 → t.length = 1) → TL.numL (NumText.digitsVal t) = t := by
  refine snoc_ind (P := fun t => t ≠ [] → t.all digB = true → (t.head? = some 48 → t.length = 1) → TL.numL (NumText.digitsVal t) = t) (fun h => absurd rfl h) (fun t d ih => ?_) t
  intro _ ha hh
  rw [List.all_append, Bool.and_eq_true] at ha
  have hd : 48 ≤ d ∧ d ≤ 57 := by
    have := ha.2
    simp only [List.all_cons, List.all_nil, Bool.and_true] at this
    exact of_decide_eq_true this
  rw [val_snoc]
  cases t with
  | nil =>
    have e : NumText.digitsVal [] * 10 + (d - 48) = d - 48 := by
      show 0 * 10 + (d - 48) = _
      omega
    rw [e, TL.numL_lt (by omega)]
    simp
    omega
  | cons c r =>
    have hc0 : c ≠ 48 := fun z => by
      have := hh (by rw [z]; rfl)
      simp at this
    have hc : 48 ≤ c ∧ c ≤ 57 := by
      have := ha.1
      rw [List.all_cons, Bool.and_eq_true] at this
      exact of_decide_eq_true this.1
    have hp : 1 ≤ NumText.digitsVal (c :: r) := val_pos (by omega)
    rw [TL.numL_step (by omega)]
    have e1 : (NumText.digitsVal (c :: r) * 10 + (d - 48)) / 10 = NumText.digitsVal (c :: r) := by omega
    have e2 : 48 + (NumText.digitsVal (c :: r) * 10 + (d - 48)) % 10 = d := by omega
    rw [e1, e2, ih (by simp) ha.1 (fun z => by simp at z; exact absurd z hc0)]
theorem num_back {t : List Nat} {n : Nat} (h : numIn t = some n) : t = TL.numL n := by
  unfold numIn at h
  split at h
  · rename_i ok
    unfold numOk at ok
    simp only [Bool.and_eq_true, Bool.not_eq_true', Bool.and_eq_false_iff, decide_eq_false_iff_not] at ok
    obtain ⟨⟨h1, h2⟩, h3⟩ := ok
    have e := Option.some.inj h
    rw [← e]
    refine (num_of t (fun z => by rw [z] at h1; cases h1) h2 (fun z => ?_)).symm
    rcases h3 with q | q
    · exact absurd z q
    · cases t with
      | nil => cases z
      | cons c r =>
        simp at q ⊢
        omega
  · cases h
/-! ### what is read -/
def dots : Str := ".."
def occ (x : Str) : List Nat := Builtin.Str.occurrences x dots 0 x.length 1
abbrev cps (x : Str) : List Nat := x.cps.toList
def tail (x : Str) (i : Nat) : Str := Builtin.Str.strSub x (i + 2) x.length
def head (x : Str) (i : Nat) : Str := Builtin.Str.strSub x 0 i
/-- the Many of a text -/
def readOf (x : Str) : Option (Nat × Option Nat) := match occ x with
  | [] => (numIn (cps x)).map fun n => (n, some n)
  | i :: _ => match numIn (cps (head x i)) with
    | none => none
    | some l => if tail x i = "*" then some (l, none) else match numIn (cps (tail x i)) with
      | none => none
      | some h => if h ≤ l then none else some (l, some h)
/-- the text of a Many -/
def words : Nat × Option Nat → Str
  | (l, none) => Str.ofString (toString (l : Int)) ++ "..*"
  | (l, some h) => if l = h then Str.ofString (toString (l : Int)) else Str.ofString (toString (l : Int)) ++ ".." ++ Str.ofString (toString (h : Int))
theorem str_ext {x y : Str} (h : cps x = cps y) : x = y := by
  obtain ⟨a⟩ := x
  obtain ⟨b⟩ := y
  have : a.toList = b.toList := h
  rw [Array.toList_inj.mp this]
theorem cps_num (n : Nat) : cps (Str.ofString (toString (n : Int))) = TL.numL n := TL.tl_num n
theorem words_read {x : Str} {p : Nat × Option Nat} (h : readOf x = some p) : words p = x := by
  unfold readOf at h
  cases e : occ x with
  | nil =>
    rw [e] at h
    cases hn : numIn (cps x) with
    | none =>
      rw [hn] at h
      cases h
    | some n =>
      rw [hn] at h
      have := Option.some.inj h
      subst this
      show (if n = n then Str.ofString (toString (n : Int)) else _) = x
      rw [if_pos rfl]
      exact str_ext ((cps_num n).trans (num_back hn).symm)
  | cons i r =>
    rw [e] at h
    have sum := StrLaws.partition_sum x dots
    have pe : Txt.partition x dots = (head x i, dots, tail x i) := by
      unfold Txt.partition
      have : Builtin.Str.occurrences x dots 0 x.length 1 = i :: r := e
      rw [this]
      rfl
    rw [pe] at sum
    dsimp only at h sum
    cases h1 : numIn (cps (head x i)) with
    | none =>
      rw [h1] at h
      cases h
    | some l =>
      rw [h1] at h
      dsimp only at h
      have eh : head x i = Str.ofString (toString (l : Int)) := str_ext ((num_back h1).trans (cps_num l).symm)
      split at h
      · rename_i et
        have := Option.some.inj h
        subst this
        show Str.ofString (toString (l : Int)) ++ "..*" = x
        rw [← sum, eh, et, Str.append_assoc]
        congr 1
      · cases h2 : numIn (cps (tail x i)) with
        | none =>
          rw [h2] at h
          cases h
        | some g =>
          rw [h2] at h
          dsimp only at h
          split at h
          · cases h
          · rename_i hlt
            have := Option.some.inj h
            subst this
            have eg : tail x i = Str.ofString (toString (g : Int)) := str_ext ((num_back h2).trans (cps_num g).symm)
            show (if l = g then _ else _) = x
            rw [if_neg (by omega), ← sum, eh, eg]
            rfl
end My
end
section
open My L2 PySem
open My L2 PySem
local macro_rules | `(tactic| walk_at "as") => `(tactic| with_reducible assumption)
local macro_rules | `(tactic| walk_at "hp") => `(tactic| first
  | walk_at "as" | exact upd_same
  | (rw [upd_ne (by walk_at "ne")]; walk_at "hp")
  | (refine But.get (by walk_at "as") ?hp1 ?hp2; (case hp1 => walk_at "hp"); (case hp2 => walk_at "ne"))
  | (refine My.Same.get (by walk_at "as") ?hp1; (case hp1 => walk_at "hp")))
local macro_rules | `(tactic| walk_at "ne") => `(tactic| first
  | walk_at "as" | exact Ne.symm (by walk_at "as")
  | (refine' ne_of_none ?ne1 ?ne2; (case ne2 => walk_at "as"); (case ne1 => walk_at "hp"))
  | (refine' Ne.symm (ne_of_none ?ne1 ?ne2); (case ne2 => walk_at "as"); (case ne1 => walk_at "hp"))
  | exact ne_of (by walk_at "hp") (by walk_at "hp") (by intro z; cases z))
local macro_rules | `(tactic| walk_at "sd") => `(tactic| first
  | walk_at "as" | omega | decide | exact ⟨by omega, by omega⟩ | exact .inl ⟨by omega, by omega⟩ | exact .inr ⟨by omega, by omega⟩ | exact divp_wide (by walk_at "as") (by walk_at "as") | exact Sm.cmul (by walk_at "as") (by walk_at "as") | exact cmul_small (by omega) (by omega) (by omega) (by omega) | exact ⟨by omega, by decide⟩)
local macro_rules | `(tactic| walk_at "bt") => `(tactic| first
  | walk_at "as" | exact But.refl _ _ | exact Same.but (by walk_at "as")
  | (refine But.trans ?bt1 But.at; (case bt1 => walk_at "bt"))
  | (refine But.trans ?bt1 (But.new (by first | walk_at "as" | walk_at "hp")); (case bt1 => walk_at "bt"))
  | (refine But.trans ?bt1 (by walk_at "as"); (case bt1 => walk_at "bt"))
  | (refine But.trans ?bt1 (Same.but (by walk_at "as")); (case bt1 => walk_at "bt")))
local macro_rules | `(tactic| walk_at "sm") => `(tactic| first
  | walk_at "as" | exact My.Same.rfl' _
  | (refine' My.Same.at_ ?sm1 ?sm2; (case sm1 => walk_at "as"); (case sm2 => walk_at "sm"))
  | (refine' My.Same.tr ?sm1 (My.Same.new ?sm2); (case sm2 => walk_at "as"); (case sm1 => walk_at "sm"))
  | (refine' My.Same.tr ?sm1 ?sm2; (case sm2 => walk_at "as"); (case sm1 => walk_at "sm")))
local macro_rules | `(tactic| walk_at "sz") => `(tactic| first
  | assumption | exact lt_size (by rfl) | exact le_size (by rfl) | (rw [sizeLine_eq]; omega)
  | (rw [sizeLine_eq]; simp only [List.length_append, List.length_map, List.length_cons, List.length_nil]; omega))
local macro_rules | `(tactic| walk_at "few") => `(tactic| (repeat refine few_put ?_); exact few0)
local macro_rules | `(tactic| walk_at "rd1") => `(tactic| first
  | (with_reducible show tVar _ _ _ _); refine s_var rfl ?_
  | with_reducible refine s_c ?_ | with_reducible refine s_op ?_ | with_reducible refine s_un ?_
  | with_reducible refine s_cons ?_ | with_reducible refine s_nil ?_ | with_reducible refine s_cb ?_
  | with_reducible refine s_test ?_ | with_reducible refine s_B ?_ | with_reducible refine s_not ?_ | with_reducible refine s_and ?_ | with_reducible refine s_or ?_
  | with_reducible refine s_if ?_ | with_reducible refine s_notV ?_ | with_reducible refine s_andV ?_ | with_reducible refine s_orV ?_
  | with_reducible refine s_orT ?_ | with_reducible refine s_andT ?_ | with_reducible refine s_chain ?_
  | with_reducible refine s_isi_int ?_ | with_reducible refine s_isi_int_bool ?_ | with_reducible refine s_isi_str ?_
  | with_reducible refine iteT ?_ | with_reducible refine iteF ?_ | with_reducible refine iteNT ?_ | with_reducible refine iteNF ?_
  | with_reducible refine s_isN ?_ | with_reducible refine s_notN ?_
  | ((with_reducible refine' s_2setE ?g1 ?_); (case g1 => first | (dsimp only [List.set, L2.wipe, List.map, List.foldl]; done) | (dsimp only [List.set, L2.wipe, List.map, List.foldl]; rfl)))
  | with_reducible refine s_seq ?_ | with_reducible refine s_ifS ?_ | with_reducible refine s_asg ?_ | with_reducible refine s_ret ?_ | with_reducible refine s_drop ?_ | with_reducible refine s_next ?_
  | ((with_reducible refine' s_gnameE ?g1 ?_); (case g1 => first | (dsimp only [List.set, L2.wipe, List.map, List.foldl]; done) | (dsimp only [List.set, L2.wipe, List.map, List.foldl]; rfl)))
  | with_reducible refine s_gsub ?_ | with_reducible refine s_gcons ?_ | with_reducible refine s_gnil ?_
  | (with_reducible show gTup _ _ _ _ _ _ _); refine s_gtup (by walk_at "hp") rfl ?_
  | with_reducible refine s_eqI ?_ | with_reducible refine s_neI ?_ | with_reducible refine s_eqS ?_ | with_reducible refine s_neB ?_ | with_reducible refine s_eqB ?_ | with_reducible refine s_neSr ?_ | with_reducible refine s_neS ?_
  | with_reducible refine s_I0 ?_
  | (with_reducible show rI _ _ _ _ _ _); refine s_I (by walk_at "sd") ?_
  | (with_reducible show rIxL _ _ _ _ _); refine s_ixL (by walk_at "hp") rfl ?_
  | (with_reducible show rIxT _ _ _ _ _); refine s_ixT (by walk_at "hp") rfl ?_
  | (with_reducible show rSetL _ _ _ _ _); refine s_setL (by walk_at "hp") rfl ?_
  | with_reducible refine s_prop ?_
  | (with_reducible show _ ≤ sizeLine ∧ _); refine ⟨le_size (by rfl), ?_⟩
  | with_reducible refine ite_NN ?_ | with_reducible refine ite_IN ?_ | with_reducible refine ite_nNN ?_ | with_reducible refine ite_nIN ?_ | with_reducible refine ite_RN ?_ | with_reducible refine ite_nRN ?_
  | with_reducible refine s_sfld ?_
  | ((with_reducible refine' ⟨_, _, _, _, rfl, ?fp1, ?fp2, ?fp3, ?fp4, ?_⟩); (case fp1 => walk_at "hp"); (case fp2 => assumption); (case fp3 => assumption); (case fp4 => walk_at "few"))
  | with_reducible refine s_fldE ?_
  | ((with_reducible refine' ⟨_, _, _, _, _, rfl, ?fp1, ?fp2, ?fp3, ?fp4, ?_⟩); (case fp1 => walk_at "hp"); (case fp2 => assumption); (case fp3 => assumption); (case fp4 => rfl))
  | with_reducible refine s_bm ?_ | with_reducible refine s_bm0 ?_
  | ((with_reducible refine' s_tyL ?ty1 ?_); (case ty1 => walk_at "hp"))
  | ((with_reducible refine' s_append ?ap1 ?ap2 ?_); (case ap1 => walk_at "hp"); (case ap2 => walk_at "sz"))
  | ((with_reducible refine' s_extend ?ap1 ?ap2 ?ap3 ?_); (case ap1 => walk_at "hp"); (case ap2 => walk_at "hp"); (case ap3 => walk_at "sz"))
  | with_reducible refine s_for (fun _ _ => ?_) | with_reducible refine s_lc ?_ | with_reducible refine s_iList ?_ | with_reducible refine s_iTup ?_ | with_reducible refine s_iRng1 ?_ | with_reducible refine s_iRng2 ?_
  | with_reducible refine s_yes ?_ | with_reducible refine s_par ?_
  | with_reducible refine s_make ?_ | with_reducible refine s_meth ?_
  | with_reducible refine s_tup ?_ | with_reducible refine s_lst ?_ | with_reducible refine s_call ?_
  | with_reducible refine ⟨rfl, ?_⟩
  | with_reducible refine ⟨_, rfl, ?_⟩
  | ((with_reducible refine' ⟨_, _, rfl, ?sd1, ?_⟩); (case sd1 => walk_at "sd"))
  | with_reducible refine ⟨_, _, rfl, ?_⟩
  | with_reducible refine .inl ⟨_, rfl, ?_⟩
  | dsimp only [List.set]
  | walk_at "rdx"
  | (refine fun _ _ => ?_))
local macro_rules | `(tactic| walk_at "rd") => `(tactic| repeat (first
  | (with_reducible show tVar _ _ _ _); refine s_var rfl ?_
  | with_reducible refine s_c ?_ | with_reducible refine s_op ?_ | with_reducible refine s_un ?_
  | with_reducible refine s_cons ?_ | with_reducible refine s_nil ?_ | with_reducible refine s_cb ?_
  | with_reducible refine s_test ?_ | with_reducible refine s_B ?_ | with_reducible refine s_not ?_ | with_reducible refine s_and ?_ | with_reducible refine s_or ?_
  | with_reducible refine s_if ?_ | with_reducible refine s_notV ?_ | with_reducible refine s_andV ?_ | with_reducible refine s_orV ?_
  | with_reducible refine s_orT ?_ | with_reducible refine s_andT ?_ | with_reducible refine s_chain ?_
  | with_reducible refine s_isi_int ?_ | with_reducible refine s_isi_int_bool ?_ | with_reducible refine s_isi_str ?_
  | with_reducible refine iteT ?_ | with_reducible refine iteF ?_ | with_reducible refine iteNT ?_ | with_reducible refine iteNF ?_
  | with_reducible refine s_isN ?_ | with_reducible refine s_notN ?_
  | ((with_reducible refine' s_2setE ?g1 ?_); (case g1 => first | (dsimp only [List.set, L2.wipe, List.map, List.foldl]; done) | (dsimp only [List.set, L2.wipe, List.map, List.foldl]; rfl)))
  | with_reducible refine s_seq ?_ | with_reducible refine s_ifS ?_ | with_reducible refine s_asg ?_ | with_reducible refine s_ret ?_ | with_reducible refine s_drop ?_ | with_reducible refine s_next ?_
  | ((with_reducible refine' s_gnameE ?g1 ?_); (case g1 => first | (dsimp only [List.set, L2.wipe, List.map, List.foldl]; done) | (dsimp only [List.set, L2.wipe, List.map, List.foldl]; rfl)))
  | with_reducible refine s_gsub ?_ | with_reducible refine s_gcons ?_ | with_reducible refine s_gnil ?_
  | (with_reducible show gTup _ _ _ _ _ _ _); refine s_gtup (by walk_at "hp") rfl ?_
  | with_reducible refine s_eqI ?_ | with_reducible refine s_neI ?_ | with_reducible refine s_eqS ?_ | with_reducible refine s_neB ?_ | with_reducible refine s_eqB ?_ | with_reducible refine s_neSr ?_ | with_reducible refine s_neS ?_
  | with_reducible refine s_I0 ?_
  | (with_reducible show rI _ _ _ _ _ _); refine s_I (by walk_at "sd") ?_
  | (with_reducible show rIxL _ _ _ _ _); refine s_ixL (by walk_at "hp") rfl ?_
  | (with_reducible show rIxT _ _ _ _ _); refine s_ixT (by walk_at "hp") rfl ?_
  | (with_reducible show rSetL _ _ _ _ _); refine s_setL (by walk_at "hp") rfl ?_
  | with_reducible refine s_prop ?_
  | (with_reducible show _ ≤ sizeLine ∧ _); refine ⟨le_size (by rfl), ?_⟩
  | with_reducible refine ite_NN ?_ | with_reducible refine ite_IN ?_ | with_reducible refine ite_nNN ?_ | with_reducible refine ite_nIN ?_ | with_reducible refine ite_RN ?_ | with_reducible refine ite_nRN ?_
  | with_reducible refine s_sfld ?_
  | ((with_reducible refine' ⟨_, _, _, _, rfl, ?fp1, ?fp2, ?fp3, ?fp4, ?_⟩); (case fp1 => walk_at "hp"); (case fp2 => assumption); (case fp3 => assumption); (case fp4 => walk_at "few"))
  | with_reducible refine s_fldE ?_
  | ((with_reducible refine' ⟨_, _, _, _, _, rfl, ?fp1, ?fp2, ?fp3, ?fp4, ?_⟩); (case fp1 => walk_at "hp"); (case fp2 => assumption); (case fp3 => assumption); (case fp4 => rfl))
  | with_reducible refine s_bm ?_ | with_reducible refine s_bm0 ?_
  | ((with_reducible refine' s_tyL ?ty1 ?_); (case ty1 => walk_at "hp"))
  | ((with_reducible refine' s_append ?ap1 ?ap2 ?_); (case ap1 => walk_at "hp"); (case ap2 => walk_at "sz"))
  | ((with_reducible refine' s_extend ?ap1 ?ap2 ?ap3 ?_); (case ap1 => walk_at "hp"); (case ap2 => walk_at "hp"); (case ap3 => walk_at "sz"))
  | with_reducible refine s_for (fun _ _ => ?_) | with_reducible refine s_lc ?_ | with_reducible refine s_iList ?_ | with_reducible refine s_iTup ?_ | with_reducible refine s_iRng1 ?_ | with_reducible refine s_iRng2 ?_
  | with_reducible refine s_yes ?_ | with_reducible refine s_par ?_
  | with_reducible refine s_make ?_ | with_reducible refine s_meth ?_
  | with_reducible refine s_tup ?_ | with_reducible refine s_lst ?_ | with_reducible refine s_call ?_
  | with_reducible refine ⟨rfl, ?_⟩
  | with_reducible refine ⟨_, rfl, ?_⟩
  | ((with_reducible refine' ⟨_, _, rfl, ?sd1, ?_⟩); (case sd1 => walk_at "sd"))
  | with_reducible refine ⟨_, _, rfl, ?_⟩
  | with_reducible refine .inl ⟨_, rfl, ?_⟩
  | dsimp only [List.set]
  | walk_at "rdx"
  | (refine fun _ _ => ?_)))

namespace My
open PySem L2
section
variable {P : Program} {w : World} {K : PySem.W.Frag} {mg : Str → Option Value} {base : Heap} {C_Many C_EachError C_InvalidText : Addr} (M : Md K mg C_Many C_EachError C_InvalidText)
include M
omit M
def ManyAt (C : Addr) (H : Hp) (x : Addr) (lo : Int) (hi : Option Int) : Prop := ∃ dx k : Addr, H x = some (.ins C dx [("_least", .int lo), ("_most", optV hi), ("_key", .ref k)]) ∧ H k = some (.tup [.int lo, .bl (decide (hi = none)), .int (hi.getD 0)])
theorem ManyAt.same {C x : Addr} {H H' : Hp} {lo : Int} {hi : Option Int} (h : ManyAt C H x lo hi) (s : L2.Same H H') : ManyAt C H' x lo hi := by
  obtain ⟨dx, k, e, e2⟩ := h
  exact ⟨dx, k, s _ _ e, s _ _ e2⟩
theorem many_fields (C dx : Addr) (a b c : V) : some (HO.ins C dx (putF "_key" c (putF "_most" b (putF "_least" a [])))) = some (HO.ins C dx [("_least", a), ("_most", b), ("_key", c)]) := by
  rw [putF_nil, putF_ne (by decide +kernel), putF_nil, putF_ne (by decide +kernel), putF_ne (by decide +kernel), putF_nil]
def spIsI : Sp := fun vs H Q _ => ∃ i : Int, vs = [.int i] ∧ Q (.bl true) H
def spIsC : Sp := fun vs H Q _ => ∃ i : Int, vs = [.int i] ∧ 0 ≤ i ∧ Q (.bl true) H
def spUpTo : Sp := fun vs H Q _ => ∃ (i : Int) (m : Option Int), vs = [.int i, optV m] ∧ (∀ h, m = some h → i ≤ h) ∧ Q (.bl true) H
def spInit (C : Addr) : Sp := fun vs H Q _ => ∃ (x dx : Addr) (lo : Int) (hi : Option Int), vs = [.ref x, .int lo, optV hi] ∧ H x = some (.ins C dx []) ∧ 0 ≤ lo ∧ (∀ h, hi = some h → lo ≤ h) ∧ ∀ H', But x H H' → ManyAt C H' x lo hi → Q .non H'
def spLeast (C : Addr) : Sp := fun vs H Q _ => ∃ (x : Addr) (lo : Int) (hi : Option Int), vs = [.ref x] ∧ ManyAt C H x lo hi ∧ Q (.int lo) H
def spMost (C : Addr) : Sp := fun vs H Q _ => ∃ (x : Addr) (lo : Int) (hi : Option Int), vs = [.ref x] ∧ ManyAt C H x lo hi ∧ Q (optV hi) H
def optN : Option Nat → V
  | none => .non
  | some n => .int n
def spNumIn : Sp := fun vs H Q _ => ∃ t : Str, vs = [.str t] ∧ t.length ≤ 640 ∧ ∀ H', L2.Same H H' → Q (optN (numIn (cps t))) H'
theorem lt_0 {c : Nat} : ({ cps := #[c] } : Str).cps.toList < (Str.ofString "0").cps.toList ↔ c < 48 := by
  have e : (Str.ofString "0").cps.toList = [48] := by decide +kernel
  rw [e]
  simp [List.cons_lt_cons_iff]
theorem lt_9 {c : Nat} : (Str.ofString "9").cps.toList < ({ cps := #[c] } : Str).cps.toList ↔ 57 < c := by
  have e : (Str.ofString "9").cps.toList = [57] := by decide +kernel
  rw [e]
  simp [List.cons_lt_cons_iff]
include M
theorem c_is_integer : Dn P w K mg base "is_integer" 1 ["value"] [] spIsI := by
  refine dnN M.f_is_integer (fun F => ?_) (fun _ _ _ _ _ _ us hl => match us, hl with | [_], _ => rfl)
  refine fnG_body F sc_is_integer (fun vs H Q E h => ?_) (fun cdv A outer s H vs Q E hr h => ?_)
  · obtain ⟨i, rfl, _⟩ := h
    rfl
  · obtain ⟨i, rfl, q⟩ := h
    refine ⟨_, (pss_one (ps_ret (pe_and (pe_callB call_isi (by rfl) M.b_isinstance (by decide +kernel) (pa_cons (pv 0) (pa_cons (pe_bltn (v := .ty "int") (u := .type "int") (by rfl) M.b_int (by decide +kernel) rfl) pa_nil))) (pe_one (pe_not (pe_callB call_isi (by rfl) M.b_isinstance (by decide +kernel) (pa_cons (pv 0) (pa_cons (pe_bltn (v := .ty "bool") (u := .type "bool") (by rfl) M.b_bool (by decide +kernel) rfl) pa_nil)))))))), ?_⟩
    refine st_eq (σ := [some _]) rfl ?_
    walk_at "rd"
    exact q
theorem c_is_count : Dn P w K mg base "is_count" 2 ["value"] [] spIsC := by
  refine dnN M.f_is_count (fun F => ?_) (fun _ _ _ _ _ _ us hl => match us, hl with | [_], _ => rfl)
  have c_is_integer := c_is_integer (P := P) (w := w) (base := base) M
  refine fnG_body F sc_is_count (fun vs H Q E h => ?_) (fun cdv A outer s H vs Q E hr h => ?_)
  · obtain ⟨i, rfl, _⟩ := h
    rfl
  · obtain ⟨i, rfl, h0, q⟩ := h
    refine ⟨_, (pss_one (ps_ret (pe_and (pe_callD c_is_integer (hr.mono (by decide)) rfl (pa_cons (pv 0) pa_nil)) (pe_one (pe_cmpR op_ge (pv 0) pe_int (nomark _)))))), ?_⟩
    refine st_eq (σ := [some _]) rfl ?_
    walk_at "rd"
    refine ⟨i, rfl, ?_⟩
    walk_at "rd"
    rw [decide_eq_true h0]
    exact q
theorem c__is_up_to : Dn P w K mg base "_is_up_to" 1 ["number", "most"] [] spUpTo := by
  refine dnN M.f__is_up_to (fun F => ?_) (fun _ _ _ _ _ _ us hl => match us, hl with | [_, _], _ => rfl)
  refine fnG_body F sc__is_up_to (fun vs H Q E h => ?_) (fun cdv A outer s H vs Q E hr h => ?_)
  · obtain ⟨i, m, rfl, _⟩ := h
    rfl
  · obtain ⟨i, m, rfl, h0, q⟩ := h
    refine ⟨_, (pss_one (ps_ret (pe_or (pe_cmpR op_isN (pv 1) pe_non (nomark _)) (pe_one (pe_and (pe_cmpR op_notN (pv 0) pe_non (nomark _)) (pe_one (pe_cmpR op_le (pv 0) (pv 1) (nomark _)))))))), ?_⟩
    refine st_eq (σ := [some _, some _]) rfl ?_
    walk_at "rd"
    cases m with
    | none =>
      walk_at "rd"
      exact q
    | some m =>
      walk_at "rd"
      rw [decide_eq_true (h0 m rfl)]
      exact q
theorem c_number_in : Dn P w K mg base "number_in" 1 ["text"] [] spNumIn := by
  refine dnN M.f_number_in (fun F => ?_) (fun _ _ _ _ _ _ us hl => match us, hl with | [_], _ => rfl)
  refine fnG_body F sc_number_in (fun vs H Q E h => ?_) (fun cdv A outer s H vs Q E hr h => ?_)
  · obtain ⟨t, rfl, _⟩ := h
    rfl
  · obtain ⟨t, rfl, hl, k⟩ := h
    refine ⟨_, (pss_cons (ps_if (PW.pt (pw_or (pt_not (pt_truth (pv 0) (by intro _; rfl))) (pw_or1 (pt_not (pt_val (pe_callB (cr_all rfl) (by rfl) M.b_all (by decide +kernel) (pa_cons (pe_lc (own := [("sign", 1)]) (g := gName 1) (tt := tYes) (by rfl) sc_number_in.nd (pi_str (pv 0)) (blkOk_by (own := [("sign", 1)]) (N := N_number_in) (sc := defScope st_number_in) (by decide +kernel)) (fun _ _ _ _ _ => pg_name (i := 1) sc_number_in.nd rfl (by first | exact Or.inl rfl | exact Or.inr rfl)) (fun _ _ _ _ _ => pts_nil) (fun _ _ _ _ _ => (pe_chain op_le_str op_le_str pe_str (pv 1) pe_str))) pa_nil))))))) (pss_one (ps_ret pe_non)) pss_nil) (pss_cons (ps_if (PW.pt (pw_and (pt_cmpR op_eq (pe_ix ix_str (pv 0) pe_int (fun _ _ => rfl)) pe_str (nomark _)) (pw_and1 (pt_cmpR op_gt (pe_callB call_len_str (by rfl) M.b_len (by decide +kernel) (pa_cons (pv 0) pa_nil)) pe_int (nomark _))))) (pss_one (ps_ret pe_non)) pss_nil) (pss_one (ps_ret (pe_callTy call_int_str (by rfl) M.b_int (by decide +kernel) (pa_cons (pv 0) pa_nil)))))), ?_⟩
    refine st_eq (σ := [some _, none]) rfl ?_
    walk_at "rd"
    refine ⟨_, ⟨by rw [sizeLine_eq]; omega, rfl⟩, ?_⟩
    have hl2 : t.length = (cps t).length := by
      rw [Array.length_toList]
      rfl
    cases hc : cps t with
    | nil =>
      have e : ((t.length : Int) != 0) = false := by
        rw [hl2, hc]
        rfl
      rw [e]
      walk_at "rd"
      have := k H (L2.Same.refl _)
      rw [hc] at this
      exact this
    | cons c0 r =>
      have e : ((t.length : Int) != 0) = true := by
        rw [hl2, hc]
        exact bne_iff_ne.mpr (by simp; omega)
      rw [e]
      walk_at "rd"
      refine ⟨_, rfl, t, rfl, fun D nD => lc_it walk_str (fun i H' => L2.Same H H' ∧ H' D = some (.lst (((cps t).take i).map fun c => V.bl (digB c)))) ?_ (fun _ _ _ _ => True.intro) ?_ ?_⟩
      · exact ⟨My.Same.new nD, upd_same⟩
      · rintro i y H1 H2 hi ⟨s1, hD⟩ ⟨rfl, c, hc1, rfl⟩
        walk_at "rd"
        have hc2 : (cps t)[i]? = some c := by rw [Array.getElem?_toList]; exact hc1
        refine ⟨_, _, rfl, rfl, _, rfl, ?_⟩
        have st : ∀ b : Bool, b = digB c → ∃ acc, H2 D = some (.lst acc) ∧ acc.length < sizeLine ∧ L2.Same H (L2.upd H2 D (.lst (acc ++ [V.bl b]))) ∧ (L2.upd H2 D (.lst (acc ++ [V.bl b]))) D = some (.lst (((cps t).take (i + 1)).map fun c => V.bl (digB c))) := by
          intro b eb
          refine ⟨_, hD, ?_, My.Same.at_ nD s1, ?_⟩
          · rw [List.length_map, List.length_take, sizeLine_eq]
            omega
          · rw [upd_same, List.take_add_one, hc2, eb, List.map_append]
            rfl
        refine ite_n (fun g1 => ?_) (fun g1 => ?_)
        · rw [lt_0] at g1
          refine ⟨_, _, rfl, rfl, st _ ?_⟩
          unfold digB
          by_cases g2 : c ≤ 57
          · rw [decide_eq_true (show 48 ≤ c ∧ c ≤ 57 by omega), decide_eq_false (by rw [lt_9]; omega)]
            rfl
          · rw [decide_eq_false (show ¬ (48 ≤ c ∧ c ≤ 57) by omega), decide_eq_true (by rw [lt_9]; omega)]
            rfl
        · rw [lt_0] at g1
          exact st _ (decide_eq_false (by omega)).symm
      · rintro H1 ⟨s1, hD⟩
        walk_at "rd"
        have e0 : (cps t).take t.cps.size = cps t := List.take_of_length_le (by simp)
        rw [e0] at hD
        refine ⟨_, (cps t).map digB, rfl, SqL.of (by rw [List.map_map]; exact hD), ?_⟩
        have ea : ((cps t).map digB).all id = (cps t).all digB := by
          rw [List.all_map]
          rfl
        rw [ea]
        have k1 := k H1 s1
        cases ha : (cps t).all digB with
        | false =>
          walk_at "rd"
          have : numIn (cps t) = none := by
            unfold numIn numOk
            rw [ha, Bool.and_false, Bool.false_and]
            rfl
          rw [this] at k1
          exact k1
        | true =>
          walk_at "rd"
          refine ⟨t, 0, c0, rfl, rfl, by rw [sizeLine_eq]; omega, ?_, ?_⟩
          · rw [show t.cps.toList = c0 :: r from hc]
            exact atI_nat (xs := c0 :: r) (j := 0) rfl
          walk_at "rd"
          have fin : numOk (cps t) = true → Q (.int ((NumText.digitsVal (cps t) : Nat) : Int)) H1 := fun h => by
            unfold numIn at k1
            rw [if_pos h] at k1
            exact k1
          have int_ : intText? t = some ((NumText.digitsVal (cps t) : Nat) : Int) := PySem.intText_digits (x := t) (fun c hc' => of_decide_eq_true (List.all_eq_true.mp ha c hc')) (by rw [show t.cps.toList = c0 :: r from hc]; simp) (by omega)
          have e48 : ({ cps := #[c0] } : Str) = Str.ofString "0" ↔ c0 = 48 := by
            have : Str.ofString "0" = ({ cps := #[48] } : Str) := by decide +kernel
            rw [this]
            constructor
            · intro z
              injection z with z
              simpa using z
            · rintro rfl
              rfl
          have ne : (cps t).isEmpty = false := by
            rw [hc]
            rfl
          have hh : (cps t).head? = some c0 := by
            rw [hc]
            rfl
          refine ite_d (fun h1 => ?_) (fun h1 => ?_)
          · rw [e48] at h1
            walk_at "rd"
            refine ⟨by rw [sizeLine_eq]; omega, ?_⟩
            walk_at "rd"
            refine ite_d (fun h2 => ?_) (fun h2 => ?_)
            · walk_at "rd"
              have : numIn (cps t) = none := by
                unfold numIn numOk
                rw [hh, h1, decide_eq_true rfl, decide_eq_true (show 1 < (cps t).length by omega), Bool.and_true, Bool.not_true, Bool.and_false]
                rfl
              rw [this] at k1
              exact k1
            · walk_at "rd"
              refine ⟨hl, fin ?_⟩
              unfold numOk
              rw [ne, ha, decide_eq_false (show ¬ 1 < (cps t).length by omega), Bool.and_false]
              rfl
          · rw [e48] at h1
            walk_at "rd"
            refine ⟨hl, fin ?_⟩
            unfold numOk
            rw [ne, ha, hh, decide_eq_false (fun z => h1 (Option.some.inj z))]
            rfl
end
end My
end
section
open My L2 PySem
open My L2 PySem
local macro_rules | `(tactic| walk_at "as") => `(tactic| with_reducible assumption)
local macro_rules | `(tactic| walk_at "hp") => `(tactic| first
  | walk_at "as" | exact upd_same
  | (rw [upd_ne (by walk_at "ne")]; walk_at "hp")
  | (refine But.get (by walk_at "as") ?hp1 ?hp2; (case hp1 => walk_at "hp"); (case hp2 => walk_at "ne"))
  | (refine My.Same.get (by walk_at "as") ?hp1; (case hp1 => walk_at "hp")))
local macro_rules | `(tactic| walk_at "ne") => `(tactic| first
  | walk_at "as" | exact Ne.symm (by walk_at "as")
  | (refine' ne_of_none ?ne1 ?ne2; (case ne2 => walk_at "as"); (case ne1 => walk_at "hp"))
  | (refine' Ne.symm (ne_of_none ?ne1 ?ne2); (case ne2 => walk_at "as"); (case ne1 => walk_at "hp"))
  | exact ne_of (by walk_at "hp") (by walk_at "hp") (by intro z; cases z))
local macro_rules | `(tactic| walk_at "sd") => `(tactic| first
  | walk_at "as" | omega | decide | exact ⟨by omega, by omega⟩ | exact .inl ⟨by omega, by omega⟩ | exact .inr ⟨by omega, by omega⟩ | exact divp_wide (by walk_at "as") (by walk_at "as") | exact Sm.cmul (by walk_at "as") (by walk_at "as") | exact cmul_small (by omega) (by omega) (by omega) (by omega) | exact ⟨by omega, by decide⟩)
local macro_rules | `(tactic| walk_at "bt") => `(tactic| first
  | walk_at "as" | exact But.refl _ _ | exact Same.but (by walk_at "as")
  | (refine But.trans ?bt1 But.at; (case bt1 => walk_at "bt"))
  | (refine But.trans ?bt1 (But.new (by first | walk_at "as" | walk_at "hp")); (case bt1 => walk_at "bt"))
  | (refine But.trans ?bt1 (by walk_at "as"); (case bt1 => walk_at "bt"))
  | (refine But.trans ?bt1 (Same.but (by walk_at "as")); (case bt1 => walk_at "bt")))
local macro_rules | `(tactic| walk_at "sm") => `(tactic| first
  | walk_at "as" | exact My.Same.rfl' _
  | (refine' My.Same.at_ ?sm1 ?sm2; (case sm1 => walk_at "as"); (case sm2 => walk_at "sm"))
  | (refine' My.Same.tr ?sm1 (My.Same.new ?sm2); (case sm2 => walk_at "as"); (case sm1 => walk_at "sm"))
  | (refine' My.Same.tr ?sm1 ?sm2; (case sm2 => walk_at "as"); (case sm1 => walk_at "sm")))
local macro_rules | `(tactic| walk_at "sz") => `(tactic| first
  | assumption | exact lt_size (by rfl) | exact le_size (by rfl) | (rw [sizeLine_eq]; omega)
  | (rw [sizeLine_eq]; simp only [List.length_append, List.length_map, List.length_cons, List.length_nil]; omega))
local macro_rules | `(tactic| walk_at "few") => `(tactic| (repeat refine few_put ?_); exact few0)
local macro_rules | `(tactic| walk_at "rd1") => `(tactic| first
  | (with_reducible show tVar _ _ _ _); refine s_var rfl ?_
  | with_reducible refine s_c ?_ | with_reducible refine s_op ?_ | with_reducible refine s_un ?_
  | with_reducible refine s_cons ?_ | with_reducible refine s_nil ?_ | with_reducible refine s_cb ?_
  | with_reducible refine s_test ?_ | with_reducible refine s_B ?_ | with_reducible refine s_not ?_ | with_reducible refine s_and ?_ | with_reducible refine s_or ?_
  | with_reducible refine s_if ?_ | with_reducible refine s_notV ?_ | with_reducible refine s_andV ?_ | with_reducible refine s_orV ?_
  | with_reducible refine s_orT ?_ | with_reducible refine s_andT ?_ | with_reducible refine s_chain ?_
  | with_reducible refine s_isi_int ?_ | with_reducible refine s_isi_int_bool ?_ | with_reducible refine s_isi_str ?_
  | with_reducible refine iteT ?_ | with_reducible refine iteF ?_ | with_reducible refine iteNT ?_ | with_reducible refine iteNF ?_
  | with_reducible refine s_isN ?_ | with_reducible refine s_notN ?_
  | ((with_reducible refine' s_2setE ?g1 ?_); (case g1 => first | (dsimp only [List.set, L2.wipe, List.map, List.foldl]; done) | (dsimp only [List.set, L2.wipe, List.map, List.foldl]; rfl)))
  | with_reducible refine s_seq ?_ | with_reducible refine s_ifS ?_ | with_reducible refine s_asg ?_ | with_reducible refine s_ret ?_ | with_reducible refine s_drop ?_ | with_reducible refine s_next ?_
  | ((with_reducible refine' s_gnameE ?g1 ?_); (case g1 => first | (dsimp only [List.set, L2.wipe, List.map, List.foldl]; done) | (dsimp only [List.set, L2.wipe, List.map, List.foldl]; rfl)))
  | with_reducible refine s_gsub ?_ | with_reducible refine s_gcons ?_ | with_reducible refine s_gnil ?_
  | (with_reducible show gTup _ _ _ _ _ _ _); refine s_gtup (by walk_at "hp") rfl ?_
  | with_reducible refine s_eqI ?_ | with_reducible refine s_neI ?_ | with_reducible refine s_eqS ?_ | with_reducible refine s_neB ?_ | with_reducible refine s_eqB ?_ | with_reducible refine s_neSr ?_ | with_reducible refine s_neS ?_
  | with_reducible refine s_I0 ?_
  | (with_reducible show rI _ _ _ _ _ _); refine s_I (by walk_at "sd") ?_
  | (with_reducible show rIxL _ _ _ _ _); refine s_ixL (by walk_at "hp") rfl ?_
  | (with_reducible show rIxT _ _ _ _ _); refine s_ixT (by walk_at "hp") rfl ?_
  | (with_reducible show rSetL _ _ _ _ _); refine s_setL (by walk_at "hp") rfl ?_
  | with_reducible refine s_prop ?_
  | (with_reducible show _ ≤ sizeLine ∧ _); refine ⟨le_size (by rfl), ?_⟩
  | with_reducible refine ite_NN ?_ | with_reducible refine ite_IN ?_ | with_reducible refine ite_nNN ?_ | with_reducible refine ite_nIN ?_ | with_reducible refine ite_RN ?_ | with_reducible refine ite_nRN ?_
  | with_reducible refine s_sfld ?_
  | ((with_reducible refine' ⟨_, _, _, _, rfl, ?fp1, ?fp2, ?fp3, ?fp4, ?_⟩); (case fp1 => walk_at "hp"); (case fp2 => assumption); (case fp3 => assumption); (case fp4 => walk_at "few"))
  | with_reducible refine s_fldE ?_
  | ((with_reducible refine' ⟨_, _, _, _, _, rfl, ?fp1, ?fp2, ?fp3, ?fp4, ?_⟩); (case fp1 => walk_at "hp"); (case fp2 => assumption); (case fp3 => assumption); (case fp4 => rfl))
  | with_reducible refine s_bm ?_ | with_reducible refine s_bm0 ?_
  | ((with_reducible refine' s_tyL ?ty1 ?_); (case ty1 => walk_at "hp"))
  | ((with_reducible refine' s_append ?ap1 ?ap2 ?_); (case ap1 => walk_at "hp"); (case ap2 => walk_at "sz"))
  | ((with_reducible refine' s_extend ?ap1 ?ap2 ?ap3 ?_); (case ap1 => walk_at "hp"); (case ap2 => walk_at "hp"); (case ap3 => walk_at "sz"))
  | with_reducible refine s_for (fun _ _ => ?_) | with_reducible refine s_lc ?_ | with_reducible refine s_iList ?_ | with_reducible refine s_iTup ?_ | with_reducible refine s_iRng1 ?_ | with_reducible refine s_iRng2 ?_
  | with_reducible refine s_yes ?_ | with_reducible refine s_par ?_
  | with_reducible refine s_make ?_ | with_reducible refine s_meth ?_
  | with_reducible refine s_tup ?_ | with_reducible refine s_lst ?_ | with_reducible refine s_call ?_
  | with_reducible refine ⟨rfl, ?_⟩
  | with_reducible refine ⟨_, rfl, ?_⟩
  | ((with_reducible refine' ⟨_, _, rfl, ?sd1, ?_⟩); (case sd1 => walk_at "sd"))
  | with_reducible refine ⟨_, _, rfl, ?_⟩
  | with_reducible refine .inl ⟨_, rfl, ?_⟩
  | dsimp only [List.set]
  | walk_at "rdx"
  | (refine fun _ _ => ?_))
local macro_rules | `(tactic| walk_at "rd") => `(tactic| repeat (first
  | (with_reducible show tVar _ _ _ _); refine s_var rfl ?_
  | with_reducible refine s_c ?_ | with_reducible refine s_op ?_ | with_reducible refine s_un ?_
  | with_reducible refine s_cons ?_ | with_reducible refine s_nil ?_ | with_reducible refine s_cb ?_
  | with_reducible refine s_test ?_ | with_reducible refine s_B ?_ | with_reducible refine s_not ?_ | with_reducible refine s_and ?_ | with_reducible refine s_or ?_
  | with_reducible refine s_if ?_ | with_reducible refine s_notV ?_ | with_reducible refine s_andV ?_ | with_reducible refine s_orV ?_
  | with_reducible refine s_orT ?_ | with_reducible refine s_andT ?_ | with_reducible refine s_chain ?_
  | with_reducible refine s_isi_int ?_ | with_reducible refine s_isi_int_bool ?_ | with_reducible refine s_isi_str ?_
  | with_reducible refine iteT ?_ | with_reducible refine iteF ?_ | with_reducible refine iteNT ?_ | with_reducible refine iteNF ?_
  | with_reducible refine s_isN ?_ | with_reducible refine s_notN ?_
  | ((with_reducible refine' s_2setE ?g1 ?_); (case g1 => first | (dsimp only [List.set, L2.wipe, List.map, List.foldl]; done) | (dsimp only [List.set, L2.wipe, List.map, List.foldl]; rfl)))
  | with_reducible refine s_seq ?_ | with_reducible refine s_ifS ?_ | with_reducible refine s_asg ?_ | with_reducible refine s_ret ?_ | with_reducible refine s_drop ?_ | with_reducible refine s_next ?_
  | ((with_reducible refine' s_gnameE ?g1 ?_); (case g1 => first | (dsimp only [List.set, L2.wipe, List.map, List.foldl]; done) | (dsimp only [List.set, L2.wipe, List.map, List.foldl]; rfl)))
  | with_reducible refine s_gsub ?_ | with_reducible refine s_gcons ?_ | with_reducible refine s_gnil ?_
  | (with_reducible show gTup _ _ _ _ _ _ _); refine s_gtup (by walk_at "hp") rfl ?_
  | with_reducible refine s_eqI ?_ | with_reducible refine s_neI ?_ | with_reducible refine s_eqS ?_ | with_reducible refine s_neB ?_ | with_reducible refine s_eqB ?_ | with_reducible refine s_neSr ?_ | with_reducible refine s_neS ?_
  | with_reducible refine s_I0 ?_
  | (with_reducible show rI _ _ _ _ _ _); refine s_I (by walk_at "sd") ?_
  | (with_reducible show rIxL _ _ _ _ _); refine s_ixL (by walk_at "hp") rfl ?_
  | (with_reducible show rIxT _ _ _ _ _); refine s_ixT (by walk_at "hp") rfl ?_
  | (with_reducible show rSetL _ _ _ _ _); refine s_setL (by walk_at "hp") rfl ?_
  | with_reducible refine s_prop ?_
  | (with_reducible show _ ≤ sizeLine ∧ _); refine ⟨le_size (by rfl), ?_⟩
  | with_reducible refine ite_NN ?_ | with_reducible refine ite_IN ?_ | with_reducible refine ite_nNN ?_ | with_reducible refine ite_nIN ?_ | with_reducible refine ite_RN ?_ | with_reducible refine ite_nRN ?_
  | with_reducible refine s_sfld ?_
  | ((with_reducible refine' ⟨_, _, _, _, rfl, ?fp1, ?fp2, ?fp3, ?fp4, ?_⟩); (case fp1 => walk_at "hp"); (case fp2 => assumption); (case fp3 => assumption); (case fp4 => walk_at "few"))
  | with_reducible refine s_fldE ?_
  | ((with_reducible refine' ⟨_, _, _, _, _, rfl, ?fp1, ?fp2, ?fp3, ?fp4, ?_⟩); (case fp1 => walk_at "hp"); (case fp2 => assumption); (case fp3 => assumption); (case fp4 => rfl))
  | with_reducible refine s_bm ?_ | with_reducible refine s_bm0 ?_
  | ((with_reducible refine' s_tyL ?ty1 ?_); (case ty1 => walk_at "hp"))
  | ((with_reducible refine' s_append ?ap1 ?ap2 ?_); (case ap1 => walk_at "hp"); (case ap2 => walk_at "sz"))
  | ((with_reducible refine' s_extend ?ap1 ?ap2 ?ap3 ?_); (case ap1 => walk_at "hp"); (case ap2 => walk_at "hp"); (case ap3 => walk_at "sz"))
  | with_reducible refine s_for (fun _ _ => ?_) | with_reducible refine s_lc ?_ | with_reducible refine s_iList ?_ | with_reducible refine s_iTup ?_ | with_reducible refine s_iRng1 ?_ | with_reducible refine s_iRng2 ?_
  | with_reducible refine s_yes ?_ | with_reducible refine s_par ?_
  | with_reducible refine s_make ?_ | with_reducible refine s_meth ?_
  | with_reducible refine s_tup ?_ | with_reducible refine s_lst ?_ | with_reducible refine s_call ?_
  | with_reducible refine ⟨rfl, ?_⟩
  | with_reducible refine ⟨_, rfl, ?_⟩
  | ((with_reducible refine' ⟨_, _, rfl, ?sd1, ?_⟩); (case sd1 => walk_at "sd"))
  | with_reducible refine ⟨_, _, rfl, ?_⟩
  | with_reducible refine .inl ⟨_, rfl, ?_⟩
  | dsimp only [List.set]
  | walk_at "rdx"
  | (refine fun _ _ => ?_)))

namespace My
open PySem L2
section
variable {P : Program} {w : World} {K : PySem.W.Frag} {mg : Str → Option Value} {base : Heap} {C_Many C_EachError C_InvalidText : Addr} (M : Md K mg C_Many C_EachError C_InvalidText)
include M
local macro_rules | `(tactic| walk_at "rdx") => `(tactic| first | with_reducible refine s_ostG ?_ | with_reducible refine s_raE ?_ | with_reducible refine s_callX ?_ | with_reducible refine s_staXk ?_ | ((with_reducible refine' s_mcall ?mc1 ?mc2 ?_); (case mc1 => walk_at "hp"); (case mc2 => rfl)))
omit M
def oI (h : Option Nat) : Option Int := h.map fun n => (n : Int)
def spEq (C : Addr) : Sp := fun vs H Q _ => ∃ (x y : Addr) (lo : Int) (hi : Option Int), vs = [.ref x, .ref y] ∧ ManyAt C H x lo hi ∧ ManyAt C H y lo hi ∧ Q (.bl true) H
def spStr (C : Addr) : Sp := fun vs H Q _ => ∃ (x : Addr) (l : Nat) (h : Option Nat), vs = [.ref x] ∧ ManyAt C H x l (oI h) ∧ Sm 1900 l ∧ (∀ n, h = some n → Sm 1900 n) ∧ Q (.str (words (l, h))) H
def spRead (K : PySem.W.Frag) (C CT : Addr) : Sp := fun vs H Q E => ∃ v : V, vs = [v] ∧ ((∃ x : Str, v = .str x ∧ x.length ≤ 500 ∧ (readOf x = none → ∀ dd H', L2.Same H H' → H' dd = some (.xd [("line", .int 1)]) → E (.ref CT) (some dd) H') ∧ (∀ l h, readOf x = some (l, h) → ∀ m H', L2.Same H H' → ManyAt C H' m l (oI h) → Q (.ref m) H')) ∨
  ∃ t, TyX K H v t ∧ PySem.W.kitOne K t (.type "str") = some false ∧ ∀ dd H', L2.Same H H' → H' dd = some (.xd [("line", .int 1)]) → E (.ref CT) (some dd) H')
include M
theorem ok_init {f : Addr} {fd : FuncData} (F : FunD K "__init__" "Many.__init__" (defArgs st_Many___init__) (defBody st_Many___init__) (defScope st_Many___init__) [.non] [] f fd) : FnG P w K mg base CX0 3 f fd ["self", "least", "most"] (spInit C_Many) := by
  have c_is_count := c_is_count (P := P) (w := w) (base := base) M
  have c__is_up_to := c__is_up_to (P := P) (w := w) (base := base) M
  refine fnG_body F sc_Many___init__ (fun vs H Q E h => ?_) (fun cdv A outer s H vs Q E hr h => ?_)
  · obtain ⟨x, dx, lo, hi, rfl, _⟩ := h
    rfl
  · obtain ⟨x, dx, lo, hi, rfl, hx, h0, h1, q⟩ := h
    refine ⟨_, (pss_cons (ps_if (pt_not (pt_val (pe_callD c_is_count (hr.mono (by decide)) rfl (pa_cons (pv 1) pa_nil)))) (pss_one ps_never) pss_nil) (pss_cons (ps_if (PW.pt (pw_and (pt_cmpR op_notN (pv 2) pe_non (nomark _)) (pw_and1 (pt_not (pt_val (pe_callD c_is_count (hr.mono (by decide)) rfl (pa_cons (pv 2) pa_nil))))))) (pss_one ps_never) pss_nil) (pss_cons (ps_if (pt_not (pt_val (pe_callD c__is_up_to (hr.mono (by decide)) rfl (pa_cons (pv 1) (pa_cons (pv 2) pa_nil))))) (pss_one ps_never) pss_nil) (pss_cons (ps_fld (pv 0) (pv 1) rfl) (pss_cons (ps_fld (pv 0) (pv 2) rfl) (pss_one (ps_fld (pv 0) (pe_tup (pa_cons (pv 1) (pa_cons (pe_cmpR op_isN (pv 2) pe_non (nomark _)) (pa_cons (pe_orT (pv 2) (pe_one pe_int)) pa_nil)))) rfl))))))), ?_⟩
    refine st_eq (σ := [some _, some _, some _]) rfl ?_
    walk_at "rd"
    refine ⟨lo, rfl, h0, ?_⟩
    have kM := M.k_Many
    have n1 := M.n_Many__least
    have n2 := M.n_Many__most
    have n3 := M.n_Many__key
    cases hi with
    | none =>
      walk_at "rd"
      refine ⟨lo, none, rfl, h1, ?_⟩
      walk_at "rd"
      refine ⟨false, rfl, ?_⟩
      walk_at "rd"
      exact q _ (by walk_at "bt") ⟨dx, _, upd_same.trans (many_fields _ _ _ _ _), by walk_at "hp"⟩
    | some m =>
      have h2 := h1 m rfl
      have h3 : 0 ≤ m := by omega
      walk_at "rd"
      refine ⟨m, rfl, h3, ?_⟩
      walk_at "rd"
      refine ⟨lo, some m, rfl, h1, ?_⟩
      walk_at "rd"
      refine ⟨_, rfl, ?_⟩
      refine ite_b (fun e => ?_) (fun e => ?_)
      · walk_at "rd"
        exact q _ (by walk_at "bt") ⟨dx, _, upd_same.trans (many_fields _ _ _ _ _), by walk_at "hp"⟩
      · have : m = 0 := by simpa using e
        subst this
        walk_at "rd"
        exact q _ (by walk_at "bt") ⟨dx, _, upd_same.trans (many_fields _ _ _ _ _), by walk_at "hp"⟩
theorem c_Many_2 : Mkn P w K mg base "Many" C_Many 3 ["self", "least", "most"] [] (spInit C_Many) := by
  refine mkD (dvs := [.non]) 3 1 M.i_Many M.m_Many (fun F => ok_init M F) (by simp) rfl (fun _ _ _ _ _ _ _ us its h1 h2 => match us, its, h1, h2 with | [_, _, _], [_], _, _ => ⟨_, rfl, rfl⟩)
theorem c_Many_1 : Mkn P w K mg base "Many" C_Many 3 ["self", "least", "most"] [.non] (spInit C_Many) := by
  refine mkD (dvs := [.non]) 2 0 M.i_Many M.m_Many (fun F => ok_init M F) (by simp) rfl (fun _ _ _ _ _ _ _ us its h1 h2 => match us, its, h1, h2 with | [_, _], [_], _, _ => ⟨_, rfl, rfl⟩)
theorem c_Many_least : Prn P w K mg base C_Many "least" 1 ["self"] [] (spLeast C_Many) := by
  refine prN M.p_Many_least M.k_Many (fun F => ?_) (fun _ _ _ _ _ _ us hl => match us, hl with | [_], _ => rfl)
  refine fnG_body F sc_Many_least (fun vs H Q E h => ?_) (fun cdv A outer s H vs Q E hr h => ?_)
  · obtain ⟨x, lo, hi, rfl, _⟩ := h
    rfl
  · obtain ⟨x, lo, hi, rfl, ⟨dx, t, e, _⟩, q⟩ := h
    refine ⟨_, (pss_one (ps_ret (pe_fld (pv 0) rfl))), ?_⟩
    refine st_eq (σ := [some _]) rfl ?_
    have kM := M.k_Many
    have n1 := M.n_Many__least
    walk_at "rd"
    exact q
theorem c_Many_most : Prn P w K mg base C_Many "most" 1 ["self"] [] (spMost C_Many) := by
  refine prN M.p_Many_most M.k_Many (fun F => ?_) (fun _ _ _ _ _ _ us hl => match us, hl with | [_], _ => rfl)
  refine fnG_body F sc_Many_most (fun vs H Q E h => ?_) (fun cdv A outer s H vs Q E hr h => ?_)
  · obtain ⟨x, lo, hi, rfl, _⟩ := h
    rfl
  · obtain ⟨x, lo, hi, rfl, ⟨dx, t, e, _⟩, q⟩ := h
    refine ⟨_, (pss_one (ps_ret (pe_fld (pv 0) rfl))), ?_⟩
    refine st_eq (σ := [some _]) rfl ?_
    have kM := M.k_Many
    have n1 := M.n_Many__most
    walk_at "rd"
    exact q
theorem c_Many___eq__ : Mtn P w K mg base C_Many "__eq__" 1 ["self", "other"] [] (spEq C_Many) := by
  refine mtN M.e_Many___eq__ M.k_Many (fun F => ?_) (fun _ _ _ _ _ _ us hl => match us, hl with | [_, _], _ => rfl)
  refine fnG_body F sc_Many___eq__ (fun vs H Q E h => ?_) (fun cdv A outer s H vs Q E hr h => ?_)
  · obtain ⟨x, y, lo, hi, rfl, _⟩ := h
    rfl
  · obtain ⟨x, y, lo, hi, rfl, ⟨dx, t, e, et⟩, ⟨dy, u, f, fu⟩, q⟩ := h
    refine ⟨_, (pss_one (ps_ret (pe_and (pe_callB call_isi (by rfl) M.b_isinstance (by decide +kernel) (pa_cons (pv 1) (pa_cons (pe_glob (v := .ref C_Many) rfl M.m_Many rfl) pa_nil))) (pe_one (pe_cmpR (op_eqD hr.units) (pe_fld (pv 0) rfl) (pe_fld (pv 1) rfl) (nomark _)))))), ?_⟩
    refine st_eq (σ := [some _, some _]) rfl ?_
    have kM := M.k_Many
    have n3 := M.n_Many__key
    walk_at "rd"
    refine s_isi_own (M.z_Many f) ?_
    walk_at "rd"
    refine ⟨.tuple [.int lo, .bool (decide (hi = none)), .int (hi.getD 0)], .tuple [.int lo, .bool (decide (hi = none)), .int (hi.getD 0)], .tup (SqT.of et) (.cons (.int _) (.cons (.bl _) (.cons (.int _) .nil))), .tup (SqT.of fu) (.cons (.int _) (.cons (.bl _) (.cons (.int _) .nil))), rfl, rfl, ?_⟩
    rw [show PyData.eqv (.tuple [.int lo, .bool (decide (hi = none)), .int (hi.getD 0)]) (.tuple [.int lo, .bool (decide (hi = none)), .int (hi.getD 0)]) = true from by simp [PyData.eqv, PyData.eqvAll]]
    exact q
theorem ok_InvalidText {f : Addr} {fd : FuncData} (F : FunD K "__init__" "InvalidText.__init__" (defArgs st_InvalidText___init__) (defBody st_InvalidText___init__) (defScope st_InvalidText___init__) [] [] f fd) : FnG P w K mg base CX0 1 f fd ["self", "line"] (spE1 C_InvalidText "line") := by
  refine fnG_body F sc_InvalidText___init__ (fun vs H Q E h => ?_) (fun cdv A outer s H vs Q E hr h => ?_)
  · obtain ⟨a, y, rfl, _⟩ := h
    rfl
  · obtain ⟨a, y, rfl, ha, q⟩ := h
    have T : OexG K C_InvalidText := M.x_InvalidText.oex (ups _ _ "ValueError") PySem.F.excBase_ValueError PySem.F.store_ValueError
    have n0 := M.n_InvalidText_line
    refine ⟨_, (pss_one (ps_ostG (pv 0) (pv 1) rfl)), ?_⟩
    refine st_eq (σ := [some _, some _]) rfl ?_
    walk_at "rd"
    refine ⟨a, C_InvalidText, rfl, T, n0, .inl ⟨ha, fun d nd ne => ?_⟩⟩
    exact q d nd ne
theorem c_InvalidText : Exn P w K mg base "InvalidText" C_InvalidText 1 ["self", "line"] (spE1 C_InvalidText "line") := by
  obtain ⟨f, fd, iC, fC, F⟩ := M.i_InvalidText
  exact ⟨f, fd, M.x_InvalidText.oex (ups _ _ "ValueError") PySem.F.excBase_ValueError PySem.F.store_ValueError, iC, fC, ok_InvalidText M F, M.m_InvalidText, F.bindsN fun _ _ _ _ _ _ us hl => match us, hl with | [_, _], _ => rfl⟩
end
end My
end
section
open My L2 PySem
open My L2 PySem
local macro_rules | `(tactic| walk_at "as") => `(tactic| with_reducible assumption)
local macro_rules | `(tactic| walk_at "hp") => `(tactic| first
  | walk_at "as" | exact upd_same
  | (rw [upd_ne (by walk_at "ne")]; walk_at "hp")
  | (refine But.get (by walk_at "as") ?hp1 ?hp2; (case hp1 => walk_at "hp"); (case hp2 => walk_at "ne"))
  | (refine My.Same.get (by walk_at "as") ?hp1; (case hp1 => walk_at "hp")))
local macro_rules | `(tactic| walk_at "ne") => `(tactic| first
  | walk_at "as" | exact Ne.symm (by walk_at "as")
  | (refine' ne_of_none ?ne1 ?ne2; (case ne2 => walk_at "as"); (case ne1 => walk_at "hp"))
  | (refine' Ne.symm (ne_of_none ?ne1 ?ne2); (case ne2 => walk_at "as"); (case ne1 => walk_at "hp"))
  | exact ne_of (by walk_at "hp") (by walk_at "hp") (by intro z; cases z))
local macro_rules | `(tactic| walk_at "sd") => `(tactic| first
  | walk_at "as" | omega | decide | exact ⟨by omega, by omega⟩ | exact .inl ⟨by omega, by omega⟩ | exact .inr ⟨by omega, by omega⟩ | exact divp_wide (by walk_at "as") (by walk_at "as") | exact Sm.cmul (by walk_at "as") (by walk_at "as") | exact cmul_small (by omega) (by omega) (by omega) (by omega) | exact ⟨by omega, by decide⟩)
local macro_rules | `(tactic| walk_at "bt") => `(tactic| first
  | walk_at "as" | exact But.refl _ _ | exact Same.but (by walk_at "as")
  | (refine But.trans ?bt1 But.at; (case bt1 => walk_at "bt"))
  | (refine But.trans ?bt1 (But.new (by first | walk_at "as" | walk_at "hp")); (case bt1 => walk_at "bt"))
  | (refine But.trans ?bt1 (by walk_at "as"); (case bt1 => walk_at "bt"))
  | (refine But.trans ?bt1 (Same.but (by walk_at "as")); (case bt1 => walk_at "bt")))
local macro_rules | `(tactic| walk_at "sm") => `(tactic| first
  | walk_at "as" | exact My.Same.rfl' _
  | (refine' My.Same.at_ ?sm1 ?sm2; (case sm1 => walk_at "as"); (case sm2 => walk_at "sm"))
  | (refine' My.Same.tr ?sm1 (My.Same.new ?sm2); (case sm2 => walk_at "as"); (case sm1 => walk_at "sm"))
  | (refine' My.Same.tr ?sm1 ?sm2; (case sm2 => walk_at "as"); (case sm1 => walk_at "sm")))
local macro_rules | `(tactic| walk_at "sz") => `(tactic| first
  | assumption | exact lt_size (by rfl) | exact le_size (by rfl) | (rw [sizeLine_eq]; omega)
  | (rw [sizeLine_eq]; simp only [List.length_append, List.length_map, List.length_cons, List.length_nil]; omega))
local macro_rules | `(tactic| walk_at "few") => `(tactic| (repeat refine few_put ?_); exact few0)
local macro_rules | `(tactic| walk_at "rd1") => `(tactic| first
  | (with_reducible show tVar _ _ _ _); refine s_var rfl ?_
  | with_reducible refine s_c ?_ | with_reducible refine s_op ?_ | with_reducible refine s_un ?_
  | with_reducible refine s_cons ?_ | with_reducible refine s_nil ?_ | with_reducible refine s_cb ?_
  | with_reducible refine s_test ?_ | with_reducible refine s_B ?_ | with_reducible refine s_not ?_ | with_reducible refine s_and ?_ | with_reducible refine s_or ?_
  | with_reducible refine s_if ?_ | with_reducible refine s_notV ?_ | with_reducible refine s_andV ?_ | with_reducible refine s_orV ?_
  | with_reducible refine s_orT ?_ | with_reducible refine s_andT ?_ | with_reducible refine s_chain ?_
  | with_reducible refine s_isi_int ?_ | with_reducible refine s_isi_int_bool ?_ | with_reducible refine s_isi_str ?_
  | with_reducible refine iteT ?_ | with_reducible refine iteF ?_ | with_reducible refine iteNT ?_ | with_reducible refine iteNF ?_
  | with_reducible refine s_isN ?_ | with_reducible refine s_notN ?_
  | ((with_reducible refine' s_2setE ?g1 ?_); (case g1 => first | (dsimp only [List.set, L2.wipe, List.map, List.foldl]; done) | (dsimp only [List.set, L2.wipe, List.map, List.foldl]; rfl)))
  | with_reducible refine s_seq ?_ | with_reducible refine s_ifS ?_ | with_reducible refine s_asg ?_ | with_reducible refine s_ret ?_ | with_reducible refine s_drop ?_ | with_reducible refine s_next ?_
  | ((with_reducible refine' s_gnameE ?g1 ?_); (case g1 => first | (dsimp only [List.set, L2.wipe, List.map, List.foldl]; done) | (dsimp only [List.set, L2.wipe, List.map, List.foldl]; rfl)))
  | with_reducible refine s_gsub ?_ | with_reducible refine s_gcons ?_ | with_reducible refine s_gnil ?_
  | (with_reducible show gTup _ _ _ _ _ _ _); refine s_gtup (by walk_at "hp") rfl ?_
  | with_reducible refine s_eqI ?_ | with_reducible refine s_neI ?_ | with_reducible refine s_eqS ?_ | with_reducible refine s_neB ?_ | with_reducible refine s_eqB ?_ | with_reducible refine s_neSr ?_ | with_reducible refine s_neS ?_
  | with_reducible refine s_I0 ?_
  | (with_reducible show rI _ _ _ _ _ _); refine s_I (by walk_at "sd") ?_
  | (with_reducible show rIxL _ _ _ _ _); refine s_ixL (by walk_at "hp") rfl ?_
  | (with_reducible show rIxT _ _ _ _ _); refine s_ixT (by walk_at "hp") rfl ?_
  | (with_reducible show rSetL _ _ _ _ _); refine s_setL (by walk_at "hp") rfl ?_
  | with_reducible refine s_prop ?_
  | (with_reducible show _ ≤ sizeLine ∧ _); refine ⟨le_size (by rfl), ?_⟩
  | with_reducible refine ite_NN ?_ | with_reducible refine ite_IN ?_ | with_reducible refine ite_nNN ?_ | with_reducible refine ite_nIN ?_ | with_reducible refine ite_RN ?_ | with_reducible refine ite_nRN ?_
  | with_reducible refine s_sfld ?_
  | ((with_reducible refine' ⟨_, _, _, _, rfl, ?fp1, ?fp2, ?fp3, ?fp4, ?_⟩); (case fp1 => walk_at "hp"); (case fp2 => assumption); (case fp3 => assumption); (case fp4 => walk_at "few"))
  | with_reducible refine s_fldE ?_
  | ((with_reducible refine' ⟨_, _, _, _, _, rfl, ?fp1, ?fp2, ?fp3, ?fp4, ?_⟩); (case fp1 => walk_at "hp"); (case fp2 => assumption); (case fp3 => assumption); (case fp4 => rfl))
  | with_reducible refine s_bm ?_ | with_reducible refine s_bm0 ?_
  | ((with_reducible refine' s_tyL ?ty1 ?_); (case ty1 => walk_at "hp"))
  | ((with_reducible refine' s_append ?ap1 ?ap2 ?_); (case ap1 => walk_at "hp"); (case ap2 => walk_at "sz"))
  | ((with_reducible refine' s_extend ?ap1 ?ap2 ?ap3 ?_); (case ap1 => walk_at "hp"); (case ap2 => walk_at "hp"); (case ap3 => walk_at "sz"))
  | with_reducible refine s_for (fun _ _ => ?_) | with_reducible refine s_lc ?_ | with_reducible refine s_iList ?_ | with_reducible refine s_iTup ?_ | with_reducible refine s_iRng1 ?_ | with_reducible refine s_iRng2 ?_
  | with_reducible refine s_yes ?_ | with_reducible refine s_par ?_
  | with_reducible refine s_make ?_ | with_reducible refine s_meth ?_
  | with_reducible refine s_tup ?_ | with_reducible refine s_lst ?_ | with_reducible refine s_call ?_
  | with_reducible refine ⟨rfl, ?_⟩
  | with_reducible refine ⟨_, rfl, ?_⟩
  | ((with_reducible refine' ⟨_, _, rfl, ?sd1, ?_⟩); (case sd1 => walk_at "sd"))
  | with_reducible refine ⟨_, _, rfl, ?_⟩
  | with_reducible refine .inl ⟨_, rfl, ?_⟩
  | dsimp only [List.set]
  | walk_at "rdx"
  | (refine fun _ _ => ?_))
local macro_rules | `(tactic| walk_at "rd") => `(tactic| repeat (first
  | (with_reducible show tVar _ _ _ _); refine s_var rfl ?_
  | with_reducible refine s_c ?_ | with_reducible refine s_op ?_ | with_reducible refine s_un ?_
  | with_reducible refine s_cons ?_ | with_reducible refine s_nil ?_ | with_reducible refine s_cb ?_
  | with_reducible refine s_test ?_ | with_reducible refine s_B ?_ | with_reducible refine s_not ?_ | with_reducible refine s_and ?_ | with_reducible refine s_or ?_
  | with_reducible refine s_if ?_ | with_reducible refine s_notV ?_ | with_reducible refine s_andV ?_ | with_reducible refine s_orV ?_
  | with_reducible refine s_orT ?_ | with_reducible refine s_andT ?_ | with_reducible refine s_chain ?_
  | with_reducible refine s_isi_int ?_ | with_reducible refine s_isi_int_bool ?_ | with_reducible refine s_isi_str ?_
  | with_reducible refine iteT ?_ | with_reducible refine iteF ?_ | with_reducible refine iteNT ?_ | with_reducible refine iteNF ?_
  | with_reducible refine s_isN ?_ | with_reducible refine s_notN ?_
  | ((with_reducible refine' s_2setE ?g1 ?_); (case g1 => first | (dsimp only [List.set, L2.wipe, List.map, List.foldl]; done) | (dsimp only [List.set, L2.wipe, List.map, List.foldl]; rfl)))
  | with_reducible refine s_seq ?_ | with_reducible refine s_ifS ?_ | with_reducible refine s_asg ?_ | with_reducible refine s_ret ?_ | with_reducible refine s_drop ?_ | with_reducible refine s_next ?_
  | ((with_reducible refine' s_gnameE ?g1 ?_); (case g1 => first | (dsimp only [List.set, L2.wipe, List.map, List.foldl]; done) | (dsimp only [List.set, L2.wipe, List.map, List.foldl]; rfl)))
  | with_reducible refine s_gsub ?_ | with_reducible refine s_gcons ?_ | with_reducible refine s_gnil ?_
  | (with_reducible show gTup _ _ _ _ _ _ _); refine s_gtup (by walk_at "hp") rfl ?_
  | with_reducible refine s_eqI ?_ | with_reducible refine s_neI ?_ | with_reducible refine s_eqS ?_ | with_reducible refine s_neB ?_ | with_reducible refine s_eqB ?_ | with_reducible refine s_neSr ?_ | with_reducible refine s_neS ?_
  | with_reducible refine s_I0 ?_
  | (with_reducible show rI _ _ _ _ _ _); refine s_I (by walk_at "sd") ?_
  | (with_reducible show rIxL _ _ _ _ _); refine s_ixL (by walk_at "hp") rfl ?_
  | (with_reducible show rIxT _ _ _ _ _); refine s_ixT (by walk_at "hp") rfl ?_
  | (with_reducible show rSetL _ _ _ _ _); refine s_setL (by walk_at "hp") rfl ?_
  | with_reducible refine s_prop ?_
  | (with_reducible show _ ≤ sizeLine ∧ _); refine ⟨le_size (by rfl), ?_⟩
  | with_reducible refine ite_NN ?_ | with_reducible refine ite_IN ?_ | with_reducible refine ite_nNN ?_ | with_reducible refine ite_nIN ?_ | with_reducible refine ite_RN ?_ | with_reducible refine ite_nRN ?_
  | with_reducible refine s_sfld ?_
  | ((with_reducible refine' ⟨_, _, _, _, rfl, ?fp1, ?fp2, ?fp3, ?fp4, ?_⟩); (case fp1 => walk_at "hp"); (case fp2 => assumption); (case fp3 => assumption); (case fp4 => walk_at "few"))
  | with_reducible refine s_fldE ?_
  | ((with_reducible refine' ⟨_, _, _, _, _, rfl, ?fp1, ?fp2, ?fp3, ?fp4, ?_⟩); (case fp1 => walk_at "hp"); (case fp2 => assumption); (case fp3 => assumption); (case fp4 => rfl))
  | with_reducible refine s_bm ?_ | with_reducible refine s_bm0 ?_
  | ((with_reducible refine' s_tyL ?ty1 ?_); (case ty1 => walk_at "hp"))
  | ((with_reducible refine' s_append ?ap1 ?ap2 ?_); (case ap1 => walk_at "hp"); (case ap2 => walk_at "sz"))
  | ((with_reducible refine' s_extend ?ap1 ?ap2 ?ap3 ?_); (case ap1 => walk_at "hp"); (case ap2 => walk_at "hp"); (case ap3 => walk_at "sz"))
  | with_reducible refine s_for (fun _ _ => ?_) | with_reducible refine s_lc ?_ | with_reducible refine s_iList ?_ | with_reducible refine s_iTup ?_ | with_reducible refine s_iRng1 ?_ | with_reducible refine s_iRng2 ?_
  | with_reducible refine s_yes ?_ | with_reducible refine s_par ?_
  | with_reducible refine s_make ?_ | with_reducible refine s_meth ?_
  | with_reducible refine s_tup ?_ | with_reducible refine s_lst ?_ | with_reducible refine s_call ?_
  | with_reducible refine ⟨rfl, ?_⟩
  | with_reducible refine ⟨_, rfl, ?_⟩
  | ((with_reducible refine' ⟨_, _, rfl, ?sd1, ?_⟩); (case sd1 => walk_at "sd"))
  | with_reducible refine ⟨_, _, rfl, ?_⟩
  | with_reducible refine .inl ⟨_, rfl, ?_⟩
  | dsimp only [List.set]
  | walk_at "rdx"
  | (refine fun _ _ => ?_)))

namespace My
open PySem L2
section
variable {P : Program} {w : World} {K : PySem.W.Frag} {mg : Str → Option Value} {base : Heap} {C_Many C_EachError C_InvalidText : Addr} (M : Md K mg C_Many C_EachError C_InvalidText)
include M
local macro_rules | `(tactic| walk_at "rdx") => `(tactic| first | with_reducible refine s_ostG ?_ | with_reducible refine s_raE ?_ | with_reducible refine s_callX ?_ | with_reducible refine s_staXk ?_ | ((with_reducible refine' s_mcall ?mc1 ?mc2 ?_); (case mc1 => walk_at "hp"); (case mc2 => rfl)))
omit M
theorem pow_len : ∀ n : Nat, n < 10 ^ (TL.numL n).length := by
  intro n
  induction n using Nat.strongRecOn with
  | ind n ih =>
    rcases Nat.lt_or_ge n 10 with h10 | h10
    · rw [TL.numL_lt h10]
      exact h10
    · rw [TL.numL_step h10, List.length_append]
      have := ih (n / 10) (by omega)
      have e : 10 ^ ((TL.numL (n / 10)).length + 1) = 10 * 10 ^ (TL.numL (n / 10)).length := by rw [Nat.pow_succ]; omega
      show n < 10 ^ ((TL.numL (n / 10)).length + 1)
      rw [e]
      omega
theorem sm_len {n k : Nat} (h : (TL.numL n).length ≤ k) (hk : k ≤ 500) : Sm 1900 n := by
  show ((n : Int)).natAbs < 2 ^ 1900
  have h1 := pow_len n
  have h2 : 10 ^ (TL.numL n).length ≤ 10 ^ 500 := Nat.pow_le_pow_right (by decide) (by omega)
  have h3 : 10 ^ 500 < 2 ^ 1900 := by decide +kernel
  rw [Int.natAbs_natCast]
  exact Nat.lt_of_lt_of_le h1 (Nat.le_of_lt (Nat.lt_of_le_of_lt h2 h3))
theorem num_len {n : Nat} (h : Sm 1900 n) : (Str.ofString (toString (n : Int))).length ≤ 600 := by
  have e : (Str.ofString (toString (n : Int))).length = (cps (Str.ofString (toString (n : Int)))).length := by
    rw [Array.length_toList]
    rfl
  rw [e, cps_num]
  refine TL.numL_len (by decide) ?_
  have h2 : ((n : Int)).natAbs < 2 ^ 1900 := h
  rw [Int.natAbs_natCast] at h2
  exact Nat.lt_trans h2 (by decide +kernel)
theorem s_m1 {r : V → List V → Hp → VK → Prop} {to te : TE} {σ : L2.St} {H : Hp} {Q : VK} (h : to σ H fun x H1 => (∃ a, x = .str a) ∧ te σ H1 fun y H2 => r x [y] H2 Q) : tM1 r to te σ H Q := h
theorem part_read (x : Str) : ∃ a d t : Str, Txt.partition x dots = (a, d, t) ∧ a.length ≤ x.length ∧ t.length ≤ x.length ∧
    ((d.length = 0 ∧ readOf x = (numIn (cps a)).map fun n => (n, some n)) ∨ (d.length = 2 ∧ readOf x = match numIn (cps a) with
    | none => none
    | some l => if t = "*" then some (l, none) else match numIn (cps t) with
      | none => none
      | some h => if h ≤ l then none else some (l, some h))) := by
  cases e : occ x with
  | nil =>
    refine ⟨x, Str.empty, Str.empty, ?_, Nat.le_refl _, Nat.zero_le _, .inl ⟨rfl, ?_⟩⟩
    · unfold Txt.partition
      have : Builtin.Str.occurrences x dots 0 x.length 1 = [] := e
      rw [this]
    · unfold readOf
      rw [e]
  | cons i r =>
    have pe : Txt.partition x dots = (head x i, dots, tail x i) := by
      unfold Txt.partition
      have : Builtin.Str.occurrences x dots 0 x.length 1 = i :: r := e
      rw [this]
      rfl
    have sum := StrLaws.partition_sum x dots
    rw [pe] at sum
    have hh := congrArg Str.length sum
    rw [strLen_append, strLen_append] at hh
    dsimp only at hh
    refine ⟨head x i, dots, tail x i, pe, by omega, by omega, .inr ⟨by decide +kernel, ?_⟩⟩
    unfold readOf
    rw [e]
    all_goals rfl
theorem head_tail {x : Str} {i : Nat} {r : List Nat} (e : occ x = i :: r) : Txt.partition x dots = (head x i, dots, tail x i) ∧ (head x i).length + 2 + (tail x i).length = x.length := by
  have pe : Txt.partition x dots = (head x i, dots, tail x i) := by
    unfold Txt.partition
    have : Builtin.Str.occurrences x dots 0 x.length 1 = i :: r := e
    rw [this]
    rfl
  refine ⟨pe, ?_⟩
  have sum := StrLaws.partition_sum x dots
  rw [pe] at sum
  have := congrArg Str.length sum
  rw [strLen_append, strLen_append] at this
  exact this
theorem empty_app (y : Str) : Str.empty ++ y = y := str_ext (by
  show (Str.empty.cps ++ y.cps).toList = y.cps.toList
  rw [Array.toList_append]
  rfl)
theorem vals_rev : ∀ {xs : List V} {us : List Value}, Vals xs us → Vals xs.reverse us.reverse
  | _, _, .nil => .nil
  | _, _, .cons r t => by
    rw [List.reverse_cons, List.reverse_cons]
    exact (vals_rev t).append (.cons r .nil)
theorem cut_head (t : Str) (i : Nat) : cutS t none (some (i : Int)) = head t i := str_ext (by
  show (((cps t).drop 0).take (HT.sIx t.length t.length (some (i : Int)) - 0)).toArray.toList = (t.cps.extract 0 i).toList
  rw [HT.sIx_nat, Array.toList_extract]
  have hl : t.length = (cps t).length := by
    rw [Array.length_toList]
    rfl
  rw [hl]
  simp [List.take_eq_take_iff, List.extract_eq_take_drop])
theorem cut_tail (t : Str) (i : Nat) : cutS t (some ((i : Int) + 2)) none = tail t i := str_ext (by
  have e : (i : Int) + 2 = ((i + 2 : Nat) : Int) := by omega
  rw [e]
  show (((cps t).drop (HT.sIx t.length 0 (some ((i + 2 : Nat) : Int)))).take (t.length - HT.sIx t.length 0 (some ((i + 2 : Nat) : Int)))).toArray.toList = (t.cps.extract (i + 2) t.length).toList
  rw [HT.sIx_nat, Array.toList_extract]
  have hl : t.length = (cps t).length := by
    rw [Array.length_toList]
    rfl
  rw [hl]
  rcases Nat.le_total (i + 2) (cps t).length with h | h
  · rw [Nat.min_eq_left h]
  · rw [Nat.min_eq_right h]
    rw [List.extract_eq_drop_take, List.drop_eq_nil_of_le (Nat.le_refl _), List.drop_eq_nil_of_le (by simpa using h)]
    simp)
theorem s_slS {te : TE} {tl th : TO} {σ : L2.St} {H : Hp} {Q : VK} (h : te σ H fun x H1 => tl σ H1 fun l H2 => th σ H2 fun u H3 => ∃ z, x = .str z ∧ z.length ≤ sizeLine ∧ Q (.str (cutS z l u)) H3) : L2.tSl rSlS te tl th σ H Q := h
theorem s_noPart {σ : L2.St} {H : Hp} {Q : Option Int → Hp → Prop} (h : Q none H) : tNoPart σ H Q := h
theorem s_part {t : TE} {σ : L2.St} {H : Hp} {Q : Option Int → Hp → Prop} (h : t σ H fun x H1 => ∃ i, x = .int i ∧ Q (some i) H1) : tPart t σ H Q := h
theorem Sm.log2 {x : Int} (h : Sm 1900 x) : x.natAbs.log2 < 1920 := Nat.lt_trans (Sm.log h) (by decide)
include M
theorem c_Many___str__ : Mtn P w K mg base C_Many "__str__" 1 ["self"] [] (spStr C_Many) := by
  refine mtN M.e_Many___str__ M.k_Many (fun F => ?_) (fun _ _ _ _ _ _ us hl => match us, hl with | [_], _ => rfl)
  refine fnG_body F sc_Many___str__ (fun vs H Q E h => ?_) (fun cdv A outer s H vs Q E hr h => ?_)
  · obtain ⟨x, l, hh, rfl, _⟩ := h
    rfl
  · obtain ⟨x, l, hh, rfl, ⟨dx, t, e, et⟩, hs1, hs2, q⟩ := h
    refine ⟨_, (pss_cons (ps_if (pt_cmpR op_isN (pe_fld (pv 0) rfl) pe_non (nomark _)) (pss_one (ps_ret (pe_joined (.cons (pe_fmt (pe_fld (pv 0) rfl)) (.cons pe_str .nil))))) pss_nil) (pss_cons (ps_if (pt_cmpR op_eq (pe_fld (pv 0) rfl) (pe_fld (pv 0) rfl) (nomark _)) (pss_one (ps_ret (pe_callTy call_str_int (by rfl) M.b_str (by decide +kernel) (pa_cons (pe_fld (pv 0) rfl) pa_nil)))) pss_nil) (pss_one (ps_ret (pe_joined (.cons (pe_fmt (pe_fld (pv 0) rfl)) (.cons pe_str (.cons (pe_fmt (pe_fld (pv 0) rfl)) .nil)))))))), ?_⟩
    refine st_eq (σ := [some _]) rfl ?_
    have kM := M.k_Many
    have n1 := M.n_Many__most
    have n2 := M.n_Many__least
    have l1 := num_len hs1
    have d3 : (("..*" : Str)).length = 3 := by decide +kernel
    have d2 : ((".." : Str)).length = 2 := by decide +kernel
    have le0 : Str.empty.length = 0 := rfl
    cases hh with
    | none =>
      have e : H x = some (.ins C_Many dx [("_least", .int l), ("_most", .non), ("_key", .ref t)]) := e
      walk_at "rd"
      dsimp only [L2.tJs, L2.tFmt]
      with_reducible refine s_fldE ?_
      with_reducible refine s_var rfl ?_
      refine ⟨x, C_Many, dx, _, _, rfl, e, kM, n2, rfl, .inr ⟨_, rfl, hs1.log2, _, rfl, by rw [empty_app, sizeLine_eq]; omega, ?_⟩⟩
      refine ⟨_, rfl, by rw [strLen_append, empty_app, d3, sizeLine_eq]; omega, ?_⟩
      rw [empty_app]
      exact q
    | some m =>
      have e : H x = some (.ins C_Many dx [("_least", .int l), ("_most", .int m), ("_key", .ref t)]) := e
      have l2 := num_len (hs2 m rfl)
      walk_at "rd"
      refine ite_d (fun h1 => ?_) (fun h1 => ?_)
      · have h2 : m = l := by omega
        subst h2
        walk_at "rd"
        have ew : words (m, some m) = Str.ofString (toString (m : Int)) := if_pos rfl
        rw [ew] at q
        exact ⟨hs1.log2, q⟩
      · have h2 : l ≠ m := by omega
        have ew : words (l, some m) = Str.ofString (toString (l : Int)) ++ ".." ++ Str.ofString (toString (m : Int)) := if_neg h2
        rw [ew] at q
        walk_at "rd"
        dsimp only [L2.tJs, L2.tFmt]
        with_reducible refine s_fldE ?_
        with_reducible refine s_var rfl ?_
        refine ⟨x, C_Many, dx, _, _, rfl, e, kM, n2, rfl, .inr ⟨_, rfl, hs1.log2, _, rfl, by rw [empty_app, sizeLine_eq]; omega, ?_⟩⟩
        refine ⟨_, rfl, by rw [strLen_append, empty_app, d2, sizeLine_eq]; omega, ?_⟩
        with_reducible refine s_fldE ?_
        with_reducible refine s_var rfl ?_
        refine ⟨x, C_Many, dx, _, _, rfl, e, kM, n1, rfl, .inr ⟨_, rfl, (hs2 m rfl).log2, _, rfl, by rw [strLen_append, strLen_append, empty_app, d2, sizeLine_eq]; omega, ?_⟩⟩
        rw [empty_app]
        exact q
theorem ok_read {f : Addr} {fd : FuncData} (F : FunD K "read" "Many.read" (defArgs st_Many_read) (defBody st_Many_read) (defScope st_Many_read) [] [] f fd) : FnG P w K mg base (L2.CX P w) 6 f fd ["text"] (spRead K C_Many C_InvalidText) := by
  have c_number_in := c_number_in (P := P) (w := w) (base := base) M
  have c_Many_1 := c_Many_1 (P := P) (w := w) (base := base) M
  have c_Many_2 := c_Many_2 (P := P) (w := w) (base := base) M
  have c_InvalidText := c_InvalidText (P := P) (w := w) (base := base) M
  refine fnG_body F sc_Many_read (fun vs H Q E h => ?_) (fun cdv A outer s H vs Q E hr h => ?_)
  · obtain ⟨v, rfl, _⟩ := h
    rfl
  · obtain ⟨v, rfl, h⟩ := h
    refine ⟨_, (pss_cons (ps_if (pt_not (pt_val (pe_callB call_isi (by rfl) M.b_isinstance (by decide +kernel) (pa_cons (pv 0) (pa_cons (pe_bltn (v := .ty "str") (u := .type "str") (by rfl) M.b_str (by decide +kernel) rfl) pa_nil))))) (pss_one (ps_raise rfl (takes_of rfl rfl rfl rfl) (pmk_E (ExF.raises M.x_InvalidText (ups _ _ "ValueError")) c_InvalidText (hr.mono (by decide)) rfl (pa_cons pe_int pa_nil)))) pss_nil) (pss_cons (ps_asg (pe_partition (pv 0) pe_str) (pg_tup (by rfl) (pgs_cons (pg_name (i := 1) sc_Many_read.nd rfl (.inl rfl)) (pgs_cons (pg_name (i := 2) sc_Many_read.nd rfl (.inl rfl)) (pgs_cons (pg_name (i := 3) sc_Many_read.nd rfl (.inl rfl)) pgs_nil))))) (pss_cons (ps_set (i := 4) sc_Many_read.nd rfl (.inl rfl) (pe_callD c_number_in (hr.mono (by decide)) rfl (pa_cons (pv 1) pa_nil))) (pss_cons (ps_if (pt_cmpR op_isN (pv 4) pe_non (nomark _)) (pss_one (ps_raise rfl (takes_of rfl rfl rfl rfl) (pmk_E (ExF.raises M.x_InvalidText (ups _ _ "ValueError")) c_InvalidText (hr.mono (by decide)) rfl (pa_cons pe_int pa_nil)))) pss_nil) (pss_cons (ps_if (pt_not (pt_truth (pv 2) (by intro _; rfl))) (pss_one (ps_ret (pe_makeD c_Many_2 (hr.mono (by decide)) rfl (pa_cons (pv 4) (pa_cons (pv 4) pa_nil))))) pss_nil) (pss_cons (ps_if (pt_cmpR op_eq (pv 3) pe_str (nomark _)) (pss_one (ps_ret (pe_makeD c_Many_1 (hr.mono (by decide)) rfl (pa_cons (pv 4) pa_nil)))) pss_nil) (pss_cons (ps_set (i := 5) sc_Many_read.nd rfl (.inl rfl) (pe_callD c_number_in (hr.mono (by decide)) rfl (pa_cons (pv 3) pa_nil))) (pss_cons (ps_if (PW.pt (pw_or (pt_cmpR op_isN (pv 5) pe_non (nomark _)) (pw_or1 (pt_cmpR op_le (pv 5) (pv 4) (nomark _))))) (pss_one (ps_raise rfl (takes_of rfl rfl rfl rfl) (pmk_E (ExF.raises M.x_InvalidText (ups _ _ "ValueError")) c_InvalidText (hr.mono (by decide)) rfl (pa_cons pe_int pa_nil)))) pss_nil) (pss_one (ps_ret (pe_makeD c_Many_2 (hr.mono (by decide)) rfl (pa_cons (pv 4) (pa_cons (pv 5) pa_nil))))))))))))), ?_⟩
    refine st_eq (σ := [some _, none, none, none, none, none]) rfl ?_
    rcases h with ⟨x, rfl, hl, bad, good⟩ | ⟨t, ht, hk, q⟩
    · walk_at "rd"
      with_reducible refine s_m1 ?_
      walk_at "rd"
      refine ⟨⟨x, rfl⟩, x, dots, rfl, rfl, by decide +kernel, by rw [sizeLine_eq]; omega, fun p np => ?_⟩
      obtain ⟨a, d, t, pe, la, lt, key⟩ := part_read x
      rw [pe]
      dsimp only
      have ep : L2.upd H p (.tup [.str a, .str d, .str t]) p = some (.tup [.str a, .str d, .str t]) := upd_same
      have s1 := My.Same.new (H := H) (o := .tup [.str a, .str d, .str t]) np
      generalize L2.upd H p (.tup [.str a, .str d, .str t]) = H1 at ep s1 ⊢
      refine ⟨p, _, rfl, SqT.of ep, rfl, ?_⟩
      walk_at "rd"
      refine ⟨a, rfl, by omega, fun H2 s2 => ?_⟩
      have s12 := s1.trans s2
      walk_at "rd"
      cases e1 : numIn (cps a) with
      | none =>
        rw [e1] at key
        have hr : readOf x = none := by
          rcases key with ⟨_, z⟩ | ⟨_, z⟩
          · exact z
          · exact z
        walk_at "rd"
        exact raise1 fun d H' s3 _ hd => bad hr d H' (s12.trans s3) hd
      | some l =>
        rw [e1] at key
        rw [show decide (optN (some l) = V.non) = false from rfl]
        dsimp only [optN]
        walk_at "rd"
        refine ⟨_, ⟨by rw [sizeLine_eq]; rcases key with ⟨z, _⟩ | ⟨z, _⟩ <;> omega, rfl⟩, ?_⟩
        rcases key with ⟨hd, hr⟩ | ⟨hd, hr⟩
        · rw [show (((d.length : Nat) : Int) != 0) = false from by rw [hd]; rfl]
          walk_at "rd"
          rename_i X DX nX nDX
          refine fun neX => ⟨X, DX, l, some (l : Int), rfl, upd_same, Int.natCast_nonneg l, (fun h e => by have := Option.some.inj e; omega), fun H' b m => ⟨rfl, ?_⟩⟩
          exact good l (some l) hr X H' (s12.trans (b.same (My.Same.at_ nX (My.Same.new nDX)) nX)) m
        · rw [show (((d.length : Nat) : Int) != 0) = true from by rw [hd]; rfl]
          walk_at "rd"
          refine ite_d (fun h1 => ?_) (fun h1 => ?_)
          · dsimp only at hr
            rw [if_pos h1] at hr
            walk_at "rd"
            rename_i X DX nX nDX
            refine fun neX => ⟨X, DX, l, none, rfl, upd_same, Int.natCast_nonneg l, (fun h e => nomatch e), fun H' b m => ⟨rfl, ?_⟩⟩
            exact good l none hr X H' (s12.trans (b.same (My.Same.at_ nX (My.Same.new nDX)) nX)) m
          · dsimp only at hr
            rw [if_neg h1] at hr
            walk_at "rd"
            refine ⟨t, rfl, by omega, fun H3 s3 => ?_⟩
            have s13 := s12.trans s3
            walk_at "rd"
            cases e2 : numIn (cps t) with
            | none =>
              rw [e2] at hr
              walk_at "rd"
              exact raise1 fun d H' s4 _ hd => bad hr d H' (s13.trans s4) hd
            | some h =>
              rw [e2] at hr
              dsimp only at hr
              rw [show decide (optN (some h) = V.non) = false from rfl]
              dsimp only [optN]
              walk_at "rd"
              refine ite_d (fun h2 => ?_) (fun h2 => ?_)
              · rw [if_pos (by omega)] at hr
                walk_at "rd"
                exact raise1 fun d H' s4 _ hd => bad hr d H' (s13.trans s4) hd
              · rw [if_neg (by omega)] at hr
                walk_at "rd"
                rename_i X DX nX nDX
                refine fun neX => ⟨X, DX, l, some (h : Int), rfl, upd_same, Int.natCast_nonneg l, (fun g e => by have := Option.some.inj e; omega), fun H' b m => ⟨rfl, ?_⟩⟩
                exact good l (some h) hr X H' (s13.trans (b.same (My.Same.at_ nX (My.Same.new nDX)) nX)) m
    · walk_at "rd"
      refine ⟨_, _, _, _, false, rfl, .ty _, ht, hk, ?_⟩
      walk_at "rd"
      exact raise1 fun d H' s1 _ hd => q d H' s1 hd
theorem c_Many_read : StaX P w K mg base "Many" C_Many "read" 6 ["text"] (spRead K C_Many C_InvalidText) := by
  obtain ⟨f, fd, hS, F⟩ := M.t_Many_read
  exact ⟨f, fd, M.m_Many, hS, ok_read M F, F.bindsN fun _ _ _ _ _ _ us hl => match us, hl with | [_], _ => rfl⟩
theorem k_Many_read : StaXk P w K mg base "Many" C_Many "read" 6 ["text"] (fun vs zs => vs ++ zs.reverse) (spRead K C_Many C_InvalidText) := by
  obtain ⟨f, fd, hS, F⟩ := M.t_Many_read
  exact ⟨f, fd, _, _, M.m_Many, hS, ok_read M F, kbn0 F 0 ["text"] (fun vs zs => vs ++ zs.reverse) (fun r1 r2 => r1.append (vals_rev r2)) fun _ _ _ _ _ _ us ws l1 l2 => match us, ws, l1, l2 with | [], [_], _, _ => rfl⟩
end
end My
end
section
open My L2 PySem
open My L2 PySem
local macro_rules | `(tactic| walk_at "as") => `(tactic| with_reducible assumption)
local macro_rules | `(tactic| walk_at "hp") => `(tactic| first
  | walk_at "as" | exact upd_same
  | (rw [upd_ne (by walk_at "ne")]; walk_at "hp")
  | (refine But.get (by walk_at "as") ?hp1 ?hp2; (case hp1 => walk_at "hp"); (case hp2 => walk_at "ne"))
  | (refine My.Same.get (by walk_at "as") ?hp1; (case hp1 => walk_at "hp")))
local macro_rules | `(tactic| walk_at "ne") => `(tactic| first
  | walk_at "as" | exact Ne.symm (by walk_at "as")
  | (refine' ne_of_none ?ne1 ?ne2; (case ne2 => walk_at "as"); (case ne1 => walk_at "hp"))
  | (refine' Ne.symm (ne_of_none ?ne1 ?ne2); (case ne2 => walk_at "as"); (case ne1 => walk_at "hp"))
  | exact ne_of (by walk_at "hp") (by walk_at "hp") (by intro z; cases z))
local macro_rules | `(tactic| walk_at "sd") => `(tactic| first
  | walk_at "as" | omega | decide | exact ⟨by omega, by omega⟩ | exact .inl ⟨by omega, by omega⟩ | exact .inr ⟨by omega, by omega⟩ | exact divp_wide (by walk_at "as") (by walk_at "as") | exact Sm.cmul (by walk_at "as") (by walk_at "as") | exact cmul_small (by omega) (by omega) (by omega) (by omega) | exact ⟨by omega, by decide⟩)
local macro_rules | `(tactic| walk_at "bt") => `(tactic| first
  | walk_at "as" | exact But.refl _ _ | exact Same.but (by walk_at "as")
  | (refine But.trans ?bt1 But.at; (case bt1 => walk_at "bt"))
  | (refine But.trans ?bt1 (But.new (by first | walk_at "as" | walk_at "hp")); (case bt1 => walk_at "bt"))
  | (refine But.trans ?bt1 (by walk_at "as"); (case bt1 => walk_at "bt"))
  | (refine But.trans ?bt1 (Same.but (by walk_at "as")); (case bt1 => walk_at "bt")))
local macro_rules | `(tactic| walk_at "sm") => `(tactic| first
  | walk_at "as" | exact My.Same.rfl' _
  | (refine' My.Same.at_ ?sm1 ?sm2; (case sm1 => walk_at "as"); (case sm2 => walk_at "sm"))
  | (refine' My.Same.tr ?sm1 (My.Same.new ?sm2); (case sm2 => walk_at "as"); (case sm1 => walk_at "sm"))
  | (refine' My.Same.tr ?sm1 ?sm2; (case sm2 => walk_at "as"); (case sm1 => walk_at "sm")))
local macro_rules | `(tactic| walk_at "sz") => `(tactic| first
  | assumption | exact lt_size (by rfl) | exact le_size (by rfl) | (rw [sizeLine_eq]; omega)
  | (rw [sizeLine_eq]; simp only [List.length_append, List.length_map, List.length_cons, List.length_nil]; omega))
local macro_rules | `(tactic| walk_at "few") => `(tactic| (repeat refine few_put ?_); exact few0)
local macro_rules | `(tactic| walk_at "rd1") => `(tactic| first
  | (with_reducible show tVar _ _ _ _); refine s_var rfl ?_
  | with_reducible refine s_c ?_ | with_reducible refine s_op ?_ | with_reducible refine s_un ?_
  | with_reducible refine s_cons ?_ | with_reducible refine s_nil ?_ | with_reducible refine s_cb ?_
  | with_reducible refine s_test ?_ | with_reducible refine s_B ?_ | with_reducible refine s_not ?_ | with_reducible refine s_and ?_ | with_reducible refine s_or ?_
  | with_reducible refine s_if ?_ | with_reducible refine s_notV ?_ | with_reducible refine s_andV ?_ | with_reducible refine s_orV ?_
  | with_reducible refine s_orT ?_ | with_reducible refine s_andT ?_ | with_reducible refine s_chain ?_
  | with_reducible refine s_isi_int ?_ | with_reducible refine s_isi_int_bool ?_ | with_reducible refine s_isi_str ?_
  | with_reducible refine iteT ?_ | with_reducible refine iteF ?_ | with_reducible refine iteNT ?_ | with_reducible refine iteNF ?_
  | with_reducible refine s_isN ?_ | with_reducible refine s_notN ?_
  | ((with_reducible refine' s_2setE ?g1 ?_); (case g1 => first | (dsimp only [List.set, L2.wipe, List.map, List.foldl]; done) | (dsimp only [List.set, L2.wipe, List.map, List.foldl]; rfl)))
  | with_reducible refine s_seq ?_ | with_reducible refine s_ifS ?_ | with_reducible refine s_asg ?_ | with_reducible refine s_ret ?_ | with_reducible refine s_drop ?_ | with_reducible refine s_next ?_
  | ((with_reducible refine' s_gnameE ?g1 ?_); (case g1 => first | (dsimp only [List.set, L2.wipe, List.map, List.foldl]; done) | (dsimp only [List.set, L2.wipe, List.map, List.foldl]; rfl)))
  | with_reducible refine s_gsub ?_ | with_reducible refine s_gcons ?_ | with_reducible refine s_gnil ?_
  | (with_reducible show gTup _ _ _ _ _ _ _); refine s_gtup (by walk_at "hp") rfl ?_
  | with_reducible refine s_eqI ?_ | with_reducible refine s_neI ?_ | with_reducible refine s_eqS ?_ | with_reducible refine s_neB ?_ | with_reducible refine s_eqB ?_ | with_reducible refine s_neSr ?_ | with_reducible refine s_neS ?_
  | with_reducible refine s_I0 ?_
  | (with_reducible show rI _ _ _ _ _ _); refine s_I (by walk_at "sd") ?_
  | (with_reducible show rIxL _ _ _ _ _); refine s_ixL (by walk_at "hp") rfl ?_
  | (with_reducible show rIxT _ _ _ _ _); refine s_ixT (by walk_at "hp") rfl ?_
  | (with_reducible show rSetL _ _ _ _ _); refine s_setL (by walk_at "hp") rfl ?_
  | with_reducible refine s_prop ?_
  | (with_reducible show _ ≤ sizeLine ∧ _); refine ⟨le_size (by rfl), ?_⟩
  | with_reducible refine ite_NN ?_ | with_reducible refine ite_IN ?_ | with_reducible refine ite_nNN ?_ | with_reducible refine ite_nIN ?_ | with_reducible refine ite_RN ?_ | with_reducible refine ite_nRN ?_
  | with_reducible refine s_sfld ?_
  | ((with_reducible refine' ⟨_, _, _, _, rfl, ?fp1, ?fp2, ?fp3, ?fp4, ?_⟩); (case fp1 => walk_at "hp"); (case fp2 => assumption); (case fp3 => assumption); (case fp4 => walk_at "few"))
  | with_reducible refine s_fldE ?_
  | ((with_reducible refine' ⟨_, _, _, _, _, rfl, ?fp1, ?fp2, ?fp3, ?fp4, ?_⟩); (case fp1 => walk_at "hp"); (case fp2 => assumption); (case fp3 => assumption); (case fp4 => rfl))
  | with_reducible refine s_bm ?_ | with_reducible refine s_bm0 ?_
  | ((with_reducible refine' s_tyL ?ty1 ?_); (case ty1 => walk_at "hp"))
  | ((with_reducible refine' s_append ?ap1 ?ap2 ?_); (case ap1 => walk_at "hp"); (case ap2 => walk_at "sz"))
  | ((with_reducible refine' s_extend ?ap1 ?ap2 ?ap3 ?_); (case ap1 => walk_at "hp"); (case ap2 => walk_at "hp"); (case ap3 => walk_at "sz"))
  | with_reducible refine s_for (fun _ _ => ?_) | with_reducible refine s_lc ?_ | with_reducible refine s_iList ?_ | with_reducible refine s_iTup ?_ | with_reducible refine s_iRng1 ?_ | with_reducible refine s_iRng2 ?_
  | with_reducible refine s_yes ?_ | with_reducible refine s_par ?_
  | with_reducible refine s_make ?_ | with_reducible refine s_meth ?_
  | with_reducible refine s_tup ?_ | with_reducible refine s_lst ?_ | with_reducible refine s_call ?_
  | with_reducible refine ⟨rfl, ?_⟩
  | with_reducible refine ⟨_, rfl, ?_⟩
  | ((with_reducible refine' ⟨_, _, rfl, ?sd1, ?_⟩); (case sd1 => walk_at "sd"))
  | with_reducible refine ⟨_, _, rfl, ?_⟩
  | with_reducible refine .inl ⟨_, rfl, ?_⟩
  | dsimp only [List.set]
  | walk_at "rdx"
  | (refine fun _ _ => ?_))
local macro_rules | `(tactic| walk_at "rd") => `(tactic| repeat (first
  | (with_reducible show tVar _ _ _ _); refine s_var rfl ?_
  | with_reducible refine s_c ?_ | with_reducible refine s_op ?_ | with_reducible refine s_un ?_
  | with_reducible refine s_cons ?_ | with_reducible refine s_nil ?_ | with_reducible refine s_cb ?_
  | with_reducible refine s_test ?_ | with_reducible refine s_B ?_ | with_reducible refine s_not ?_ | with_reducible refine s_and ?_ | with_reducible refine s_or ?_
  | with_reducible refine s_if ?_ | with_reducible refine s_notV ?_ | with_reducible refine s_andV ?_ | with_reducible refine s_orV ?_
  | with_reducible refine s_orT ?_ | with_reducible refine s_andT ?_ | with_reducible refine s_chain ?_
  | with_reducible refine s_isi_int ?_ | with_reducible refine s_isi_int_bool ?_ | with_reducible refine s_isi_str ?_
  | with_reducible refine iteT ?_ | with_reducible refine iteF ?_ | with_reducible refine iteNT ?_ | with_reducible refine iteNF ?_
  | with_reducible refine s_isN ?_ | with_reducible refine s_notN ?_
  | ((with_reducible refine' s_2setE ?g1 ?_); (case g1 => first | (dsimp only [List.set, L2.wipe, List.map, List.foldl]; done) | (dsimp only [List.set, L2.wipe, List.map, List.foldl]; rfl)))
  | with_reducible refine s_seq ?_ | with_reducible refine s_ifS ?_ | with_reducible refine s_asg ?_ | with_reducible refine s_ret ?_ | with_reducible refine s_drop ?_ | with_reducible refine s_next ?_
  | ((with_reducible refine' s_gnameE ?g1 ?_); (case g1 => first | (dsimp only [List.set, L2.wipe, List.map, List.foldl]; done) | (dsimp only [List.set, L2.wipe, List.map, List.foldl]; rfl)))
  | with_reducible refine s_gsub ?_ | with_reducible refine s_gcons ?_ | with_reducible refine s_gnil ?_
  | (with_reducible show gTup _ _ _ _ _ _ _); refine s_gtup (by walk_at "hp") rfl ?_
  | with_reducible refine s_eqI ?_ | with_reducible refine s_neI ?_ | with_reducible refine s_eqS ?_ | with_reducible refine s_neB ?_ | with_reducible refine s_eqB ?_ | with_reducible refine s_neSr ?_ | with_reducible refine s_neS ?_
  | with_reducible refine s_I0 ?_
  | (with_reducible show rI _ _ _ _ _ _); refine s_I (by walk_at "sd") ?_
  | (with_reducible show rIxL _ _ _ _ _); refine s_ixL (by walk_at "hp") rfl ?_
  | (with_reducible show rIxT _ _ _ _ _); refine s_ixT (by walk_at "hp") rfl ?_
  | (with_reducible show rSetL _ _ _ _ _); refine s_setL (by walk_at "hp") rfl ?_
  | with_reducible refine s_prop ?_
  | (with_reducible show _ ≤ sizeLine ∧ _); refine ⟨le_size (by rfl), ?_⟩
  | with_reducible refine ite_NN ?_ | with_reducible refine ite_IN ?_ | with_reducible refine ite_nNN ?_ | with_reducible refine ite_nIN ?_ | with_reducible refine ite_RN ?_ | with_reducible refine ite_nRN ?_
  | with_reducible refine s_sfld ?_
  | ((with_reducible refine' ⟨_, _, _, _, rfl, ?fp1, ?fp2, ?fp3, ?fp4, ?_⟩); (case fp1 => walk_at "hp"); (case fp2 => assumption); (case fp3 => assumption); (case fp4 => walk_at "few"))
  | with_reducible refine s_fldE ?_
  | ((with_reducible refine' ⟨_, _, _, _, _, rfl, ?fp1, ?fp2, ?fp3, ?fp4, ?_⟩); (case fp1 => walk_at "hp"); (case fp2 => assumption); (case fp3 => assumption); (case fp4 => rfl))
  | with_reducible refine s_bm ?_ | with_reducible refine s_bm0 ?_
  | ((with_reducible refine' s_tyL ?ty1 ?_); (case ty1 => walk_at "hp"))
  | ((with_reducible refine' s_append ?ap1 ?ap2 ?_); (case ap1 => walk_at "hp"); (case ap2 => walk_at "sz"))
  | ((with_reducible refine' s_extend ?ap1 ?ap2 ?ap3 ?_); (case ap1 => walk_at "hp"); (case ap2 => walk_at "hp"); (case ap3 => walk_at "sz"))
  | with_reducible refine s_for (fun _ _ => ?_) | with_reducible refine s_lc ?_ | with_reducible refine s_iList ?_ | with_reducible refine s_iTup ?_ | with_reducible refine s_iRng1 ?_ | with_reducible refine s_iRng2 ?_
  | with_reducible refine s_yes ?_ | with_reducible refine s_par ?_
  | with_reducible refine s_make ?_ | with_reducible refine s_meth ?_
  | with_reducible refine s_tup ?_ | with_reducible refine s_lst ?_ | with_reducible refine s_call ?_
  | with_reducible refine ⟨rfl, ?_⟩
  | with_reducible refine ⟨_, rfl, ?_⟩
  | ((with_reducible refine' ⟨_, _, rfl, ?sd1, ?_⟩); (case sd1 => walk_at "sd"))
  | with_reducible refine ⟨_, _, rfl, ?_⟩
  | with_reducible refine .inl ⟨_, rfl, ?_⟩
  | dsimp only [List.set]
  | walk_at "rdx"
  | (refine fun _ _ => ?_)))

namespace My
open PySem L2
section
variable {P : Program} {w : World} {K : PySem.W.Frag} {mg : Str → Option Value} {base : Heap} {C_Many C_EachError C_InvalidText : Addr} (M : Md K mg C_Many C_EachError C_InvalidText)
include M
local macro_rules | `(tactic| walk_at "rdx") => `(tactic| first | with_reducible refine s_ostG ?_ | with_reducible refine s_raE ?_ | with_reducible refine s_callX ?_ | with_reducible refine s_staXk ?_ | with_reducible refine s_slS ?_ | with_reducible refine s_noPart ?_ | with_reducible refine s_part ?_ | ((with_reducible refine' s_mcall ?mc1 ?mc2 ?_); (case mc1 => walk_at "hp"); (case mc2 => rfl)))
omit M
def optI : Option Nat → Int
  | none => -1
  | some n => n
def spLNum : Sp := fun vs H Q _ => ∃ t : Str, vs = [.str t] ∧ t.length ≤ 500 ∧ ∀ H', L2.Same H H' → Q (.int (optI (numIn (cps t)))) H'
def pairOf : Option (Nat × Option Nat) → Hp → V → Prop
  | none, _, v => v = .non
  | some (l, h), H, v => ∃ p, v = .ref p ∧ H p = some (.tup [.int l, optN h])
def spLRead : Sp := fun vs H Q _ => ∃ t : Str, vs = [.str t] ∧ t.length ≤ 500 ∧ ∀ v H', L2.Same H H' → pairOf (readOf t) H' v → Q v H'
theorem ite_y {A : Prop} [Decidable A] {T Y : Prop} (G : Prop) (hy : G → Y) (ht : A → (G → Y) → T) (hn : ¬ A → G) : if decide A = true then T else Y := by
  by_cases h : A
  · rw [if_pos (decide_eq_true h)]
    exact ht h hy
  · rw [if_neg (fun z => h (of_decide_eq_true z))]
    exact hy (hn h)
theorem mem_dig (c : Nat) : decide (c ∈ (Str.ofString "0123456789").cps.toList) = digB c := by
  have e : (Str.ofString "0123456789").cps.toList = [48, 49, 50, 51, 52, 53, 54, 55, 56, 57] := by decide +kernel
  rw [e]
  unfold digB
  by_cases h : 48 ≤ c ∧ c ≤ 57
  · rw [decide_eq_true h]
    refine decide_eq_true ?_
    simp
    omega
  · rw [decide_eq_false h]
    refine decide_eq_false ?_
    simp
    omega
theorem dig_idx {c : Nat} (h : digB c = true) : Builtin.Str.occurrences (Str.ofString "0123456789") ⟨#[c]⟩ 0 (Str.ofString "0123456789").length 1 = [c - 48] := by
  have h1 : 48 ≤ c ∧ c ≤ 57 := of_decide_eq_true h
  have h2 : c = 48 ∨ c = 49 ∨ c = 50 ∨ c = 51 ∨ c = 52 ∨ c = 53 ∨ c = 54 ∨ c = 55 ∨ c = 56 ∨ c = 57 := by omega
  rcases h2 with rfl | rfl | rfl | rfl | rfl | rfl | rfl | rfl | rfl | rfl <;> decide +kernel
theorem val_lt (t : List Nat) : t.all digB = true → NumText.digitsVal t < 10 ^ t.length := by
  refine snoc_ind (P := fun t => t.all digB = true → NumText.digitsVal t < 10 ^ t.length) ?_ (fun t d ih => ?_) t
  · intro _
    exact Nat.lt_of_le_of_lt (Nat.le_refl 0) (by decide)
  · intro ha
    rw [List.all_append, Bool.and_eq_true] at ha
    have hd : 48 ≤ d ∧ d ≤ 57 := by
      have := ha.2
      simp only [List.all_cons, List.all_nil, Bool.and_true] at this
      exact of_decide_eq_true this
    have := ih ha.1
    rw [val_snoc, List.length_append]
    have e : 10 ^ (t.length + 1) = 10 * 10 ^ t.length := by rw [Nat.pow_succ]; omega
    show _ < 10 ^ (t.length + 1)
    rw [e]
    omega
theorem sm_val {t : List Nat} (h : t.all digB = true) (hl : t.length ≤ 500) : Sm 1900 ((NumText.digitsVal t : Nat) : Int) := by
  show (((NumText.digitsVal t : Nat) : Int)).natAbs < 2 ^ 1900
  have h1 := val_lt t h
  have h2 : 10 ^ t.length ≤ 10 ^ 500 := Nat.pow_le_pow_right (by decide) hl
  have h3 : 10 ^ 500 < 2 ^ 1900 := by decide +kernel
  rw [Int.natAbs_natCast]
  exact Nat.lt_of_lt_of_le h1 (Nat.le_of_lt (Nat.lt_of_le_of_lt h2 h3))
include M
theorem c__law_number : Dn P w K mg base "_law_number" 1 ["_law_line"] [] spLNum := by
  refine dnN M.f__law_number (fun F => ?_) (fun _ _ _ _ _ _ us hl => match us, hl with | [_], _ => rfl)
  refine fnG_body F sc__law_number (fun vs H Q E h => ?_) (fun cdv A outer s H vs Q E hr h => ?_)
  · obtain ⟨t, rfl, _⟩ := h
    rfl
  · obtain ⟨t, rfl, hl, k⟩ := h
    refine ⟨_, (pss_cons (ps_if (PW.pt (pw_or (pt_cmpR op_eq (pv 0) pe_str (nomark _)) (pw_or1 (PW.pt (pw_and (pt_cmpR op_eq (pe_ix ix_str (pv 0) pe_int (fun _ _ => rfl)) pe_str (nomark _)) (pw_and1 (pt_cmpR op_ne (pv 0) pe_str (nomark _)))))))) (pss_one (ps_ret (pe_un un_neg pe_int))) pss_nil) (pss_cons (ps_if (pt_not (pt_val (pe_callB (cr_all rfl) (by rfl) M.b_all (by decide +kernel) (pa_cons (pe_lc (own := [("_law_sign", 1)]) (g := gName 1) (tt := tYes) (by rfl) sc__law_number.nd (pi_str (pv 0)) (blkOk_by (own := [("_law_sign", 1)]) (N := N__law_number) (sc := defScope st__law_number) (by decide +kernel)) (fun _ _ _ _ _ => pg_name (i := 1) sc__law_number.nd rfl (by first | exact Or.inl rfl | exact Or.inr rfl)) (fun _ _ _ _ _ => pts_nil) (fun _ _ _ _ _ => (pe_cmpR op_inS (pv 1) pe_str (by first | exact nomark _ | rfl)))) pa_nil)))) (pss_one (ps_ret (pe_un un_neg pe_int))) pss_nil) (pss_cons (ps_set (i := 2) sc__law_number.nd rfl (.inl rfl) pe_int) (pss_cons (ps_for (passes_of rfl) rfl (pi_str (pv 0)) (pg_name (i := 1) sc__law_number.nd rfl (.inl rfl)) (pss_one (ps_set (i := 2) sc__law_number.nd rfl (.inl rfl) (pe_op op_add (pe_op op_mulW pe_int (pv 2)) (pe_m1 PySem.F.slot_str_index PySem.F.type_str_index mt_sindex pe_str (pv 1)))))) (pss_one (ps_ret (pv 2))))))), ?_⟩
    refine st_eq (σ := [some _, none, none]) rfl ?_
    have hl2 : t.length = (cps t).length := by
      rw [Array.length_toList]
      rfl
    walk_at "rd"
    cases hc : cps t with
    | nil =>
      rw [decide_eq_true (show t = Str.ofString "" from str_ext (hc.trans (by decide +kernel)))]
      walk_at "rd"
      have := k H (L2.Same.refl _)
      rw [hc] at this
      exact ⟨1, rfl, this⟩
    | cons c0 r =>
      rw [decide_eq_false (show ¬ t = Str.ofString "" from fun z => by rw [z, show cps (Str.ofString "") = [] from by decide +kernel] at hc; cases hc)]
      walk_at "rd"
      refine ⟨t, 0, c0, rfl, rfl, by rw [sizeLine_eq]; omega, ?_, ?_⟩
      · rw [show t.cps.toList = c0 :: r from hc]
        exact atI_nat (xs := c0 :: r) (j := 0) rfl
      walk_at "rd"
      have e48 : ({ cps := #[c0] } : Str) = Str.ofString "0" ↔ c0 = 48 := by
        have : Str.ofString "0" = ({ cps := #[48] } : Str) := by decide +kernel
        rw [this]
        constructor
        · intro z
          injection z with z
          simpa using z
        · rintro rfl
          rfl
      have ne : (cps t).isEmpty = false := by
        rw [hc]
        rfl
      have hh : (cps t).head? = some c0 := by
        rw [hc]
        rfl
      refine ite_y (¬ (c0 = 48 ∧ 1 < (cps t).length)) (fun g => ?_) (fun h1 y => ?_) (fun h z => h (e48.mpr z.1))
      · walk_at "rd"
        refine ⟨_, rfl, t, rfl, fun D nD => lc_it walk_str (fun i H' => L2.Same H H' ∧ H' D = some (.lst (((cps t).take i).map fun c => V.bl (digB c)))) ?_ (fun _ _ _ _ => True.intro) ?_ ?_⟩
        · exact ⟨My.Same.new nD, upd_same⟩
        · rintro i y H1 H2 hi ⟨s1, hD⟩ ⟨rfl, c, hc1, rfl⟩
          walk_at "rd"
          have hc2 : (cps t)[i]? = some c := by rw [Array.getElem?_toList]; exact hc1
          refine ⟨c, _, rfl, rfl, _, hD, ?_, My.Same.at_ nD s1, ?_⟩
          · rw [List.length_map, List.length_take, sizeLine_eq]
            omega
          · rw [upd_same, List.take_add_one, hc2, mem_dig, List.map_append]
            rfl
        · rintro H1 ⟨s1, hD⟩
          walk_at "rd"
          have e0 : (cps t).take t.cps.size = cps t := List.take_of_length_le (by simp)
          rw [e0] at hD
          refine ⟨_, (cps t).map digB, rfl, SqL.of (by rw [List.map_map]; exact hD), ?_⟩
          have ea : ((cps t).map digB).all id = (cps t).all digB := by
            rw [List.all_map]
            rfl
          rw [ea]
          cases ha : (cps t).all digB with
          | false =>
            walk_at "rd"
            have nk : numIn (cps t) = none := by
              unfold numIn numOk
              rw [ha, Bool.and_false, Bool.false_and]
              rfl
            have := k H1 s1
            rw [nk] at this
            exact ⟨1, rfl, this⟩
          | true =>
            walk_at "rd"
            rename_i DE eDE
            have sm : ∀ i, Sm 1900 ((NumText.digitsVal ((cps t).take i) : Nat) : Int) := fun i => sm_val (List.all_eq_true.mpr fun c hc' => List.all_eq_true.mp ha c (List.mem_of_mem_take hc')) (by rw [List.length_take]; omega)
            refine ⟨_, rfl, t, rfl, for_it walk_str (fun i σ H' => H' = H1 ∧ ∃ o, σ = [some (.str t), o, some (.int ((NumText.digitsVal ((cps t).take i) : Nat) : Int))]) ?_ (fun _ _ _ _ _ => True.intro) ?_ ?_⟩
            · exact ⟨rfl, _, rfl⟩
            · rintro i y σ H2 H3 hi ⟨rfl, o, rfl⟩ ⟨rfl, c, hc1, rfl⟩
              walk_at "rd"
              have hc2 : (cps t)[i]? = some c := by rw [Array.getElem?_toList]; exact hc1
              have dc : digB c = true := List.all_eq_true.mp ha c (List.mem_of_getElem? hc2)
              refine ⟨10, _, rfl, rfl, Sm.cmul (j := 4) (show (10 : Int).natAbs < 2 ^ 4 by decide) (sm i), ?_⟩
              with_reducible refine s_m1 ?_
              walk_at "rd"
              refine ⟨⟨_, rfl⟩, ?_⟩
              walk_at "rd"
              refine ⟨_, _, _, _, rfl, rfl, dig_idx dc, ?_⟩
              walk_at "rd"
              refine ⟨some (.str ⟨#[c]⟩), ?_⟩
              rw [List.take_add_one, hc2]
              have e := val_snoc ((cps t).take i) c
              rw [show (some c).toList = [c] from rfl, e]
              have e2 : (10 : Int) * ((NumText.digitsVal ((cps t).take i) : Nat) : Int) + ((c - 48 : Nat) : Int) = ((NumText.digitsVal ((cps t).take i) * 10 + (c - 48) : Nat) : Int) := by omega
              rw [e2]
            · rintro σ H2 ⟨rfl, o, rfl⟩
              rw [e0]
              rw [eDE]
              walk_at "rd"
              have nk : numIn (cps t) = some (NumText.digitsVal (cps t)) := by
                unfold numIn
                refine if_pos ?_
                unfold numOk
                have w0 : (decide (some c0 = some 48) && decide (1 < (cps t).length)) = false := by
                  rw [Bool.and_eq_false_iff]
                  by_cases z : c0 = 48
                  · exact .inr (decide_eq_false fun l => g ⟨z, l⟩)
                  · exact .inl (decide_eq_false fun l => z (Option.some.inj l))
                rw [ha, ne, hh, w0]
                rfl
              have := k _ s1
              rw [nk] at this
              exact this
      · walk_at "rd"
        refine ite_n (fun h2 => ?_) (fun h2 => ?_)
        · walk_at "rd"
          have nk : numIn (cps t) = none := by
            unfold numIn numOk
            rw [hh, e48.mp h1, decide_eq_true rfl, decide_eq_true (show 1 < (cps t).length from ?_), Bool.and_true, Bool.not_true, Bool.and_false]
            · rfl
            · rw [hc]
              cases r with
              | nil => exact absurd (str_ext (y := Str.ofString "0") (hc.trans (by rw [e48.mp h1]; decide +kernel))) h2
              | cons _ _ => simp
          have := k H (L2.Same.refl _)
          rw [nk] at this
          exact ⟨1, rfl, this⟩
        · refine y fun z => ?_
          rw [h2] at z
          exact absurd z.2 (by decide +kernel)
theorem c__law_read : Dn P w K mg base "_law_read" 2 ["_law_line"] [] spLRead := by
  have c__law_number := c__law_number (P := P) (w := w) (base := base) M
  refine dnN M.f__law_read (fun F => ?_) (fun _ _ _ _ _ _ us hl => match us, hl with | [_], _ => rfl)
  refine fnG_body F sc__law_read (fun vs H Q E h => ?_) (fun cdv A outer s H vs Q E hr h => ?_)
  · obtain ⟨t, rfl, _⟩ := h
    rfl
  · obtain ⟨t, rfl, hl, k⟩ := h
    refine ⟨_, (pss_cons (ps_set (i := 1) sc__law_read.nd rfl (.inl rfl) (pe_m1 PySem.F.slot_str_find PySem.F.type_str_find mt_find (pv 0) pe_str)) (pss_cons (ps_if (pt_cmpR op_lt (pv 1) pe_int (nomark _)) (pss_cons (ps_set (i := 2) sc__law_read.nd rfl (.inl rfl) (pe_callD c__law_number (hr.mono (by decide)) rfl (pa_cons (pv 0) pa_nil))) (pss_one (ps_ret (pe_ifExp (pt_cmpR op_lt (pv 2) pe_int (nomark _)) pe_non (pe_tup (pa_cons (pv 2) (pa_cons (pv 2) pa_nil))))))) pss_nil) (pss_cons (ps_par (i := 2) (j := 3) (by rfl) sc__law_read.nd rfl rfl (by decide) rfl rfl (pa_cons (pe_callD c__law_number (hr.mono (by decide)) rfl (pa_cons (pe_slice sl_str (pv 0) po_none (po_some (pv 1))) pa_nil)) (pa_cons (pe_callD c__law_number (hr.mono (by decide)) rfl (pa_cons (pe_slice sl_str (pv 0) (po_some (pe_op op_add (pv 1) pe_int)) po_none) pa_nil)) pa_nil)) (by rfl)) (pss_cons (ps_if (pt_cmpR op_lt (pv 2) pe_int (nomark _)) (pss_one (ps_ret pe_non)) pss_nil) (pss_cons (ps_if (pt_cmpR op_eq (pe_slice sl_str (pv 0) (po_some (pe_op op_add (pv 1) pe_int)) po_none) pe_str (nomark _)) (pss_one (ps_ret (pe_tup (pa_cons (pv 2) (pa_cons pe_non pa_nil))))) pss_nil) (pss_one (ps_ret (pe_ifExp (pt_cmpR op_gt (pv 3) (pv 2) (nomark _)) (pe_tup (pa_cons (pv 2) (pa_cons (pv 3) pa_nil))) pe_non)))))))), ?_⟩
    refine st_eq (σ := [some _, none, none, none]) rfl ?_
    walk_at "rd"
    with_reducible refine s_m1 ?_
    walk_at "rd"
    refine ⟨⟨t, rfl⟩, ?_⟩
    walk_at "rd"
    refine ⟨t, dots, rfl, rfl, ?_⟩
    have hf : Txt.find t dots = (match occ t with | i :: _ => (i : Int) | [] => -1) := rfl
    rw [hf]
    cases eo : occ t with
    | nil =>
      dsimp only
      have hr : readOf t = (numIn (cps t)).map fun n => (n, some n) := by
        unfold readOf
        rw [eo]
      walk_at "rd"
      refine ite_d (fun _ => ?_) (fun z => absurd (by decide) z)
      walk_at "rd"
      refine ⟨t, rfl, hl, fun H1 s1 => ?_⟩
      walk_at "rd"
      cases en : numIn (cps t) with
      | none =>
        rw [en] at hr
        dsimp only [optI]
        refine ite_d (fun _ => ?_) (fun z => absurd (by decide) z)
        walk_at "rd"
        refine k _ H1 s1 ?_
        rw [hr]
        rfl
      | some n =>
        rw [en] at hr
        dsimp only [optI]
        walk_at "rd"
        refine ite_d (fun h1 => by omega) (fun h1 => ?_)
        walk_at "rd"
        rename_i p np
        refine k _ _ (s1.trans (My.Same.new np)) ?_
        rw [hr]
        exact ⟨p, rfl, upd_same⟩
    | cons i r =>
      dsimp only
      obtain ⟨pe, hh⟩ := head_tail eo
      have c1 : cutS t none (some (i : Int)) = head t i := cut_head t i
      have c2 : cutS t (some ((i : Int) + 2)) none = tail t i := cut_tail t i
      have hr : readOf t = match numIn (cps (head t i)) with
        | none => none
        | some l => if tail t i = "*" then some (l, none) else match numIn (cps (tail t i)) with
          | none => none
          | some h => if h ≤ l then none else some (l, some h) := by
        unfold readOf
        rw [eo]
        all_goals rfl
      walk_at "rd"
      refine ite_d (fun h1 => absurd h1 (Int.not_lt.mpr (Int.natCast_nonneg i))) (fun h1 => ?_)
      walk_at "rd"
      refine ⟨by rw [sizeLine_eq]; omega, ?_⟩
      walk_at "rd"
      rw [c1]
      refine ⟨head t i, rfl, by omega, fun H1 s1 => ?_⟩
      walk_at "rd"
      refine ⟨by rw [sizeLine_eq]; omega, ?_⟩
      walk_at "rd"
      rw [c2]
      refine ⟨tail t i, rfl, by omega, fun H2 s2 => ?_⟩
      have s12 := s1.trans s2
      walk_at "rd"
      cases e1 : numIn (cps (head t i)) with
      | none =>
        rw [e1] at hr
        dsimp only [optI]
        walk_at "rd"
        refine k _ _ s12 ?_
        rw [hr]
        rfl
      | some l =>
        rw [e1] at hr
        dsimp only at hr
        dsimp only [optI]
        walk_at "rd"
        refine ite_d (fun h1 => absurd h1 (Int.not_lt.mpr (Int.natCast_nonneg l))) (fun h1 => ?_)
        walk_at "rd"
        refine ⟨by rw [sizeLine_eq]; omega, ?_⟩
        rw [c2]
        walk_at "rd"
        refine ite_d (fun h1 => ?_) (fun h1 => ?_)
        · rw [if_pos h1] at hr
          walk_at "rd"
          rename_i p np
          refine k _ _ (s12.trans (My.Same.new np)) ?_
          rw [hr]
          exact ⟨p, rfl, upd_same⟩
        · rw [if_neg h1] at hr
          walk_at "rd"
          cases e2 : numIn (cps (tail t i)) with
          | none =>
            rw [e2] at hr
            dsimp only [optI]
            refine ite_d (fun h2 => by omega) (fun h2 => ?_)
            walk_at "rd"
            refine k _ _ s12 ?_
            rw [hr]
            rfl
          | some h =>
            rw [e2] at hr
            dsimp only at hr
            dsimp only [optI]
            refine ite_d (fun h2 => ?_) (fun h2 => ?_)
            · rw [if_neg (by omega)] at hr
              walk_at "rd"
              rename_i p np
              refine k _ _ (s12.trans (My.Same.new np)) ?_
              rw [hr]
              exact ⟨p, rfl, upd_same⟩
            · rw [if_pos (by omega)] at hr
              walk_at "rd"
              refine k _ _ s12 ?_
              rw [hr]
              rfl
end
end My
end
section
open My L2 PySem
open My L2 PySem
local macro_rules | `(tactic| walk_at "as") => `(tactic| with_reducible assumption)
local macro_rules | `(tactic| walk_at "hp") => `(tactic| first
  | walk_at "as" | exact upd_same
  | (rw [upd_ne (by walk_at "ne")]; walk_at "hp")
  | (refine But.get (by walk_at "as") ?hp1 ?hp2; (case hp1 => walk_at "hp"); (case hp2 => walk_at "ne"))
  | (refine My.Same.get (by walk_at "as") ?hp1; (case hp1 => walk_at "hp")))
local macro_rules | `(tactic| walk_at "ne") => `(tactic| first
  | walk_at "as" | exact Ne.symm (by walk_at "as")
  | (refine' ne_of_none ?ne1 ?ne2; (case ne2 => walk_at "as"); (case ne1 => walk_at "hp"))
  | (refine' Ne.symm (ne_of_none ?ne1 ?ne2); (case ne2 => walk_at "as"); (case ne1 => walk_at "hp"))
  | exact ne_of (by walk_at "hp") (by walk_at "hp") (by intro z; cases z))
local macro_rules | `(tactic| walk_at "sd") => `(tactic| first
  | walk_at "as" | omega | decide | exact ⟨by omega, by omega⟩ | exact .inl ⟨by omega, by omega⟩ | exact .inr ⟨by omega, by omega⟩ | exact divp_wide (by walk_at "as") (by walk_at "as") | exact Sm.cmul (by walk_at "as") (by walk_at "as") | exact cmul_small (by omega) (by omega) (by omega) (by omega) | exact ⟨by omega, by decide⟩)
local macro_rules | `(tactic| walk_at "bt") => `(tactic| first
  | walk_at "as" | exact But.refl _ _ | exact Same.but (by walk_at "as")
  | (refine But.trans ?bt1 But.at; (case bt1 => walk_at "bt"))
  | (refine But.trans ?bt1 (But.new (by first | walk_at "as" | walk_at "hp")); (case bt1 => walk_at "bt"))
  | (refine But.trans ?bt1 (by walk_at "as"); (case bt1 => walk_at "bt"))
  | (refine But.trans ?bt1 (Same.but (by walk_at "as")); (case bt1 => walk_at "bt")))
local macro_rules | `(tactic| walk_at "sm") => `(tactic| first
  | walk_at "as" | exact My.Same.rfl' _
  | (refine' My.Same.at_ ?sm1 ?sm2; (case sm1 => walk_at "as"); (case sm2 => walk_at "sm"))
  | (refine' My.Same.tr ?sm1 (My.Same.new ?sm2); (case sm2 => walk_at "as"); (case sm1 => walk_at "sm"))
  | (refine' My.Same.tr ?sm1 ?sm2; (case sm2 => walk_at "as"); (case sm1 => walk_at "sm")))
local macro_rules | `(tactic| walk_at "sz") => `(tactic| first
  | assumption | exact lt_size (by rfl) | exact le_size (by rfl) | (rw [sizeLine_eq]; omega)
  | (rw [sizeLine_eq]; simp only [List.length_append, List.length_map, List.length_cons, List.length_nil]; omega))
local macro_rules | `(tactic| walk_at "few") => `(tactic| (repeat refine few_put ?_); exact few0)
local macro_rules | `(tactic| walk_at "rd1") => `(tactic| first
  | (with_reducible show tVar _ _ _ _); refine s_var rfl ?_
  | with_reducible refine s_c ?_ | with_reducible refine s_op ?_ | with_reducible refine s_un ?_
  | with_reducible refine s_cons ?_ | with_reducible refine s_nil ?_ | with_reducible refine s_cb ?_
  | with_reducible refine s_test ?_ | with_reducible refine s_B ?_ | with_reducible refine s_not ?_ | with_reducible refine s_and ?_ | with_reducible refine s_or ?_
  | with_reducible refine s_if ?_ | with_reducible refine s_notV ?_ | with_reducible refine s_andV ?_ | with_reducible refine s_orV ?_
  | with_reducible refine s_orT ?_ | with_reducible refine s_andT ?_ | with_reducible refine s_chain ?_
  | with_reducible refine s_isi_int ?_ | with_reducible refine s_isi_int_bool ?_ | with_reducible refine s_isi_str ?_
  | with_reducible refine iteT ?_ | with_reducible refine iteF ?_ | with_reducible refine iteNT ?_ | with_reducible refine iteNF ?_
  | with_reducible refine s_isN ?_ | with_reducible refine s_notN ?_
  | ((with_reducible refine' s_2setE ?g1 ?_); (case g1 => first | (dsimp only [List.set, L2.wipe, List.map, List.foldl]; done) | (dsimp only [List.set, L2.wipe, List.map, List.foldl]; rfl)))
  | with_reducible refine s_seq ?_ | with_reducible refine s_ifS ?_ | with_reducible refine s_asg ?_ | with_reducible refine s_ret ?_ | with_reducible refine s_drop ?_ | with_reducible refine s_next ?_
  | ((with_reducible refine' s_gnameE ?g1 ?_); (case g1 => first | (dsimp only [List.set, L2.wipe, List.map, List.foldl]; done) | (dsimp only [List.set, L2.wipe, List.map, List.foldl]; rfl)))
  | with_reducible refine s_gsub ?_ | with_reducible refine s_gcons ?_ | with_reducible refine s_gnil ?_
  | (with_reducible show gTup _ _ _ _ _ _ _); refine s_gtup (by walk_at "hp") rfl ?_
  | with_reducible refine s_eqI ?_ | with_reducible refine s_neI ?_ | with_reducible refine s_eqS ?_ | with_reducible refine s_neB ?_ | with_reducible refine s_eqB ?_ | with_reducible refine s_neSr ?_ | with_reducible refine s_neS ?_
  | with_reducible refine s_I0 ?_
  | (with_reducible show rI _ _ _ _ _ _); refine s_I (by walk_at "sd") ?_
  | (with_reducible show rIxL _ _ _ _ _); refine s_ixL (by walk_at "hp") rfl ?_
  | (with_reducible show rIxT _ _ _ _ _); refine s_ixT (by walk_at "hp") rfl ?_
  | (with_reducible show rSetL _ _ _ _ _); refine s_setL (by walk_at "hp") rfl ?_
  | with_reducible refine s_prop ?_
  | (with_reducible show _ ≤ sizeLine ∧ _); refine ⟨le_size (by rfl), ?_⟩
  | with_reducible refine ite_NN ?_ | with_reducible refine ite_IN ?_ | with_reducible refine ite_nNN ?_ | with_reducible refine ite_nIN ?_ | with_reducible refine ite_RN ?_ | with_reducible refine ite_nRN ?_
  | with_reducible refine s_sfld ?_
  | ((with_reducible refine' ⟨_, _, _, _, rfl, ?fp1, ?fp2, ?fp3, ?fp4, ?_⟩); (case fp1 => walk_at "hp"); (case fp2 => assumption); (case fp3 => assumption); (case fp4 => walk_at "few"))
  | with_reducible refine s_fldE ?_
  | ((with_reducible refine' ⟨_, _, _, _, _, rfl, ?fp1, ?fp2, ?fp3, ?fp4, ?_⟩); (case fp1 => walk_at "hp"); (case fp2 => assumption); (case fp3 => assumption); (case fp4 => rfl))
  | with_reducible refine s_bm ?_ | with_reducible refine s_bm0 ?_
  | ((with_reducible refine' s_tyL ?ty1 ?_); (case ty1 => walk_at "hp"))
  | ((with_reducible refine' s_append ?ap1 ?ap2 ?_); (case ap1 => walk_at "hp"); (case ap2 => walk_at "sz"))
  | ((with_reducible refine' s_extend ?ap1 ?ap2 ?ap3 ?_); (case ap1 => walk_at "hp"); (case ap2 => walk_at "hp"); (case ap3 => walk_at "sz"))
  | with_reducible refine s_for (fun _ _ => ?_) | with_reducible refine s_lc ?_ | with_reducible refine s_iList ?_ | with_reducible refine s_iTup ?_ | with_reducible refine s_iRng1 ?_ | with_reducible refine s_iRng2 ?_
  | with_reducible refine s_yes ?_ | with_reducible refine s_par ?_
  | with_reducible refine s_make ?_ | with_reducible refine s_meth ?_
  | with_reducible refine s_tup ?_ | with_reducible refine s_lst ?_ | with_reducible refine s_call ?_
  | with_reducible refine ⟨rfl, ?_⟩
  | with_reducible refine ⟨_, rfl, ?_⟩
  | ((with_reducible refine' ⟨_, _, rfl, ?sd1, ?_⟩); (case sd1 => walk_at "sd"))
  | with_reducible refine ⟨_, _, rfl, ?_⟩
  | with_reducible refine .inl ⟨_, rfl, ?_⟩
  | dsimp only [List.set]
  | walk_at "rdx"
  | (refine fun _ _ => ?_))
local macro_rules | `(tactic| walk_at "rd") => `(tactic| repeat (first
  | (with_reducible show tVar _ _ _ _); refine s_var rfl ?_
  | with_reducible refine s_c ?_ | with_reducible refine s_op ?_ | with_reducible refine s_un ?_
  | with_reducible refine s_cons ?_ | with_reducible refine s_nil ?_ | with_reducible refine s_cb ?_
  | with_reducible refine s_test ?_ | with_reducible refine s_B ?_ | with_reducible refine s_not ?_ | with_reducible refine s_and ?_ | with_reducible refine s_or ?_
  | with_reducible refine s_if ?_ | with_reducible refine s_notV ?_ | with_reducible refine s_andV ?_ | with_reducible refine s_orV ?_
  | with_reducible refine s_orT ?_ | with_reducible refine s_andT ?_ | with_reducible refine s_chain ?_
  | with_reducible refine s_isi_int ?_ | with_reducible refine s_isi_int_bool ?_ | with_reducible refine s_isi_str ?_
  | with_reducible refine iteT ?_ | with_reducible refine iteF ?_ | with_reducible refine iteNT ?_ | with_reducible refine iteNF ?_
  | with_reducible refine s_isN ?_ | with_reducible refine s_notN ?_
  | ((with_reducible refine' s_2setE ?g1 ?_); (case g1 => first | (dsimp only [List.set, L2.wipe, List.map, List.foldl]; done) | (dsimp only [List.set, L2.wipe, List.map, List.foldl]; rfl)))
  | with_reducible refine s_seq ?_ | with_reducible refine s_ifS ?_ | with_reducible refine s_asg ?_ | with_reducible refine s_ret ?_ | with_reducible refine s_drop ?_ | with_reducible refine s_next ?_
  | ((with_reducible refine' s_gnameE ?g1 ?_); (case g1 => first | (dsimp only [List.set, L2.wipe, List.map, List.foldl]; done) | (dsimp only [List.set, L2.wipe, List.map, List.foldl]; rfl)))
  | with_reducible refine s_gsub ?_ | with_reducible refine s_gcons ?_ | with_reducible refine s_gnil ?_
  | (with_reducible show gTup _ _ _ _ _ _ _); refine s_gtup (by walk_at "hp") rfl ?_
  | with_reducible refine s_eqI ?_ | with_reducible refine s_neI ?_ | with_reducible refine s_eqS ?_ | with_reducible refine s_neB ?_ | with_reducible refine s_eqB ?_ | with_reducible refine s_neSr ?_ | with_reducible refine s_neS ?_
  | with_reducible refine s_I0 ?_
  | (with_reducible show rI _ _ _ _ _ _); refine s_I (by walk_at "sd") ?_
  | (with_reducible show rIxL _ _ _ _ _); refine s_ixL (by walk_at "hp") rfl ?_
  | (with_reducible show rIxT _ _ _ _ _); refine s_ixT (by walk_at "hp") rfl ?_
  | (with_reducible show rSetL _ _ _ _ _); refine s_setL (by walk_at "hp") rfl ?_
  | with_reducible refine s_prop ?_
  | (with_reducible show _ ≤ sizeLine ∧ _); refine ⟨le_size (by rfl), ?_⟩
  | with_reducible refine ite_NN ?_ | with_reducible refine ite_IN ?_ | with_reducible refine ite_nNN ?_ | with_reducible refine ite_nIN ?_ | with_reducible refine ite_RN ?_ | with_reducible refine ite_nRN ?_
  | with_reducible refine s_sfld ?_
  | ((with_reducible refine' ⟨_, _, _, _, rfl, ?fp1, ?fp2, ?fp3, ?fp4, ?_⟩); (case fp1 => walk_at "hp"); (case fp2 => assumption); (case fp3 => assumption); (case fp4 => walk_at "few"))
  | with_reducible refine s_fldE ?_
  | ((with_reducible refine' ⟨_, _, _, _, _, rfl, ?fp1, ?fp2, ?fp3, ?fp4, ?_⟩); (case fp1 => walk_at "hp"); (case fp2 => assumption); (case fp3 => assumption); (case fp4 => rfl))
  | with_reducible refine s_bm ?_ | with_reducible refine s_bm0 ?_
  | ((with_reducible refine' s_tyL ?ty1 ?_); (case ty1 => walk_at "hp"))
  | ((with_reducible refine' s_append ?ap1 ?ap2 ?_); (case ap1 => walk_at "hp"); (case ap2 => walk_at "sz"))
  | ((with_reducible refine' s_extend ?ap1 ?ap2 ?ap3 ?_); (case ap1 => walk_at "hp"); (case ap2 => walk_at "hp"); (case ap3 => walk_at "sz"))
  | with_reducible refine s_for (fun _ _ => ?_) | with_reducible refine s_lc ?_ | with_reducible refine s_iList ?_ | with_reducible refine s_iTup ?_ | with_reducible refine s_iRng1 ?_ | with_reducible refine s_iRng2 ?_
  | with_reducible refine s_yes ?_ | with_reducible refine s_par ?_
  | with_reducible refine s_make ?_ | with_reducible refine s_meth ?_
  | with_reducible refine s_tup ?_ | with_reducible refine s_lst ?_ | with_reducible refine s_call ?_
  | with_reducible refine ⟨rfl, ?_⟩
  | with_reducible refine ⟨_, rfl, ?_⟩
  | ((with_reducible refine' ⟨_, _, rfl, ?sd1, ?_⟩); (case sd1 => walk_at "sd"))
  | with_reducible refine ⟨_, _, rfl, ?_⟩
  | with_reducible refine .inl ⟨_, rfl, ?_⟩
  | dsimp only [List.set]
  | walk_at "rdx"
  | (refine fun _ _ => ?_)))

namespace My
open PySem L2
section
variable {P : Program} {w : World} {K : PySem.W.Frag} {mg : Str → Option Value} {base : Heap} {C_Many C_EachError C_InvalidText : Addr} (M : Md K mg C_Many C_EachError C_InvalidText)
include M
local macro_rules | `(tactic| walk_at "rdx") => `(tactic| first | with_reducible refine s_ostG ?_ | with_reducible refine s_raE ?_ | with_reducible refine s_callX ?_ | with_reducible refine s_staXk ?_ | with_reducible refine s_slS ?_ | with_reducible refine s_noPart ?_ | with_reducible refine s_part ?_ | ((with_reducible refine' s_mcall ?mc1 ?mc2 ?_); (case mc1 => walk_at "hp"); (case mc2 => rfl)))
omit M
def optD : Option Nat → PyData
  | none => .none
  | some n => .int n
def dueOf : Option (Nat × Option Nat) → Str
  | none => "line 1True"
  | some (l, h) => PyData.shown (.list [.int l, optD h])
def spTold (K : PySem.W.Frag) : Sp := fun vs H Q _ => ∃ v : V, vs = [v] ∧ ((∃ x : Str, v = .str x ∧ x.length ≤ 500 ∧ ∀ H', L2.Same H H' → Q (.str (dueOf (readOf x))) H') ∨
  ∃ t, TyX K H v t ∧ PySem.W.kitOne K t (.type "str") = some false ∧ ∀ H', L2.Same H H' → Q (.str (dueOf none)) H')
theorem optN_V (h : Option Nat) : optV (oI h) = optN h := by cases h <;> rfl
theorem len_num (n : Nat) : (Str.ofString (toString (n : Int))).length = (TL.numL n).length := by
  have e : (Str.ofString (toString (n : Int))).length = (cps (Str.ofString (toString (n : Int)))).length := by
    rw [Array.length_toList]
    rfl
  rw [e, cps_num]
theorem read_sm {x : Str} {l : Nat} {h : Option Nat} (e : readOf x = some (l, h)) (hl : x.length ≤ 500) : Sm 1900 l ∧ ∀ n, h = some n → Sm 1900 n := by
  have w := congrArg Str.length (words_read e)
  cases h with
  | none =>
    have w2 : (Str.ofString (toString (l : Int)) ++ "..*").length = x.length := w
    rw [strLen_append, len_num] at w2
    exact ⟨sm_len (k := 500) (by omega) (by omega), fun n z => nomatch z⟩
  | some m =>
    by_cases z : l = m
    · have w2 : (if l = m then Str.ofString (toString (l : Int)) else Str.ofString (toString (l : Int)) ++ ".." ++ Str.ofString (toString (m : Int))).length = x.length := w
      rw [if_pos z, len_num] at w2
      refine ⟨sm_len (k := 500) (by omega) (by omega), fun n q => ?_⟩
      cases q
      rw [← z]
      exact sm_len (k := 500) (by omega) (by omega)
    · have w2 : (if l = m then Str.ofString (toString (l : Int)) else Str.ofString (toString (l : Int)) ++ ".." ++ Str.ofString (toString (m : Int))).length = x.length := w
      rw [if_neg z, strLen_append, strLen_append, len_num, len_num] at w2
      refine ⟨sm_len (k := 500) (by omega) (by omega), fun n q => ?_⟩
      cases q
      exact sm_len (k := 500) (by omega) (by omega)
theorem s_reprP {K : PySem.W.Frag} {H : Hp} {D : Addr} {l : Nat} {h : Option Nat} (e : H D = some (.lst [.int l, optN h])) (z1 : Sm 1900 l) (z2 : ∀ n, h = some n → Sm 1900 n) :
    Dp K H (.ref D) (.list [.int l, optD h]) ∧ PySem.SeqAt.shaped (.list [.int l, optD h]) = true ∧ (PyData.list [.int l, optD h]).showable = true ∧ (PyData.list [.int l, optD h]).hasDict = false ∧ (PyData.list [.int l, optD h]).shown.length ≤ sizeLine := by
  cases h with
  | none =>
    refine ⟨.lst (SqL.of e) (.cons (.int _) (.cons .non .nil)), rfl, ?_, rfl, ?_⟩
    · have l1 := z1.log2
      simp [optD, PyData.showable, PyData.showableAll]
      simpa using l1
    · have h1 := PyData.shown_le_bulk 600 (by decide) (.list [.int l, optD none]) (by simp [optD, PyData.leavesShort, PyData.leavesShortAll, PyData.shown]; exact num_len z1)
      have h2 : (PyData.list [.int (l : Int), optD none]).bulk = 2 := rfl
      rw [h2] at h1
      rw [sizeLine_eq]
      omega
  | some m =>
    refine ⟨.lst (SqL.of e) (.cons (.int _) (.cons (.int _) .nil)), rfl, ?_, rfl, ?_⟩
    · have l1 := z1.log2
      have l2 := (z2 m rfl).log2
      simp [optD, PyData.showable, PyData.showableAll]
      exact ⟨by simpa using l1, by simpa using l2⟩
    · have h1 := PyData.shown_le_bulk 600 (by decide) (.list [.int l, optD (some m)]) (by simp [optD, PyData.leavesShort, PyData.leavesShortAll, PyData.shown]; exact ⟨num_len z1, num_len (z2 m rfl)⟩)
      have h2 : (PyData.list [.int (l : Int), optD (some m)]).bulk = 2 := rfl
      rw [h2] at h1
      rw [sizeLine_eq]
      omega
theorem nf_own {K : PySem.W.Frag} {C : Addr} : PySem.W.notFirst K C (.ref C) = true := by
  unfold PySem.W.notFirst
  simp
theorem ok_app {a b : Str} (h : PyData.strOk a = true) (g : PyData.strOk b = true) : PyData.strOk (a ++ b) = true := by
  unfold PyData.strOk at h g ⊢
  show (a.cps ++ b.cps).all _ = true
  rw [Array.all_append, h, g]
  rfl
theorem ok_num (n : Nat) : PyData.strOk (Str.ofString (toString (n : Int))) = true := by
  unfold PyData.strOk
  rw [← Array.all_toList, List.all_eq_true]
  intro c hc
  have e : c ∈ TL.numL n := by
    rw [← cps_num]
    exact hc
  have := TL.numL_digits n c e
  exact decide_eq_true (by omega)
theorem ok_words : ∀ p : Nat × Option Nat, PyData.strOk (words p) = true
  | (l, none) => ok_app (ok_num l) (by decide +kernel)
  | (l, some h) => by
    show PyData.strOk (if l = h then _ else _) = true
    split
    · exact ok_num l
    · exact ok_app (ok_app (ok_num l) (by decide +kernel)) (ok_num h)
theorem tx_1T : ("line " : Str) ++ PyData.shown (.int 1) ++ PyData.shown (.bool true) = Str.ofString "line 1True" := by decide +kernel
include M
theorem c__law_told : Dn P w K mg base "_law_told" 7 ["_law_x"] [] (spTold K) := by
  have c_Many_read := c_Many_read (P := P) (w := w) (base := base) M
  have k_Many_read := k_Many_read (P := P) (w := w) (base := base) M
  have c_Many_least := c_Many_least (P := P) (w := w) (base := base) M
  have c_Many_most := c_Many_most (P := P) (w := w) (base := base) M
  have c_Many___eq__ := c_Many___eq__ (P := P) (w := w) (base := base) M
  have c_Many___str__ := c_Many___str__ (P := P) (w := w) (base := base) M
  refine dnN M.f__law_told (fun F => ?_) (fun _ _ _ _ _ _ us hl => match us, hl with | [_], _ => rfl)
  refine fnG_body F sc__law_told (fun vs H Q E h => ?_) (fun cdv A outer s H vs Q E hr h => ?_)
  · obtain ⟨t, rfl, _⟩ := h
    rfl
  · obtain ⟨v, rfl, h⟩ := h
    refine ⟨_, (pss_cons (ps_set (i := 1) sc__law_told.nd rfl (.inl rfl) pe_str) (pss_cons (ps_try_as (i := 3) rfl rfl sc__law_told.nd rfl rfl ⟨rfl, by decide, .inl M.m_InvalidText⟩ takes_none5 (fun W pn xe tk _ => (pss_cons (ps_set (i := 2) sc__law_told.nd rfl (.inl rfl) (pe_staX c_Many_read tk (hr.mono (by decide)) rfl (pa_cons (pv 0) pa_nil))) (pss_cons (ps_set (i := 1) sc__law_told.nd rfl (.inl rfl) (pe_callB (call_reprDK (K := K) rfl hr) (by rfl) M.b_repr (by decide +kernel) (pa_cons (pe_lst (pa_cons (pe_propD c_Many_least (pv 2) (hr.mono (by decide)) rfl) (pa_cons (pe_propD c_Many_most (pv 2) (hr.mono (by decide)) rfl) pa_nil))) pa_nil))) (pss_one (ps_if (PW.pt (pw_or (pt_cmpR (or_neOK (K := K) rfl c_Many___eq__ M.ne_Many M.mo_Many (hr.mono (by decide))) (pv 2) (pe_staXk k_Many_read tk (hr.mono (by decide)) rfl (pk_cons (pv 0) pk_nil)) (nomark _)) (pw_or1 (pt_cmpR (op_neDK (K := K) rfl hr.units) (pe_callTy (call_strO c_Many___str__ (hr.mono (by decide))) (by rfl) M.b_str (by decide +kernel) (pa_cons (pv 2) pa_nil)) (pv 0) (nomark _))))) (pss_one (ps_set (i := 1) sc__law_told.nd rfl (.inl rfl) pe_str)) pss_nil))))) (fun a oe cls d pn hz hf => (pss_one (ps_set (i := 1) sc__law_told.nd rfl (.inl rfl) (pe_op op_add_str (pe_op op_add_str pe_str (pe_callB call_reprL (by rfl) M.b_repr (by decide +kernel) (pa_cons (pe_xf (M.x_InvalidText.xf (ups _ _ "ValueError")) M.n_InvalidText_line hz hf (pv 3)) pa_nil))) (pe_callB call_reprL (by rfl) M.b_repr (by decide +kernel) (pa_cons (pe_callB (call_isS hz hf) (by rfl) M.b_isinstance (by decide +kernel) (pa_cons (pv 3) (pa_cons (pe_glob (v := .ref C_EachError) rfl M.m_EachError rfl) pa_nil))) pa_nil))))))) (pss_one (ps_ret (pv 1))))), ?_⟩
    refine st_eq (σ := [some _, none, none, none]) rfl ?_
    have T := M.x_InvalidText.exc (ups _ _ "ValueError") M.hn_exc M.ht_exc
    have ek : PySem.W.kitOne K (.ref C_InvalidText) (.ref C_EachError) = some true := (M.x_InvalidText.kit (ups _ _ "ValueError") M.x_EachError).trans (by simp)
    have em : PySem.W.exmOne K (.ref C_InvalidText) (.ref C_InvalidText) = some true := PySem.W.exm_ref T.hs T.hd M.x_InvalidText.ty ((M.x_InvalidText.sub rfl _).trans (by simp))
    rcases h with ⟨x, rfl, hl, q⟩ | ⟨t, ht, hk, q⟩
    · walk_at "rd"
      refine ⟨.str x, rfl, .inl ⟨x, rfl, hl, fun hr dd H1 s1 hd => ?_, fun l h hr m H1 s1 hm => ?_⟩⟩
      · refine ⟨true, em, fun _ a na => ?_, fun z => nomatch z⟩
        walk_at "rd"
        dsimp only [L2.tXf]
        walk_at "rd"
        refine ⟨dd, _, _, rfl, hd, rfl, ?_⟩
        walk_at "rd"
        refine .inl ⟨1, rfl, by decide, ?_⟩
        refine ⟨_, _, rfl, rfl, by decide +kernel, ?_⟩
        walk_at "rd"
        refine ⟨C_InvalidText, rfl, T, fun d e => ⟨_, Option.some.inj e ▸ hd⟩, .ref C_EachError, .ref C_EachError, true, rfl, fun u r => r, ek, ?_⟩
        walk_at "rd"
        refine .inr ⟨true, rfl, ?_⟩
        refine ⟨_, _, rfl, rfl, by decide +kernel, ?_⟩
        rw [tx_1T]
        walk_at "rd"
        have := q H1 s1
        rw [hr] at this
        exact this
      · walk_at "rd"
        obtain ⟨dx, ky, e, e2⟩ := id hm
        refine ⟨m, dx, _, rfl, e, m, l, oI h, rfl, hm, ?_⟩
        walk_at "rd"
        refine ⟨m, dx, _, rfl, e, m, l, oI h, rfl, hm, ?_⟩
        walk_at "rd"
        rename_i p np
        obtain ⟨z1, z2⟩ := read_sm hr hl
        obtain ⟨d1, d2, d3, d4, d5⟩ := s_reprP (K := K) (H := L2.upd H1 p (.lst [.int l, optV (oI h)])) (D := p) (l := l) (h := h) (by rw [upd_same, optN_V]) z1 z2
        refine ⟨.ref p, _, rfl, d1, d2, d3, d4, d5, ?_⟩
        have s2 := s1.trans (My.Same.new (H := H1) (o := .lst [.int l, optV (oI h)]) np)
        have hm2 := hm.same (My.Same.new (o := .lst [.int l, optV (oI h)]) np)
        generalize L2.upd H1 p (.lst [.int l, optV (oI h)]) = H2 at s2 hm2 ⊢
        walk_at "rd"
        refine ⟨.str x, rfl, .inl ⟨x, rfl, hl, fun hr2 => ?_, fun l2 h2 hr2 m2 H3 s3 hm3 => ?_⟩⟩
        · rw [hr] at hr2
          cases hr2
        · rw [hr] at hr2
          obtain ⟨rfl, rfl⟩ := Prod.mk.inj (Option.some.inj hr2)
          have hm4 := hm2.same s3
          obtain ⟨dx1, ky1, e3, e4⟩ := id hm4
          obtain ⟨dx2, ky2, e5, e6⟩ := id hm3
          refine ⟨m, dx1, _, .ref C_Many, rfl, e3, .base (M.z_Many e5), nf_own, m, m2, l, oI h, rfl, hm4, hm3, true, rfl, ?_⟩
          walk_at "rd"
          refine ⟨m, dx1, _, rfl, e3, m, l, h, rfl, hm4, z1, z2, x, by rw [words_read hr], ?_⟩
          walk_at "rd"
          have shp : SeqAt.shaped (.str x) = true := by
            unfold SeqAt.shaped
            rw [show (PyData.str x).canLay0 = PyData.strOk x from rfl, ← words_read hr, ok_words]
            rfl
          refine ⟨.str x, .str x, .str _, .str _, shp, shp, ?_⟩
          rw [show PyData.eqv (.str x) (.str x) = true from by simp [PyData.eqv]]
          walk_at "rd"
          have := q H3 (s2.trans s3)
          rw [hr] at this
          exact this
    · walk_at "rd"
      refine ⟨v, rfl, .inr ⟨t, ht, hk, fun dd H1 s1 hd => ?_⟩⟩
      refine ⟨true, em, fun _ a na => ?_, fun z => nomatch z⟩
      walk_at "rd"
      dsimp only [L2.tXf]
      walk_at "rd"
      refine ⟨dd, _, _, rfl, hd, rfl, ?_⟩
      walk_at "rd"
      refine .inl ⟨1, rfl, by decide, ?_⟩
      refine ⟨_, _, rfl, rfl, by decide +kernel, ?_⟩
      walk_at "rd"
      refine ⟨C_InvalidText, rfl, T, fun d e => ⟨_, Option.some.inj e ▸ hd⟩, .ref C_EachError, .ref C_EachError, true, rfl, fun u r => r, ek, ?_⟩
      walk_at "rd"
      refine .inr ⟨true, rfl, ?_⟩
      refine ⟨_, _, rfl, rfl, by decide +kernel, ?_⟩
      rw [tx_1T]
      walk_at "rd"
      exact q H1 s1
theorem c__law_text_right : Dn P w K mg base "_law_text_right" 8 ["_law_line"] [] (fun vs H Q _ => ∃ t : Str, vs = [.str t] ∧ t.length ≤ 500 ∧ ∀ H', L2.Same H H' → Q (.bl true) H') := by
  have c__law_told := c__law_told (P := P) (w := w) (base := base) M
  have c__law_read := c__law_read (P := P) (w := w) (base := base) M
  refine dnN M.f__law_text_right (fun F => ?_) (fun _ _ _ _ _ _ us hl => match us, hl with | [_], _ => rfl)
  refine fnG_body F sc__law_text_right (fun vs H Q E h => ?_) (fun cdv A outer s H vs Q E hr h => ?_)
  · obtain ⟨t, rfl, _⟩ := h
    rfl
  · obtain ⟨t, rfl, hl, q⟩ := h
    refine ⟨_, (pss_cons (ps_set (i := 1) sc__law_text_right.nd rfl (.inl rfl) (pe_callD c__law_read (hr.mono (by decide)) rfl (pa_cons (pv 0) pa_nil))) (pss_cons (ps_set (i := 2) sc__law_text_right.nd rfl (.inl rfl) (pe_ifExp (pt_cmpR op_isN (pv 1) pe_non (nomark _)) pe_str (pe_callB (call_reprD hr) (by rfl) M.b_repr (by decide +kernel) (pa_cons (pe_lst (pa_cons (pe_ix ix_tup (pv 1) pe_int (fun _ _ => rfl)) (pa_cons (pe_ix ix_tup (pv 1) pe_int (fun _ _ => rfl)) pa_nil))) pa_nil)))) (pss_one (ps_ret (pe_cmpR op_eq (pe_callD c__law_told (hr.mono (by decide)) rfl (pa_cons (pv 0) pa_nil)) (pv 2) (nomark _)))))), ?_⟩
    refine st_eq (σ := [some _, none, none]) rfl ?_
    walk_at "rd"
    refine ⟨t, rfl, hl, fun v H1 s1 hp => ?_⟩
    have fin : ∀ H2, L2.Same H1 H2 → ∀ b : Bool, b = true → Q (.bl b) H2 := fun H2 s2 b e => by
      rw [e]
      exact q H2 (s1.trans s2)
    cases e : readOf t with
    | none =>
      rw [e] at hp
      cases (show v = .non from hp)
      walk_at "rd"
      refine ⟨.str t, rfl, .inl ⟨t, rfl, hl, fun H2 s2 => ?_⟩⟩
      rw [e]
      walk_at "rd"
      exact fin H2 s2 _ (decide_eq_true rfl)
    | some lh =>
      obtain ⟨l, h⟩ := lh
      rw [e] at hp
      obtain ⟨p, rfl, hq⟩ := hp
      obtain ⟨z1, z2⟩ := read_sm e hl
      walk_at "rd"
      rename_i D nD
      obtain ⟨d1, d2, d3, d4, d5⟩ := s_reprP (K := K) (H := L2.upd H1 D (.lst [.int l, optN h])) (D := D) (l := l) (h := h) upd_same z1 z2
      refine ⟨.ref D, _, rfl, d1, d2, d3, d4, d5, ?_⟩
      walk_at "rd"
      refine ⟨.str t, rfl, .inl ⟨t, rfl, hl, fun H2 s2 => ?_⟩⟩
      rw [e]
      walk_at "rd"
      exact fin H2 ((My.Same.new nD).trans s2) _ (decide_eq_true rfl)
end
end My
end
section
open My L2 PySem
open My L2 PySem
local macro_rules | `(tactic| walk_at "as") => `(tactic| with_reducible assumption)
local macro_rules | `(tactic| walk_at "hp") => `(tactic| first
  | walk_at "as" | exact upd_same
  | (rw [upd_ne (by walk_at "ne")]; walk_at "hp")
  | (refine But.get (by walk_at "as") ?hp1 ?hp2; (case hp1 => walk_at "hp"); (case hp2 => walk_at "ne"))
  | (refine My.Same.get (by walk_at "as") ?hp1; (case hp1 => walk_at "hp")))
local macro_rules | `(tactic| walk_at "ne") => `(tactic| first
  | walk_at "as" | exact Ne.symm (by walk_at "as")
  | (refine' ne_of_none ?ne1 ?ne2; (case ne2 => walk_at "as"); (case ne1 => walk_at "hp"))
  | (refine' Ne.symm (ne_of_none ?ne1 ?ne2); (case ne2 => walk_at "as"); (case ne1 => walk_at "hp"))
  | exact ne_of (by walk_at "hp") (by walk_at "hp") (by intro z; cases z))
local macro_rules | `(tactic| walk_at "sd") => `(tactic| first
  | walk_at "as" | omega | decide | exact ⟨by omega, by omega⟩ | exact .inl ⟨by omega, by omega⟩ | exact .inr ⟨by omega, by omega⟩ | exact divp_wide (by walk_at "as") (by walk_at "as") | exact Sm.cmul (by walk_at "as") (by walk_at "as") | exact cmul_small (by omega) (by omega) (by omega) (by omega) | exact ⟨by omega, by decide⟩)
local macro_rules | `(tactic| walk_at "bt") => `(tactic| first
  | walk_at "as" | exact But.refl _ _ | exact Same.but (by walk_at "as")
  | (refine But.trans ?bt1 But.at; (case bt1 => walk_at "bt"))
  | (refine But.trans ?bt1 (But.new (by first | walk_at "as" | walk_at "hp")); (case bt1 => walk_at "bt"))
  | (refine But.trans ?bt1 (by walk_at "as"); (case bt1 => walk_at "bt"))
  | (refine But.trans ?bt1 (Same.but (by walk_at "as")); (case bt1 => walk_at "bt")))
local macro_rules | `(tactic| walk_at "sm") => `(tactic| first
  | walk_at "as" | exact My.Same.rfl' _
  | (refine' My.Same.at_ ?sm1 ?sm2; (case sm1 => walk_at "as"); (case sm2 => walk_at "sm"))
  | (refine' My.Same.tr ?sm1 (My.Same.new ?sm2); (case sm2 => walk_at "as"); (case sm1 => walk_at "sm"))
  | (refine' My.Same.tr ?sm1 ?sm2; (case sm2 => walk_at "as"); (case sm1 => walk_at "sm")))
local macro_rules | `(tactic| walk_at "sz") => `(tactic| first
  | assumption | exact lt_size (by rfl) | exact le_size (by rfl) | (rw [sizeLine_eq]; omega)
  | (rw [sizeLine_eq]; simp only [List.length_append, List.length_map, List.length_cons, List.length_nil]; omega))
local macro_rules | `(tactic| walk_at "few") => `(tactic| (repeat refine few_put ?_); exact few0)
local macro_rules | `(tactic| walk_at "rd1") => `(tactic| first
  | (with_reducible show tVar _ _ _ _); refine s_var rfl ?_
  | with_reducible refine s_c ?_ | with_reducible refine s_op ?_ | with_reducible refine s_un ?_
  | with_reducible refine s_cons ?_ | with_reducible refine s_nil ?_ | with_reducible refine s_cb ?_
  | with_reducible refine s_test ?_ | with_reducible refine s_B ?_ | with_reducible refine s_not ?_ | with_reducible refine s_and ?_ | with_reducible refine s_or ?_
  | with_reducible refine s_if ?_ | with_reducible refine s_notV ?_ | with_reducible refine s_andV ?_ | with_reducible refine s_orV ?_
  | with_reducible refine s_orT ?_ | with_reducible refine s_andT ?_ | with_reducible refine s_chain ?_
  | with_reducible refine s_isi_int ?_ | with_reducible refine s_isi_int_bool ?_ | with_reducible refine s_isi_str ?_
  | with_reducible refine iteT ?_ | with_reducible refine iteF ?_ | with_reducible refine iteNT ?_ | with_reducible refine iteNF ?_
  | with_reducible refine s_isN ?_ | with_reducible refine s_notN ?_
  | ((with_reducible refine' s_2setE ?g1 ?_); (case g1 => first | (dsimp only [List.set, L2.wipe, List.map, List.foldl]; done) | (dsimp only [List.set, L2.wipe, List.map, List.foldl]; rfl)))
  | with_reducible refine s_seq ?_ | with_reducible refine s_ifS ?_ | with_reducible refine s_asg ?_ | with_reducible refine s_ret ?_ | with_reducible refine s_drop ?_ | with_reducible refine s_next ?_
  | ((with_reducible refine' s_gnameE ?g1 ?_); (case g1 => first | (dsimp only [List.set, L2.wipe, List.map, List.foldl]; done) | (dsimp only [List.set, L2.wipe, List.map, List.foldl]; rfl)))
  | with_reducible refine s_gsub ?_ | with_reducible refine s_gcons ?_ | with_reducible refine s_gnil ?_
  | (with_reducible show gTup _ _ _ _ _ _ _); refine s_gtup (by walk_at "hp") rfl ?_
  | with_reducible refine s_eqI ?_ | with_reducible refine s_neI ?_ | with_reducible refine s_eqS ?_ | with_reducible refine s_neB ?_ | with_reducible refine s_eqB ?_ | with_reducible refine s_neSr ?_ | with_reducible refine s_neS ?_
  | with_reducible refine s_I0 ?_
  | (with_reducible show rI _ _ _ _ _ _); refine s_I (by walk_at "sd") ?_
  | (with_reducible show rIxL _ _ _ _ _); refine s_ixL (by walk_at "hp") rfl ?_
  | (with_reducible show rIxT _ _ _ _ _); refine s_ixT (by walk_at "hp") rfl ?_
  | (with_reducible show rSetL _ _ _ _ _); refine s_setL (by walk_at "hp") rfl ?_
  | with_reducible refine s_prop ?_
  | (with_reducible show _ ≤ sizeLine ∧ _); refine ⟨le_size (by rfl), ?_⟩
  | with_reducible refine ite_NN ?_ | with_reducible refine ite_IN ?_ | with_reducible refine ite_nNN ?_ | with_reducible refine ite_nIN ?_ | with_reducible refine ite_RN ?_ | with_reducible refine ite_nRN ?_
  | with_reducible refine s_sfld ?_
  | ((with_reducible refine' ⟨_, _, _, _, rfl, ?fp1, ?fp2, ?fp3, ?fp4, ?_⟩); (case fp1 => walk_at "hp"); (case fp2 => assumption); (case fp3 => assumption); (case fp4 => walk_at "few"))
  | with_reducible refine s_fldE ?_
  | ((with_reducible refine' ⟨_, _, _, _, _, rfl, ?fp1, ?fp2, ?fp3, ?fp4, ?_⟩); (case fp1 => walk_at "hp"); (case fp2 => assumption); (case fp3 => assumption); (case fp4 => rfl))
  | with_reducible refine s_bm ?_ | with_reducible refine s_bm0 ?_
  | ((with_reducible refine' s_tyL ?ty1 ?_); (case ty1 => walk_at "hp"))
  | ((with_reducible refine' s_append ?ap1 ?ap2 ?_); (case ap1 => walk_at "hp"); (case ap2 => walk_at "sz"))
  | ((with_reducible refine' s_extend ?ap1 ?ap2 ?ap3 ?_); (case ap1 => walk_at "hp"); (case ap2 => walk_at "hp"); (case ap3 => walk_at "sz"))
  | with_reducible refine s_for (fun _ _ => ?_) | with_reducible refine s_lc ?_ | with_reducible refine s_iList ?_ | with_reducible refine s_iTup ?_ | with_reducible refine s_iRng1 ?_ | with_reducible refine s_iRng2 ?_
  | with_reducible refine s_yes ?_ | with_reducible refine s_par ?_
  | with_reducible refine s_make ?_ | with_reducible refine s_meth ?_
  | with_reducible refine s_tup ?_ | with_reducible refine s_lst ?_ | with_reducible refine s_call ?_
  | with_reducible refine ⟨rfl, ?_⟩
  | with_reducible refine ⟨_, rfl, ?_⟩
  | ((with_reducible refine' ⟨_, _, rfl, ?sd1, ?_⟩); (case sd1 => walk_at "sd"))
  | with_reducible refine ⟨_, _, rfl, ?_⟩
  | with_reducible refine .inl ⟨_, rfl, ?_⟩
  | dsimp only [List.set]
  | walk_at "rdx"
  | (refine fun _ _ => ?_))
local macro_rules | `(tactic| walk_at "rd") => `(tactic| repeat (first
  | (with_reducible show tVar _ _ _ _); refine s_var rfl ?_
  | with_reducible refine s_c ?_ | with_reducible refine s_op ?_ | with_reducible refine s_un ?_
  | with_reducible refine s_cons ?_ | with_reducible refine s_nil ?_ | with_reducible refine s_cb ?_
  | with_reducible refine s_test ?_ | with_reducible refine s_B ?_ | with_reducible refine s_not ?_ | with_reducible refine s_and ?_ | with_reducible refine s_or ?_
  | with_reducible refine s_if ?_ | with_reducible refine s_notV ?_ | with_reducible refine s_andV ?_ | with_reducible refine s_orV ?_
  | with_reducible refine s_orT ?_ | with_reducible refine s_andT ?_ | with_reducible refine s_chain ?_
  | with_reducible refine s_isi_int ?_ | with_reducible refine s_isi_int_bool ?_ | with_reducible refine s_isi_str ?_
  | with_reducible refine iteT ?_ | with_reducible refine iteF ?_ | with_reducible refine iteNT ?_ | with_reducible refine iteNF ?_
  | with_reducible refine s_isN ?_ | with_reducible refine s_notN ?_
  | ((with_reducible refine' s_2setE ?g1 ?_); (case g1 => first | (dsimp only [List.set, L2.wipe, List.map, List.foldl]; done) | (dsimp only [List.set, L2.wipe, List.map, List.foldl]; rfl)))
  | with_reducible refine s_seq ?_ | with_reducible refine s_ifS ?_ | with_reducible refine s_asg ?_ | with_reducible refine s_ret ?_ | with_reducible refine s_drop ?_ | with_reducible refine s_next ?_
  | ((with_reducible refine' s_gnameE ?g1 ?_); (case g1 => first | (dsimp only [List.set, L2.wipe, List.map, List.foldl]; done) | (dsimp only [List.set, L2.wipe, List.map, List.foldl]; rfl)))
  | with_reducible refine s_gsub ?_ | with_reducible refine s_gcons ?_ | with_reducible refine s_gnil ?_
  | (with_reducible show gTup _ _ _ _ _ _ _); refine s_gtup (by walk_at "hp") rfl ?_
  | with_reducible refine s_eqI ?_ | with_reducible refine s_neI ?_ | with_reducible refine s_eqS ?_ | with_reducible refine s_neB ?_ | with_reducible refine s_eqB ?_ | with_reducible refine s_neSr ?_ | with_reducible refine s_neS ?_
  | with_reducible refine s_I0 ?_
  | (with_reducible show rI _ _ _ _ _ _); refine s_I (by walk_at "sd") ?_
  | (with_reducible show rIxL _ _ _ _ _); refine s_ixL (by walk_at "hp") rfl ?_
  | (with_reducible show rIxT _ _ _ _ _); refine s_ixT (by walk_at "hp") rfl ?_
  | (with_reducible show rSetL _ _ _ _ _); refine s_setL (by walk_at "hp") rfl ?_
  | with_reducible refine s_prop ?_
  | (with_reducible show _ ≤ sizeLine ∧ _); refine ⟨le_size (by rfl), ?_⟩
  | with_reducible refine ite_NN ?_ | with_reducible refine ite_IN ?_ | with_reducible refine ite_nNN ?_ | with_reducible refine ite_nIN ?_ | with_reducible refine ite_RN ?_ | with_reducible refine ite_nRN ?_
  | with_reducible refine s_sfld ?_
  | ((with_reducible refine' ⟨_, _, _, _, rfl, ?fp1, ?fp2, ?fp3, ?fp4, ?_⟩); (case fp1 => walk_at "hp"); (case fp2 => assumption); (case fp3 => assumption); (case fp4 => walk_at "few"))
  | with_reducible refine s_fldE ?_
  | ((with_reducible refine' ⟨_, _, _, _, _, rfl, ?fp1, ?fp2, ?fp3, ?fp4, ?_⟩); (case fp1 => walk_at "hp"); (case fp2 => assumption); (case fp3 => assumption); (case fp4 => rfl))
  | with_reducible refine s_bm ?_ | with_reducible refine s_bm0 ?_
  | ((with_reducible refine' s_tyL ?ty1 ?_); (case ty1 => walk_at "hp"))
  | ((with_reducible refine' s_append ?ap1 ?ap2 ?_); (case ap1 => walk_at "hp"); (case ap2 => walk_at "sz"))
  | ((with_reducible refine' s_extend ?ap1 ?ap2 ?ap3 ?_); (case ap1 => walk_at "hp"); (case ap2 => walk_at "hp"); (case ap3 => walk_at "sz"))
  | with_reducible refine s_for (fun _ _ => ?_) | with_reducible refine s_lc ?_ | with_reducible refine s_iList ?_ | with_reducible refine s_iTup ?_ | with_reducible refine s_iRng1 ?_ | with_reducible refine s_iRng2 ?_
  | with_reducible refine s_yes ?_ | with_reducible refine s_par ?_
  | with_reducible refine s_make ?_ | with_reducible refine s_meth ?_
  | with_reducible refine s_tup ?_ | with_reducible refine s_lst ?_ | with_reducible refine s_call ?_
  | with_reducible refine ⟨rfl, ?_⟩
  | with_reducible refine ⟨_, rfl, ?_⟩
  | ((with_reducible refine' ⟨_, _, rfl, ?sd1, ?_⟩); (case sd1 => walk_at "sd"))
  | with_reducible refine ⟨_, _, rfl, ?_⟩
  | with_reducible refine .inl ⟨_, rfl, ?_⟩
  | dsimp only [List.set]
  | walk_at "rdx"
  | (refine fun _ _ => ?_)))

namespace My
open PySem L2
section
variable {P : Program} {w : World} {K : PySem.W.Frag} {mg : Str → Option Value} {base : Heap} {C_Many C_EachError C_InvalidText : Addr} (M : Md K mg C_Many C_EachError C_InvalidText)
include M
local macro_rules | `(tactic| walk_at "rdx") => `(tactic| first | with_reducible refine s_ostG ?_ | with_reducible refine s_raE ?_ | with_reducible refine s_callX ?_ | with_reducible refine s_staXk ?_ | with_reducible refine s_slS ?_ | with_reducible refine s_noPart ?_ | with_reducible refine s_part ?_ | ((with_reducible refine' s_mcall ?mc1 ?mc2 ?_); (case mc1 => walk_at "hp"); (case mc2 => rfl)))
omit M
def Pot (H : Hp) (r : Addr) : Prop := ∃ p q : Int, H r = some (.lst [.int p, .int q]) ∧ 0 ≤ p ∧ 0 ≤ q ∧ q < 2147483648
def spPotOf (K : PySem.W.Frag) : Sp := fun vs H Q _ => ∃ (a : Addr) (ns : List Int) (k : Int), vs = [.ref a, .int k] ∧ SqL K H a (ns.map V.int) ∧ 0 ≤ k ∧ k < 1000 ∧ ∀ r H', Same H H' → H r = none → Pot H' r → Q (.ref r) H'
def spDraw : Sp := fun vs H Q _ => ∃ (r : Addr) (n : Int), vs = [.ref r, .int n] ∧ Pot H r ∧ 0 < n ∧ n.natAbs.log2 < 9000 ∧ ∀ d H', But r H H' → Pot H' r → 0 ≤ d → d < n → Q (.int d) H'
include M
theorem c__law_rng : Dn P w K mg base "_law_rng" 1 ["_law_script", "_law_k"] [] (spPotOf K) := by
  refine dnN M.f__law_rng (fun F => ?_) (fun _ _ _ _ _ _ us hl => match us, hl with | [_, _], _ => rfl)
  refine fnG_body F sc__law_rng (fun vs H Q E h => ?_) (fun cdv A outer s H vs Q E hr h => ?_)
  · obtain ⟨a, ns, k, rfl, _⟩ := h
    rfl
  · obtain ⟨a, ns, k, rfl, hS, h0, h1, q⟩ := h
    refine ⟨_, (pss_cons (ps_set (i := 2) sc__law_rng.nd rfl (.inl rfl) (pe_ifExp (pt_cmpR op_lt (pv 1) (pe_callB call_len_seq (by rfl) M.b_len (by decide +kernel) (pa_cons (pv 0) pa_nil)) (nomark _)) (pe_ix ix_list (pv 0) (pv 1) (fun _ _ => rfl)) (pe_op op_add (pe_op op_mulW pe_int (pv 1)) pe_int))) (pss_one (ps_ret (pe_lst (pa_cons (pe_callB (call_max2 rfl) (by rfl) M.b_max (by decide +kernel) (pa_cons pe_int (pa_cons (pe_op op_sub (pe_callB call_abs (by rfl) M.b_abs (by decide +kernel) (pa_cons (pv 2) pa_nil)) (pe_op op_pow pe_int pe_int)) pa_nil))) (pa_cons (pe_op op_add (pe_op op_mod (pe_callTy call_int1 (by rfl) M.b_int (by decide +kernel) (pa_cons (pe_op op_add (pe_op op_add (pe_op op_mulW (pe_op op_mod (pe_callTy call_int1 (by rfl) M.b_int (by decide +kernel) (pa_cons (pe_callB call_abs (by rfl) M.b_abs (by decide +kernel) (pa_cons (pv 2) pa_nil)) pa_nil)) pe_int) pe_int) (pe_op op_mulW pe_int (pv 1))) pe_int) pa_nil)) pe_int) pe_int) pa_nil)))))), ?_⟩
    refine st_eq (σ := [some _, some _, none]) rfl ?_
    walk_at "rd"
    refine ⟨_, _, rfl, .inl hS, ?_⟩
    walk_at "rd"
    refine ite_d (fun hc => ?_) (fun hc => ?_)
    · obtain ⟨c, ec⟩ := atI_ints h0 hc
      walk_at "rd"
      refine ⟨_, _, _, _, rfl, rfl, hS, ec, ?_⟩
      walk_at "rd"
      refine q _ _ (Same.new (by assumption)) (by assumption) ⟨_, _, upd_same, ?_, ?_, ?_⟩
      · split <;> omega
      · omega
      · omega
    · walk_at "rd"
      refine q _ _ (Same.new (by assumption)) (by assumption) ⟨_, _, upd_same, ?_, ?_, ?_⟩
      · split <;> omega
      · omega
      · omega
theorem c__law_draw : Dn P w K mg base "_law_draw" 1 ["_law_rng_here", "_law_sides"] [] spDraw := by
  refine dnN M.f__law_draw (fun F => ?_) (fun _ _ _ _ _ _ us hl => match us, hl with | [_, _], _ => rfl)
  refine fnG_body F sc__law_draw (fun vs H Q E h => ?_) (fun cdv A outer s H vs Q E hr h => ?_)
  · obtain ⟨r, n, rfl, _⟩ := h
    rfl
  · obtain ⟨r, n, rfl, ⟨p, y, e, hp, hy, hz⟩, h0, h1, q⟩ := h
    refine ⟨_, (pss_cons (ps_if (pt_cmpR op_gt (pe_ix ix_list (pv 0) pe_int (fun _ _ => rfl)) pe_int (nomark _)) (pss_cons (ps_asg (pe_callB call_divmodW (by rfl) M.b_divmod (by decide +kernel) (pa_cons (pe_ix ix_list (pv 0) pe_int (fun _ _ => rfl)) (pa_cons (pv 1) pa_nil))) (pg_tup (by rfl) (pgs_cons (pg_sub (pv 0) pe_int set_list) (pgs_cons (pg_name (i := 2) sc__law_draw.nd rfl (.inl rfl)) pgs_nil)))) (pss_one (ps_ret (pv 2)))) pss_nil) (pss_cons (ps_asg (pe_op op_mod (pe_callTy call_int1 (by rfl) M.b_int (by decide +kernel) (pa_cons (pe_op op_add (pe_op op_mulW (pe_ix ix_list (pv 0) pe_int (fun _ _ => rfl)) pe_int) pe_int) pa_nil)) pe_int) (pg_sub (pv 0) pe_int set_list)) (pss_one (ps_ret (pe_op op_mod (pe_callTy call_int1 (by rfl) M.b_int (by decide +kernel) (pa_cons (pe_op op_fdivW (pe_op op_mod (pe_callTy call_int1 (by rfl) M.b_int (by decide +kernel) (pa_cons (pe_op op_mulW (pe_ix ix_list (pv 0) pe_int (fun _ _ => rfl)) (pe_ix ix_list (pv 0) pe_int (fun _ _ => rfl))) pa_nil)) pe_int) pe_int) pa_nil)) (pv 1)))))), ?_⟩
    refine st_eq (σ := [some _, some _, none]) rfl ?_
    walk_at "rd"
    refine ite_d (fun hc => ?_) (fun hc => ?_)
    · walk_at "rd"
      refine q _ _ ((But.new (by assumption)).trans But.at) ⟨_, _, upd_same, ?_, hy, hz⟩ (Int.emod_nonneg _ (by omega)) (Int.emod_lt_of_pos _ h0)
      exact Int.ediv_nonneg hp (by omega)
    · walk_at "rd"
      refine q _ _ But.at ⟨_, _, upd_same, hp, by omega, by omega⟩ (Int.emod_nonneg _ (by omega)) (Int.emod_lt_of_pos _ h0)
omit M
theorem Pot.up {H : Hp} {r p : Addr} {o : HO} (h : Pot H r) (n : H p = none) : Pot (upd H p o) r := by
  obtain ⟨x, y, e, h⟩ := h
  exact ⟨x, y, by rw [upd_ne (ne_of_none e n)]; exact e, h⟩
theorem Pot.ne {H : Hp} {r p : Addr} (h : Pot H r) (n : H p = none) : p ≠ r := by
  obtain ⟨x, y, e, h⟩ := h
  exact (ne_of_none e n).symm
theorem Pot.upn {H : Hp} {r p : Addr} {o : HO} (h : Pot H r) (n : p ≠ r) : Pot (L2.upd H p o) r := by
  obtain ⟨x, y, e, h⟩ := h
  exact ⟨x, y, by rw [upd_ne n.symm]; exact e, h⟩
theorem Pot.same {H H' : Hp} {r : Addr} (h : Pot H r) (s : L2.Same H H') : Pot H' r := by
  obtain ⟨x, y, e, h⟩ := h
  exact ⟨x, y, s _ _ e, h⟩
theorem But.upf {r a : Addr} {o : HO} {H H' : Hp} (b : But r H H') (n : H a = none) : But r H (L2.upd H' a o) := fun c u e n' => by
  rw [upd_ne (ne_of_none e n)]
  exact b c u e n'
theorem But.free {r a : Addr} {H H' : Hp} (b : But r H H') (h : H' a = none) (n : a ≠ r) : H a = none := by
  cases e : H a with
  | none => rfl
  | some o =>
    have := b a o e n
    rw [h] at this
    cases this
def spPick : Sp := fun vs H Q _ => ∃ (r l : Addr) (xs : List V), vs = [.ref r, .ref l] ∧ H l = some (.lst xs) ∧ l ≠ r ∧ 0 < xs.length ∧ xs.length < 100000 ∧ Pot H r ∧ ∀ v H', v ∈ xs → But r H H' → Pot H' r → Q v H'
include M
theorem c__law_choice : Dn P w K mg base "_law_choice" 2 ["_law_rng_here", "_law_some"] [] spPick := by
  have c__law_draw := c__law_draw (P := P) (w := w) (base := base) M
  refine dnN M.f__law_choice (fun F => ?_) (fun _ _ _ _ _ _ us hl => match us, hl with | [_, _], _ => rfl)
  refine fnG_body F sc__law_choice (fun vs H Q E h => ?_) (fun cdv A outer s H vs Q E hr h => ?_)
  · obtain ⟨r, l, xs, rfl, _⟩ := h
    rfl
  · obtain ⟨r, l, xs, rfl, hl, hn, h0, h1, hp, q⟩ := h
    refine ⟨_, (pss_one (ps_ret (pe_ix ix_list (pv 1) (pe_callD c__law_draw (hr.mono (by decide)) rfl (pa_cons (pv 0) (pa_cons (pe_callB call_len_seq (by rfl) M.b_len (by decide +kernel) (pa_cons (pv 1) pa_nil)) pa_nil))) (fun _ _ => rfl)))), ?_⟩
    refine st_eq (σ := [some _, some _]) rfl ?_
    walk_at "rd"
    refine ⟨_, _, rfl, .inl (SqL.of hl), ?_⟩
    walk_at "rd"
    refine ⟨r, _, rfl, hp, by omega, ?_, fun d H' hb hp' d0 d1 => ?_⟩
    · exact lg (sm62 (by omega) (by omega))
    · obtain ⟨j, rfl⟩ : ∃ j : Nat, d = j := ⟨d.toNat, by omega⟩
      have hj : j < xs.length := by omega
      walk_at "rd"
      refine s_ixL (v := xs[j]) (hb.get hl hn) (atI_nat (by simp [hj])) ?_
      exact q _ _ (List.getElem_mem hj) hb hp'
omit M
theorem cut_len (z : Str) (lo hi : Option Int) : (cutS z lo hi).length ≤ HT.sIx z.length z.length hi - HT.sIx z.length 0 lo := by
  show (((z.cps.toList.drop (HT.sIx z.length 0 lo)).take (HT.sIx z.length z.length hi - HT.sIx z.length 0 lo)).toArray).size ≤ _
  rw [List.size_toArray, List.length_take]
  exact Nat.min_le_left _ _
theorem sIx_pos {n d : Nat} {i : Int} (h : 0 ≤ i) : HT.sIx n d (some i) = min i.toNat n := by
  show (if i < 0 then _ else _) = _
  rw [if_neg (by omega)]
theorem cut_pre {z : Str} {i : Int} (h : 0 ≤ i) : (cutS z none (some i)).length ≤ min i.toNat z.length := by
  have := cut_len z none (some i)
  rw [sIx_pos h] at this
  exact this
theorem cut_post {z : Str} {i : Int} (h : 0 ≤ i) : (cutS z (some i) none).length ≤ z.length - min i.toNat z.length := by
  have := cut_len z (some i) none
  rw [sIx_pos h] at this
  exact this
theorem cut_mid {z : Str} {i j : Int} (h : 0 ≤ i) (g : 0 ≤ j) : (cutS z (some i) (some j)).length ≤ min j.toNat z.length - min i.toNat z.length := by
  have := cut_len z (some i) (some j)
  rw [sIx_pos h, sIx_pos g] at this
  exact this
theorem join_le {ys : List Str} (h : ∀ y ∈ ys, y.length ≤ 3) (n : ys.length ≤ 4) : (ys.map (fun x => x.length)).sum ≤ 12 := by
  have g : ∀ l : List Str, (∀ y ∈ l, y.length ≤ 3) → (l.map (fun x => x.length)).sum ≤ 3 * l.length := by
    intro l
    induction l with
    | nil => intro _; exact Nat.le_refl 0
    | cons a r ih =>
      intro hh
      have h1 := hh a List.mem_cons_self
      have h2 := ih (fun y hy => hh y (List.mem_cons_of_mem _ hy))
      rw [List.map_cons, List.sum_cons, List.length_cons]
      omega
  have := g ys h
  omega
def spLow : Sp := fun vs H Q _ => ∃ r : Addr, vs = [.ref r] ∧ Pot H r ∧ ∀ (n : Nat) H', n ≤ 10 ^ 29 → But r H H' → Pot H' r → Q (.int n) H'
def spPair : Sp := fun vs H Q _ => ∃ r : Addr, vs = [.ref r] ∧ Pot H r ∧ ∀ (p : Addr) (l : Nat) (h : Option Nat) H', l ≤ 10 ^ 29 → (∀ m, h = some m → l ≤ m ∧ m ≤ 2 * 10 ^ 29) → But r H H' → Pot H' r → H' p = some (.tup [.int l, optN h]) → Q (.ref p) H'
def spWords : Sp := fun vs H Q _ => ∃ (p : Addr) (l : Nat) (h : Option Nat), vs = [.ref p] ∧ H p = some (.tup [.int l, optN h]) ∧ Sm 1900 l ∧ (∀ m, h = some m → Sm 1900 m) ∧ Q (.str (words (l, h))) H
def spBent : Sp := fun vs H Q _ => ∃ (r : Addr) (x : Str), vs = [.ref r, .str x] ∧ Pot H r ∧ x.length ≤ 400 ∧ ∀ (y : Str) H', y.length ≤ x.length + 4 → But r H H' → Pot H' r → Q (.str y) H'
def spJoined : Sp := fun vs H Q _ => ∃ r : Addr, vs = [.ref r] ∧ Pot H r ∧ ∀ (y : Str) H', y.length ≤ 20 → But r H H' → Pot H' r → Q (.str y) H'
include M
theorem c__law_low : Dn P w K mg base "_law_low" 3 ["_law_rng_here"] [] spLow := by
  have c__law_choice := c__law_choice (P := P) (w := w) (base := base) M
  refine dnN M.f__law_low (fun F => ?_) (fun _ _ _ _ _ _ us hl => match us, hl with | [_], _ => rfl)
  refine fnG_body F sc__law_low (fun vs H Q E h => ?_) (fun cdv A outer s H vs Q E hr h => ?_)
  · obtain ⟨r, rfl, _⟩ := h
    rfl
  · obtain ⟨r, rfl, hp, q⟩ := h
    refine ⟨_, (pss_one (ps_ret (pe_callD c__law_choice (hr.mono (by decide)) rfl (pa_cons (pv 0) (pa_cons (pe_lst (pa_cons pe_int (pa_cons pe_int (pa_cons pe_int (pa_cons pe_int (pa_cons pe_int (pa_cons pe_int (pa_cons pe_int (pa_cons pe_int (pa_cons pe_int (pa_cons pe_int (pa_cons pe_int (pa_cons pe_int (pa_cons pe_int (pa_cons (pe_op op_pow pe_int pe_int) (pa_cons (pe_op op_pow pe_int pe_int) pa_nil)))))))))))))))) pa_nil))))), ?_⟩
    refine st_eq (σ := [some _]) rfl ?_
    walk_at "rd"
    rename_i p np
    refine ⟨r, p, _, rfl, upd_same, hp.ne np, by decide, by decide, hp.up np, fun v H' hv hb hp' => ?_⟩
    have hv2 : v ∈ ([0, 0, 1, 2, 3, 5, 6, 7, 9, 10, 11, 99, 100, 10 ^ 18, 10 ^ 29] : List Nat).map (fun (n : Nat) => V.int (n : Int)) := hv
    obtain ⟨n, hn, rfl⟩ := List.mem_map.mp hv2
    have hle : ∀ n ∈ ([0, 0, 1, 2, 3, 5, 6, 7, 9, 10, 11, 99, 100, 10 ^ 18, 10 ^ 29] : List Nat), n ≤ 10 ^ 29 := by decide +kernel
    exact q n H' (hle n hn) ((But.new np).trans hb) hp'
theorem c__law_words : Dn P w K mg base "_law_words" 1 ["_law_pair_here"] [] spWords := by
  refine dnN M.f__law_words (fun F => ?_) (fun _ _ _ _ _ _ us hl => match us, hl with | [_], _ => rfl)
  refine fnG_body F sc__law_words (fun vs H Q E h => ?_) (fun cdv A outer s H vs Q E hr h => ?_)
  · obtain ⟨p, l, h, rfl, _⟩ := h
    rfl
  · obtain ⟨p, l, h, rfl, hp, z1, z2, q⟩ := h
    refine ⟨_, (pss_cons (ps_if (pt_cmpR op_isN (pe_ix ix_tup (pv 0) pe_int (fun _ _ => rfl)) pe_non (nomark _)) (pss_one (ps_ret (pe_op op_add_str (pe_callTy call_str_int (by rfl) M.b_str (by decide +kernel) (pa_cons (pe_ix ix_tup (pv 0) pe_int (fun _ _ => rfl)) pa_nil)) pe_str))) pss_nil) (pss_one (ps_ret (pe_ifExp (pt_cmpR op_eq (pe_ix ix_tup (pv 0) pe_int (fun _ _ => rfl)) (pe_ix ix_tup (pv 0) pe_int (fun _ _ => rfl)) (nomark _)) (pe_callTy call_str_int (by rfl) M.b_str (by decide +kernel) (pa_cons (pe_ix ix_tup (pv 0) pe_int (fun _ _ => rfl)) pa_nil)) (pe_op op_add_str (pe_op op_add_str (pe_callTy call_str_int (by rfl) M.b_str (by decide +kernel) (pa_cons (pe_ix ix_tup (pv 0) pe_int (fun _ _ => rfl)) pa_nil)) pe_str) (pe_callTy call_str_int (by rfl) M.b_str (by decide +kernel) (pa_cons (pe_ix ix_tup (pv 0) pe_int (fun _ _ => rfl)) pa_nil))))))), ?_⟩
    refine st_eq (σ := [some _]) rfl ?_
    have l1 := num_len z1
    cases h with
    | none =>
      have hp : H p = some (.tup [.int l, .non]) := hp
      walk_at "rd"
      refine ⟨z1.log2, ?_⟩
      refine ⟨_, _, rfl, rfl, ?_, q⟩
      have : (Str.ofString "..*").length = 3 := by decide +kernel
      rw [sizeLine_eq]
      omega
    | some m =>
      have hp : H p = some (.tup [.int l, .int m]) := hp
      have l2 := num_len (z2 m rfl)
      have d2 : ((".." : Str)).length = 2 := by decide +kernel
      walk_at "rd"
      refine ite_d (fun h1 => ?_) (fun h1 => ?_)
      · have ew : words (l, some m) = Str.ofString (toString (l : Int)) := if_pos (by omega)
        rw [ew] at q
        walk_at "rd"
        exact ⟨z1.log2, q⟩
      · have ew : words (l, some m) = Str.ofString (toString (l : Int)) ++ ".." ++ Str.ofString (toString (m : Int)) := if_neg (by omega)
        rw [ew] at q
        walk_at "rd"
        refine ⟨z1.log2, ?_⟩
        refine ⟨_, _, rfl, rfl, by rw [sizeLine_eq]; omega, ?_⟩
        walk_at "rd"
        refine ⟨(z2 m rfl).log2, ?_⟩
        refine ⟨_, _, rfl, rfl, ?_, q⟩
        rw [strLen_append, sizeLine_eq]
        omega
theorem c__law_pair : Dn P w K mg base "_law_pair" 4 ["_law_rng_here"] [] spPair := by
  have c__law_choice := c__law_choice (P := P) (w := w) (base := base) M
  have c__law_draw := c__law_draw (P := P) (w := w) (base := base) M
  have c__law_low := c__law_low (P := P) (w := w) (base := base) M
  refine dnN M.f__law_pair (fun F => ?_) (fun _ _ _ _ _ _ us hl => match us, hl with | [_], _ => rfl)
  refine fnG_body F sc__law_pair (fun vs H Q E h => ?_) (fun cdv A outer s H vs Q E hr h => ?_)
  · obtain ⟨r, rfl, _⟩ := h
    rfl
  · obtain ⟨r, rfl, hp, q⟩ := h
    refine ⟨_, (pss_cons (ps_par (i := 1) (j := 2) (by rfl) sc__law_pair.nd rfl rfl (by decide) rfl rfl (pa_cons (pe_callD c__law_low (hr.mono (by decide)) rfl (pa_cons (pv 0) pa_nil)) (pa_cons (pe_callD c__law_draw (hr.mono (by decide)) rfl (pa_cons (pv 0) (pa_cons pe_int pa_nil))) pa_nil)) (by rfl)) (pss_cons (ps_if (pt_cmpR op_eq (pv 2) pe_int (nomark _)) (pss_one (ps_ret (pe_tup (pa_cons (pv 1) (pa_cons pe_non pa_nil))))) pss_nil) (pss_cons (ps_if (pt_cmpR op_eq (pv 2) pe_int (nomark _)) (pss_one (ps_ret (pe_tup (pa_cons (pv 1) (pa_cons (pv 1) pa_nil))))) pss_nil) (pss_one (ps_ret (pe_tup (pa_cons (pv 1) (pa_cons (pe_op op_add (pv 1) (pe_callD c__law_choice (hr.mono (by decide)) rfl (pa_cons (pv 0) (pa_cons (pe_lst (pa_cons pe_int (pa_cons pe_int (pa_cons pe_int (pa_cons pe_int (pa_cons pe_int (pa_cons pe_int (pa_cons (pe_op op_pow pe_int pe_int) (pa_cons (pe_op op_pow pe_int pe_int) pa_nil))))))))) pa_nil)))) pa_nil)))))))), ?_⟩
    refine st_eq (σ := [some _, none, none]) rfl ?_
    walk_at "rd"
    refine ⟨r, rfl, hp, fun l H1 hl b1 p1 => ?_⟩
    walk_at "rd"
    refine ⟨r, 4, rfl, p1, by decide, by decide, fun d H2 b2 p2 d0 d1 => ?_⟩
    have b12 := b1.trans b2
    walk_at "rd"
    refine ite_d (fun h0 => ?_) (fun h0 => ?_)
    · walk_at "rd"
      rename_i p np
      exact q p l none _ hl (fun m e => nomatch e) (b12.trans (But.new np)) (p2.up np) upd_same
    · walk_at "rd"
      refine ite_d (fun h1 => ?_) (fun h1 => ?_)
      · walk_at "rd"
        rename_i p np
        exact q p l (some l) _ hl (fun m e => by cases e; exact ⟨Nat.le_refl _, by omega⟩) (b12.trans (But.new np)) (p2.up np) upd_same
      · walk_at "rd"
        rename_i p np
        refine ⟨r, p, _, rfl, upd_same, p2.ne np, by decide, by decide, p2.up np, fun v H3 hv b3 p3 => ?_⟩
        have hv2 : v ∈ ([1, 1, 2, 9, 10, 100, 10 ^ 18, 10 ^ 29] : List Nat).map (fun (n : Nat) => V.int (n : Int)) := hv
        obtain ⟨n, hn, rfl⟩ := List.mem_map.mp hv2
        have hle : ∀ n ∈ ([1, 1, 2, 9, 10, 100, 10 ^ 18, 10 ^ 29] : List Nat), n ≤ 10 ^ 29 := by decide +kernel
        have hn2 := hle n hn
        walk_at "rd"
        rename_i p4 np4
        refine q p4 l (some (l + n)) _ hl (fun m e => by cases e; exact ⟨by omega, by omega⟩) (((b12.trans (But.new np)).trans b3).trans (But.new np4)) (p3.up np4) ?_
        rw [upd_same]
        rfl
theorem c__law_bent : Dn P w K mg base "_law_bent" 4 ["_law_rng_here", "_law_line"] [] spBent := by
  have c__law_choice := c__law_choice (P := P) (w := w) (base := base) M
  have c__law_draw := c__law_draw (P := P) (w := w) (base := base) M
  refine dnN M.f__law_bent (fun F => ?_) (fun _ _ _ _ _ _ us hl => match us, hl with | [_, _], _ => rfl)
  refine fnG_body F sc__law_bent (fun vs H Q E h => ?_) (fun cdv A outer s H vs Q E hr h => ?_)
  · obtain ⟨r, x, rfl, _⟩ := h
    rfl
  · obtain ⟨r, x, rfl, hp, hl, q⟩ := h
    refine ⟨_, (pss_cons (ps_for (passes_of rfl) rfl (pi_range1 (by rfl) M.b_range (pa_cons (pe_op op_add pe_int (pe_callD c__law_draw (hr.mono (by decide)) rfl (pa_cons (pv 0) (pa_cons pe_int pa_nil)))) pa_nil)) (pg_name (i := 2) sc__law_bent.nd rfl (.inl rfl)) (pss_cons (ps_par (i := 3) (j := 4) (by rfl) sc__law_bent.nd rfl rfl (by decide) rfl rfl (pa_cons (pe_callD c__law_draw (hr.mono (by decide)) rfl (pa_cons (pv 0) (pa_cons (pe_op op_add (pe_callB call_len_str (by rfl) M.b_len (by decide +kernel) (pa_cons (pv 1) pa_nil)) pe_int) pa_nil))) (pa_cons (pe_callD c__law_draw (hr.mono (by decide)) rfl (pa_cons (pv 0) (pa_cons pe_int pa_nil))) pa_nil)) (by rfl)) (pss_cons (ps_set (i := 5) sc__law_bent.nd rfl (.inl rfl) (pe_callD c__law_choice (hr.mono (by decide)) rfl (pa_cons (pv 0) (pa_cons (pe_lst (pa_cons pe_str (pa_cons pe_str (pa_cons pe_str (pa_cons pe_str (pa_cons pe_str (pa_cons pe_str (pa_cons pe_str (pa_cons pe_str (pa_cons pe_str (pa_cons pe_str (pa_cons pe_str (pa_cons pe_str pa_nil))))))))))))) pa_nil)))) (pss_one (ps_if (pt_cmpR op_eq (pv 4) pe_int (nomark _)) (pss_one (ps_set (i := 1) sc__law_bent.nd rfl (.inl rfl) (pe_op op_add_str (pe_op op_add_str (pe_slice sl_str (pv 1) po_none (po_some (pv 3))) (pv 5)) (pe_slice sl_str (pv 1) (po_some (pv 3)) po_none)))) (pss_one (ps_if (pt_cmpR op_eq (pv 4) pe_int (nomark _)) (pss_one (ps_set (i := 1) sc__law_bent.nd rfl (.inl rfl) (pe_op op_add_str (pe_slice sl_str (pv 1) po_none (po_some (pv 3))) (pe_slice sl_str (pv 1) (po_some (pe_op op_add (pv 3) pe_int)) po_none)))) (pss_one (ps_if (pt_cmpR op_eq (pv 4) pe_int (nomark _)) (pss_one (ps_set (i := 1) sc__law_bent.nd rfl (.inl rfl) (pe_op op_add_str (pe_op op_add_str (pe_slice sl_str (pv 1) po_none (po_some (pv 3))) (pv 5)) (pe_slice sl_str (pv 1) (po_some (pe_op op_add (pv 3) pe_int)) po_none)))) (pss_cons (ps_set (i := 6) sc__law_bent.nd rfl (.inl rfl) (pe_op op_add_str (pe_slice sl_str (pv 1) (po_some (pe_op op_add (pv 3) pe_int)) (po_some (pe_op op_add (pv 3) pe_int))) (pe_slice sl_str (pv 1) (po_some (pv 3)) (po_some (pe_op op_add (pv 3) pe_int))))) (pss_one (ps_set (i := 1) sc__law_bent.nd rfl (.inl rfl) (pe_op op_add_str (pe_op op_add_str (pe_slice sl_str (pv 1) po_none (po_some (pv 3))) (pv 6)) (pe_slice sl_str (pv 1) (po_some (pe_op op_add (pv 3) pe_int)) po_none)))))))))))))) (pss_one (ps_ret (pv 1)))), ?_⟩
    refine st_eq (σ := [some _, some _, none, none, none, none, none]) rfl ?_
    walk_at "rd"
    rename_i DE eDE
    refine ⟨r, 2, rfl, hp, by decide, by decide, fun d H1 b1 p1 d0 d1 => ?_⟩
    walk_at "rd"
    refine ⟨by omega, by omega, for_range (lo := 0) (fun i σ H' => But r H H' ∧ Pot H' r ∧ ∃ (y : Str) (v0 v1 v2 v3 v4 : Option V), y.length ≤ x.length + 2 * i ∧ σ = [some (.ref r), some (.str y), v0, v1, v2, v3, v4]) ?_ ?_ ?_⟩
    · exact ⟨b1, p1, x, _, _, _, _, _, Nat.le_refl _, rfl⟩
    · rintro i σ H2 hi ⟨b2, p2, y, v0, v1, v2, v3, v4, ly, rfl⟩
      have hi2 : i < 2 := by omega
      walk_at "rd"
      refine ⟨by rw [sizeLine_eq]; omega, ?_⟩
      walk_at "rd"
      refine ⟨r, _, rfl, p2, by omega, lg (sm62 (by omega) (by omega)), fun a H3 b3 p3 a0 a1 => ?_⟩
      walk_at "rd"
      refine ⟨r, 4, rfl, p3, by decide, by decide, fun c H4 b4 p4 c0 c1 => ?_⟩
      have b24 := (b2.trans b3).trans b4
      walk_at "rd"
      rename_i L nL
      refine ⟨r, L, _, rfl, upd_same, p4.ne nL, by decide, by decide, p4.up nL, fun v H5 hv b5 p5 => ?_⟩
      have b25 := (b24.trans (But.new nL)).trans b5
      have hv2 : v ∈ (["0", "1", "9", ".", ".", "*", " ", "-", "+", "_", "\n", "a"] : List Str).map V.str := hv
      obtain ⟨sg, hsg, rfl⟩ := List.mem_map.mp hv2
      have hle : ∀ y ∈ (["0", "1", "9", ".", ".", "*", " ", "-", "+", "_", "\n", "a"] : List Str), y.length ≤ 1 := by decide +kernel
      have l5 := hle sg hsg
      have c1_ := cut_pre (z := y) a0
      have c2_ := cut_post (z := y) a0
      have c3_ := cut_post (z := y) (i := a + 1) (by omega)
      have c4_ := cut_post (z := y) (i := a + 2) (by omega)
      have c5_ := cut_mid (z := y) (i := a + 1) (j := a + 2) (by omega) (by omega)
      have c6_ := cut_mid (z := y) (i := a) (j := a + 1) (by omega) (by omega)
      have ln : y.length ≤ sizeLine := by rw [sizeLine_eq]; omega
      walk_at "rd"
      refine ite_d (fun h0 => ?_) (fun h0 => ?_)
      · walk_at "rd"
        refine ⟨ln, ?_⟩
        walk_at "rd"
        refine ⟨_, _, rfl, rfl, by rw [sizeLine_eq]; omega, ?_⟩
        walk_at "rd"
        refine ⟨ln, _, _, rfl, rfl, by rw [strLen_append, sizeLine_eq]; omega, ?_⟩
        walk_at "rd"
        exact ⟨b25, p5, _, _, _, _, _, _, by rw [strLen_append, strLen_append]; omega, rfl⟩
      · walk_at "rd"
        refine ite_d (fun h1 => ?_) (fun h1 => ?_)
        · walk_at "rd"
          refine ⟨ln, ?_⟩
          walk_at "rd"
          refine ⟨ln, _, _, rfl, rfl, by rw [sizeLine_eq]; omega, ?_⟩
          walk_at "rd"
          exact ⟨b25, p5, _, _, _, _, _, _, by rw [strLen_append]; omega, rfl⟩
        · walk_at "rd"
          refine ite_d (fun h2 => ?_) (fun h2 => ?_)
          · walk_at "rd"
            refine ⟨ln, ?_⟩
            walk_at "rd"
            refine ⟨_, _, rfl, rfl, by rw [sizeLine_eq]; omega, ?_⟩
            walk_at "rd"
            refine ⟨ln, _, _, rfl, rfl, by rw [strLen_append, sizeLine_eq]; omega, ?_⟩
            walk_at "rd"
            exact ⟨b25, p5, _, _, _, _, _, _, by rw [strLen_append, strLen_append]; omega, rfl⟩
          · walk_at "rd"
            refine ⟨ln, ?_⟩
            walk_at "rd"
            refine ⟨ln, _, _, rfl, rfl, by rw [sizeLine_eq]; omega, ?_⟩
            walk_at "rd"
            refine ⟨ln, ?_⟩
            walk_at "rd"
            refine ⟨_, _, rfl, rfl, by rw [strLen_append, sizeLine_eq]; omega, ?_⟩
            walk_at "rd"
            refine ⟨ln, _, _, rfl, rfl, by rw [strLen_append, strLen_append, sizeLine_eq]; omega, ?_⟩
            walk_at "rd"
            exact ⟨b25, p5, _, _, _, _, _, _, by rw [strLen_append, strLen_append, strLen_append]; omega, rfl⟩
    · rintro σ H2 ⟨b2, p2, y, v0, v1, v2, v3, v4, ly, rfl⟩
      subst eDE
      walk_at "rd"
      exact q y H2 (by omega) b2 p2
theorem c__law_joined : Dn P w K mg base "_law_joined" 4 ["_law_rng_here"] [] spJoined := by
  have c__law_choice := c__law_choice (P := P) (w := w) (base := base) M
  have c__law_draw := c__law_draw (P := P) (w := w) (base := base) M
  refine dnN M.f__law_joined (fun F => ?_) (fun _ _ _ _ _ _ us hl => match us, hl with | [_], _ => rfl)
  refine fnG_body F sc__law_joined (fun vs H Q E h => ?_) (fun cdv A outer s H vs Q E hr h => ?_)
  · obtain ⟨r, rfl, _⟩ := h
    rfl
  · obtain ⟨r, rfl, hp, q⟩ := h
    refine ⟨_, (pss_cons (ps_set (i := 1) sc__law_joined.nd rfl (.inr rfl) (pe_lst (pa_cons pe_str (pa_cons pe_str (pa_cons pe_str (pa_cons pe_str (pa_cons pe_str (pa_cons pe_str (pa_cons pe_str (pa_cons pe_str (pa_cons pe_str (pa_cons pe_str (pa_cons pe_str (pa_cons pe_str (pa_cons pe_str (pa_cons pe_str (pa_cons pe_str (pa_cons pe_str pa_nil)))))))))))))))))) (pss_one (ps_ret (pe_join pe_str (pe_lc (own := [("_law_turn", 2)]) (g := gName 2) (tt := tYes) (by rfl) sc__law_joined.nd (pi_range1 (by rfl) M.b_range (pa_cons (pe_op op_add pe_int (pe_callD c__law_draw (hr.mono (by decide)) rfl (pa_cons (pv 0) (pa_cons pe_int pa_nil)))) pa_nil)) (blkOk_by (own := [("_law_turn", 2)]) (N := N__law_joined) (sc := defScope st__law_joined) (by decide +kernel)) (fun _ _ _ _ _ => pg_name (i := 2) sc__law_joined.nd rfl (by first | exact Or.inl rfl | exact Or.inr rfl)) (fun _ _ _ _ _ => pts_nil) (fun _ _ _ _ _ => (pe_callD c__law_choice (hr.mono (by decide)) rfl (pa_cons (pv 0) (pa_cons (pv 1) pa_nil))))))))), ?_⟩
    refine st_eq (σ := [some _, none, none]) rfl ?_
    walk_at "rd"
    rename_i L nL
    have pL := hp.up (o := .lst ((["0", "1", "2", "6", "10", "00", "06", "..", "..", ".", "...", "*", "", " ", "-1", "**"] : List Str).map V.str)) nL
    have eL : L2.upd H L (.lst ((["0", "1", "2", "6", "10", "00", "06", "..", "..", ".", "...", "*", "", " ", "-1", "**"] : List Str).map V.str)) L = _ := upd_same
    have bL : But r H _ := But.new (o := .lst ((["0", "1", "2", "6", "10", "00", "06", "..", "..", ".", "...", "*", "", " ", "-1", "**"] : List Str).map V.str)) nL
    have lr : L ≠ r := hp.ne nL
    show tM1 _ _ _ _ (L2.upd H L (.lst ((["0", "1", "2", "6", "10", "00", "06", "..", "..", ".", "...", "*", "", " ", "-1", "**"] : List Str).map V.str))) Q
    generalize L2.upd H L (.lst ((["0", "1", "2", "6", "10", "00", "06", "..", "..", ".", "...", "*", "", " ", "-1", "**"] : List Str).map V.str)) = H1 at pL eL bL ⊢
    with_reducible refine s_m1 ?_
    walk_at "rd"
    refine ⟨⟨_, rfl⟩, ?_⟩
    walk_at "rd"
    refine ⟨r, 4, rfl, pL, by decide, by decide, fun d H2 b2 p2 d0 d1 => ?_⟩
    have eL2 := b2.get eL lr
    walk_at "rd"
    refine ⟨by omega, by omega, fun D nD => lc_range (lo := 0) (n := (1 + d).toNat) (fun j H3 => But r H2 H3 ∧ Pot H3 r ∧ ∃ ys : List Str, H3 D = some (.lst (ys.map V.str)) ∧ ys.length = j ∧ ∀ y ∈ ys, y.length ≤ 3) ?_ ?_ ?_⟩
    · exact ⟨But.new nD, p2.up nD, [], upd_same, rfl, fun c hc => by cases hc⟩
    · rintro j H3 hj ⟨b3, p3, ys, eD, ly, hy⟩
      have Dr : D ≠ r := p2.ne nD
      have eL3 := b3.get eL2 lr
      walk_at "rd"
      refine ⟨r, L, _, rfl, eL3, lr, by decide, by decide, p3, fun v H4 hv b4 p4 => ?_⟩
      have eD4 := b4.get eD Dr
      obtain ⟨y, hy2, rfl⟩ := List.mem_map.mp hv
      have hle : ∀ y ∈ (["0", "1", "2", "6", "10", "00", "06", "..", "..", ".", "...", "*", "", " ", "-1", "**"] : List Str), y.length ≤ 3 := by decide +kernel
      refine ⟨_, eD4, ?_, (b3.trans b4).upf nD, p4.upn Dr, ys ++ [y], ?_, by simp [ly], ?_⟩
      · rw [List.length_map, sizeLine_eq]
        omega
      · rw [upd_same, List.map_append]
        rfl
      · intro c hc
        rcases List.mem_append.mp hc with z | z
        · exact hy c z
        · rw [List.mem_singleton.mp z]
          exact hle y hy2
    · rintro H3 ⟨b3, p3, ys, eD, ly, hy⟩
      have h12 := join_le hy (by omega)
      refine ⟨_, D, ys, rfl, rfl, .inl (SqL.of eD), ?_, ?_⟩
      · rw [show (Str.ofString "").length = 0 from by decide +kernel]
        omega
      · refine q _ H3 ?_ ((bL.trans b2).trans b3) p3
        have ej : Txt.join "" ys = Str.join "" ys := StrLaws.glued_eq_join _ _
        rw [ej]
        have := StrLaws.join_length_le "" ys
        rw [show (Str.ofString "").length = 0 from by decide +kernel] at this
        omega
end
end My
end
section
open My L2 PySem
open My L2 PySem
local macro_rules | `(tactic| walk_at "as") => `(tactic| with_reducible assumption)
local macro_rules | `(tactic| walk_at "hp") => `(tactic| first
  | walk_at "as" | exact upd_same
  | (rw [upd_ne (by walk_at "ne")]; walk_at "hp")
  | (refine But.get (by walk_at "as") ?hp1 ?hp2; (case hp1 => walk_at "hp"); (case hp2 => walk_at "ne"))
  | (refine My.Same.get (by walk_at "as") ?hp1; (case hp1 => walk_at "hp")))
local macro_rules | `(tactic| walk_at "ne") => `(tactic| first
  | walk_at "as" | exact Ne.symm (by walk_at "as")
  | (refine' ne_of_none ?ne1 ?ne2; (case ne2 => walk_at "as"); (case ne1 => walk_at "hp"))
  | (refine' Ne.symm (ne_of_none ?ne1 ?ne2); (case ne2 => walk_at "as"); (case ne1 => walk_at "hp"))
  | exact ne_of (by walk_at "hp") (by walk_at "hp") (by intro z; cases z))
local macro_rules | `(tactic| walk_at "sd") => `(tactic| first
  | walk_at "as" | omega | decide | exact ⟨by omega, by omega⟩ | exact .inl ⟨by omega, by omega⟩ | exact .inr ⟨by omega, by omega⟩ | exact divp_wide (by walk_at "as") (by walk_at "as") | exact Sm.cmul (by walk_at "as") (by walk_at "as") | exact cmul_small (by omega) (by omega) (by omega) (by omega) | exact ⟨by omega, by decide⟩)
local macro_rules | `(tactic| walk_at "bt") => `(tactic| first
  | walk_at "as" | exact But.refl _ _ | exact Same.but (by walk_at "as")
  | (refine But.trans ?bt1 But.at; (case bt1 => walk_at "bt"))
  | (refine But.trans ?bt1 (But.new (by first | walk_at "as" | walk_at "hp")); (case bt1 => walk_at "bt"))
  | (refine But.trans ?bt1 (by walk_at "as"); (case bt1 => walk_at "bt"))
  | (refine But.trans ?bt1 (Same.but (by walk_at "as")); (case bt1 => walk_at "bt")))
local macro_rules | `(tactic| walk_at "sm") => `(tactic| first
  | walk_at "as" | exact My.Same.rfl' _
  | (refine' My.Same.at_ ?sm1 ?sm2; (case sm1 => walk_at "as"); (case sm2 => walk_at "sm"))
  | (refine' My.Same.tr ?sm1 (My.Same.new ?sm2); (case sm2 => walk_at "as"); (case sm1 => walk_at "sm"))
  | (refine' My.Same.tr ?sm1 ?sm2; (case sm2 => walk_at "as"); (case sm1 => walk_at "sm")))
local macro_rules | `(tactic| walk_at "sz") => `(tactic| first
  | assumption | exact lt_size (by rfl) | exact le_size (by rfl) | (rw [sizeLine_eq]; omega)
  | (rw [sizeLine_eq]; simp only [List.length_append, List.length_map, List.length_cons, List.length_nil]; omega))
local macro_rules | `(tactic| walk_at "few") => `(tactic| (repeat refine few_put ?_); exact few0)
local macro_rules | `(tactic| walk_at "rd1") => `(tactic| first
  | (with_reducible show tVar _ _ _ _); refine s_var rfl ?_
  | with_reducible refine s_c ?_ | with_reducible refine s_op ?_ | with_reducible refine s_un ?_
  | with_reducible refine s_cons ?_ | with_reducible refine s_nil ?_ | with_reducible refine s_cb ?_
  | with_reducible refine s_test ?_ | with_reducible refine s_B ?_ | with_reducible refine s_not ?_ | with_reducible refine s_and ?_ | with_reducible refine s_or ?_
  | with_reducible refine s_if ?_ | with_reducible refine s_notV ?_ | with_reducible refine s_andV ?_ | with_reducible refine s_orV ?_
  | with_reducible refine s_orT ?_ | with_reducible refine s_andT ?_ | with_reducible refine s_chain ?_
  | with_reducible refine s_isi_int ?_ | with_reducible refine s_isi_int_bool ?_ | with_reducible refine s_isi_str ?_
  | with_reducible refine iteT ?_ | with_reducible refine iteF ?_ | with_reducible refine iteNT ?_ | with_reducible refine iteNF ?_
  | with_reducible refine s_isN ?_ | with_reducible refine s_notN ?_
  | ((with_reducible refine' s_2setE ?g1 ?_); (case g1 => first | (dsimp only [List.set, L2.wipe, List.map, List.foldl]; done) | (dsimp only [List.set, L2.wipe, List.map, List.foldl]; rfl)))
  | with_reducible refine s_seq ?_ | with_reducible refine s_ifS ?_ | with_reducible refine s_asg ?_ | with_reducible refine s_ret ?_ | with_reducible refine s_drop ?_ | with_reducible refine s_next ?_
  | ((with_reducible refine' s_gnameE ?g1 ?_); (case g1 => first | (dsimp only [List.set, L2.wipe, List.map, List.foldl]; done) | (dsimp only [List.set, L2.wipe, List.map, List.foldl]; rfl)))
  | with_reducible refine s_gsub ?_ | with_reducible refine s_gcons ?_ | with_reducible refine s_gnil ?_
  | (with_reducible show gTup _ _ _ _ _ _ _); refine s_gtup (by walk_at "hp") rfl ?_
  | with_reducible refine s_eqI ?_ | with_reducible refine s_neI ?_ | with_reducible refine s_eqS ?_ | with_reducible refine s_neB ?_ | with_reducible refine s_eqB ?_ | with_reducible refine s_neSr ?_ | with_reducible refine s_neS ?_
  | with_reducible refine s_I0 ?_
  | (with_reducible show rI _ _ _ _ _ _); refine s_I (by walk_at "sd") ?_
  | (with_reducible show rIxL _ _ _ _ _); refine s_ixL (by walk_at "hp") rfl ?_
  | (with_reducible show rIxT _ _ _ _ _); refine s_ixT (by walk_at "hp") rfl ?_
  | (with_reducible show rSetL _ _ _ _ _); refine s_setL (by walk_at "hp") rfl ?_
  | with_reducible refine s_prop ?_
  | (with_reducible show _ ≤ sizeLine ∧ _); refine ⟨le_size (by rfl), ?_⟩
  | with_reducible refine ite_NN ?_ | with_reducible refine ite_IN ?_ | with_reducible refine ite_nNN ?_ | with_reducible refine ite_nIN ?_ | with_reducible refine ite_RN ?_ | with_reducible refine ite_nRN ?_
  | with_reducible refine s_sfld ?_
  | ((with_reducible refine' ⟨_, _, _, _, rfl, ?fp1, ?fp2, ?fp3, ?fp4, ?_⟩); (case fp1 => walk_at "hp"); (case fp2 => assumption); (case fp3 => assumption); (case fp4 => walk_at "few"))
  | with_reducible refine s_fldE ?_
  | ((with_reducible refine' ⟨_, _, _, _, _, rfl, ?fp1, ?fp2, ?fp3, ?fp4, ?_⟩); (case fp1 => walk_at "hp"); (case fp2 => assumption); (case fp3 => assumption); (case fp4 => rfl))
  | with_reducible refine s_bm ?_ | with_reducible refine s_bm0 ?_
  | ((with_reducible refine' s_tyL ?ty1 ?_); (case ty1 => walk_at "hp"))
  | ((with_reducible refine' s_append ?ap1 ?ap2 ?_); (case ap1 => walk_at "hp"); (case ap2 => walk_at "sz"))
  | ((with_reducible refine' s_extend ?ap1 ?ap2 ?ap3 ?_); (case ap1 => walk_at "hp"); (case ap2 => walk_at "hp"); (case ap3 => walk_at "sz"))
  | with_reducible refine s_for (fun _ _ => ?_) | with_reducible refine s_lc ?_ | with_reducible refine s_iList ?_ | with_reducible refine s_iTup ?_ | with_reducible refine s_iRng1 ?_ | with_reducible refine s_iRng2 ?_
  | with_reducible refine s_yes ?_ | with_reducible refine s_par ?_
  | with_reducible refine s_make ?_ | with_reducible refine s_meth ?_
  | with_reducible refine s_tup ?_ | with_reducible refine s_lst ?_ | with_reducible refine s_call ?_
  | with_reducible refine ⟨rfl, ?_⟩
  | with_reducible refine ⟨_, rfl, ?_⟩
  | ((with_reducible refine' ⟨_, _, rfl, ?sd1, ?_⟩); (case sd1 => walk_at "sd"))
  | with_reducible refine ⟨_, _, rfl, ?_⟩
  | with_reducible refine .inl ⟨_, rfl, ?_⟩
  | dsimp only [List.set]
  | walk_at "rdx"
  | (refine fun _ _ => ?_))
local macro_rules | `(tactic| walk_at "rd") => `(tactic| repeat (first
  | (with_reducible show tVar _ _ _ _); refine s_var rfl ?_
  | with_reducible refine s_c ?_ | with_reducible refine s_op ?_ | with_reducible refine s_un ?_
  | with_reducible refine s_cons ?_ | with_reducible refine s_nil ?_ | with_reducible refine s_cb ?_
  | with_reducible refine s_test ?_ | with_reducible refine s_B ?_ | with_reducible refine s_not ?_ | with_reducible refine s_and ?_ | with_reducible refine s_or ?_
  | with_reducible refine s_if ?_ | with_reducible refine s_notV ?_ | with_reducible refine s_andV ?_ | with_reducible refine s_orV ?_
  | with_reducible refine s_orT ?_ | with_reducible refine s_andT ?_ | with_reducible refine s_chain ?_
  | with_reducible refine s_isi_int ?_ | with_reducible refine s_isi_int_bool ?_ | with_reducible refine s_isi_str ?_
  | with_reducible refine iteT ?_ | with_reducible refine iteF ?_ | with_reducible refine iteNT ?_ | with_reducible refine iteNF ?_
  | with_reducible refine s_isN ?_ | with_reducible refine s_notN ?_
  | ((with_reducible refine' s_2setE ?g1 ?_); (case g1 => first | (dsimp only [List.set, L2.wipe, List.map, List.foldl]; done) | (dsimp only [List.set, L2.wipe, List.map, List.foldl]; rfl)))
  | with_reducible refine s_seq ?_ | with_reducible refine s_ifS ?_ | with_reducible refine s_asg ?_ | with_reducible refine s_ret ?_ | with_reducible refine s_drop ?_ | with_reducible refine s_next ?_
  | ((with_reducible refine' s_gnameE ?g1 ?_); (case g1 => first | (dsimp only [List.set, L2.wipe, List.map, List.foldl]; done) | (dsimp only [List.set, L2.wipe, List.map, List.foldl]; rfl)))
  | with_reducible refine s_gsub ?_ | with_reducible refine s_gcons ?_ | with_reducible refine s_gnil ?_
  | (with_reducible show gTup _ _ _ _ _ _ _); refine s_gtup (by walk_at "hp") rfl ?_
  | with_reducible refine s_eqI ?_ | with_reducible refine s_neI ?_ | with_reducible refine s_eqS ?_ | with_reducible refine s_neB ?_ | with_reducible refine s_eqB ?_ | with_reducible refine s_neSr ?_ | with_reducible refine s_neS ?_
  | with_reducible refine s_I0 ?_
  | (with_reducible show rI _ _ _ _ _ _); refine s_I (by walk_at "sd") ?_
  | (with_reducible show rIxL _ _ _ _ _); refine s_ixL (by walk_at "hp") rfl ?_
  | (with_reducible show rIxT _ _ _ _ _); refine s_ixT (by walk_at "hp") rfl ?_
  | (with_reducible show rSetL _ _ _ _ _); refine s_setL (by walk_at "hp") rfl ?_
  | with_reducible refine s_prop ?_
  | (with_reducible show _ ≤ sizeLine ∧ _); refine ⟨le_size (by rfl), ?_⟩
  | with_reducible refine ite_NN ?_ | with_reducible refine ite_IN ?_ | with_reducible refine ite_nNN ?_ | with_reducible refine ite_nIN ?_ | with_reducible refine ite_RN ?_ | with_reducible refine ite_nRN ?_
  | with_reducible refine s_sfld ?_
  | ((with_reducible refine' ⟨_, _, _, _, rfl, ?fp1, ?fp2, ?fp3, ?fp4, ?_⟩); (case fp1 => walk_at "hp"); (case fp2 => assumption); (case fp3 => assumption); (case fp4 => walk_at "few"))
  | with_reducible refine s_fldE ?_
  | ((with_reducible refine' ⟨_, _, _, _, _, rfl, ?fp1, ?fp2, ?fp3, ?fp4, ?_⟩); (case fp1 => walk_at "hp"); (case fp2 => assumption); (case fp3 => assumption); (case fp4 => rfl))
  | with_reducible refine s_bm ?_ | with_reducible refine s_bm0 ?_
  | ((with_reducible refine' s_tyL ?ty1 ?_); (case ty1 => walk_at "hp"))
  | ((with_reducible refine' s_append ?ap1 ?ap2 ?_); (case ap1 => walk_at "hp"); (case ap2 => walk_at "sz"))
  | ((with_reducible refine' s_extend ?ap1 ?ap2 ?ap3 ?_); (case ap1 => walk_at "hp"); (case ap2 => walk_at "hp"); (case ap3 => walk_at "sz"))
  | with_reducible refine s_for (fun _ _ => ?_) | with_reducible refine s_lc ?_ | with_reducible refine s_iList ?_ | with_reducible refine s_iTup ?_ | with_reducible refine s_iRng1 ?_ | with_reducible refine s_iRng2 ?_
  | with_reducible refine s_yes ?_ | with_reducible refine s_par ?_
  | with_reducible refine s_make ?_ | with_reducible refine s_meth ?_
  | with_reducible refine s_tup ?_ | with_reducible refine s_lst ?_ | with_reducible refine s_call ?_
  | with_reducible refine ⟨rfl, ?_⟩
  | with_reducible refine ⟨_, rfl, ?_⟩
  | ((with_reducible refine' ⟨_, _, rfl, ?sd1, ?_⟩); (case sd1 => walk_at "sd"))
  | with_reducible refine ⟨_, _, rfl, ?_⟩
  | with_reducible refine .inl ⟨_, rfl, ?_⟩
  | dsimp only [List.set]
  | walk_at "rdx"
  | (refine fun _ _ => ?_)))

namespace My
open PySem L2
section
variable {P : Program} {w : World} {K : PySem.W.Frag} {mg : Str → Option Value} {base : Heap} {C_Many C_EachError C_InvalidText : Addr} (M : Md K mg C_Many C_EachError C_InvalidText)
include M
local macro_rules | `(tactic| walk_at "rdx") => `(tactic| first | with_reducible refine s_ostG ?_ | with_reducible refine s_raE ?_ | with_reducible refine s_callX ?_ | with_reducible refine s_staXk ?_ | with_reducible refine s_slS ?_ | with_reducible refine s_noPart ?_ | with_reducible refine s_part ?_ | ((with_reducible refine' s_mcall ?mc1 ?mc2 ?_); (case mc1 => walk_at "hp"); (case mc2 => rfl)))
omit M
theorem at_iff {x : Str} {i : Nat} : StrLaws.At x dots x.length i ↔ i + 2 ≤ (cps x).length ∧ ((cps x).drop i).take 2 = [46, 46] := by
  have e : dots.cps.toList = [46, 46] := by decide +kernel
  have e2 : dots.length = 2 := by decide +kernel
  have hl : x.length = (cps x).length := by
    rw [Array.length_toList]
    rfl
  unfold StrLaws.At
  rw [StrLaws.subAt_eq, e2, hl, beq_iff_eq, e]
theorem occ_split {x : Str} {A B : List Nat} (h : cps x = A ++ 46 :: 46 :: B) (hA : ∀ c ∈ A, c ≠ 46) : ∃ r, occ x = A.length :: r ∧ cps (head x A.length) = A ∧ cps (tail x A.length) = B := by
  have hl : x.length = (cps x).length := by
    rw [Array.length_toList]
    rfl
  have hat : StrLaws.At x dots x.length A.length := by
    rw [at_iff, h]
    refine ⟨by simp, ?_⟩
    rw [List.drop_left]
    rfl
  have hno : ∀ i, i < A.length → ¬ StrLaws.At x dots x.length i := by
    intro i hi z
    rw [at_iff, h] at z
    have z2 := z.2
    have e3 : ((A ++ 46 :: 46 :: B).drop i)[0]? = some (A[i]) := by
      rw [List.getElem?_drop, Nat.add_zero, List.getElem?_append_left hi, List.getElem?_eq_getElem hi]
    have e4 : (((A ++ 46 :: 46 :: B).drop i).take 2)[0]? = some (A[i]) := by
      rw [List.getElem?_take_of_lt (by decide)]
      exact e3
    rw [z2] at e4
    have e5 : 46 = A[i] := Option.some.inj e4
    exact hA _ (List.getElem_mem hi) e5.symm
  have ho := StrLaws.occ_head x dots 1 (Nat.le_refl 1)
  have e1 : ∃ r, occ x = A.length :: r := by
    rcases ho with ⟨_, h2⟩ | ⟨i, r, h1, h2, h3⟩
    · exact absurd hat (h2 _)
    · refine ⟨r, ?_⟩
      have : i = A.length := by
        rcases Nat.lt_trichotomy i A.length with g | g | g
        · exact absurd h2 (hno i g)
        · exact g
        · exact absurd hat (h3 _ g)
      rw [← this]
      exact h1
  obtain ⟨r, e1⟩ := e1
  refine ⟨r, e1, ?_, ?_⟩
  · show (Builtin.Str.strSub x 0 A.length).cps.toList = A
    rw [StrLaws.strSub_toList]
    have h' : x.cps.toList = A ++ 46 :: 46 :: B := h
    rw [h', List.drop_zero, Nat.sub_zero, List.take_left]
  · show (Builtin.Str.strSub x (A.length + 2) x.length).cps.toList = B
    rw [StrLaws.strSub_toList]
    have h' : x.cps.toList = A ++ 46 :: 46 :: B := h
    rw [hl, h, h', ← List.drop_drop, List.drop_left]
    show List.take _ B = B
    refine List.take_of_length_le ?_
    simp
    omega
theorem occ_nil {x : Str} (h : ∀ c ∈ cps x, c ≠ 46) : occ x = [] := by
  have ho := StrLaws.occ_head x dots 1 (Nat.le_refl 1)
  rcases ho with ⟨h1, _⟩ | ⟨i, r, _, h2, _⟩
  · exact h1
  · rw [at_iff] at h2
    have m : (46 : Nat) ∈ ((cps x).drop i).take 2 := by
      rw [h2.2]
      exact List.mem_cons_self
    exact absurd rfl (h 46 (List.mem_of_mem_drop (List.mem_of_mem_take m)))
theorem num_no (n : Nat) : ∀ c ∈ TL.numL n, c ≠ 46 := fun c hc z => by
  have := TL.numL_digits n c hc
  omega
theorem cps_app (a b : Str) : cps (a ++ b) = cps a ++ cps b := by
  show (a.cps ++ b.cps).toList = a.cps.toList ++ b.cps.toList
  exact Array.toList_append
theorem read_words (l : Nat) (h : Option Nat) (hh : ∀ m, h = some m → l ≤ m) : readOf (words (l, h)) = some (l, h) := by
  have one : ∀ x : Str, cps x = TL.numL l → readOf x = some (l, some l) := fun x e => by
    unfold readOf
    rw [occ_nil (fun c hc => num_no l c (by rw [← e]; exact hc)), e, numIn_num]
    rfl
  cases h with
  | none =>
    have e : cps (words (l, none)) = TL.numL l ++ 46 :: 46 :: [42] := by
      show cps (Str.ofString (toString (l : Int)) ++ "..*") = _
      rw [cps_app, cps_num]
      rfl
    obtain ⟨r, e1, e2, e3⟩ := occ_split e (num_no l)
    unfold readOf
    rw [e1]
    dsimp only
    rw [e2, numIn_num]
    dsimp only
    rw [if_pos]
    exact str_ext (e3.trans (by decide +kernel))
  | some m =>
    by_cases z : l = m
    · subst z
      refine one _ ?_
      show cps (if l = l then _ else _) = _
      rw [if_pos rfl]
      exact cps_num l
    · have hm := hh m rfl
      have e : cps (words (l, some m)) = TL.numL l ++ 46 :: 46 :: TL.numL m := by
        show cps (if l = m then _ else _) = _
        rw [if_neg z, cps_app, cps_app, cps_num, cps_num]
        have d : cps (Str.ofString "..") = [46, 46] := by decide +kernel
        rw [d, List.append_assoc]
        rfl
      obtain ⟨r, e1, e2, e3⟩ := occ_split e (num_no l)
      unfold readOf
      rw [e1]
      dsimp only
      rw [e2, numIn_num]
      dsimp only
      rw [if_neg, e3, numIn_num]
      · dsimp only
        rw [if_neg (by omega)]
      · intro q
        rw [q] at e3
        have : cps (Str.ofString "*") = [42] := by decide +kernel
        rw [this] at e3
        have := TL.numL_digits m 42 (by rw [← e3]; exact List.mem_cons_self)
        omega
theorem sm_29 {n : Nat} (h : n ≤ 10 ^ 400) : Sm 1900 n := by
  show ((n : Int)).natAbs < 2 ^ 1900
  rw [Int.natAbs_natCast]
  exact Nat.lt_of_le_of_lt h (by decide +kernel)
theorem num_len30 {n k : Nat} (h : n < 10 ^ k) (hk : 0 < k) : (Str.ofString (toString (n : Int))).length ≤ k := by
  rw [len_num]
  exact TL.numL_len hk h
theorem words_len {l : Nat} {h : Option Nat} {k : Nat} (hk : 0 < k) (g : l < 10 ^ k) (g2 : ∀ m, h = some m → m < 10 ^ k) : (words (l, h)).length ≤ 2 * k + 3 := by
  have a1 := num_len30 g hk
  cases h with
  | none =>
    show (Str.ofString (toString (l : Int)) ++ "..*").length ≤ _
    rw [strLen_append, show (Str.ofString "..*").length = 3 from by decide +kernel]
    omega
  | some m =>
    have a2 := num_len30 (g2 m rfl) hk
    show (if l = m then Str.ofString (toString (l : Int)) else Str.ofString (toString (l : Int)) ++ ".." ++ Str.ofString (toString (m : Int))).length ≤ _
    split
    · omega
    · rw [strLen_append, strLen_append, show (Str.ofString "..").length = 2 from by decide +kernel]
      omega
theorem rep_map (n : Nat) : List.replicate n (V.bl true) = (List.replicate n true).map V.bl := by
  rw [List.map_replicate]
theorem rep_all (n : Nat) : (List.replicate n true).all id = true := by
  induction n with
  | zero => rfl
  | succ n ih => simpa using ih
theorem But.sm {r : Addr} {H H1 H2 : Hp} (b : But r H H1) (s : L2.Same H1 H2) : But r H H2 := fun c o e n => s c o (b c o e n)
def spRight : Sp := fun vs H Q _ => ∃ r : Addr, vs = [.ref r] ∧ Pot H r ∧ ∀ H', But r H H' → Pot H' r → Q (.bl true) H'
include M
theorem c__law_right : Dn P w K mg base "_law_right" 9 ["_law_rng_here"] [] spRight := by
  have c__law_draw := c__law_draw (P := P) (w := w) (base := base) M
  have c__law_pair := c__law_pair (P := P) (w := w) (base := base) M
  have c__law_words := c__law_words (P := P) (w := w) (base := base) M
  have c__law_bent := c__law_bent (P := P) (w := w) (base := base) M
  have c__law_joined := c__law_joined (P := P) (w := w) (base := base) M
  have c__law_told := c__law_told (P := P) (w := w) (base := base) M
  have c__law_text_right := c__law_text_right (P := P) (w := w) (base := base) M
  have c_Many_read := c_Many_read (P := P) (w := w) (base := base) M
  have c_Many_2 := c_Many_2 (P := P) (w := w) (base := base) M
  have c_Many___eq__ := c_Many___eq__ (P := P) (w := w) (base := base) M
  have c_Many___str__ := c_Many___str__ (P := P) (w := w) (base := base) M
  refine dnN M.f__law_right (fun F => ?_) (fun _ _ _ _ _ _ us hl => match us, hl with | [_], _ => rfl)
  refine fnG_body F sc__law_right (fun vs H Q E h => ?_) (fun cdv A outer s H vs Q E hr h => ?_)
  · obtain ⟨r, rfl, _⟩ := h
    rfl
  · obtain ⟨r, rfl, hp, q⟩ := h
    refine ⟨_, (pss_cons (ps_for (passes_of rfl) rfl (pi_range1 (by rfl) M.b_range (pa_cons pe_int pa_nil)) (pg_name (i := 1) sc__law_right.nd rfl (.inl rfl)) (pss_cons (ps_set (i := 2) sc__law_right.nd rfl (.inl rfl) (pe_callD c__law_pair (hr.mono (by decide)) rfl (pa_cons (pv 0) pa_nil))) (pss_cons (ps_set (i := 3) sc__law_right.nd rfl (.inr rfl) (pe_callD c__law_words (hr.mono (by decide)) rfl (pa_cons (pv 2) pa_nil))) (pss_cons (ps_if (PW.pt (pw_or (pt_cmpR op_ne (pe_callTy (call_strO c_Many___str__ (hr.mono (by decide))) (by rfl) M.b_str (by decide +kernel) (pa_cons (pe_makeD c_Many_2 (hr.mono (by decide)) rfl (pa_cons (pe_ix ix_tup (pv 2) pe_int (fun _ _ => rfl)) (pa_cons (pe_ix ix_tup (pv 2) pe_int (fun _ _ => rfl)) pa_nil))) pa_nil)) (pv 3) (nomark _)) (pw_or1 (pt_cmpR (or_neO c_Many___eq__ M.ne_Many M.mo_Many (hr.mono (by decide))) (pe_staX c_Many_read takes_none5 (hr.mono (by decide)) rfl (pa_cons (pv 3) pa_nil)) (pe_makeD c_Many_2 (hr.mono (by decide)) rfl (pa_cons (pe_ix ix_tup (pv 2) pe_int (fun _ _ => rfl)) (pa_cons (pe_ix ix_tup (pv 2) pe_int (fun _ _ => rfl)) pa_nil))) (nomark _))))) (pss_one (ps_ret pe_bl)) pss_nil) (pss_cons (ps_set (i := 4) sc__law_right.nd rfl (.inl rfl) (pe_op op_cat (pe_op op_cat (pe_lst (pa_cons (pv 3) pa_nil)) (pe_lc (own := [("_law_again", 8)]) (g := gName 8) (tt := tYes) (by rfl) sc__law_right.nd (pi_range1 (by rfl) M.b_range (pa_cons pe_int pa_nil)) (blkOk_by (own := [("_law_again", 8)]) (N := N__law_right) (sc := defScope st__law_right) (by decide +kernel)) (fun _ _ _ _ _ => pg_name (i := 8) sc__law_right.nd rfl (by first | exact Or.inl rfl | exact Or.inr rfl)) (fun _ _ _ _ _ => pts_nil) (fun _ _ _ _ _ => (pe_callD c__law_bent (hr.mono (by decide)) rfl (pa_cons (pv 0) (pa_cons (pv 3) pa_nil)))))) (pe_lst (pa_cons (pe_callD c__law_joined (hr.mono (by decide)) rfl (pa_cons (pv 0) pa_nil)) (pa_cons (pe_callD c__law_joined (hr.mono (by decide)) rfl (pa_cons (pv 0) pa_nil)) pa_nil))))) (pss_one (ps_if (pt_not (pt_val (pe_callB (cr_all rfl) (by rfl) M.b_all (by decide +kernel) (pa_cons (pe_lc (own := [("_law_one", 7)]) (g := gName 7) (tt := tYes) (by rfl) sc__law_right.nd (pi_list (pv 4)) (blkOk_by (own := [("_law_one", 7)]) (N := N__law_right) (sc := defScope st__law_right) (by decide +kernel)) (fun _ _ _ _ _ => pg_name (i := 7) sc__law_right.nd rfl (by first | exact Or.inl rfl | exact Or.inr rfl)) (fun _ _ _ _ _ => pts_nil) (fun _ _ _ _ _ => (pe_callD c__law_text_right (hr.mono (by decide)) rfl (pa_cons (pv 7) pa_nil)))) pa_nil)))) (pss_one (ps_ret pe_bl)) pss_nil))))))) (pss_cons (ps_set (i := 5) sc__law_right.nd rfl (.inl rfl) (pe_op op_add (pe_op op_pow pe_int pe_int) (pe_callD c__law_draw (hr.mono (by decide)) rfl (pa_cons (pv 0) (pa_cons (pe_op op_pow pe_int pe_int) pa_nil))))) (pss_cons (ps_if (pt_not (pt_val (pe_callB (cr_all rfl) (by rfl) M.b_all (by decide +kernel) (pa_cons (pe_lc (own := [("_law_pair_here", 2)]) (g := gName 2) (tt := tYes) (by rfl) sc__law_right.nd (pi_list (pe_lst (pa_cons (pe_tup (pa_cons (pv 5) (pa_cons pe_non pa_nil))) (pa_cons (pe_tup (pa_cons (pv 5) (pa_cons (pv 5) pa_nil))) (pa_cons (pe_tup (pa_cons (pv 5) (pa_cons (pe_op op_add (pv 5) pe_int) pa_nil))) pa_nil))))) (blkOk_by (own := [("_law_pair_here", 2)]) (N := N__law_right) (sc := defScope st__law_right) (by decide +kernel)) (fun _ _ _ _ _ => pg_name (i := 2) sc__law_right.nd rfl (by first | exact Or.inl rfl | exact Or.inr rfl)) (fun _ _ _ _ _ => pts_nil) (fun _ _ _ _ _ => (pe_callD c__law_text_right (hr.mono (by decide)) rfl (pa_cons (pe_callD c__law_words (hr.mono (by decide)) rfl (pa_cons (pv 2) pa_nil)) pa_nil)))) pa_nil)))) (pss_one (ps_ret pe_bl)) pss_nil) (pss_cons (ps_set (i := 6) sc__law_right.nd rfl (.inl rfl) (pe_lst (pa_cons pe_non (pa_cons pe_int (pa_cons pe_int (pa_cons pe_bl (pa_cons (pe_tup (pa_cons pe_int (pa_cons pe_int pa_nil))) (pa_cons (pe_lst (pa_cons pe_str pa_nil)) (pa_cons pe_dnewK (pa_cons (pe_makeD c_Many_2 (hr.mono (by decide)) rfl (pa_cons pe_int (pa_cons pe_int pa_nil))) (pa_cons (pe_tup (pa_cons pe_str pa_nil)) (pa_cons (pe_lst pa_nil) (pa_cons (pe_disp (pps_cons pe_str pe_str pps_nil) rfl rfl (by simp) (by decide)) pa_nil))))))))))))) (pss_one (ps_ret (pe_callB (cr_all rfl) (by rfl) M.b_all (by decide +kernel) (pa_cons (pe_lc (own := [("_law_one", 7)]) (g := gName 7) (tt := tYes) (by rfl) sc__law_right.nd (pi_list (pv 6)) (blkOk_by (own := [("_law_one", 7)]) (N := N__law_right) (sc := defScope st__law_right) (by decide +kernel)) (fun _ _ _ _ _ => pg_name (i := 7) sc__law_right.nd rfl (by first | exact Or.inl rfl | exact Or.inr rfl)) (fun _ _ _ _ _ => pts_nil) (fun _ _ _ _ _ => (pe_cmpR op_eq (pe_callD c__law_told (hr.mono (by decide)) rfl (pa_cons (pv 7) pa_nil)) pe_str (nomark _)))) pa_nil)))))))), ?_⟩
    refine st_eq (σ := [some _, none, none, none, none, none, none, none, none]) rfl ?_
    walk_at "rd"
    rename_i DE eDE
    refine ⟨by decide, by decide, for_range (lo := 0) (fun i σ H' => But r H H' ∧ Pot H' r ∧ ∃ (v0 v1 v2 v3 v4 v5 v6 v7 : Option V), σ = [some (.ref r), v0, v1, v2, v3, v4, v5, v6, v7]) ?_ ?_ ?_⟩
    · exact ⟨But.refl r H, hp, _, _, _, _, _, _, _, _, rfl⟩
    · rintro i σ H1 hi ⟨b1, p1, v0, v1, v2, v3, v4, v5, v6, v7, rfl⟩
      walk_at "rd"
      refine ⟨r, rfl, p1, fun p l h H2 hl hh b2 p2 ep => ?_⟩
      have z1 : Sm 1900 l := sm_29 (Nat.le_trans hl (by decide +kernel))
      have z2 : ∀ m, h = some m → Sm 1900 m := fun m e => sm_29 (Nat.le_trans (hh m e).2 (by decide +kernel))
      have wl : (words (l, h)).length ≤ 63 := words_len (k := 30) (by decide) (Nat.lt_of_le_of_lt hl (by decide +kernel)) (fun m e => Nat.lt_of_le_of_lt (hh m e).2 (by decide +kernel))
      have b12 := b1.trans b2
      walk_at "rd"
      refine ⟨p, l, h, rfl, ep, z1, z2, ?_⟩
      have hI : ∀ g, oI h = some g → (l : Int) ≤ g := fun g e => by
        cases h with
        | none => cases e
        | some m =>
          have e2 : (m : Int) = g := Option.some.inj e
          have := (hh m rfl).1
          omega
      have hrd : readOf (words (l, h)) = some (l, h) := read_words l h fun m e => (hh m e).1
      walk_at "rd"
      rename_i X DX nX nDX
      refine fun neX => ⟨X, DX, l, oI h, by rw [optN_V]; rfl, upd_same, Int.natCast_nonneg l, hI, fun H3 bX mX => ⟨rfl, ?_⟩⟩
      have s3 : L2.Same H2 H3 := bX.same (My.Same.at_ nX (My.Same.new nDX)) nX
      have ep3 := s3 _ _ ep
      walk_at "rd"
      obtain ⟨dx, ky, e, e2⟩ := id mX
      refine ⟨X, dx, _, rfl, e, X, l, h, rfl, mX, z1, z2, _, rfl, ?_⟩
      walk_at "rd"
      refine ⟨.str (words (l, h)), rfl, .inl ⟨words (l, h), rfl, by omega, fun hn => ?_, fun l2 h2 hr2 m2 H4 s4 hm2 => ?_⟩⟩
      · rw [hrd] at hn
        cases hn
      rw [hrd] at hr2
      obtain ⟨rfl, rfl⟩ := Prod.mk.inj (Option.some.inj hr2)
      have ep4 := s4 _ _ ep3
      walk_at "rd"
      rename_i Y DY nY nDY
      refine fun neY => ⟨Y, DY, l, oI h, by rw [optN_V]; rfl, upd_same, Int.natCast_nonneg l, hI, fun H5 bY mY => ⟨rfl, ?_⟩⟩
      have s5 : L2.Same H4 H5 := bY.same (My.Same.at_ nY (My.Same.new nDY)) nY
      walk_at "rd"
      have hm5 := hm2.same s5
      obtain ⟨dxm, kym, em, em2⟩ := id hm5
      obtain ⟨dxy, kyy, ey, ey2⟩ := id mY
      refine ⟨m2, dxm, _, .ref C_Many, rfl, em, .base (M.z_Many ey), nf_own, m2, Y, l, oI h, rfl, hm5, mY, true, rfl, ?_⟩
      have s25 : L2.Same H2 H5 := (s3.trans s4).trans s5
      have b5 : But r H H5 := fun c o e' n' => s25 _ _ (b12 c o e' n')
      have p5 := p2.same s25
      clear hm2 hm5 em em2 ey ey2 mX e e2 mY bX bY
      walk_at "rd"
      rename_i L1 nL1
      have e6 : (L2.upd H5 L1 (.lst [.str (words (l, h))])) L1 = some (.lst [.str (words (l, h))]) := upd_same
      have b6 : But r H _ := b5.trans (But.new (o := .lst [.str (words (l, h))]) nL1)
      have p6 := p5.up (o := .lst [.str (words (l, h))]) nL1
      have n6 : L1 ≠ r := p5.ne nL1
      generalize L2.upd H5 L1 (.lst [.str (words (l, h))]) = H6 at e6 b6 p6 ⊢
      refine ⟨by decide, by decide, fun D nD => lc_range (lo := 0) (n := 4) (fun j H' => But r H6 H' ∧ Pot H' r ∧ ∃ ys : List Str, H' D = some (.lst (ys.map V.str)) ∧ ys.length = j ∧ ∀ y ∈ ys, y.length ≤ 100) ?_ ?_ ?_⟩
      · exact ⟨But.new nD, p6.up nD, [], upd_same, rfl, fun c hc => by cases hc⟩
      · rintro j H7 hj ⟨b7, p7, ys, eD, ly, hy⟩
        have Dr : D ≠ r := p6.ne nD
        walk_at "rd"
        refine ⟨r, words (l, h), rfl, p7, by omega, fun y H8 hy8 b8 p8 => ?_⟩
        have eD8 := b8.get eD Dr
        refine ⟨_, eD8, ?_, (b7.trans b8).upf nD, p8.upn Dr, ys ++ [y], ?_, by simp [ly], ?_⟩
        · rw [List.length_map, sizeLine_eq]
          omega
        · rw [upd_same, List.map_append]
          rfl
        · intro c hc
          rcases List.mem_append.mp hc with z | z
          · exact hy c z
          · rw [List.mem_singleton.mp z]
            omega
      · rintro H7 ⟨b7, p7, ys, eD, ly, hy⟩
        have Dr : D ≠ r := p6.ne nD
        have b7' := b6.trans b7
        walk_at "rd"
        refine ⟨L1, D, [.str (words (l, h))], ys.map V.str, rfl, rfl, b7.get e6 n6, eD, by rw [List.length_map, sizeLine_eq, ly]; show 1 + 4 ≤ _; decide, fun M2 nM2 => ?_⟩
        have e8 : (L2.upd H7 M2 (.lst ([.str (words (l, h))] ++ ys.map V.str))) M2 = some (.lst ([.str (words (l, h))] ++ ys.map V.str)) := upd_same
        have b8 : But r H _ := b7'.trans (But.new (o := .lst ([.str (words (l, h))] ++ ys.map V.str)) nM2)
        have p8 := p7.up (o := .lst ([.str (words (l, h))] ++ ys.map V.str)) nM2
        have n8 : M2 ≠ r := p7.ne nM2
        generalize L2.upd H7 M2 (.lst ([.str (words (l, h))] ++ ys.map V.str)) = H8 at e8 b8 p8 ⊢
        walk_at "rd"
        refine ⟨r, rfl, p8, fun y1 H9 l1 b9 p9 => ?_⟩
        have e9 := b9.get e8 n8
        have b9' := b8.trans b9
        walk_at "rd"
        refine ⟨r, rfl, p9, fun y2 H10 l2 b10 p10 => ?_⟩
        have e10 := b10.get e9 n8
        have b10' := b9'.trans b10
        walk_at "rd"
        rename_i M3 nM3
        have ne3 : M2 ≠ M3 := ne_of_none e10 nM3
        refine ⟨M2, M3, _, _, rfl, rfl, (upd_ne ne3).trans e10, upd_same, ?_, fun M4 nM4 => ?_⟩
        · rw [List.length_append, List.length_map, sizeLine_eq, ly]
          show 1 + 4 + 2 ≤ _
          decide
        have ez : ([V.str (words (l, h))] ++ ys.map V.str) ++ [V.str y1, V.str y2] = (words (l, h) :: (ys ++ [y1, y2])).map V.str := by simp
        rw [ez]
        have hz : ∀ z ∈ words (l, h) :: (ys ++ [y1, y2]), z.length ≤ 500 := by
          intro z hz
          rcases List.mem_cons.mp hz with e | hz
          · rw [e]
            omega
          · rcases List.mem_append.mp hz with hz | hz
            · have := hy z hz
              omega
            · rcases List.mem_cons.mp hz with e | hz
              · rw [e]
                omega
              · rw [List.mem_singleton.mp hz]
                omega
        have lz : (words (l, h) :: (ys ++ [y1, y2])).length = 7 := by simp [ly]
        generalize words (l, h) :: (ys ++ [y1, y2]) = zs at hz lz ⊢
        have b12 := (b10'.trans (But.new (o := .lst [.str y1, .str y2]) nM3)).trans (But.new (o := .lst (zs.map V.str)) nM4)
        have p12 := (p10.up (o := .lst [.str y1, .str y2]) nM3).up (o := .lst (zs.map V.str)) nM4
        have e12 : (L2.upd (L2.upd H10 M3 (.lst [.str y1, .str y2])) M4 (.lst (zs.map V.str))) M4 = some (.lst (zs.map V.str)) := upd_same
        generalize L2.upd (L2.upd H10 M3 (.lst [.str y1, .str y2])) M4 (.lst (zs.map V.str)) = H12 at b12 p12 e12 ⊢
        walk_at "rd"
        refine ⟨⟨_, SqL.of e12⟩, fun D2 nD2 => lc_it (walk_list (xs := zs.map V.str)) (fun j H' => L2.Same H12 H' ∧ H' D2 = some (.lst (List.replicate j (V.bl true)))) ?_ (fun j H' _ z => SqL.of (z.1 _ _ e12)) ?_ ?_⟩
        · exact ⟨My.Same.new nD2, upd_same⟩
        · rintro j v H1 H2 hj ⟨s1, hD⟩ ⟨rfl, hv⟩
          rw [List.getElem?_map] at hv
          obtain ⟨z, hz1, rfl⟩ := Option.map_eq_some_iff.mp hv
          walk_at "rd"
          refine ⟨hz z (List.mem_of_getElem? hz1), fun H3 s3 => ?_⟩
          refine ⟨_, s3 _ _ hD, ?_, My.Same.at_ nD2 (s1.trans s3), ?_⟩
          · rw [List.length_replicate, sizeLine_eq]
            rw [List.length_map, lz] at hj
            omega
          · rw [upd_same, List.replicate_succ']
        · rintro H1 ⟨s1, hD⟩
          walk_at "rd"
          refine ⟨_, List.replicate (zs.map V.str).length true, rfl, SqL.of (by rw [← rep_map]; exact hD), ?_⟩
          rw [rep_all]
          walk_at "rd"
          exact ⟨b12.sm s1, p12.same s1, _, _, _, _, _, _, _, _, rfl⟩
    · rintro σ H1 ⟨b1, p1, v0, v1, v2, v3, v4, v5, v6, v7, rfl⟩
      subst eDE
      walk_at "rd"
      refine ⟨r, _, rfl, p1, by decide, by decide, fun d H2 b2 p2 d0 d1 => ?_⟩
      have b12 := b1.trans b2
      obtain ⟨f, hf⟩ : ∃ f : Nat, (10 : Int) ^ (59 : Int).toNat + d = f := ⟨((10 : Int) ^ (59 : Int).toNat + d).toNat, by
        have : (0 : Int) ≤ 10 ^ (59 : Int).toNat := by decide
        omega⟩
      have hfl : f + 1 < 10 ^ 60 := by
        have h1 : (10 : Int) ^ (59 : Int).toNat + 10 ^ (18 : Int).toNat + 1 < ((10 ^ 60 : Nat) : Int) := by decide
        have h2 : d < 10 ^ (18 : Int).toNat := d1
        omega
      walk_at "rd"
      rename_i P1 n1 P2 n2 P3 n3 L nL
      rw [hf, show (f : Int) + 1 = ((f + 1 : Nat) : Int) from rfl]
      rw [hf] at n2
      rw [hf] at n3
      rw [hf, show (f : Int) + 1 = ((f + 1 : Nat) : Int) from rfl] at nL
      have q1 : (L2.upd H2 P1 (.tup [.int f, .non])) P1 = some (.tup [.int f, optN none]) := upd_same
      have t1 : L2.Same H2 (L2.upd H2 P1 (.tup [.int f, .non])) := My.Same.new n1
      generalize L2.upd H2 P1 (.tup [.int f, .non]) = A1 at q1 t1 n2 n3 nL ⊢
      have q2 : (L2.upd A1 P2 (.tup [.int f, .int f])) P2 = some (.tup [.int f, optN (some f)]) := upd_same
      have t2 : L2.Same A1 (L2.upd A1 P2 (.tup [.int f, .int f])) := My.Same.new n2
      generalize L2.upd A1 P2 (.tup [.int f, .int f]) = A2 at q2 t2 n3 nL ⊢
      have q3 : (L2.upd A2 P3 (.tup [.int f, .int ((f + 1 : Nat) : Int)])) P3 = some (.tup [.int f, optN (some (f + 1))]) := upd_same
      have t3 : L2.Same A2 (L2.upd A2 P3 (.tup [.int f, .int ((f + 1 : Nat) : Int)])) := My.Same.new n3
      generalize L2.upd A2 P3 (.tup [.int f, .int ((f + 1 : Nat) : Int)]) = A3 at q3 t3 nL ⊢
      have q4 : (L2.upd A3 L (.lst [.ref P1, .ref P2, .ref P3])) L = some (.lst [.ref P1, .ref P2, .ref P3]) := upd_same
      have t4 : L2.Same A3 (L2.upd A3 L (.lst [.ref P1, .ref P2, .ref P3])) := My.Same.new nL
      generalize L2.upd A3 L (.lst [.ref P1, .ref P2, .ref P3]) = A4 at q4 t4 ⊢
      have T : L2.Same H2 A4 := ((t1.trans t2).trans t3).trans t4
      have q14 := t4 _ _ (t3 _ _ (t2 _ _ q1))
      have q24 := t4 _ _ (t3 _ _ q2)
      have q34 := t4 _ _ q3
      have hel : ∀ v ∈ [V.ref P1, V.ref P2, V.ref P3], ∃ (p : Addr) (h : Option Nat), v = .ref p ∧ A4 p = some (.tup [.int f, optN h]) ∧ ∀ m, h = some m → m < 10 ^ 60 := by
        intro v hv
        simp only [List.mem_cons, List.not_mem_nil, or_false] at hv
        rcases hv with rfl | rfl | rfl
        · exact ⟨P1, none, rfl, q14, fun m e => nomatch e⟩
        · exact ⟨P2, some f, rfl, q24, fun m e => by cases e; omega⟩
        · exact ⟨P3, some (f + 1), rfl, q34, fun m e => by cases e; omega⟩
      refine ⟨⟨_, SqL.of q4⟩, fun D nD => lc_it (walk_list (xs := [V.ref P1, V.ref P2, V.ref P3])) (fun j H' => L2.Same A4 H' ∧ H' D = some (.lst (List.replicate j (V.bl true)))) ?_ (fun j H' _ z => SqL.of (z.1 _ _ q4)) ?_ ?_⟩
      · exact ⟨My.Same.new nD, upd_same⟩
      · rintro j v B1 B2 hj ⟨s1, hD⟩ ⟨rfl, hv⟩
        obtain ⟨p, h, rfl, ep, hm⟩ := hel v (List.mem_of_getElem? hv)
        walk_at "rd"
        refine ⟨p, f, h, rfl, s1 _ _ ep, sm_29 (Nat.le_of_lt (Nat.lt_trans (show f < 10 ^ 60 by omega) (by decide +kernel))), fun m e => sm_29 (Nat.le_of_lt (Nat.lt_trans (hm m e) (by decide +kernel))), ?_⟩
        walk_at "rd"
        have wl : (words (f, h)).length ≤ 123 := words_len (k := 60) (by decide) (by omega) hm
        refine ⟨by omega, fun B3 s3 => ?_⟩
        refine ⟨_, s3 _ _ hD, ?_, My.Same.at_ nD (s1.trans s3), ?_⟩
        · rw [List.length_replicate, sizeLine_eq]
          have : j < 3 := hj
          omega
        · rw [upd_same, List.replicate_succ']
      · rintro B1 ⟨s1, hD⟩
        walk_at "rd"
        refine ⟨_, List.replicate 3 true, rfl, SqL.of (by rw [← rep_map]; exact hD), ?_⟩
        rw [rep_all]
        have b2 := (b12.sm T).sm s1
        have p3 := (p2.same T).same s1
        clear q1 q2 q3 q4 q14 q24 q34 t1 t2 t3 t4 hel hD
        walk_at "rd"
        rename_i a5 n5 a6 n6 a7 n7 X DX nX nDX
        have u5 : (L2.upd B1 a5 (.tup [.int 2, .int 6])) a5 = some (.tup [.int 2, .int 6]) := upd_same
        have g5 : L2.Same B1 (L2.upd B1 a5 (.tup [.int 2, .int 6])) := My.Same.new n5
        generalize L2.upd B1 a5 (.tup [.int 2, .int 6]) = B5 at u5 g5 n6 n7 nX nDX ⊢
        have u6 : (L2.upd B5 a6 (.lst [.str "2..6"])) a6 = some (.lst [.str "2..6"]) := upd_same
        have g6 : L2.Same B5 (L2.upd B5 a6 (.lst [.str "2..6"])) := My.Same.new n6
        generalize L2.upd B5 a6 (.lst [.str "2..6"]) = B6 at u6 g6 n7 nX nDX ⊢
        have u7 : (L2.upd B6 a7 (.dK [])) a7 = some (.dK []) := upd_same
        have g7 : L2.Same B6 (L2.upd B6 a7 (.dK [])) := My.Same.new n7
        generalize L2.upd B6 a7 (.dK []) = B7 at u7 g7 nX nDX ⊢
        refine fun neX => ⟨X, DX, (2 : Nat), some ((6 : Nat) : Int), rfl, upd_same, by decide, (fun g e => by cases e; decide), fun B8 bX mX => ⟨rfl, ?_⟩⟩
        have g8 : L2.Same B7 B8 := bX.same (My.Same.at_ nX (My.Same.new nDX)) nX
        obtain ⟨dx, ky, e8, _⟩ := mX
        have G58 := (g6.trans g7).trans g8
        have v5_ := G58 _ _ u5
        have v6_ := (g7.trans g8) _ _ u6
        have v7_ := g8 _ _ u7
        have b8 := (b2.sm g5).sm G58
        have p8 := (p3.same g5).same G58
        clear u5 g5 u6 g6 u7 g7 g8 bX
        walk_at "rd"
        rename_i a9 n9 a10 n10 a11 n11
        have u9 : (L2.upd B8 a9 (.tup [.str "2"])) a9 = some (.tup [.str "2"]) := upd_same
        have g9 : L2.Same B8 (L2.upd B8 a9 (.tup [.str "2"])) := My.Same.new n9
        generalize L2.upd B8 a9 (.tup [.str "2"]) = B9 at u9 g9 n10 n11 ⊢
        have u10 : (L2.upd B9 a10 (.lst [])) a10 = some (.lst []) := upd_same
        have g10 : L2.Same B9 (L2.upd B9 a10 (.lst [])) := My.Same.new n10
        generalize L2.upd B9 a10 (.lst []) = B10 at u10 g10 n11 ⊢
        dsimp only [L2.tPairs]
        walk_at "rd"
        refine ⟨upd_same, [(.inr "2", .str "6")], rfl, by decide, ?_⟩
        have g11 : L2.Same B10 (L2.upd (L2.upd B10 a11 (.dK [])) a11 (.dK (mergeK [] [(.inr ("2" : Str), V.str "6")]))) := My.Same.at_ n11 (My.Same.new n11)
        have u11 : (L2.upd (L2.upd B10 a11 (.dK [])) a11 (.dK (mergeK [] [(.inr ("2" : Str), V.str "6")]))) a11 = some (.dK (mergeK [] [(.inr ("2" : Str), V.str "6")])) := upd_same
        generalize L2.upd (L2.upd B10 a11 (.dK [])) a11 (.dK (mergeK [] [(.inr ("2" : Str), V.str "6")])) = B11 at g11 u11 ⊢
        walk_at "rd"
        rename_i ML nML
        have uML : (L2.upd B11 ML (.lst [.non, .int 0, .int 2, .bl true, .ref a5, .ref a6, .ref a7, .ref X, .ref a9, .ref a10, .ref a11])) ML = some (.lst [.non, .int 0, .int 2, .bl true, .ref a5, .ref a6, .ref a7, .ref X, .ref a9, .ref a10, .ref a11]) := upd_same
        have gML : L2.Same B11 (L2.upd B11 ML (.lst [.non, .int 0, .int 2, .bl true, .ref a5, .ref a6, .ref a7, .ref X, .ref a9, .ref a10, .ref a11])) := My.Same.new nML
        generalize L2.upd B11 ML (.lst [.non, .int 0, .int 2, .bl true, .ref a5, .ref a6, .ref a7, .ref X, .ref a9, .ref a10, .ref a11]) = B12 at uML gML ⊢
        have GA := ((g9.trans g10).trans g11).trans gML
        have w5 := GA _ _ v5_
        have w6 := GA _ _ v6_
        have w7 := GA _ _ v7_
        have wX := GA _ _ e8
        have w9 := ((g10.trans g11).trans gML) _ _ u9
        have w10 := (g11.trans gML) _ _ u10
        have w11 := gML _ _ u11
        have bZ := b8.sm GA
        have pZ := p8.same GA
        have odd : ∀ x ∈ [V.non, .int 0, .int 2, .bl true, .ref a5, .ref a6, .ref a7, .ref X, .ref a9, .ref a10, .ref a11], ∀ H', L2.Same B12 H' → ∃ t, TyX K H' x t ∧ PySem.W.kitOne K t (.type "str") = some false := by
          intro x hx H' s'
          simp only [List.mem_cons, List.not_mem_nil, or_false] at hx
          rcases hx with rfl | rfl | rfl | rfl | rfl | rfl | rfl | rfl | rfl | rfl | rfl
          · exact ⟨_, .base .non, kit_ty (by decide +kernel)⟩
          · exact ⟨_, .base (.int _), kit_ty (by decide +kernel)⟩
          · exact ⟨_, .base (.int _), kit_ty (by decide +kernel)⟩
          · exact ⟨_, .base (.bl _), kit_ty (by decide +kernel)⟩
          · exact ⟨_, .base (.tup (s' _ _ w5)), kit_ty (by decide +kernel)⟩
          · exact ⟨_, .base (.lst (s' _ _ w6)), kit_ty (by decide +kernel)⟩
          · exact ⟨_, .base (.dK (s' _ _ w7)), kit_ty (by decide +kernel)⟩
          · exact ⟨_, .base (M.z_Many (s' _ _ wX)), M.ks_Many⟩
          · exact ⟨_, .base (.tup (s' _ _ w9)), kit_ty (by decide +kernel)⟩
          · exact ⟨_, .base (.lst (s' _ _ w10)), kit_ty (by decide +kernel)⟩
          · exact ⟨_, .base (.dK (s' _ _ w11)), kit_ty (by decide +kernel)⟩
        refine ⟨⟨_, SqL.of uML⟩, fun D nD => lc_it (walk_list (xs := [V.non, .int 0, .int 2, .bl true, .ref a5, .ref a6, .ref a7, .ref X, .ref a9, .ref a10, .ref a11])) (fun j H' => L2.Same B12 H' ∧ H' D = some (.lst (List.replicate j (V.bl true)))) ?_ (fun j H' _ z => SqL.of (z.1 _ _ uML)) ?_ ?_⟩
        · exact ⟨My.Same.new nD, upd_same⟩
        · rintro j v C1 C2 hj ⟨s1, hD⟩ ⟨rfl, hv⟩
          obtain ⟨t, ht, hk⟩ := odd v (List.mem_of_getElem? hv) _ s1
          walk_at "rd"
          refine ⟨v, rfl, .inr ⟨t, ht, hk, fun C3 s3 => ?_⟩⟩
          walk_at "rd"
          refine ⟨_, s3 _ _ hD, ?_, My.Same.at_ nD (s1.trans s3), ?_⟩
          · rw [List.length_replicate, sizeLine_eq]
            have : j < 11 := hj
            omega
          · rw [upd_same, List.replicate_succ']
            rfl
        · rintro C1 ⟨s1, hD⟩
          walk_at "rd"
          refine ⟨_, List.replicate 11 true, rfl, SqL.of (by rw [← rep_map]; exact hD), ?_⟩
          rw [rep_all]
          exact q C1 (bZ.sm s1) (pZ.same s1)
end
end My
end
section
open My L2 PySem
open My L2 PySem
local macro_rules | `(tactic| walk_at "as") => `(tactic| with_reducible assumption)
local macro_rules | `(tactic| walk_at "hp") => `(tactic| first
  | walk_at "as" | exact upd_same
  | (rw [upd_ne (by walk_at "ne")]; walk_at "hp")
  | (refine But.get (by walk_at "as") ?hp1 ?hp2; (case hp1 => walk_at "hp"); (case hp2 => walk_at "ne"))
  | (refine My.Same.get (by walk_at "as") ?hp1; (case hp1 => walk_at "hp")))
local macro_rules | `(tactic| walk_at "ne") => `(tactic| first
  | walk_at "as" | exact Ne.symm (by walk_at "as")
  | (refine' ne_of_none ?ne1 ?ne2; (case ne2 => walk_at "as"); (case ne1 => walk_at "hp"))
  | (refine' Ne.symm (ne_of_none ?ne1 ?ne2); (case ne2 => walk_at "as"); (case ne1 => walk_at "hp"))
  | exact ne_of (by walk_at "hp") (by walk_at "hp") (by intro z; cases z))
local macro_rules | `(tactic| walk_at "sd") => `(tactic| first
  | walk_at "as" | omega | decide | exact ⟨by omega, by omega⟩ | exact .inl ⟨by omega, by omega⟩ | exact .inr ⟨by omega, by omega⟩ | exact divp_wide (by walk_at "as") (by walk_at "as") | exact Sm.cmul (by walk_at "as") (by walk_at "as") | exact cmul_small (by omega) (by omega) (by omega) (by omega) | exact ⟨by omega, by decide⟩)
local macro_rules | `(tactic| walk_at "bt") => `(tactic| first
  | walk_at "as" | exact But.refl _ _ | exact Same.but (by walk_at "as")
  | (refine But.trans ?bt1 But.at; (case bt1 => walk_at "bt"))
  | (refine But.trans ?bt1 (But.new (by first | walk_at "as" | walk_at "hp")); (case bt1 => walk_at "bt"))
  | (refine But.trans ?bt1 (by walk_at "as"); (case bt1 => walk_at "bt"))
  | (refine But.trans ?bt1 (Same.but (by walk_at "as")); (case bt1 => walk_at "bt")))
local macro_rules | `(tactic| walk_at "sm") => `(tactic| first
  | walk_at "as" | exact My.Same.rfl' _
  | (refine' My.Same.at_ ?sm1 ?sm2; (case sm1 => walk_at "as"); (case sm2 => walk_at "sm"))
  | (refine' My.Same.tr ?sm1 (My.Same.new ?sm2); (case sm2 => walk_at "as"); (case sm1 => walk_at "sm"))
  | (refine' My.Same.tr ?sm1 ?sm2; (case sm2 => walk_at "as"); (case sm1 => walk_at "sm")))
local macro_rules | `(tactic| walk_at "sz") => `(tactic| first
  | assumption | exact lt_size (by rfl) | exact le_size (by rfl) | (rw [sizeLine_eq]; omega)
  | (rw [sizeLine_eq]; simp only [List.length_append, List.length_map, List.length_cons, List.length_nil]; omega))
local macro_rules | `(tactic| walk_at "few") => `(tactic| (repeat refine few_put ?_); exact few0)
local macro_rules | `(tactic| walk_at "rd1") => `(tactic| first
  | (with_reducible show tVar _ _ _ _); refine s_var rfl ?_
  | with_reducible refine s_c ?_ | with_reducible refine s_op ?_ | with_reducible refine s_un ?_
  | with_reducible refine s_cons ?_ | with_reducible refine s_nil ?_ | with_reducible refine s_cb ?_
  | with_reducible refine s_test ?_ | with_reducible refine s_B ?_ | with_reducible refine s_not ?_ | with_reducible refine s_and ?_ | with_reducible refine s_or ?_
  | with_reducible refine s_if ?_ | with_reducible refine s_notV ?_ | with_reducible refine s_andV ?_ | with_reducible refine s_orV ?_
  | with_reducible refine s_orT ?_ | with_reducible refine s_andT ?_ | with_reducible refine s_chain ?_
  | with_reducible refine s_isi_int ?_ | with_reducible refine s_isi_int_bool ?_ | with_reducible refine s_isi_str ?_
  | with_reducible refine iteT ?_ | with_reducible refine iteF ?_ | with_reducible refine iteNT ?_ | with_reducible refine iteNF ?_
  | with_reducible refine s_isN ?_ | with_reducible refine s_notN ?_
  | ((with_reducible refine' s_2setE ?g1 ?_); (case g1 => first | (dsimp only [List.set, L2.wipe, List.map, List.foldl]; done) | (dsimp only [List.set, L2.wipe, List.map, List.foldl]; rfl)))
  | with_reducible refine s_seq ?_ | with_reducible refine s_ifS ?_ | with_reducible refine s_asg ?_ | with_reducible refine s_ret ?_ | with_reducible refine s_drop ?_ | with_reducible refine s_next ?_
  | ((with_reducible refine' s_gnameE ?g1 ?_); (case g1 => first | (dsimp only [List.set, L2.wipe, List.map, List.foldl]; done) | (dsimp only [List.set, L2.wipe, List.map, List.foldl]; rfl)))
  | with_reducible refine s_gsub ?_ | with_reducible refine s_gcons ?_ | with_reducible refine s_gnil ?_
  | (with_reducible show gTup _ _ _ _ _ _ _); refine s_gtup (by walk_at "hp") rfl ?_
  | with_reducible refine s_eqI ?_ | with_reducible refine s_neI ?_ | with_reducible refine s_eqS ?_ | with_reducible refine s_neB ?_ | with_reducible refine s_eqB ?_ | with_reducible refine s_neSr ?_ | with_reducible refine s_neS ?_
  | with_reducible refine s_I0 ?_
  | (with_reducible show rI _ _ _ _ _ _); refine s_I (by walk_at "sd") ?_
  | (with_reducible show rIxL _ _ _ _ _); refine s_ixL (by walk_at "hp") rfl ?_
  | (with_reducible show rIxT _ _ _ _ _); refine s_ixT (by walk_at "hp") rfl ?_
  | (with_reducible show rSetL _ _ _ _ _); refine s_setL (by walk_at "hp") rfl ?_
  | with_reducible refine s_prop ?_
  | (with_reducible show _ ≤ sizeLine ∧ _); refine ⟨le_size (by rfl), ?_⟩
  | with_reducible refine ite_NN ?_ | with_reducible refine ite_IN ?_ | with_reducible refine ite_nNN ?_ | with_reducible refine ite_nIN ?_ | with_reducible refine ite_RN ?_ | with_reducible refine ite_nRN ?_
  | with_reducible refine s_sfld ?_
  | ((with_reducible refine' ⟨_, _, _, _, rfl, ?fp1, ?fp2, ?fp3, ?fp4, ?_⟩); (case fp1 => walk_at "hp"); (case fp2 => assumption); (case fp3 => assumption); (case fp4 => walk_at "few"))
  | with_reducible refine s_fldE ?_
  | ((with_reducible refine' ⟨_, _, _, _, _, rfl, ?fp1, ?fp2, ?fp3, ?fp4, ?_⟩); (case fp1 => walk_at "hp"); (case fp2 => assumption); (case fp3 => assumption); (case fp4 => rfl))
  | with_reducible refine s_bm ?_ | with_reducible refine s_bm0 ?_
  | ((with_reducible refine' s_tyL ?ty1 ?_); (case ty1 => walk_at "hp"))
  | ((with_reducible refine' s_append ?ap1 ?ap2 ?_); (case ap1 => walk_at "hp"); (case ap2 => walk_at "sz"))
  | ((with_reducible refine' s_extend ?ap1 ?ap2 ?ap3 ?_); (case ap1 => walk_at "hp"); (case ap2 => walk_at "hp"); (case ap3 => walk_at "sz"))
  | with_reducible refine s_for (fun _ _ => ?_) | with_reducible refine s_lc ?_ | with_reducible refine s_iList ?_ | with_reducible refine s_iTup ?_ | with_reducible refine s_iRng1 ?_ | with_reducible refine s_iRng2 ?_
  | with_reducible refine s_yes ?_ | with_reducible refine s_par ?_
  | with_reducible refine s_make ?_ | with_reducible refine s_meth ?_
  | with_reducible refine s_tup ?_ | with_reducible refine s_lst ?_ | with_reducible refine s_call ?_
  | with_reducible refine ⟨rfl, ?_⟩
  | with_reducible refine ⟨_, rfl, ?_⟩
  | ((with_reducible refine' ⟨_, _, rfl, ?sd1, ?_⟩); (case sd1 => walk_at "sd"))
  | with_reducible refine ⟨_, _, rfl, ?_⟩
  | with_reducible refine .inl ⟨_, rfl, ?_⟩
  | dsimp only [List.set]
  | walk_at "rdx"
  | (refine fun _ _ => ?_))
local macro_rules | `(tactic| walk_at "rd") => `(tactic| repeat (first
  | (with_reducible show tVar _ _ _ _); refine s_var rfl ?_
  | with_reducible refine s_c ?_ | with_reducible refine s_op ?_ | with_reducible refine s_un ?_
  | with_reducible refine s_cons ?_ | with_reducible refine s_nil ?_ | with_reducible refine s_cb ?_
  | with_reducible refine s_test ?_ | with_reducible refine s_B ?_ | with_reducible refine s_not ?_ | with_reducible refine s_and ?_ | with_reducible refine s_or ?_
  | with_reducible refine s_if ?_ | with_reducible refine s_notV ?_ | with_reducible refine s_andV ?_ | with_reducible refine s_orV ?_
  | with_reducible refine s_orT ?_ | with_reducible refine s_andT ?_ | with_reducible refine s_chain ?_
  | with_reducible refine s_isi_int ?_ | with_reducible refine s_isi_int_bool ?_ | with_reducible refine s_isi_str ?_
  | with_reducible refine iteT ?_ | with_reducible refine iteF ?_ | with_reducible refine iteNT ?_ | with_reducible refine iteNF ?_
  | with_reducible refine s_isN ?_ | with_reducible refine s_notN ?_
  | ((with_reducible refine' s_2setE ?g1 ?_); (case g1 => first | (dsimp only [List.set, L2.wipe, List.map, List.foldl]; done) | (dsimp only [List.set, L2.wipe, List.map, List.foldl]; rfl)))
  | with_reducible refine s_seq ?_ | with_reducible refine s_ifS ?_ | with_reducible refine s_asg ?_ | with_reducible refine s_ret ?_ | with_reducible refine s_drop ?_ | with_reducible refine s_next ?_
  | ((with_reducible refine' s_gnameE ?g1 ?_); (case g1 => first | (dsimp only [List.set, L2.wipe, List.map, List.foldl]; done) | (dsimp only [List.set, L2.wipe, List.map, List.foldl]; rfl)))
  | with_reducible refine s_gsub ?_ | with_reducible refine s_gcons ?_ | with_reducible refine s_gnil ?_
  | (with_reducible show gTup _ _ _ _ _ _ _); refine s_gtup (by walk_at "hp") rfl ?_
  | with_reducible refine s_eqI ?_ | with_reducible refine s_neI ?_ | with_reducible refine s_eqS ?_ | with_reducible refine s_neB ?_ | with_reducible refine s_eqB ?_ | with_reducible refine s_neSr ?_ | with_reducible refine s_neS ?_
  | with_reducible refine s_I0 ?_
  | (with_reducible show rI _ _ _ _ _ _); refine s_I (by walk_at "sd") ?_
  | (with_reducible show rIxL _ _ _ _ _); refine s_ixL (by walk_at "hp") rfl ?_
  | (with_reducible show rIxT _ _ _ _ _); refine s_ixT (by walk_at "hp") rfl ?_
  | (with_reducible show rSetL _ _ _ _ _); refine s_setL (by walk_at "hp") rfl ?_
  | with_reducible refine s_prop ?_
  | (with_reducible show _ ≤ sizeLine ∧ _); refine ⟨le_size (by rfl), ?_⟩
  | with_reducible refine ite_NN ?_ | with_reducible refine ite_IN ?_ | with_reducible refine ite_nNN ?_ | with_reducible refine ite_nIN ?_ | with_reducible refine ite_RN ?_ | with_reducible refine ite_nRN ?_
  | with_reducible refine s_sfld ?_
  | ((with_reducible refine' ⟨_, _, _, _, rfl, ?fp1, ?fp2, ?fp3, ?fp4, ?_⟩); (case fp1 => walk_at "hp"); (case fp2 => assumption); (case fp3 => assumption); (case fp4 => walk_at "few"))
  | with_reducible refine s_fldE ?_
  | ((with_reducible refine' ⟨_, _, _, _, _, rfl, ?fp1, ?fp2, ?fp3, ?fp4, ?_⟩); (case fp1 => walk_at "hp"); (case fp2 => assumption); (case fp3 => assumption); (case fp4 => rfl))
  | with_reducible refine s_bm ?_ | with_reducible refine s_bm0 ?_
  | ((with_reducible refine' s_tyL ?ty1 ?_); (case ty1 => walk_at "hp"))
  | ((with_reducible refine' s_append ?ap1 ?ap2 ?_); (case ap1 => walk_at "hp"); (case ap2 => walk_at "sz"))
  | ((with_reducible refine' s_extend ?ap1 ?ap2 ?ap3 ?_); (case ap1 => walk_at "hp"); (case ap2 => walk_at "hp"); (case ap3 => walk_at "sz"))
  | with_reducible refine s_for (fun _ _ => ?_) | with_reducible refine s_lc ?_ | with_reducible refine s_iList ?_ | with_reducible refine s_iTup ?_ | with_reducible refine s_iRng1 ?_ | with_reducible refine s_iRng2 ?_
  | with_reducible refine s_yes ?_ | with_reducible refine s_par ?_
  | with_reducible refine s_make ?_ | with_reducible refine s_meth ?_
  | with_reducible refine s_tup ?_ | with_reducible refine s_lst ?_ | with_reducible refine s_call ?_
  | with_reducible refine ⟨rfl, ?_⟩
  | with_reducible refine ⟨_, rfl, ?_⟩
  | ((with_reducible refine' ⟨_, _, rfl, ?sd1, ?_⟩); (case sd1 => walk_at "sd"))
  | with_reducible refine ⟨_, _, rfl, ?_⟩
  | with_reducible refine .inl ⟨_, rfl, ?_⟩
  | dsimp only [List.set]
  | walk_at "rdx"
  | (refine fun _ _ => ?_)))

namespace My
open PySem L2
section
variable {P : Program} {w : World} {K : PySem.W.Frag} {mg : Str → Option Value} {base : Heap} {C_Many C_EachError C_InvalidText : Addr} (M : Md K mg C_Many C_EachError C_InvalidText)
include M
local macro_rules | `(tactic| walk_at "rdx") => `(tactic| first | with_reducible refine s_ostG ?_ | with_reducible refine s_raE ?_ | with_reducible refine s_callX ?_ | with_reducible refine s_staXk ?_ | with_reducible refine s_slS ?_ | with_reducible refine s_noPart ?_ | with_reducible refine s_part ?_ | ((with_reducible refine' s_mcall ?mc1 ?mc2 ?_); (case mc1 => walk_at "hp"); (case mc2 => rfl)))
omit M
def spLaw (K : PySem.W.Frag) : Sp := fun vs H Q _ => ∃ (a : Addr) (ns : List Int), vs = [.ref a] ∧ SqL K H a (ns.map V.int) ∧ ns.length ≤ 63 ∧ ∀ H', Q (.bl true) H'
theorem turns4 (n : Nat) : 0 ≤ (if (if (n : Int) < 4 then (n : Int) else 4) > 1 then (if (n : Int) < 4 then (n : Int) else 4) else 1) ∧ (if (if (n : Int) < 4 then (n : Int) else 4) > 1 then (if (n : Int) < 4 then (n : Int) else 4) else 1) ≤ 4 := by
  split <;> split <;> omega
include M
theorem ok_law {f : Addr} {fd : FuncData} (F : FunD K "law" "law" (defArgs st_law) (defBody st_law) (defScope st_law) [] [] f fd) : FnG P w K mg base CX0 12 f fd ["_law_script"] (spLaw K) := by
  have c__law_rng := c__law_rng (P := P) (w := w) (base := base) M
  have c__law_right := c__law_right (P := P) (w := w) (base := base) M
  refine fnG_body F sc_law (fun vs H Q E h => ?_) (fun cdv A outer s H vs Q E hr h => ?_)
  · obtain ⟨a, ns, rfl, _⟩ := h
    rfl
  · obtain ⟨a, ns, rfl, hS, hl, k⟩ := h
    refine ⟨_, (pss_one (ps_ret (pe_callB (cr_all rfl) (by rfl) M.b_all (by decide +kernel) (pa_cons (pe_lc (own := [("_law_k", 1)]) (g := gName 1) (tt := tYes) (by rfl) sc_law.nd (pi_range1 (by rfl) M.b_range (pa_cons (pe_callB (call_max2 rfl) (by rfl) M.b_max (by decide +kernel) (pa_cons pe_int (pa_cons (pe_callB (call_min2 rfl) (by rfl) M.b_min (by decide +kernel) (pa_cons pe_int (pa_cons (pe_callB call_len_seq (by rfl) M.b_len (by decide +kernel) (pa_cons (pv 0) pa_nil)) pa_nil))) pa_nil))) pa_nil)) (blkOk_by (own := [("_law_k", 1)]) (N := N_law) (sc := defScope st_law) (by decide +kernel)) (fun _ _ _ _ _ => pg_name (i := 1) sc_law.nd rfl (by first | exact Or.inl rfl | exact Or.inr rfl)) (fun _ _ _ _ _ => pts_nil) (fun _ _ _ _ _ => (pe_callD c__law_right (hr.mono (by decide)) rfl (pa_cons (pe_callD c__law_rng (hr.mono (by decide)) rfl (pa_cons (pv 0) (pa_cons (pv 1) pa_nil))) pa_nil)))) pa_nil)))), ?_⟩
    refine st_eq (σ := [some _, none]) rfl ?_
    walk_at "rd"
    refine ⟨_, _, rfl, .inl hS, ?_⟩
    walk_at "rd"
    have hb := turns4 (ns.map V.int).length
    refine ⟨Int.le_trans (by decide) hb.1, Int.lt_of_le_of_lt hb.2 (by decide), fun D nD => lc_range (lo := 0) (fun j H' => L2.Same H H' ∧ H' D = some (.lst (List.replicate j (V.bl true))) ∧ j ≤ 4) ?_ ?_ ?_⟩
    · exact ⟨My.Same.new nD, upd_same, Nat.zero_le _⟩
    · rintro j H1 hj ⟨s1, hD, _⟩
      have hj5 : j + 1 ≤ 4 := by
        have := hb.2
        omega
      walk_at "rd"
      refine ⟨a, ns, _, rfl, s1.seq hS, by omega, by omega, fun r H2 s2 nr p2 => ?_⟩
      walk_at "rd"
      have Dr : D ≠ r := ne_of_none hD nr
      refine ⟨r, rfl, p2, fun H3 b3 p3 => ?_⟩
      refine ⟨_, b3.get (s2 _ _ hD) Dr, ?_, My.Same.at_ nD (s1.trans (b3.same s2 nr)), ?_, hj5⟩
      · rw [List.length_replicate, sizeLine_eq]
        omega
      · rw [upd_same, List.replicate_succ']
    · rintro H1 ⟨s1, hD, _⟩
      walk_at "rd"
      refine ⟨_, List.replicate _ true, rfl, SqL.of (by rw [← rep_map]; exact hD), ?_⟩
      rw [rep_all]
      exact k _
end
end My
end
section
namespace My
open PySem L2 PySem.W
theorem no_ok {K : PySem.W.Frag} {C : Addr} {f : Str} (h : eqO (PySem.W.findIn K (.ref C) f) (some none) = true) : NoAttr K C f := (of_decide_eq_true (p := PySem.W.findIn K (.ref C) f = some none) h : PySem.W.findIn K (.ref C) f = some none)
theorem facts {P : Program} {w : World} {K : PySem.W.Frag} {h : Heap} {mg : Str → Option Value} {f : Addr} (X : K.In h) (G : h.Ns mainGlobals mg) (hfa : mg "law" = some (.ref f)) (c : SaysY faL fnL adL exB K) :
    ∃ fd : FuncData, (∀ (s : Shared) (v : Value), BindsTo s fd ⟨[v], []⟩ [("_law_script", v)]) ∧ ∀ base : Heap, K.In base → base.Ns mainGlobals mg → FnG P w K mg base CX0 12 f fd ["_law_script"] (spLaw K) := by
  have c1 := c.d
  have t : (tests K).all id = true := c.more.1
  obtain ⟨fd_0, F_0⟩ := c1.def_ 0 (d := dd_is_integer) rfl
  obtain ⟨fd_1, F_1⟩ := c1.def_ 1 (d := dd_is_count) rfl
  obtain ⟨fd_2, F_2⟩ := c1.def_ 2 (d := dd_number_in) rfl
  obtain ⟨fd_3, F_3⟩ := c1.def_ 3 (d := dd__is_up_to) rfl
  obtain ⟨fd_4, F_4⟩ := c1.def_ 4 (d := dd__law_rng) rfl
  obtain ⟨fd_5, F_5⟩ := c1.def_ 5 (d := dd__law_draw) rfl
  obtain ⟨fd_6, F_6⟩ := c1.def_ 6 (d := dd__law_choice) rfl
  obtain ⟨fd_7, F_7⟩ := c1.def_ 7 (d := dd__law_low) rfl
  obtain ⟨fd_8, F_8⟩ := c1.def_ 8 (d := dd__law_pair) rfl
  obtain ⟨fd_9, F_9⟩ := c1.def_ 9 (d := dd__law_words) rfl
  obtain ⟨fd_10, F_10⟩ := c1.def_ 10 (d := dd__law_number) rfl
  obtain ⟨fd_11, F_11⟩ := c1.def_ 11 (d := dd__law_read) rfl
  obtain ⟨fd_12, F_12⟩ := c1.def_ 12 (d := dd__law_told) rfl
  obtain ⟨fd_13, F_13⟩ := c1.def_ 13 (d := dd__law_bent) rfl
  obtain ⟨fd_14, F_14⟩ := c1.def_ 14 (d := dd__law_joined) rfl
  obtain ⟨fd_15, F_15⟩ := c1.def_ 15 (d := dd__law_text_right) rfl
  obtain ⟨fd_16, F_16⟩ := c1.def_ 16 (d := dd__law_right) rfl
  obtain ⟨fd_17, F_17⟩ := c1.def_ 17 (d := dd_Many___init__) rfl
  obtain ⟨fd_18, F_18⟩ := c1.def_ 18 (d := dd_Many___eq__) rfl
  obtain ⟨fd_19, F_19⟩ := c1.def_ 19 (d := dd_Many___str__) rfl
  obtain ⟨fd_20, F_20⟩ := c1.def_ 20 (d := dd_InvalidText___init__) rfl
  obtain ⟨fd_21, F_21⟩ := c1.def_ 21 (d := dd_law) rfl
  obtain ⟨gd_0, G_0⟩ := c.at_ 0 (d := (fun K => prA K "Many" "least", dd_Many_least)) rfl
  obtain ⟨gd_1, G_1⟩ := c.at_ 1 (d := (fun K => prA K "Many" "most", dd_Many_most)) rfl
  obtain ⟨gd_2, G_2⟩ := c.at_ 2 (d := (fun K => staF K (He.ga K "Many") "read", dd_Many_read)) rfl
  have M : Md K mg (He.ga K "Many") (He.ga K "EachError") (He.ga K "InvalidText") := ⟨He.free_ok X G (c1.fact 21 (f := .free "isinstance") rfl),
    He.free_ok X G (c1.fact 22 (f := .free "int") rfl),
    He.free_ok X G (c1.fact 23 (f := .free "str") rfl),
    He.free_ok X G (c1.fact 24 (f := .free "bool") rfl),
    He.free_ok X G (c1.fact 25 (f := .free "max") rfl),
    He.free_ok X G (c1.fact 26 (f := .free "min") rfl),
    He.free_ok X G (c1.fact 27 (f := .free "abs") rfl),
    He.free_ok X G (c1.fact 28 (f := .free "divmod") rfl),
    He.free_ok X G (c1.fact 29 (f := .free "len") rfl),
    He.free_ok X G (c1.fact 30 (f := .free "range") rfl),
    He.free_ok X G (c1.fact 31 (f := .free "all") rfl),
    He.free_ok X G (c1.fact 32 (f := .free "repr") rfl),
    ⟨_, _, F_0, (He.glo_ok X G (c1.fact 0 (f := .glo "is_integer") rfl))⟩,
    ⟨_, _, F_1, (He.glo_ok X G (c1.fact 1 (f := .glo "is_count") rfl))⟩,
    ⟨_, _, F_2, (He.glo_ok X G (c1.fact 2 (f := .glo "number_in") rfl))⟩,
    ⟨_, _, F_3, (He.glo_ok X G (c1.fact 3 (f := .glo "_is_up_to") rfl))⟩,
    ⟨_, _, F_4, (He.glo_ok X G (c1.fact 4 (f := .glo "_law_rng") rfl))⟩,
    ⟨_, _, F_5, (He.glo_ok X G (c1.fact 5 (f := .glo "_law_draw") rfl))⟩,
    ⟨_, _, F_6, (He.glo_ok X G (c1.fact 6 (f := .glo "_law_choice") rfl))⟩,
    ⟨_, _, F_7, (He.glo_ok X G (c1.fact 7 (f := .glo "_law_low") rfl))⟩,
    ⟨_, _, F_8, (He.glo_ok X G (c1.fact 8 (f := .glo "_law_pair") rfl))⟩,
    ⟨_, _, F_9, (He.glo_ok X G (c1.fact 9 (f := .glo "_law_words") rfl))⟩,
    ⟨_, _, F_10, (He.glo_ok X G (c1.fact 10 (f := .glo "_law_number") rfl))⟩,
    ⟨_, _, F_11, (He.glo_ok X G (c1.fact 11 (f := .glo "_law_read") rfl))⟩,
    ⟨_, _, F_12, (He.glo_ok X G (c1.fact 12 (f := .glo "_law_told") rfl))⟩,
    ⟨_, _, F_13, (He.glo_ok X G (c1.fact 13 (f := .glo "_law_bent") rfl))⟩,
    ⟨_, _, F_14, (He.glo_ok X G (c1.fact 14 (f := .glo "_law_joined") rfl))⟩,
    ⟨_, _, F_15, (He.glo_ok X G (c1.fact 15 (f := .glo "_law_text_right") rfl))⟩,
    ⟨_, _, F_16, (He.glo_ok X G (c1.fact 16 (f := .glo "_law_right") rfl))⟩,
    (He.glo_ok X G (c1.fact 17 (f := .glo "Many") rfl)),
    (He.cls_ok (c1.fact 33 (f := .cls "Many") rfl)),
    ⟨_, _, He.mkr_ok (c1.fact 34 (f := .mkr "Many") rfl), F_17⟩,
    ins_ok (He.cls_ok (c1.fact 33 (f := .cls "Many") rfl)) (of_decide_eq_true (all_at t 8 rfl)) (of_decide_eq_true (all_at t 0 rfl)) (of_decide_eq_true (all_at t 1 rfl)) (of_decide_eq_true (all_at t 9 rfl)),
    He.noat_ok (c1.fact 35 (f := .noat "Many" "_least") rfl),
    He.noat_ok (c1.fact 36 (f := .noat "Many" "_most") rfl),
    He.noat_ok (c1.fact 37 (f := .noat "Many" "_key") rfl),
    ⟨_, _, He.meth_ok (c1.fact 38 (f := .meth "Many" "__eq__") rfl), F_18⟩,
    ⟨_, _, He.meth_ok (c1.fact 39 (f := .meth "Many" "__str__") rfl), F_19⟩,
    ⟨_, _, _, prB_ok (all_at t 10 rfl), G_0⟩,
    ⟨_, _, _, prB_ok (all_at t 11 rfl), G_1⟩,
    of_decide_eq_true (all_at t 13 rfl),
    of_decide_eq_true (all_at t 14 rfl),
    of_decide_eq_true (all_at t 15 rfl),
    ⟨_, _, staB_ok (all_at t 12 rfl), G_2⟩,
    of_decide_eq_true (all_at t 2 rfl),
    of_decide_eq_true (all_at t 0 rfl),
    of_decide_eq_true (all_at t 1 rfl),
    (He.glo_ok X G (c1.fact 18 (f := .glo "EachError") rfl)),
    excB_ok (all_at t 3 rfl),
    (all_at t 4 rfl),
    (He.glo_ok X G (c1.fact 19 (f := .glo "InvalidText") rfl)),
    excB_ok (all_at t 5 rfl),
    ⟨_, _, (iniB_ok (all_at t 6 rfl)).1, (iniB_ok (all_at t 6 rfl)).2, F_20⟩,
    no_ok (all_at t 7 rfl)⟩
  have e := hfa.symm.trans (He.glo_ok X G (c1.fact 20 (f := .glo "law") rfl))
  cases e
  have b := FunD.bindsA (ps := ["_law_script"]) F_21 fun _ _ _ _ _ _ us hl => match us, hl with | [_], _ => rfl
  exact ⟨_, fun s v => b s [v] rfl, fun base _ _ => ok_law M F_21⟩
end My
open PySem PySem.W PyProof.Rows
set_option maxRecDepth 100000 in
set_option maxHeartbeats 0 in
theorem PySem.Challenge.cw_howmanyeach_k13_whole_manys_read_back_holds : PySem.Challenge.rw_howmanyeach_k13_whole_manys_read_back.Holds := by
  w_on; o_law
  refine HandSHeadRun.head_any (r := My.rowR) (q := view My.rowR.prog [31]) (H := My.hkL) (ob := My.obL) (M := 6000) (loose := My.looseL) (d := HandSHeadRun.topDef My.rowR.prog 31) (kwd := []) My.obL_eq (by kernel_rfl) (fun s => by kernel_rfl) My.runL (by kernel_rfl) (by kernel_rfl) (by kernel_rfl) (by rfl) (by first | assumption | decide +kernel) (by decide +kernel) ⟨rfl, rfl, rfl, rfl, rfl, by decide +kernel⟩ ?hw ?hc
  case hw => w_witness2
  case hc =>
    refine My.walkGE (l := PySem.Challenge.rw_howmanyeach_k13_whole_manys_read_back) (n := 63) (k := 12) (x := "_law_script") rfl (by decide) (by kernel_rfl) ⟨⟨rfl, by decide, by decide⟩, rfl⟩ ?F
    intro w mg fa h Y G hmg0
    obtain ⟨K, KX, c⟩ := Y
    have hmg : mg ("law" : PySem.Str) = some (.ref fa) := by
      have e : (HandSHeadRun.topDef My.rowR.prog 31).name = ("law" : PySem.Str) := by kernel_rfl
      rw [← e]
      exact hmg0
    obtain ⟨fd, hb, hF⟩ := My.facts (P := (PySem.Challenge.rw_howmanyeach_k13_whole_manys_read_back).prog) (w := w) KX G hmg c
    exact ⟨K, fd, My.spLaw K, KX, hb, fun H a ns hl _ hS => ⟨a, ns, rfl, hS, hl, fun _ => rfl⟩, hF⟩
end
