import PyProof.Rows.All
import Wide.All
import OpenK.AllK
import Wide.FinOn
import HandS.ForMost
import HandS.Wide
import HandS.WideBits
import HandS.Property
import HandS.Defaults
import HandS.RaiseMore
import HandS.IsInst
import HandS.Flow
import PySem.Challenge.RW_howmanyeach_k35_totals_far_away
set_option Elab.async false
set_option linter.all false
set_option maxRecDepth 100000
set_option maxHeartbeats 4000000
namespace My
open PySem L2
/-! ### readings, one row each -/
section
variable {σ : L2.St} {H : Hp} {Q : VK} {i : Nat} {v x y : V} {ta tb te tc : TE} {r : R2} {D : Ends} {t u : TS} {tt tu : TT} {ts : TA} {g : TG} {K : PySem.W.Frag} {QB : Bool → Hp → Prop} {QA : List V → Hp → Prop}
theorem s_var (e : σ[i]? = some (some v)) (q : Q v H) : tVar i σ H Q := ⟨v, e, q⟩
theorem s_c (q : Q v H) : tC v σ H Q := q
theorem s_op (h : ta σ H fun x H1 => tb σ H1 fun y H2 => r x y H2 Q) : tOp r ta tb σ H Q := h
theorem s_un {r : V → Hp → VK → Prop} (h : ta σ H fun x H1 => r x H1 Q) : tUn r ta σ H Q := h
theorem s_cons (h : ta σ H fun x H1 => ts σ H1 fun xs H2 => QA (x :: xs) H2) : tCons ta ts σ H QA := h
theorem s_nil (h : QA [] H) : tNil σ H QA := h
theorem s_cb {r : List V → Hp → VK → Prop} (h : ts σ H fun vs H1 => r vs H1 Q) : tCB r ts σ H Q := h
theorem s_test (h : te σ H fun x H' => ∃ k, x = .bl k ∧ QB k H') : tTest te σ H QB := h
theorem s_B (h : te σ H fun x H' => ∃ k, x = .bl k ∧ QB k H') : tB te σ H QB := h
theorem s_not (h : tt σ H fun c H1 => QB (!c) H1) : tNot tt σ H QB := h
theorem s_and (h : tt σ H fun c H1 => if c = true then tu σ H1 QB else QB false H1) : tAnd tt tu σ H QB := h
theorem s_or (h : tt σ H fun c H1 => if c = true then QB true H1 else tu σ H1 QB) : tOr tt tu σ H QB := h
theorem s_if (h : tt σ H fun c H1 => if c = true then ta σ H1 Q else tb σ H1 Q) : tIf tt ta tb σ H Q := h
theorem s_notV (h : ta σ H fun x H1 => ∃ c, x = .bl c ∧ Q (.bl (!c)) H1) : tNotV ta σ H Q := h
theorem s_andV (h : ta σ H fun x H1 => ∃ c, x = .bl c ∧ if c = true then tb σ H1 Q else Q (.bl false) H1) : tAndV ta tb σ H Q := h
theorem s_orV (h : ta σ H fun x H1 => ∃ c, x = .bl c ∧ if c = true then Q (.bl true) H1 else tb σ H1 Q) : tOrV ta tb σ H Q := h
theorem s_isN (h : ta σ H fun x H1 => Q (.bl (decide (x = .non))) H1) : tIsN ta σ H Q := h
theorem s_notN (h : ta σ H fun x H1 => Q (.bl (!decide (x = .non))) H1) : tNotN ta σ H Q := h
theorem s_seq (h : t { D with nx := u D } σ H) : tSeq t u D σ H := h
theorem s_ifS (h : tt σ H fun b H1 => if b = true then t D σ H1 else u D σ H1) : tIfS tt t u D σ H := h
theorem s_asg (h : te σ H fun x H1 => g x σ H1 D.nx) : tAsg te g D σ H := h
theorem s_ret (h : te σ H D.rt) : tRet te D σ H := h
theorem s_drop (h : te σ H fun _ H1 => D.nx σ H1) : tDrop te D σ H := h
theorem s_next (h : D.nx σ H) : tNext D σ H := h
theorem s_break (h : D.bk σ H) : tBreak D σ H := h
theorem s_cont (h : D.ct σ H) : tCont D σ H := h
theorem s_gname {Q : L2.St → Hp → Prop} (h : Q (σ.set i (some v)) H) : gName i v σ H Q := h
theorem s_gsub {Q : L2.St → Hp → Prop} {to ti : TE} {t : TSet} (h : to σ H fun o H1 => ti σ H1 fun i H2 => t o i v H2 fun H3 => Q σ H3) : gSub to ti t v σ H Q := h
theorem s_gcons {Q : L2.St → Hp → Prop} {t : TG} {u : TGs} {vs : List V} (h : t v σ H fun σ' H' => u vs σ' H' Q) : gCons t u (v :: vs) σ H Q := ⟨v, vs, rfl, h⟩
theorem s_gnil {Q : L2.St → Hp → Prop} (h : Q σ H) : gNil [] σ H Q := ⟨rfl, h⟩
theorem s_gtup {Q : L2.St → Hp → Prop} {n : Nat} {t : TGs} {a : Addr} {xs : List V} (h1 : H a = some (.tup xs)) (h2 : xs.length = n) (h : t xs σ H Q) : gTup K n t (.ref a) σ H Q := ⟨a, xs, rfl, SqT.of h1, h2, h⟩
theorem s_I0 {g : Int → Int → V} {a b : Int} (q : Q (g a b) H) : rI0 g (.int a) (.int b) H Q := ⟨a, b, rfl, rfl, q⟩
theorem s_I {C : Int → Int → Prop} {g : Int → Int → V} {a b : Int} (hc : C a b) (q : Q (g a b) H) : rI C g (.int a) (.int b) H Q := ⟨a, b, rfl, rfl, hc, q⟩
theorem s_ixL {a : Addr} {xs : List V} {k : Int} (h : H a = some (.lst xs)) (e : atI xs k = some v) (q : Q v H) : rIxL K (.ref a) (.int k) H Q := ⟨a, xs, k, v, rfl, rfl, SqL.of h, e, q⟩
theorem s_ixT {a : Addr} {xs : List V} {k : Int} (h : H a = some (.tup xs)) (e : atI xs k = some v) (q : Q v H) : rIxT K (.ref a) (.int k) H Q := ⟨a, xs, k, v, rfl, rfl, SqT.of h, e, q⟩
theorem s_setL {a : Addr} {xs : List V} {k : Int} {j : Nat} {Q : Hp → Prop} (h : H a = some (.lst xs)) (e : ixN xs.length k = some j) (q : Q (upd H a (.lst (xs.set j v)))) : rSetL (.ref a) (.int k) v H Q := ⟨a, xs, k, j, rfl, rfl, h, e, q⟩
theorem s_tup (h : ts σ H fun xs H1 => xs.length ≤ sizeLine ∧ ∀ p, H1 p = none → Q (.ref p) (upd H1 p (.tup xs))) : tTup ts σ H Q := h
theorem s_lst (h : ts σ H fun xs H1 => xs.length ≤ sizeLine ∧ ∀ p, H1 p = none → Q (.ref p) (upd H1 p (.lst xs))) : tLst ts σ H Q := h
theorem s_call {sp : Sp} {dvs : List V} {E : XK} (h : ts σ H fun vs H1 => sp (vs ++ dvs) H1 Q E) : tCall sp dvs E ts σ H Q := h
theorem s_fld {a C dx : Addr} {fs : List (Str × V)} {f : Str} (h : ta σ H fun x H1 => ∃ a C dx fs v, x = .ref a ∧ H1 a = some (.ins C dx fs) ∧ Cls K C ∧ NoAttr K C f ∧ fs.lookup f = some v ∧ Q v H1) : tFld K ta f σ H Q := h
theorem ite_d {p : Prop} [Decidable p] {A B : Prop} (h1 : p → A) (h2 : ¬ p → B) : if decide p = true then A else B := by
  by_cases h : p
  · rw [if_pos (decide_eq_true h)]; exact h1 h
  · rw [if_neg (by simpa using h)]; exact h2 h
theorem ite_n {p : Prop} [Decidable p] {A B : Prop} (h1 : ¬ p → A) (h2 : p → B) : if (!decide p) = true then A else B := by
  by_cases h : p
  · rw [if_neg (by simpa using h)]; exact h2 h
  · rw [if_pos (by simpa using h)]; exact h1 h
end
theorem st_eq {N : List Str} {vs : List V} {σ : L2.St} {t : TS} {D : Ends} {H : Hp} (e : L2.start N vs = σ) (h : t D σ H) : t D (L2.start N vs) H := by
  rw [e]; exact h
theorem divp_wide {i j : Int} (h : 0 < j) (hb : j.natAbs.log2 < 9000) : CDivP i j := ⟨h, PyProof.noPylong_of_log2 hb⟩
/-! ### heaps -/
/-- all but r stays -/
def But (r : Addr) (H H' : Hp) : Prop := ∀ c o, H c = some o → c ≠ r → H' c = some o
theorem But.get {r c : Addr} {o : HO} {H H' : Hp} (b : But r H H') (h : H c = some o) (n : c ≠ r) : H' c = some o := b c o h n
theorem But.refl (r : Addr) (H : Hp) : But r H H := fun _ _ h _ => h
theorem But.trans {r : Addr} {H H1 H2 : Hp} (a : But r H H1) (b : But r H1 H2) : But r H H2 := fun c o h n => b c o (a c o h n) n
theorem But.new {r p : Addr} {o : HO} {H : Hp} (h : H p = none) : But r H (upd H p o) := fun c u e _ => by rw [upd_ne (ne_of_none e h)]; exact e
theorem But.at {r : Addr} {o : HO} {H : Hp} : But r H (upd H r o) := fun c u e n => by rw [upd_ne n]; exact e
theorem Same.get {c : Addr} {o : HO} {H H' : Hp} (b : Same H H') (h : H c = some o) : H' c = some o := b c o h
end My
namespace My
open PySem L2 PySem.Spec PyProof.Rows
/-! ### defs that may tell texts of containers: what is being shown already is known to be nothing -/
structure RoomG (k : Nat) (A : Around) : Prop where
  r : Room k A
  g : A.guards = some []
theorem RoomG.mono {j k : Nat} {A : Around} (q : RoomG k A) (h : j ≤ k) : RoomG j A := ⟨q.r.mono h, q.g⟩
theorem RoomG.units {k : Nat} {A : Around} (q : RoomG k A) : A.units + 64 < cLine := q.r.units
theorem RoomG.in1 {k : Nat} {A : Around} (q : RoomG (k + 1) A) : RoomG k A.in1 := ⟨q.r.in1, q.g⟩
theorem hug {A : Around} {k : Nat} (q : RoomG k A) : A.units + 1 < cLine := hu_of q.r
/-- the def at f keeps the promise sp wherever nothing is being shown -/
structure FnG (P : Program) (w : World) (K : PySem.W.Frag) (mg : Str → Option Value) (base : Heap) (CX : CXT) (k : Nat) (f : Addr) (fd : FuncData) (ps : List Str) (sp : Sp) : Prop where
  len : ∀ vs H Q E, sp vs H Q E → vs.length = ps.length
  go : ∀ (A : Around) (outer : List Env) (s : Shared) (H : Hp) (args : Args) (us : List Value) (vs : List V) (Q : VK) (E : XK), RoomG k A →
    Env0 P w K mg base A outer s H → BindsTo s fd args (ps.zip us) → Vals vs us → sp vs H Q E →
      codeAny (model P w) A (.call (.ref f) args) (CR CX outer P w H s Q E) s
section
variable {P : Program} {w : World} {K : PySem.W.Frag} {mg : Str → Option Value} {base : Heap} {CX : CXT} {k j : Nat} {f : Addr} {fd : FuncData} {ps : List Str} {sp sp' : Sp}
theorem FnG.of (F : FnOk P w K mg base CX k f fd ps sp) : FnG P w K mg base CX k f fd ps sp := ⟨F.len, fun A outer s H args us vs Q E hr => F.run A outer s H args us vs Q E hr.r⟩
theorem FnG.mono (F : FnG P w K mg base CX j f fd ps sp) (h : j ≤ k) : FnG P w K mg base CX k f fd ps sp := ⟨F.len, fun A outer s H args us vs Q E hr => F.go A outer s H args us vs Q E (hr.mono h)⟩
theorem FnG.imp (F : FnG P w K mg base CX k f fd ps sp) (h : ∀ vs H Q E, sp' vs H Q E → sp vs H Q E) : FnG P w K mg base CX k f fd ps sp' :=
  ⟨fun vs H Q E q => F.len vs H Q E (h _ _ _ _ q), fun A outer s H args us vs Q E hr a b c d => F.go A outer s H args us vs Q E hr a b c (h _ _ _ _ d)⟩
theorem fnG_body {x qual : Str} {st : Stmt} {N : List Str} {dvs0 : List V} {kws0 : List (Str × V)} (F : FunD K x qual (defArgs st) (defBody st) (defScope st) dvs0 kws0 f fd) (S : FnScope N ps (defScope st)) (len : ∀ vs H Q E, sp vs H Q E → vs.length = ps.length)
    (hb : ∀ (cdv : Value) (A : Around) (outer : List Env) (s : Shared) (H : Hp) (vs : List V) (Q : VK) (E : XK), RoomG k (A.deeper (envOfC qual (defScope st) s.heap.objs.size f cdv)) → sp vs H Q E →
      ∃ t, PSs (cxOf CX P w K mg base N qual (defScope st) f cdv A outer s H E) (defBody st) t ∧ t { nx := fun _ H' => Q .non H', rt := Q } (start N vs) H) :
    FnG P w K mg base CX (k + 1) f fd ps sp := by
  obtain ⟨oc, od, dV, kV, doc, pm, an, cdv, ct, osl, rfl, lk, hcd, _, _⟩ := F.ex
  constructor
  · exact len
  · intro A outer s H args us vs Q E hr e0 hbi r hsp
    have keeps0 : ∀ b o, base.get? b = some o → s.heap.get? b = some o := fun b o e => (e0.bs b o e).1
    have inK : K.In s.heap := e0.mod.kin.keeps keeps0
    refine codeAny_call_function hr.r.depth (inK _ _ lk) rfl S.co S.gen rfl (PySem.W.codeRec_of inK hcd) (hbi _ _ _ _ ?_)
    refine wpAny_newFunctionEnv_cells S.kind ?_ fun env he s1 x => ?_
    · intro ⟨n, v⟩ hy
      cases S.par n (List.of_mem_zip hy).1 with
      | inl q => exact Or.inl q
      | inr q => exact Or.inr ⟨q, PySem.W.cellsFrom_some _ _ _ (Or.inl q)⟩
    · subst he
      refine ⟨(e0.mod.nolimit.keeps keeps0).keeps x.toInCall.keep, codeAny_func ?_⟩
      obtain ⟨t, ht, hq⟩ := hb cdv A outer s H vs Q E ⟨hr.r.deeper _, hr.g⟩ hsp
      have I0 := inv_start (CX := CX) (P := P) (E := E) S hr.r.hd e0 (len _ _ _ _ hsp) r x
      refine wpAny_mono (ht.run [] s1 (start N vs) H _ I0 hq) ?_ (fun _ _ z => z)
      intro fl s' hs
      cases fl with
      | ret u => obtain ⟨v, σ', H', J, rv, q⟩ := hs; exact ⟨v, H', J.os, J.bare, J.base, J.hok, rv, q⟩
      | next => obtain ⟨σ', H', J, q⟩ := hs; exact ⟨V.non, H', J.os, J.bare, J.base, J.hok, rfl, q⟩
      | brk => exact hs.elim fun _ z => z.elim fun _ y => y.2.elim
      | cont => exact hs.elim fun _ z => z.elim fun _ y => y.2.elim
end
/-! ### bundles: a def, a class, a method, a property, by its name -/
structure Dn (P : Program) (w : World) (K : PySem.W.Frag) (mg : Str → Option Value) (base : Heap) (x : Str) (k : Nat) (ps : List Str) (dvs : List V) (sp : Sp) : Prop where
  ex : ∃ (f : Addr) (fd : FuncData) (ds : List Value), FnG P w K mg base CX0 k f fd ps sp ∧ mg x = some (.ref f) ∧ PySem.W.keepIn K (.ref f) = true ∧ Binds K fd ps ds ∧ Vals dvs ds
structure Mkn (P : Program) (w : World) (K : PySem.W.Frag) (mg : Str → Option Value) (base : Heap) (x : Str) (C : Addr) (k : Nat) (ps : List Str) (dvs : List V) (sp : Sp) : Prop where
  ex : ∃ (f : Addr) (fd : FuncData) (ds : List Value), Mk K C f ∧ FnG P w K mg base CX0 k f fd ps sp ∧ mg x = some (.ref C) ∧ Binds K fd ps ds ∧ Vals dvs ds
structure Mtn (P : Program) (w : World) (K : PySem.W.Frag) (mg : Str → Option Value) (base : Heap) (C : Addr) (m : Str) (k : Nat) (ps : List Str) (dvs : List V) (sp : Sp) : Prop where
  ex : ∃ (f : Addr) (fd : FuncData) (ds : List Value), Cls K C ∧ Meth K C m f ∧ FnG P w K mg base CX0 k f fd ps sp ∧ Binds K fd ps ds ∧ Vals dvs ds
structure Prn (P : Program) (w : World) (K : PySem.W.Frag) (mg : Str → Option Value) (base : Heap) (C : Addr) (m : Str) (k : Nat) (ps : List Str) (dvs : List V) (sp : Sp) : Prop where
  ex : ∃ (p g : Addr) (fd : FuncData) (ds : List Value), Cls K C ∧ PropOf K C m p g ∧ FnG P w K mg base CX0 k g fd ps sp ∧ Binds K fd ps ds ∧ Vals dvs ds
section
variable {X : Cx} {j k : Nat} {f C : Addr} {fd : FuncData} {ps : List Str} {sp : Sp} {dvs : List V} {ds : List Value} {x m : Str} {p pos apos : Pos} {e o : Expr} {es : List Expr} {ta : TE} {t : TA}
theorem goG {pins : List (Addr × Obj)} {σ : L2.St} {H : Hp} {s : Shared} {Q : VK} {us : List Value} {vs : List V} (F : FnG X.prog X.w X.K X.mg X.base CX0 k f fd ps sp) (hr : RoomG k X.A) (hb : Binds X.K fd ps ds) (hd : Vals dvs ds)
    (I : Inv X pins σ H s) (r : Vals vs us) (h : sp (vs ++ dvs) H Q E0) : wpAny (model X.prog X.w) X.A (call (.ref f) us) (EP X pins σ Q) X.xe s := by
  have r2 := r.append hd
  have hl : (us ++ ds).length = ps.length := r2.length.symm.trans (F.len _ _ _ _ h)
  refine wpAny_call (codeAny_mono (F.go X.A X.stack s H ⟨us, []⟩ (us ++ ds) _ Q E0 hr I.env0 (hb s us I.kIn hl) r2 h) ?_)
  intro r s' hq
  cases r with
  | error e => exact (show False from hq).elim
  | ok fl => cases fl with
    | ret u => exact I.after hq
    | next => exact (show False from hq).elim
    | brk => exact (show False from hq).elim
    | cont => exact (show False from hq).elim
theorem pe_callD (D : Dn X.prog X.w X.K X.mg X.base x k ps dvs sp) (hr : RoomG k X.A) (hg : Gl X x) (ha : PA X (e :: es) t) (hdb : (x == ("__debug__" : Str)) = false := by decide)
    (h1 : starEach (e :: es) X.env = (false, eval e X.env) :: starEach es X.env := by rfl) (h2 : (backTo pos (starEach es X.env)).any (·.1) = false := by rfl) : PE X (.Call (.Name x p) (e :: es) [] pos) (tCall sp dvs E0 t) := by
  obtain ⟨f, fd, ds, F, hm, hk, hb, hd⟩ := D.ex
  constructor
  intro pins s σ H Q I h
  exact wpAny_Call_Name_kw (ld_glob I hg hm (PySem.W.callWith_K (h₀ := X.base) I.ok.mod.kin hk (thn (ha.run pos pins s σ H _ I h) fun us s1 ⟨vs, H1, I1, r, q⟩ => ⟨I1.kIn, goG F hr hb hd I1 r q⟩) h1 h2) hdb)
theorem pe_call0D (D : Dn X.prog X.w X.K X.mg X.base x k ps dvs sp) (hr : RoomG k X.A) (hg : Gl X x) (hdb : (x == ("__debug__" : Str)) = false := by decide) : PE X (.Call (.Name x p) [] [] pos) (tCall sp dvs E0 tNil) := by
  obtain ⟨f, fd, ds, F, hm, hk, hb, hd⟩ := D.ex
  constructor
  intro pins s σ H Q I h
  exact wpAny_Call_Name_kw (ld_glob I hg hm (PySem.W.callWith_K0 I.kIn hk (goG (us := []) F hr hb hd I .nil h)) hdb)
theorem goMake {pins : List (Addr × Obj)} {σ : L2.St} {H : Hp} {s : Shared} {Q : VK} {us : List Value} {vs : List V} (M : Mk X.K C f) (F : FnG X.prog X.w X.K X.mg X.base CX0 k f fd ps sp) (hr : RoomG (k + 1) X.A) (hb : Binds X.K fd ps ds) (hd : Vals dvs ds)
    (I : Inv X pins σ H s) (r : Vals vs us) (h : ∀ x dx, H x = none → H dx = none → dx ≠ x → sp (.ref x :: (vs ++ dvs)) (upd (upd H dx (.own x)) x (.ins C dx [])) (fun v H2 => v = .non ∧ Q (.ref x) H2) E0) :
    wpAny (model X.prog X.w) X.A (call (.ref C) us) (EP X pins σ Q) X.xe s := by
  have nx : H (s.heap.objs.size + 1) = none := I.hok.fresh (Nat.le_succ _)
  have nd : H s.heap.objs.size = none := I.hok.fresh (Nat.le_refl _)
  have hq := h _ _ nx nd (Nat.ne_of_lt (Nat.lt_succ_self _))
  have J := Inv.made (C := C) I
  have r2 : Vals (V.ref (s.heap.objs.size + 1) :: (vs ++ dvs)) (Value.ref (s.heap.objs.size + 1) :: us ++ ds) := .cons rfl (r.append hd)
  have hl : (Value.ref (s.heap.objs.size + 1) :: us ++ ds).length = ps.length := r2.length.symm.trans (F.len _ _ _ _ hq)
  have hr2 : RoomG k (X.A.under (.builtin "type.__call__" ⟨.ref C :: us, []⟩)) := ⟨hr.r.make C us [], hr.g⟩
  refine wpAny_call (make_map (f := f) I.kIn M.makes M.init (beq_iff_eq.mp M.fn) (codeAny_mono
    (F.go _ X.stack _ _ ⟨Value.ref (s.heap.objs.size + 1) :: us, []⟩ _ _ _ E0 hr2 (J.env0.make C us []) (hb _ (Value.ref (s.heap.objs.size + 1) :: us) J.kIn hl) r2 hq) ?_))
  intro r s' hq'
  cases r with
  | error e => exact (show False from hq').elim
  | ok fl => cases fl with
    | ret u =>
      obtain ⟨v, H', I3, rv, ev, q3⟩ := J.after hq'
      subst ev
      exact ⟨rv, V.ref (s.heap.objs.size + 1), H', I3, rfl, q3⟩
    | next => exact (show False from hq').elim
    | brk => exact (show False from hq').elim
    | cont => exact (show False from hq').elim
theorem pe_makeD (D : Mkn X.prog X.w X.K X.mg X.base x C k ps dvs sp) (hr : RoomG (k + 1) X.A) (hg : Gl X x) (ha : PA X (e :: es) t) (hdb : (x == ("__debug__" : Str)) = false := by decide)
    (h1 : starEach (e :: es) X.env = (false, eval e X.env) :: starEach es X.env := by rfl) (h2 : (backTo pos (starEach es X.env)).any (·.1) = false := by rfl) : PE X (.Call (.Name x p) (e :: es) [] pos) (tMake C sp dvs E0 t) := by
  obtain ⟨f, fd, ds, M, F, hm, hb, hd⟩ := D.ex
  constructor
  intro pins s σ H Q I h
  exact wpAny_Call_Name_kw (ld_glob I hg hm (PySem.W.callWith_K (h₀ := X.base) I.ok.mod.kin M.kp (thn (ha.run pos pins s σ H _ I h) fun us s1 ⟨vs, H1, I1, r, q⟩ => ⟨I1.kIn, goMake M F hr hb hd I1 r q⟩) h1 h2) hdb)
theorem pe_make0D (D : Mkn X.prog X.w X.K X.mg X.base x C k ps dvs sp) (hr : RoomG (k + 1) X.A) (hg : Gl X x) (hdb : (x == ("__debug__" : Str)) = false := by decide) : PE X (.Call (.Name x p) [] [] pos) (tMake C sp dvs E0 tNil) := by
  obtain ⟨f, fd, ds, M, F, hm, hb, hd⟩ := D.ex
  constructor
  intro pins s σ H Q I h
  exact wpAny_Call_Name_kw (ld_glob I hg hm (PySem.W.callWith_K0 I.kIn M.kp (goMake (us := []) M F hr hb hd I .nil h)) hdb)
theorem pe_methD {pl : Sem Bool} (D : Mtn X.prog X.w X.K X.mg X.base C m k ps dvs sp) (he : PE X o ta) (hr : RoomG k X.A) (ha : PA X (e :: es) t)
    (h1 : starEach (e :: es) X.env = (false, eval e X.env) :: starEach es X.env := by rfl) (h2 : (backTo pos (starEach es X.env)).any (·.1) = false := by rfl)
    (h3 : eval (.Call (.Attribute o m apos) (e :: es) [] pos) X.env = (do
      let v ← eval o X.env
      standAt apos.atName
      let (g, fst) ← holding [v] (getMethod v m pl)
      callWith pos g fst (backTo pos (starEach (e :: es) X.env)) (backToKw pos (keywordEach [] X.env))) := by rfl) : PE X (.Call (.Attribute o m apos) (e :: es) [] pos) (tMeth C m sp dvs E0 ta t) := by
  obtain ⟨f, fd, ds, c, hm, F, hb, hd⟩ := D.ex
  constructor
  intro pins s σ H Q I h
  refine PySem.W.methodCall_KW (pl := pl) (thn (he.run pins s σ H _ I h) ?_) h3
  rintro u s1 ⟨x, H1, I1, rx, a, dx, fs, rfl, ea, l, q⟩
  obtain rfl : u = Value.ref a := rx
  exact getmeth_ok I1 ea c hm l (PySem.W.callWith_K (first := [.ref a]) I1.kIn hm.kp (thn (ha.run pos pins s1 σ H1 _ I1 q) fun us s2 ⟨vs, H2, I2, r, q2⟩ => ⟨I2.kIn, goG (vs := .ref a :: vs) F hr hb hd I2 (.cons rfl r) q2⟩) h1 h2)
theorem pe_meth0D {pl : Sem Bool} (D : Mtn X.prog X.w X.K X.mg X.base C m k ps dvs sp) (he : PE X o ta) (hr : RoomG k X.A)
    (h3 : eval (.Call (.Attribute o m apos) [] [] pos) X.env = (do
      let v ← eval o X.env
      standAt apos.atName
      let (g, fst) ← holding [v] (getMethod v m pl)
      callWith pos g fst (backTo pos (starEach [] X.env)) (backToKw pos (keywordEach [] X.env))) := by rfl) : PE X (.Call (.Attribute o m apos) [] [] pos) (tMeth C m sp dvs E0 ta tNil) := by
  obtain ⟨f, fd, ds, c, hm, F, hb, hd⟩ := D.ex
  constructor
  intro pins s σ H Q I h
  refine PySem.W.methodCall_KW (pl := pl) (thn (he.run pins s σ H _ I h) ?_) h3
  rintro u s1 ⟨x, H1, I1, rx, a, dx, fs, rfl, ea, l, q⟩
  obtain rfl : u = Value.ref a := rx
  exact getmeth_ok I1 ea c hm l (PySem.W.callWith_K0 (first := [.ref a]) I1.kIn hm.kp (goG (us := [.ref a]) (vs := [.ref a]) F hr hb hd I1 (.cons rfl .nil) q))
theorem pe_propD (D : Prn X.prog X.w X.K X.mg X.base C m k ps dvs sp) (he : PE X e ta) (hr : RoomG (k + 1) X.A) (hab : attributeBase e m X.env (eval e X.env) = eval e X.env) : PE X (.Attribute e m pos) (tProp C sp dvs E0 ta) := by
  obtain ⟨p, g, fd, ds, c, hp, F, hb, hd⟩ := D.ex
  constructor
  intro pins s σ H Q I h
  refine attr_of hab (thn (he.run pins s σ H _ I h) ?_)
  rintro u s1 ⟨x, H1, I1, rx, a, dx, fs, rfl, ea, q⟩
  obtain rfl : u = Value.ref a := rx
  obtain ⟨mA, O, _, _, _, _⟩ := ins_get I1.hok ea
  obtain ⟨od, J, _⟩ := O.look
  obtain ⟨rest, hrec⟩ := hp.rec_
  have I2 := I1.tok (s1.toks + 1)
  have hl : ([Value.ref a] ++ ds).length = ps.length := by
    have z := F.len _ _ _ _ q
    have y := hd.length
    simp only [List.length_cons, List.length_append, List.length_nil] at z ⊢
    omega
  have hc : (PySem.W.clsIn X.K C).isSome = true := by
    obtain ⟨cd, hc, _⟩ := PySem.W.any_some c.hd
    simp [hc]
  have pg := PySem.W.plainGet_of (c.get m)
  refine PySem.W.get_bind I1.kIn J pg.1 (PySem.W.findObj_data hc hp.at_ hp.get hp.tak) pg.2 (wpAny_call (PySem.W.prop_get (s := { s1 with toks := s1.toks + 1 }) I1.kIn hrec ?_))
  refine codeAny_mono (F.go X.A.in1 X.stack { s1 with toks := s1.toks + 1 } H1 ⟨[.ref a], []⟩ (.ref a :: ds) (.ref a :: dvs) Q E0 hr.in1 I2.env0.in1 (hb _ [.ref a] I2.kIn hl) (.cons rfl hd) q) ?_
  intro r s' hq
  cases r with
  | error er => exact (show False from hq).elim
  | ok fl => cases fl with
    | ret u =>
      obtain ⟨v, H', I3, rv, q3⟩ := I2.after hq
      show wpAny _ _ (handedOut u) _ _ _
      rw [PySem.W.handedOut_of (handed_of rv)]
      exact wpAny_pure ⟨v, H', I3, rv, q3⟩
    | next => exact (show False from hq).elim
    | brk => exact (show False from hq).elim
    | cont => exact (show False from hq).elim
/-- repr of data -/
theorem call_reprD (hr : RoomG k X.A) : CallR X (.builtin "repr") (fun xs H Q => ∃ y d, xs = [y] ∧ Dp X.K H y d ∧ SeqAt.shaped d = true ∧ d.showable = true ∧ d.hasDict = false ∧ d.shown.length ≤ sizeLine ∧ Q (.str d.shown) H) := by
  intro pins s σ H xs us Q I r h
  obtain ⟨y, d, rfl, hd, hs, hw, hn, hz, q⟩ := h
  obtain ⟨u, rfl, ru⟩ := vals1 r
  obtain ⟨as, rd⟩ := Dp.reads I d y u hd ru
  have hA : X.A.units + (d.depth + 1) < cLine := by
    have := SeqAt.depth_of_shaped hs
    have := hr.r.un
    omega
  have fin : ∀ {t : Tok} {s' : Shared}, Inv X pins σ H s' → EP X pins σ Q (.str d.shown t) s' := fun J => ⟨.str d.shown, H, J, ⟨_, rfl⟩, q⟩
  cases rd with
  | none => exact PySem.P.repr_of_none (fin (I.tok _))
  | bool b => exact PySem.P.repr_of_bool (fin (I.tok _))
  | int i t => exact PySem.P.repr_of_int (of_decide_eq_true hw) (fin (I.tok _))
  | str z t => exact PySem.P.repr_of_str (fin (I.tok _)) hz
  | list h1 h2 h3 h4 => exact PySem.repr_of_reads' (.list h1 h2 h3 h4) hw (PyData.noDict_hsm hn) hr.g hA (fun _ _ e => e) (fun h' t tk hk => fin (I.kept hk)) hz
  | tuple h1 h2 h3 h4 => exact PySem.repr_of_reads' (.tuple h1 h2 h3 h4) hw (PyData.noDict_hsm hn) hr.g hA (fun _ _ e => e) (fun h' t tk hk => fin (I.kept hk)) hz
  | dict h1 h2 h3 h4 h5 => simp [PyData.hasDict] at hn
end
end My
namespace My
open PySem L2 PySem.Spec PyProof.Rows PySem.W
section
variable {P : Program} {w : World} {K : Frag} {mg mb : Str → Option Value} {k : Nat} {fa a : Addr} {fd : FuncData} {x : Str} {sp : Sp} {s : Shared} {vs : List Value} {ns : List Int}
abbrev lawEnd (s : Shared) : Result → Shared → Prop := fun r s' => r = .ok (.ret (.bool true)) ∧ OldK s.heap s'.heap ∧ s'.os = s.os ∧ AllBare s'.gens
theorem lawG_from {H : Hp} (KX : K.In s.heap) (hns : s.heap.Ns mainGlobals mg) (hb : s.heap.Ns builtinsNs mb) (hbb : ∀ y : Str, y ≠ "__name__" → mb y = bootBuiltins y) (hlim : s.heap.NoLimit) (hg : s.gens = #[])
    (ha : s.heap.get? a = some { cls := .type "list", data := .seq vs.toArray }) (hr : RoomG k callerA)
    (F : ∀ base : Heap, K.In base → base.Ns mainGlobals mg → FnG P w K mg base CX0 k fa fd [x] sp) (bnd : ∀ (s : Shared) (u : Value), BindsTo s fd ⟨[u], []⟩ [(x, u)])
    (hsp : sp [.ref a] H (fun v _ => v = .bl true) E0) (only : Only H) (ok : HOk P w H s.heap) (atA : ∀ b, H b ≠ none → b = a) (nK : H a ≠ none → K.lookup a = none) :
    codeAny (model P w) callerA (.call (.ref fa) ⟨[.ref a], []⟩) (lawEnd s) s := by
  have free : ∀ {b : Addr}, b ≠ a → H b = none := fun {b} n => Classical.byContradiction fun z => n (atA b z)
  have nsB : ∀ {b : Addr} {m : Str → Option Value}, s.heap.Ns b m → (hidT s.heap H).Ns b m := by
    rintro b m ⟨o, es, ep, e, d, r⟩
    refine ⟨o, es, ep, hidT_get e (free ?_), d, r⟩
    rintro rfl
    rw [ha] at e
    cases e
    cases (show Data.seq vs.toArray _ = Data.dict es ep from d)
  have inB : K.In (hidT s.heap H) := by
    intro b o e
    refine hidT_get (KX b o e) (Classical.byContradiction fun z => ?_)
    have := nK (atA b z ▸ z)
    rw [atA b z, this] at e
    cases e
  obtain ⟨mc, l1, l2⟩ := hlim
  have md : Mod K mg (hidT s.heap H) := ⟨inB, nsB hns, ⟨mb, nsB hb, hbb⟩, mc, nsB l1, l2⟩
  have env : Env0 P w K mg (hidT s.heap H) callerA [] s H :=
    ⟨rfl, md, fun b o e => of_hidT e, Nat.le_of_eq (hidT_size _ _), trivial, fun b z => (List.not_mem_nil (show b ∈ ([] : List Addr) from z)).elim, ok, .of_eq hg⟩
  refine codeAny_mono ((F _ inB (nsB hns)).go callerA [] s H ⟨[.ref a], []⟩ [.ref a] [.ref a] _ _ hr env (bnd s (.ref a)) (.cons rfl .nil) hsp) ?_
  rintro (e | fl) s' h
  · exact (show False from h).elim
  · cases fl with
    | ret u =>
      obtain ⟨v, H', os, bare, un, ok', rv, (rfl : v = .bl true)⟩ := h
      obtain rfl : u = Value.bool true := rv
      refine ⟨rfl, OldK.of_keep ?_, os, bare⟩
      intro b o e
      cases q : H b with
      | none => exact un.keep b o e q (fun z => (List.not_mem_nil (show b ∈ ([] : List Addr) from z)).elim) (by simp)
      | some u =>
        rcases only b with z | ⟨ob, xs, z⟩
        · exact absurd (q.symm.trans z) (by simp)
        · have y1 := (ok b _ z).1
          have y2 := (ok' b _ (un.frzs b ob _ z)).1
          rw [e] at y1
          cases y1
          exact y2
    | next => exact (show False from h).elim
    | brk => exact (show False from h).elim
    | cont => exact (show False from h).elim
theorem lawG (KX : K.In s.heap) (hns : s.heap.Ns mainGlobals mg) (hb : s.heap.Ns builtinsNs mb) (hbb : ∀ y : Str, y ≠ "__name__" → mb y = bootBuiltins y) (hlim : s.heap.NoLimit) (hg : s.gens = #[])
    (ha : s.heap.get? a = some { cls := .type "list", data := .seq vs.toArray }) (hi : IntsAre vs ns) (hl : ns.length ≤ sizeLine) (hr : RoomG k callerA)
    (F : ∀ base : Heap, K.In base → base.Ns mainGlobals mg → FnG P w K mg base CX0 k fa fd [x] sp) (bnd : ∀ (s : Shared) (u : Value), BindsTo s fd ⟨[u], []⟩ [(x, u)])
    (hsp : ∀ H : Hp, Only H → SqL K H a (ns.map V.int) → sp [.ref a] H (fun v _ => v = .bl true) E0) :
    codeAny (model P w) callerA (.call (.ref fa) ⟨[.ref a], []⟩) (lawEnd s) s := by
  have rv := vals_ints hi
  cases hk : K.lookup a with
  | some o =>
    have e := (ha.symm.trans (KX a o hk))
    cases e
    have hS : SqL K (fun _ => none) a (ns.map V.int) := Or.inr ⟨_, vs.toArray, _, hk, rfl, rfl, rfl, by rw [List.size_toArray, hi.length]; exact hl, by simpa using rv⟩
    exact lawG_from (H := fun _ => none) KX hns hb hbb hlim hg ha hr F bnd (hsp _ (fun _ => Or.inl rfl) hS) (fun _ => Or.inl rfl) (fun b u z => nomatch z) (fun b z => (z rfl).elim) fun z => (z rfl).elim
  | none =>
    let H1 : Hp := upd (fun _ => none) a (.frz { cls := .type "list", data := .seq vs.toArray } (.lst (ns.map V.int)))
    have same : H1 a = some (.frz { cls := .type "list", data := .seq vs.toArray } (.lst (ns.map V.int))) := upd_same
    have els : ∀ b, b ≠ a → H1 b = none := fun b n => upd_ne n
    have on : Only H1 := fun b => (Classical.em (b = a)).elim (fun e => Or.inr ⟨_, _, e ▸ same⟩) fun n => Or.inl (els b n)
    refine lawG_from (H := H1) KX hns hb hbb hlim hg ha hr F bnd (hsp H1 on (Or.inl (Or.inr ⟨_, same⟩))) on ?_ (fun b z => Classical.byContradiction fun n => z (els b n)) fun _ => hk
    intro b u z
    rcases Classical.em (b = a) with e | n
    · subst e
      rw [same] at z
      cases z
      exact ⟨ha, by rw [List.length_map]; exact hl, vs, _, rv, ha⟩
    · rw [els b n] at z
      cases z
end
theorem walkG {l : OpenLaw} {n k : Nat} {q : Program} {loose : List Str} {XP : (Str → Option Value) → Heap → Prop} {YP : World → Heap → Prop} {d : DefRec} {K : Params → Frag} {sp : World → Sp} {x : Str}
    (hn : l.most = some n) (hn2 : n ≤ sizeLine) (hdf : d.params.defaults = []) (hr : RoomG k callerA) (hY : ∀ (w : World) (h : Heap), YP w h → (K w.params).In h)
    (F : ∀ (w : World) (mg : Str → Option Value) (fa : Addr) (h : Heap), (K w.params).In h → h.Ns mainGlobals mg → mg d.name = some (.ref fa) →
      ∃ fd : FuncData, (∀ (s : Shared) (u : Value), BindsTo s fd ⟨[u], []⟩ [(x, u)]) ∧ ∀ base : Heap, (K w.params).In base → base.Ns mainGlobals mg → FnG l.prog w (K w.params) mg base CX0 k fa fd [x] (sp w))
    (hsp : ∀ (w : World) (H : Hp) (a : Addr) (ns : List Int), ns.length ≤ n → Only H → SqL (K w.params) H a (ns.map V.int) → sp w [.ref a] H (fun v _ => v = .bl true) E0) :
    WalkO q loose XP YP l.row.toRowW d [] (fun f vs => PySem.call f vs) := by
  refine Att.attach_call hn hdf ?_
  intro w s₀ s₁ mg mb fa o pm cd doc a vs ns G Y ho hd hcd hmg hobj hints hlen hg
  obtain ⟨fd, hb, hF⟩ := F w mg fa _ (hY w _ Y) G.T.g hmg
  exact lawG (hY w _ Y) G.T.g G.T.b G.T.builtins G.T.nolimit hg hobj hints (Nat.le_trans hlen hn2) hr hF hb fun H h1 h2 => hsp w H a ns hlen h1 h2
end My

namespace My
open PySem L2 PySem.Spec PyProof.Rows
section
variable {σ : L2.St} {H : Hp} {Q : VK} {ta tb : TE} {K : PySem.W.Frag} {i : Int}
/-- slot i holds v -/
inductive GetAt : Nat → L2.St → V → Prop
  | zero {v : V} {l : L2.St} : GetAt 0 (some v :: l) v
  | succ {i : Nat} {v : V} {x : Option V} {l : L2.St} (h : GetAt i l v) : GetAt (i + 1) (x :: l) v
inductive SetAt : Nat → V → L2.St → L2.St → Prop
  | zero {v : V} {x : Option V} {l : L2.St} : SetAt 0 v (x :: l) (some v :: l)
  | succ {i : Nat} {v : V} {x : Option V} {l m : L2.St} (h : SetAt i v l m) : SetAt (i + 1) v (x :: l) (x :: m)
theorem GetAt.get {i : Nat} {σ : L2.St} {v : V} (h : GetAt i σ v) : σ[i]? = some (some v) := by
  induction h with
  | zero => rfl
  | succ _ ih => simpa using ih
theorem SetAt.set {i : Nat} {σ τ : L2.St} {v : V} (h : SetAt i v σ τ) : σ.set i (some v) = τ := by
  induction h with
  | zero => rfl
  | succ _ ih => simpa using ih
theorem s_varG {i : Nat} {v : V} (g : GetAt i σ v) (q : Q v H) : tVar i σ H Q := ⟨v, g.get, q⟩
theorem s_gnameG {i : Nat} {v : V} {τ : L2.St} {Q : L2.St → Hp → Prop} (g : SetAt i v σ τ) (q : Q τ H) : gName i v σ H Q := by
  show Q (σ.set i (some v)) H
  rw [g.set]
  exact q
theorem s_gnameE {i : Nat} {v : V} {τ : L2.St} {Q : L2.St → Hp → Prop} (e : σ.set i (some v) = τ) (q : Q τ H) : gName i v σ H Q := by
  show Q (σ.set i (some v)) H
  rw [e]
  exact q
theorem s_2setE {D : Ends} {i j : Nat} {t : TS} {x y : V} {τ : L2.St} (e : (σ.set i (some x)).set j (some y) = τ) (h : t D τ H) : t D ((σ.set i (some x)).set j (some y)) H := by
  rw [e]
  exact h
theorem s_orT (h : ta σ H fun x H1 => ∃ k, TruV K x H1 k ∧ if k = true then Q x H1 else tb σ H1 Q) : tOrT K ta tb σ H Q := h
theorem s_andT (h : ta σ H fun x H1 => ∃ k, TruV K x H1 k ∧ if k = true then tb σ H1 Q else Q x H1) : tAndT K ta tb σ H Q := h
theorem s_chain {r r' : R2} {tc : TE} (h : ta σ H fun x H1 => tb σ H1 fun y H2 => r x y H2 fun z H3 => ∃ k, z = .bl k ∧
  (if k = true then tc σ H3 fun w' H4 => r' y w' H4 Q else Q (.bl false) H3)) : tChain r r' ta tb tc σ H Q := h
theorem s_isi_int (q : Q (.bl true) H) : rIsi K [.int i, .ty "int"] H Q := ⟨_, _, _, _, true, rfl, .ty _, .base (.int i), kit_ty (by decide +kernel), q⟩
theorem s_isi_int_bool (q : Q (.bl false) H) : rIsi K [.int i, .ty "bool"] H Q := ⟨_, _, _, _, false, rfl, .ty _, .base (.int i), kit_ty (by decide +kernel), q⟩
theorem s_isi_own {a C : Addr} (t : TyOf K H (.ref a) (.ref C)) (q : Q (.bl true) H) : rIsi K [.ref a, .ref C] H Q := ⟨_, _, _, _, true, rfl, .own C, .base t, by simp [PySem.W.kitOne], q⟩
theorem s_prop {C : Addr} {sp : Sp} {dvs : List V} {E : XK} (h : ta σ H fun x H1 => ∃ a dx fs, x = .ref a ∧ H1 a = some (.ins C dx fs) ∧ sp (.ref a :: dvs) H1 Q E) : tProp C sp dvs E ta σ H Q := h
theorem s_sfld {D : Ends} {f : Str} (h : tb σ H fun y H1 => ta σ H1 fun x H2 => ∃ a C dx fs, x = .ref a ∧ H2 a = some (.ins C dx fs) ∧ Cls K C ∧ NoAttr K C f ∧ fs.length < 1000 ∧ D.nx σ (upd H2 a (.ins C dx (putF f y fs)))) : sFld K ta tb f D σ H := h
theorem s_fput {a C dx : Addr} {fs : List (Str × V)} {f : Str} {y : V} {Q : Hp → Prop} (e : H a = some (.ins C dx fs)) (c : Cls K C) (n : NoAttr K C f) (l : fs.length < 1000) (q : Q (upd H a (.ins C dx (putF f y fs)))) :
    ∃ a' C dx fs, V.ref a = .ref a' ∧ H a' = some (.ins C dx fs) ∧ Cls K C ∧ NoAttr K C f ∧ fs.length < 1000 ∧ Q (upd H a' (.ins C dx (putF f y fs))) := ⟨a, C, dx, fs, rfl, e, c, n, l, q⟩
theorem s_fget {a C dx : Addr} {fs : List (Str × V)} {f : Str} {v : V} (e : H a = some (.ins C dx fs)) (c : Cls K C) (n : NoAttr K C f) (l : fs.lookup f = some v) (q : Q v H) :
    ∃ a' C dx fs v, V.ref a = .ref a' ∧ H a' = some (.ins C dx fs) ∧ Cls K C ∧ NoAttr K C f ∧ fs.lookup f = some v ∧ Q v H := ⟨a, C, dx, fs, v, rfl, e, c, n, l, q⟩
theorem few0 {m : Nat} : ([] : List (Str × V)).length < m + 1 := Nat.succ_pos _
theorem few_put {m : Nat} {fs : List (Str × V)} {f : Str} {v : V} (h : fs.length < m) : (putF f v fs).length < m + 1 := by
  have e : ∀ fs : List (Str × V), (putF f v fs).length ≤ fs.length + 1 := by
    intro fs
    induction fs with
    | nil => exact Nat.le_refl _
    | cons x r ih =>
      obtain ⟨g, x⟩ := x
      unfold putF
      split
      · exact Nat.le_succ _
      · exact Nat.succ_le_succ ih
  exact Nat.lt_of_le_of_lt (e fs) (Nat.succ_lt_succ h)
theorem putF_nil {f : Str} {v : V} : putF f v [] = [(f, v)] := rfl
theorem putF_ne {f g : Str} {v x : V} {r : List (Str × V)} (h : g ≠ f) : putF f v ((g, x) :: r) = (g, x) :: putF f v r := if_neg h
theorem s_eqI {i j : Int} (q : Q (.bl (decide (i = j))) H) : rEq (.int i) (.int j) H Q := by
  refine ⟨rfl, ?_⟩
  rw [show decide (V.int i = V.int j) = decide (i = j) from by (rw [Bool.eq_iff_iff]; simp)]
  exact q
theorem s_neI {i j : Int} (q : Q (.bl (!decide (i = j))) H) : rNe (.int i) (.int j) H Q := by
  refine ⟨rfl, ?_⟩
  rw [show decide (V.int i = V.int j) = decide (i = j) from by (rw [Bool.eq_iff_iff]; simp)]
  exact q
theorem s_eqS {i j : Str} (q : Q (.bl (decide (i = j))) H) : rEq (.str i) (.str j) H Q := by
  refine ⟨rfl, ?_⟩
  rw [show decide (V.str i = V.str j) = decide (i = j) from by (rw [Bool.eq_iff_iff]; simp)]
  exact q
theorem s_neSr {i : Str} (q : Q (.bl false) H) : rNe (.str i) (.str i) H Q := by
  refine ⟨rfl, ?_⟩
  rw [decide_eq_true rfl]
  exact q
theorem s_neS {i j : Str} (q : Q (.bl (!decide (i = j))) H) : rNe (.str i) (.str j) H Q := by
  refine ⟨rfl, ?_⟩
  rw [show decide (V.str i = V.str j) = decide (i = j) from by (rw [Bool.eq_iff_iff]; simp)]
  exact q
theorem s_bm {T : String} {r : V → List V → Hp → VK → Prop} {t : TA} (h : ta σ H fun x H1 => tyV K T x H1 ∧ t σ H1 fun xs H2 => r x xs H2 Q) : tBM K T r ta t σ H Q := h
theorem s_bm0 {T : String} {r : V → List V → Hp → VK → Prop} (h : ta σ H fun x H1 => tyV K T x H1 ∧ r x [] H1 Q) : tBM0 K T r ta σ H Q := h
theorem s_tyL {a : Addr} {xs : List V} {P : Prop} (h : H a = some (.lst xs)) (q : P) : tyV K "list" (.ref a) H ∧ P := ⟨.inl ⟨rfl, xs, SqL.of h⟩, q⟩
theorem s_append {l : Addr} {xs : List V} {y : V} (h : H l = some (.lst xs)) (hz : xs.length < sizeLine) (q : Q .non (upd H l (.lst (xs ++ [y])))) : rAppend (.ref l) [y] H Q := ⟨l, xs, y, rfl, rfl, h, hz, q⟩
theorem s_extend {l b : Addr} {xs zs : List V} (h : H l = some (.lst xs)) (hb : H b = some (.lst zs)) (hz : xs.length + zs.length ≤ sizeLine) (q : Q .non (upd H l (.lst (xs ++ zs)))) : rExtend (.ref l) [.ref b] H Q := ⟨l, b, xs, zs, rfl, rfl, h, hb, hz, q⟩
theorem lt_size {n : Nat} (h : Nat.blt n sizeLine = true) : n < sizeLine := Nat.le_of_ble_eq_true h
theorem s_make {C : Addr} {sp : Sp} {dvs : List V} {E : XK} {t : TA} (h : t σ H fun vs H1 => ∀ x dx, H1 x = none → H1 dx = none → dx ≠ x → sp (.ref x :: (vs ++ dvs)) (upd (upd H1 dx (.own x)) x (.ins C dx [])) (fun v H2 => v = .non ∧ Q (.ref x) H2) E) : tMake C sp dvs E t σ H Q := h
theorem s_meth {C : Addr} {m : Str} {sp : Sp} {dvs : List V} {E : XK} {t : TA} (h : ta σ H fun x H1 => ∃ a dx fs, x = .ref a ∧ H1 a = some (.ins C dx fs) ∧ fs.lookup m = none ∧ t σ H1 fun vs H2 => sp (x :: (vs ++ dvs)) H2 Q E) : tMeth C m sp dvs E ta t σ H Q := h
theorem s_for {wi : TI} {g : TG} {tb : TS} {D0 : Ends}
    (h : ∀ D : Ends, D = D0 → wi σ H fun J H1 => ∃ W : Nat → Nat → L2.St → Hp → Prop, (∃ m, W 0 m σ H1) ∧ ∀ i m σ H, W i m σ H →
      (J.stop i H ∧ D.nx σ H) ∨ (J.go i H ∧ ∃ N : L2.St → Hp → Prop, (∀ σ' H', N σ' H' → ∃ m', m' < m ∧ W (i + 1) m' σ' H') ∧
        ∀ x H', J.yld i H x H' → g x σ H' fun σ2 H2 => tb { D with nx := N, ct := N, bk := D.nx } σ2 H2)) : tFor wi g tb D0 σ H := h D0 rfl
theorem s_lc {wi : TI} {g : TG} {tt : TT} {te : TE} {vs : List Nat}
    (h : wi σ H fun J H1 => ∀ D, H1 D = none → ∃ W : Nat → Nat → Hp → Prop, (∃ m, W 0 m (upd H1 D (.lst []))) ∧ ∀ i m H, W i m H →
      (J.stop i H ∧ Q (.ref D) H) ∨ (J.go i H ∧ ∃ Nx : Hp → Prop, (∀ H', Nx H' → ∃ m', m' < m ∧ W (i + 1) m' H') ∧
        ∀ x H', J.yld i H x H' → g x (wipe σ vs) H' fun σ2 H2 => wipe σ2 vs = wipe σ vs ∧ tt σ2 H2 fun b H3 =>
          if b = true then te σ2 H3 fun y H4 => ∃ acc, H4 D = some (.lst acc) ∧ acc.length < sizeLine ∧ Nx (upd H4 D (.lst (acc ++ [y]))) else Nx H3)) : tLc wi g tt te vs σ H Q := h
theorem s_iList {R : L2.It → Hp → Prop} (h : ta σ H fun x H1 => ∃ a, x = .ref a ∧ (∃ xs, SqL K H1 a xs) ∧ R (Itl K a) H1) : iList K ta σ H R := h
theorem s_iTup {R : L2.It → Hp → Prop} (h : ta σ H fun x H1 => ∃ a, x = .ref a ∧ (∃ xs, SqT K H1 a xs) ∧ R (Itt K a) H1) : iTup K ta σ H R := h
theorem s_iRng1 {R : L2.It → Hp → Prop} {t : TA} (h : t σ H fun vs H1 => ∃ j : Int, vs = [.int j] ∧ -(2 ^ 62) ≤ j ∧ j < 2 ^ 62 ∧ R (Itr 0 j.toNat) H1) : iRng1 t σ H R := h
theorem s_iRng2 {R : L2.It → Hp → Prop} {t : TA} (h : t σ H fun vs H1 => ∃ i j : Int, vs = [.int i, .int j] ∧ (-(2 ^ 62) ≤ i ∧ i < 2 ^ 62 ∧ -(2 ^ 62) ≤ j ∧ j < 2 ^ 62) ∧ R (Itr i (j - i).toNat) H1) : iRng2 t σ H R := h
theorem s_par {D : Ends} {i j : Nat} {t : TA} (h : t σ H fun vs H1 => ∃ v w, vs = [v, w] ∧ D.nx ((σ.set i (some v)).set j (some w)) H1) : tPar i j t D σ H := h
theorem s_2set {D : Ends} {i j : Nat} {t : TS} {x y : V} {τ υ : L2.St} (g : SetAt i x σ τ) (g2 : SetAt j y τ υ) (h : t D υ H) : t D ((σ.set i (some x)).set j (some y)) H := by
  rw [g.set, g2.set]
  exact h
theorem s_yes {QB : Bool → Hp → Prop} (h : QB true H) : tYes σ H QB := h
theorem s_fldE {f : Str} (h : ta σ H fun x H1 => ∃ a C dx fs v, x = .ref a ∧ H1 a = some (.ins C dx fs) ∧ Cls K C ∧ NoAttr K C f ∧ fs.lookup f = some v ∧ Q v H1) : tFld K ta f σ H Q := h
theorem s_isi_str {x : Str} (q : Q (.bl true) H) : rIsi K [.str x, .ty "str"] H Q := ⟨_, _, _, _, true, rfl, .ty _, .base (.str x), kit_ty (by decide +kernel), q⟩
theorem s_truInt {i : Int} {P : Bool → Prop} (q : P (i != 0)) : ∃ k, TruV K (.int i) H k ∧ P k := ⟨_, rfl, q⟩
theorem s_neB {i j : Bool} (q : Q (.bl (i != j)) H) : rNe (.bl i) (.bl j) H Q := by
  refine ⟨rfl, ?_⟩
  rw [show (!decide (V.bl i = V.bl j)) = (i != j) from by cases i <;> cases j <;> rfl]
  exact q
theorem s_eqB {i j : Bool} (q : Q (.bl (i == j)) H) : rEq (.bl i) (.bl j) H Q := by
  refine ⟨rfl, ?_⟩
  rw [show decide (V.bl i = V.bl j) = (i == j) from by cases i <;> cases j <;> rfl]
  exact q
theorem inV_ints (x : Int) (ns : List Int) : inV (.int x) (ns.map V.int) = decide (x ∈ ns) := by
  unfold inV
  rw [List.any_map, Bool.eq_iff_iff, List.any_eq_true, decide_eq_true_eq]
  constructor
  · rintro ⟨y, hy, e⟩
    have e2 : y = x := by simpa [eqV] using e
    exact e2 ▸ hy
  · intro h
    exact ⟨x, h, by simp [eqV]⟩
theorem flat_ints (ns : List Int) : (ns.map V.int).all flatV = true := by
  rw [List.all_map, List.all_eq_true]
  intro x _
  rfl
theorem le_size {n : Nat} (h : Nat.ble n sizeLine = true) : n ≤ sizeLine := Nat.le_of_ble_eq_true h
theorem ite_NN {A B : Prop} (h : A) : if decide (V.non = V.non) = true then A else B := by rw [if_pos (decide_eq_true rfl)]; exact h
theorem ite_IN {A B : Prop} {i : Int} (h : B) : if decide (V.int i = V.non) = true then A else B := by rw [if_neg (by simp)]; exact h
theorem ite_nNN {A B : Prop} (h : B) : if (!decide (V.non = V.non)) = true then A else B := by rw [if_neg (by simp)]; exact h
theorem ite_nIN {A B : Prop} {i : Int} (h : A) : if (!decide (V.int i = V.non)) = true then A else B := by rw [if_pos (by simp)]; exact h
/-- the test's answer c is known: what follows need not be read twice -/
theorem s_cut {tt : TT} {QB : Bool → Hp → Prop} (c : Bool) (h1 : QB c H) (h2 : ∀ QB' : Bool → Hp → Prop, QB' c H → tt σ H QB') : tt σ H QB := h2 QB h1
theorem qb_eq {QB : Bool → Hp → Prop} {c d : Bool} (h : QB c H) (e : c = true ↔ d = true) : QB d H := by
  rw [← (Bool.eq_iff_iff.mpr e)]
  exact h
theorem ite_RN {A B : Prop} {a : Addr} (h : B) : if decide (V.ref a = V.non) = true then A else B := by rw [if_neg (by simp)]; exact h
theorem ite_nRN {A B : Prop} {a : Addr} (h : A) : if (!decide (V.ref a = V.non)) = true then A else B := by rw [if_pos (by simp)]; exact h
theorem iteNT {A B : Prop} (h : B) : if (!true) = true then A else B := by simpa using h
theorem iteNF {A B : Prop} (h : A) : if (!false) = true then A else B := by simpa using h
theorem ite_b {b : Bool} {A B : Prop} (h1 : b = true → A) (h2 : b = false → B) : if b = true then A else B := by
  cases b
  · exact iteF (h2 rfl)
  · exact iteT (h1 rfl)
theorem ite_nb {b : Bool} {A B : Prop} (h1 : b = false → A) (h2 : b = true → B) : if (!b) = true then A else B := by
  cases b
  · exact iteNF (h1 rfl)
  · exact iteNT (h2 rfl)
end
section
variable {P : Program} {w : World} {K : PySem.W.Frag} {mg : Str → Option Value} {base : Heap} {x qual : Str} {params : Arguments} {body : List Stmt} {scope : Scope} {dvs : List V} {C : Addr} {k : Nat} {ps : List Str} {sp : Sp}
theorem dnN (e : ∃ (f : Addr) (fd : FuncData), FunD K x qual params body scope [] [] f fd ∧ mg x = some (.ref f)) (ok : ∀ {f : Addr} {fd : FuncData}, FunD K x qual params body scope [] [] f fd → FnG P w K mg base CX0 k f fd ps sp)
    (h : ∀ (kV doc pm : Value) (an : Option Addr) (cdv ct : Value) (us : List Value), us.length = ps.length → bindArgs (PySem.W.fnOf x qual params body scope .none kV doc pm an cdv ct) ⟨us, []⟩ = pure (ps.zip us)) : Dn P w K mg base x k ps [] sp := by
  obtain ⟨f, fd, F, hm⟩ := e
  exact ⟨f, fd, [], ok F, hm, F.kp, F.bindsN h, .nil⟩
theorem prN {q : Str} (e : ∃ (p f : Addr) (fd : FuncData), PropOf K C q p f ∧ FunD K x qual params body scope [] [] f fd) (c : Cls K C) (ok : ∀ {f : Addr} {fd : FuncData}, FunD K x qual params body scope [] [] f fd → FnG P w K mg base CX0 k f fd ps sp)
    (h : ∀ (kV doc pm : Value) (an : Option Addr) (cdv ct : Value) (us : List Value), us.length = ps.length → bindArgs (PySem.W.fnOf x qual params body scope .none kV doc pm an cdv ct) ⟨us, []⟩ = pure (ps.zip us)) : Prn P w K mg base C q k ps [] sp := by
  obtain ⟨p, f, fd, hp, F⟩ := e
  exact ⟨p, f, fd, [], c, hp, ok F, F.bindsN h, .nil⟩
theorem mtN {q : Str} (e : ∃ (f : Addr) (fd : FuncData), Meth K C q f ∧ FunD K x qual params body scope [] [] f fd) (c : Cls K C) (ok : ∀ {f : Addr} {fd : FuncData}, FunD K x qual params body scope [] [] f fd → FnG P w K mg base CX0 k f fd ps sp)
    (h : ∀ (kV doc pm : Value) (an : Option Addr) (cdv ct : Value) (us : List Value), us.length = ps.length → bindArgs (PySem.W.fnOf x qual params body scope .none kV doc pm an cdv ct) ⟨us, []⟩ = pure (ps.zip us)) : Mtn P w K mg base C q k ps [] sp := by
  obtain ⟨f, fd, hp, F⟩ := e
  exact ⟨f, fd, [], c, hp, ok F, F.bindsN h, .nil⟩
theorem mkN {y : Str} (e : ∃ (f : Addr) (fd : FuncData), Mk K C f ∧ FunD K x qual params body scope [] [] f fd) (m : mg y = some (.ref C)) (ok : ∀ {f : Addr} {fd : FuncData}, FunD K x qual params body scope [] [] f fd → FnG P w K mg base CX0 k f fd ps sp)
    (h : ∀ (kV doc pm : Value) (an : Option Addr) (cdv ct : Value) (us : List Value), us.length = ps.length → bindArgs (PySem.W.fnOf x qual params body scope .none kV doc pm an cdv ct) ⟨us, []⟩ = pure (ps.zip us)) : Mkn P w K mg base y C k ps [] sp := by
  obtain ⟨f, fd, hp, F⟩ := e
  exact ⟨f, fd, [], hp, ok F, m, F.bindsN h, .nil⟩
theorem mkD {y : Str} (n j : Nat) (e : ∃ (f : Addr) (fd : FuncData), Mk K C f ∧ FunD K x qual params body scope dvs [] f fd) (m : mg y = some (.ref C)) (ok : ∀ {f : Addr} {fd : FuncData}, FunD K x qual params body scope dvs [] f fd → FnG P w K mg base CX0 k f fd ps sp) (hd : dvs ≠ []) (hn : n + (dvs.length - j) = ps.length)
    (h : ∀ (T : Addr) (kV doc pm : Value) (an : Option Addr) (cdv ct : Value) (us its : List Value), us.length = n → its.length = dvs.length →
      ∃ k, bindArgs (PySem.W.fnOf x qual params body scope (.ref T) kV doc pm an cdv ct) ⟨us, []⟩ = seqItems? (.ref T) >>= k ∧ k (some its.toArray) = pure (ps.zip (us ++ its.drop j))) : Mkn P w K mg base y C k ps (dvs.drop j) sp := by
  obtain ⟨f, fd, hp, F⟩ := e
  obtain ⟨ds, hv, hb⟩ := F.binds1 n j hd hn h
  exact ⟨f, fd, ds, hp, ok F, m, hb, hv⟩
end
abbrev optV : Option Int → V
  | none => .non
  | some i => .int i
/-- a comprehension within a comprehension -/
def reS (scope sc : Scope) : Scope := { scope with names := scope.names.map fun p => if (p.2 == NameKind.free && sc.kind == ScopeKind.function && sc.names.lookup p.1 == some NameKind.cell) = true then (p.1, NameKind.cell) else p }
theorem reS_eq (scope : Scope) (env : Env) : PySem.relabel scope env = reS scope env.scope := by
  unfold PySem.relabel reS
  congr 1
theorem blkOk_nest {X : Cx} {s : Shared} {H : Hp} {scope0 scope : Scope} {cl : List (Str × Addr)} {C : Addr} {env : Env} {fp : List Addr} {own : List (Str × Nat)} (N : List Str) (sc : Scope) (e : X.N = N) (e2 : env.scope = sc) (h : blkC N (reS scope0 sc) scope own = true) :
    BlkOk (X.blk s H scope0 (compEnvC scope0 cl C env) fp).N (X.blk s H scope0 (compEnvC scope0 cl C env) fp).env.scope scope own := by
  have z := blkOk_by h
  subst e e2
  rw [← reS_eq] at z
  exact z
/-! ### rules within a comprehension: the written part by its own name -/
section
variable {X : Cx} {K : PySem.W.Frag} {l e : Expr} {tl ta : TE} {tg : Expr} {f : Str} {pos : Pos}
def rLen (K : PySem.W.Frag) : List V → Hp → VK → Prop := fun xs H Q => ∃ p ys, xs = [.ref p] ∧ (SqL K H p ys ∨ SqT K H p ys) ∧ Q (.int ys.length) H
theorem ix_listK (h : X.K = K) : IxR X (rIxL K) := h ▸ ix_list
theorem ix_tupK (h : X.K = K) : IxR X (rIxT K) := h ▸ ix_tup
theorem call_len_seqK (h : X.K = K) : CallR X (.builtin "len") (rLen K) := by
  subst h
  exact call_len_seq
theorem pi_listK (h : X.K = K) (hl : PE X l tl) : PI X tg l (iList K tl) := h ▸ pi_list hl
theorem pi_tupK (h : X.K = K) (hl : PE X l tl) : PI X tg l (iTup K tl) := h ▸ pi_tup hl
theorem cr_allK (h : X.K = K) (hc : X.calm = true) : CallR X (.builtin "all") (rAll K) := h ▸ cr_all hc
theorem cr_anyK (h : X.K = K) (hc : X.calm = true) : CallR X (.builtin "any") (rAny K) := h ▸ cr_any hc
theorem cr_sumK (h : X.K = K) (hc : X.calm = true) : CallR X (.builtin "sum") (rSum K) := h ▸ cr_sum hc
theorem cr_maxK (h : X.K = K) (hc : X.calm = true) : CallR X (.builtin "max") (rMax K) := h ▸ cr_max hc
theorem cr_minK (h : X.K = K) (hc : X.calm = true) : CallR X (.builtin "min") (rMin K) := h ▸ cr_min hc
theorem op_in_seqK (h : X.K = K) : OpR X (compareOp .In) (rIn K false) := h ▸ op_in_seq
theorem op_notIn_seqK (h : X.K = K) : OpR X (compareOp .NotIn) (rIn K true) := h ▸ op_notIn_seq
theorem op_eqDK (h : X.K = K) (hu : X.A.units + 64 < cLine) : OpR X (compareOp .Eq) (rEqD K) := h ▸ op_eqD hu
theorem op_neDK (h : X.K = K) (hu : X.A.units + 64 < cLine) : OpR X (compareOp .NotEq) (rNeD K) := h ▸ op_neD hu
theorem pe_fldK (h : X.K = K) (he : PE X e ta) (hb : attributeBase e f X.env (eval e X.env) = eval e X.env) : PE X (.Attribute e f pos) (tFld K ta f) := h ▸ pe_fld he hb
end
theorem s_len {K : PySem.W.Frag} {a : Addr} {xs : List V} {H : Hp} {Q : VK} (h : SqL K H a xs) (q : Q (.int xs.length) H) : rLen K [.ref a] H Q := ⟨a, xs, rfl, .inl h, q⟩
/-! ### bounds of ints -/
theorem Same.new {p : Addr} {o : HO} {H : Hp} (h : H p = none) : Same H (upd H p o) := fun c u e => by rw [upd_ne (ne_of_none e h)]; exact e
theorem Same.rfl' (H : Hp) : Same H H := fun _ _ e => e
theorem Same.tr {A B C : Hp} (x : Same A B) (y : Same B C) : Same A C := fun c u e => y c u (x c u e)
theorem Same.at_ {p : Addr} {o : HO} {H H1 : Hp} (h : H p = none) (s : Same H H1) : Same H (upd H1 p o) := fun c u e => by rw [upd_ne (ne_of_none e h)]; exact s c u e
theorem Same.but {r : Addr} {H H' : Hp} (s : Same H H') : But r H H' := fun c o h _ => s c o h
def Sm (k : Nat) (x : Int) : Prop := x.natAbs < 2 ^ k
instance {k : Nat} {x : Int} : Decidable (Sm k x) := inferInstanceAs (Decidable (_ < _))
theorem Sm.mono {j k : Nat} {x : Int} (h : Sm j x) (l : j ≤ k) : Sm k x := Nat.lt_of_lt_of_le h (Nat.pow_le_pow_right (by decide) l)
theorem Sm.mul {j k : Nat} {x y : Int} (h : Sm j x) (g : Sm k y) : Sm (j + k) (x * y) := by
  unfold Sm at *
  rw [Int.natAbs_mul, Nat.pow_add]
  exact Nat.mul_lt_mul'' h g
theorem Sm.add {k : Nat} {x y : Int} (h : Sm k x) (g : Sm k y) : Sm (k + 1) (x + y) := by
  unfold Sm at *
  rw [Nat.pow_succ]
  omega
theorem Sm.le {k : Nat} {x y : Int} (h0 : 0 ≤ x) (h : x ≤ y) (g : Sm k y) : Sm k x := by
  unfold Sm at *
  omega
theorem Sm.cmul {j k : Nat} {x y : Int} (h : Sm j x) (g : Sm k y) (h0 : 0 < j := by decide) (h1 : 0 < k := by decide) (l : j + k ≤ 1000000 := by decide) : CMulW x y := wide_mul h g h0 h1 l
theorem But.same {x : Addr} {H H1 H' : Hp} (b : But x H1 H') (s : Same H H1) (n : H x = none) : Same H H' := fun c o h => b c o (s c o h) (ne_of_none h n)
theorem lg {k : Nat} {x : Int} (h : Sm k x) (h0 : 0 < k := by decide) (hk : k ≤ 9000 := by decide) : x.natAbs.log2 < 9000 := Nat.lt_of_lt_of_le (PySem.Flt.log2_lt_of h0 h) hk
theorem sm62 {x : Int} (h0 : 0 ≤ x) (h : x < 4611686018427387904) : Sm 62 x := by
  show x.natAbs < 4611686018427387904
  omega
theorem cmul_small {i j : Int} (h0 : 0 ≤ i) (h1 : i < 2147483648) (g0 : 0 ≤ j) (g1 : j < 2147483648) : CMulW i j := wide_mul (a := 31) (b := 31) (by omega) (by omega) (by decide) (by decide) (by decide)
theorem atI_ints {ns : List Int} {k : Int} (h0 : 0 ≤ k) (h : k < (ns.map V.int).length) : ∃ c, atI (ns.map V.int) k = some (.int c) := by
  obtain ⟨j, rfl⟩ : ∃ j : Nat, k = j := ⟨k.toNat, by omega⟩
  rw [List.length_map] at h
  have hj : j < ns.length := by omega
  exact ⟨ns[j], atI_nat (by rw [List.getElem?_map, List.getElem?_eq_getElem hj]; rfl)⟩
theorem Sm.log {k : Nat} {x : Int} (h : Sm k x) (h0 : 0 < k := by decide) : x.natAbs.log2 < k := PySem.Flt.log2_lt_of h0 h
end My

namespace My
open PySem L2
def top (i : Nat) : Stmt := PySem.Challenge.pw_howmanyeach_k35_totals_far_away.main.body.getD i (.Pass ⟨0, 0, 0, 0⟩)
abbrev st_is_integer : Stmt := top 9
abbrev N_is_integer : List Str := ["value"]
abbrev P_is_integer : List Str := ["value"]
theorem sc_is_integer : FnScope N_is_integer P_is_integer (defScope st_is_integer) := ⟨rfl, rfl, rfl, by decide +kernel, rfl, by decide +kernel, by decide +kernel⟩
abbrev st_is_count : Stmt := top 10
abbrev N_is_count : List Str := ["value"]
abbrev P_is_count : List Str := ["value"]
theorem sc_is_count : FnScope N_is_count P_is_count (defScope st_is_count) := ⟨rfl, rfl, rfl, by decide +kernel, rfl, by decide +kernel, by decide +kernel⟩
abbrev st__is_up_to : Stmt := top 14
abbrev N__is_up_to : List Str := ["number", "most"]
abbrev P__is_up_to : List Str := ["number", "most"]
theorem sc__is_up_to : FnScope N__is_up_to P__is_up_to (defScope st__is_up_to) := ⟨rfl, rfl, rfl, by decide +kernel, rfl, by decide +kernel, by decide +kernel⟩
abbrev st_check_count : Stmt := top 18
abbrev N_check_count : List Str := ["count"]
abbrev P_check_count : List Str := ["count"]
theorem sc_check_count : FnScope N_check_count P_check_count (defScope st_check_count) := ⟨rfl, rfl, rfl, by decide +kernel, rfl, by decide +kernel, by decide +kernel⟩
abbrev st__check_many : Stmt := top 25
abbrev N__check_many : List Str := ["many"]
abbrev P__check_many : List Str := ["many"]
theorem sc__check_many : FnScope N__check_many P__check_many (defScope st__check_many) := ⟨rfl, rfl, rfl, by decide +kernel, rfl, by decide +kernel, by decide +kernel⟩
abbrev st_is_line_true : Stmt := top 22
abbrev N_is_line_true : List Str := ["line", "near", "near_many", "far", "far_many"]
abbrev P_is_line_true : List Str := ["line", "near", "near_many", "far", "far_many"]
theorem sc_is_line_true : FnScope N_is_line_true P_is_line_true (defScope st_is_line_true) := ⟨rfl, rfl, rfl, by decide +kernel, rfl, by decide +kernel, by decide +kernel⟩
abbrev st_wrong_line : Stmt := top 21
abbrev N_wrong_line : List Str := ["near", "near_many", "far", "far_many", "line"]
abbrev P_wrong_line : List Str := ["near", "near_many", "far", "far_many"]
theorem sc_wrong_line : FnScope N_wrong_line P_wrong_line (defScope st_wrong_line) := ⟨rfl, rfl, rfl, by decide +kernel, rfl, by decide +kernel, by decide +kernel⟩
abbrev st_totals : Stmt := top 24
abbrev N_totals : List Str := ["near", "near_many", "far", "far_many", "least", "bounds"]
abbrev P_totals : List Str := ["near", "near_many", "far", "far_many"]
theorem sc_totals : FnScope N_totals P_totals (defScope st_totals) := ⟨rfl, rfl, rfl, by decide +kernel, rfl, by decide +kernel, by decide +kernel⟩
abbrev st__law_pot_of : Stmt := top 27
abbrev N__law_pot_of : List Str := ["_law_script", "_law_k", "_law_cell"]
abbrev P__law_pot_of : List Str := ["_law_script", "_law_k"]
theorem sc__law_pot_of : FnScope N__law_pot_of P__law_pot_of (defScope st__law_pot_of) := ⟨rfl, rfl, rfl, by decide +kernel, rfl, by decide +kernel, by decide +kernel⟩
abbrev st__law_draw : Stmt := top 28
abbrev N__law_draw : List Str := ["_law_pot", "_law_some", "_law_digit"]
abbrev P__law_draw : List Str := ["_law_pot", "_law_some"]
theorem sc__law_draw : FnScope N__law_draw P__law_draw (defScope st__law_draw) := ⟨rfl, rfl, rfl, by decide +kernel, rfl, by decide +kernel, by decide +kernel⟩
abbrev st__law_pick : Stmt := top 29
abbrev N__law_pick : List Str := ["_law_pot", "_law_some"]
abbrev P__law_pick : List Str := ["_law_pot", "_law_some"]
theorem sc__law_pick : FnScope N__law_pick P__law_pick (defScope st__law_pick) := ⟨rfl, rfl, rfl, by decide +kernel, rfl, by decide +kernel, by decide +kernel⟩
abbrev st__law_made_many : Stmt := top 30
abbrev N__law_made_many : List Str := ["_law_pair"]
abbrev P__law_made_many : List Str := ["_law_pair"]
theorem sc__law_made_many : FnScope N__law_made_many P__law_made_many (defScope st__law_made_many) := ⟨rfl, rfl, rfl, by decide +kernel, rfl, by decide +kernel, by decide +kernel⟩
abbrev st__law_numbers_in : Stmt := top 31
abbrev N__law_numbers_in : List Str := ["_law_pot", "_law_top", "_law_low"]
abbrev P__law_numbers_in : List Str := ["_law_pot"]
theorem sc__law_numbers_in : FnScope N__law_numbers_in P__law_numbers_in (defScope st__law_numbers_in) := ⟨rfl, rfl, rfl, by decide +kernel, rfl, by decide +kernel, by decide +kernel⟩
abbrev st__law_sizes_in : Stmt := top 32
abbrev N__law_sizes_in : List Str := ["_law_pot", "_law_one", "_law_two", "_law_part", "_law_steps", "_law_first", "_law_second"]
abbrev P__law_sizes_in : List Str := ["_law_pot", "_law_one", "_law_two"]
theorem sc__law_sizes_in : FnScope N__law_sizes_in P__law_sizes_in (defScope st__law_sizes_in) := ⟨rfl, rfl, rfl, by decide +kernel, rfl, by decide +kernel, by decide +kernel⟩
abbrev st__law_due_totals : Stmt := top 33
abbrev N__law_due_totals : List Str := ["_law_a", "_law_one", "_law_b", "_law_two", "_law_greatest", "_law_size", "_law_top", "_law_high"]
abbrev P__law_due_totals : List Str := ["_law_a", "_law_one", "_law_b", "_law_two"]
theorem sc__law_due_totals : FnScope N__law_due_totals P__law_due_totals (defScope st__law_due_totals) := ⟨rfl, rfl, rfl, by decide +kernel, rfl, by decide +kernel, by decide +kernel⟩
abbrev st__law_right : Stmt := top 34
abbrev N__law_right : List Str := ["_law_pot", "_law_one", "_law_two", "_law_a", "_law_b", "_law_c", "_law_d", "_law_first", "_law_second", "_law_due", "_law_also", "_law_shown", "_law_by", "_law_more", "_law_whole"]
abbrev P__law_right : List Str := ["_law_pot"]
theorem sc__law_right : FnScope N__law_right P__law_right (defScope st__law_right) := ⟨rfl, rfl, rfl, by decide +kernel, rfl, by decide +kernel, by decide +kernel⟩
abbrev st_Many___init__ : Stmt := inClass (top 13) 1
abbrev N_Many___init__ : List Str := ["self", "least", "most"]
abbrev P_Many___init__ : List Str := ["self", "least", "most"]
theorem sc_Many___init__ : FnScope N_Many___init__ P_Many___init__ (defScope st_Many___init__) := ⟨rfl, rfl, rfl, by decide +kernel, rfl, by decide +kernel, by decide +kernel⟩
abbrev st_Many_least : Stmt := inClass (top 13) 2
abbrev N_Many_least : List Str := ["self"]
abbrev P_Many_least : List Str := ["self"]
theorem sc_Many_least : FnScope N_Many_least P_Many_least (defScope st_Many_least) := ⟨rfl, rfl, rfl, by decide +kernel, rfl, by decide +kernel, by decide +kernel⟩
abbrev st_Many_most : Stmt := inClass (top 13) 3
abbrev N_Many_most : List Str := ["self"]
abbrev P_Many_most : List Str := ["self"]
theorem sc_Many_most : FnScope N_Many_most P_Many_most (defScope st_Many_most) := ⟨rfl, rfl, rfl, by decide +kernel, rfl, by decide +kernel, by decide +kernel⟩
abbrev st_law : Stmt := top 35
abbrev N_law : List Str := ["_law_script", "_law_k", "_law_pot", "_law_turn"]
abbrev P_law : List Str := ["_law_script"]
theorem sc_law : FnScope N_law P_law (defScope st_law) := ⟨rfl, rfl, rfl, by decide +kernel, rfl, by decide +kernel, by decide +kernel⟩
structure Md (K : PySem.W.Frag) (mg : Str → Option Value) (C_Many T_LINES : Addr) : Prop where
  b_isinstance : mg "isinstance" = none
  b_int : mg "int" = none
  b_bool : mg "bool" = none
  b_max : mg "max" = none
  b_min : mg "min" = none
  b_abs : mg "abs" = none
  b_divmod : mg "divmod" = none
  b_len : mg "len" = none
  b_range : mg "range" = none
  b_all : mg "all" = none
  b_repr : mg "repr" = none
  f_is_integer : ∃ (f : Addr) (fd : FuncData), FunD K "is_integer" "is_integer" (defArgs st_is_integer) (defBody st_is_integer) (defScope st_is_integer) [] [] f fd ∧ mg "is_integer" = some (.ref f)
  f_is_count : ∃ (f : Addr) (fd : FuncData), FunD K "is_count" "is_count" (defArgs st_is_count) (defBody st_is_count) (defScope st_is_count) [] [] f fd ∧ mg "is_count" = some (.ref f)
  f__is_up_to : ∃ (f : Addr) (fd : FuncData), FunD K "_is_up_to" "_is_up_to" (defArgs st__is_up_to) (defBody st__is_up_to) (defScope st__is_up_to) [] [] f fd ∧ mg "_is_up_to" = some (.ref f)
  f_check_count : ∃ (f : Addr) (fd : FuncData), FunD K "check_count" "check_count" (defArgs st_check_count) (defBody st_check_count) (defScope st_check_count) [] [] f fd ∧ mg "check_count" = some (.ref f)
  f__check_many : ∃ (f : Addr) (fd : FuncData), FunD K "_check_many" "_check_many" (defArgs st__check_many) (defBody st__check_many) (defScope st__check_many) [] [] f fd ∧ mg "_check_many" = some (.ref f)
  f_is_line_true : ∃ (f : Addr) (fd : FuncData), FunD K "is_line_true" "is_line_true" (defArgs st_is_line_true) (defBody st_is_line_true) (defScope st_is_line_true) [] [] f fd ∧ mg "is_line_true" = some (.ref f)
  f_wrong_line : ∃ (f : Addr) (fd : FuncData), FunD K "wrong_line" "wrong_line" (defArgs st_wrong_line) (defBody st_wrong_line) (defScope st_wrong_line) [] [] f fd ∧ mg "wrong_line" = some (.ref f)
  f_totals : ∃ (f : Addr) (fd : FuncData), FunD K "totals" "totals" (defArgs st_totals) (defBody st_totals) (defScope st_totals) [] [] f fd ∧ mg "totals" = some (.ref f)
  f__law_pot_of : ∃ (f : Addr) (fd : FuncData), FunD K "_law_pot_of" "_law_pot_of" (defArgs st__law_pot_of) (defBody st__law_pot_of) (defScope st__law_pot_of) [] [] f fd ∧ mg "_law_pot_of" = some (.ref f)
  f__law_draw : ∃ (f : Addr) (fd : FuncData), FunD K "_law_draw" "_law_draw" (defArgs st__law_draw) (defBody st__law_draw) (defScope st__law_draw) [] [] f fd ∧ mg "_law_draw" = some (.ref f)
  f__law_pick : ∃ (f : Addr) (fd : FuncData), FunD K "_law_pick" "_law_pick" (defArgs st__law_pick) (defBody st__law_pick) (defScope st__law_pick) [] [] f fd ∧ mg "_law_pick" = some (.ref f)
  f__law_made_many : ∃ (f : Addr) (fd : FuncData), FunD K "_law_made_many" "_law_made_many" (defArgs st__law_made_many) (defBody st__law_made_many) (defScope st__law_made_many) [] [] f fd ∧ mg "_law_made_many" = some (.ref f)
  f__law_numbers_in : ∃ (f : Addr) (fd : FuncData), FunD K "_law_numbers_in" "_law_numbers_in" (defArgs st__law_numbers_in) (defBody st__law_numbers_in) (defScope st__law_numbers_in) [] [] f fd ∧ mg "_law_numbers_in" = some (.ref f)
  f__law_sizes_in : ∃ (f : Addr) (fd : FuncData), FunD K "_law_sizes_in" "_law_sizes_in" (defArgs st__law_sizes_in) (defBody st__law_sizes_in) (defScope st__law_sizes_in) [] [] f fd ∧ mg "_law_sizes_in" = some (.ref f)
  f__law_due_totals : ∃ (f : Addr) (fd : FuncData), FunD K "_law_due_totals" "_law_due_totals" (defArgs st__law_due_totals) (defBody st__law_due_totals) (defScope st__law_due_totals) [] [] f fd ∧ mg "_law_due_totals" = some (.ref f)
  f__law_right : ∃ (f : Addr) (fd : FuncData), FunD K "_law_right" "_law_right" (defArgs st__law_right) (defBody st__law_right) (defScope st__law_right) [] [] f fd ∧ mg "_law_right" = some (.ref f)
  g_LINES : mg "LINES" = some (.ref T_LINES)
  q_LINES : ∀ H : Hp, SqT K H T_LINES [.int 0, .int 1, .int 2, .int 3]
  m_Many : mg "Many" = some (.ref C_Many)
  k_Many : Cls K C_Many
  i_Many : ∃ (f : Addr) (fd : FuncData), Mk K C_Many f ∧ FunD K "__init__" "Many.__init__" (defArgs st_Many___init__) (defBody st_Many___init__) (defScope st_Many___init__) [.non] [] f fd
  z_Many : ∀ {H : Hp} {a dx : Addr} {fs : List (Str × V)}, H a = some (.ins C_Many dx fs) → TyOf K H (.ref a) (.ref C_Many)
  n_Many__least : NoAttr K C_Many "_least"
  n_Many__most : NoAttr K C_Many "_most"
  n_Many__key : NoAttr K C_Many "_key"
  p_Many_least : ∃ (p f : Addr) (fd : FuncData), PropOf K C_Many "least" p f ∧ FunD K "least" "Many.least" (defArgs st_Many_least) (defBody st_Many_least) (defScope st_Many_least) [] [] f fd
  p_Many_most : ∃ (p f : Addr) (fd : FuncData), PropOf K C_Many "most" p f ∧ FunD K "most" "Many.most" (defArgs st_Many_most) (defBody st_Many_most) (defScope st_Many_most) [] [] f fd
end My
open My L2 PySem
open My L2 PySem
local macro_rules | `(tactic| walk_at "as") => `(tactic| with_reducible assumption)
local macro_rules | `(tactic| walk_at "hp") => `(tactic| first
  | walk_at "as" | exact upd_same
  | (rw [upd_ne (by walk_at "ne")]; walk_at "hp")
  | (refine But.get (by walk_at "as") ?hp1 ?hp2; (case hp1 => walk_at "hp"); (case hp2 => walk_at "ne"))
  | (refine My.Same.get (by walk_at "as") ?hp1; (case hp1 => walk_at "hp")))
local macro_rules | `(tactic| walk_at "ne") => `(tactic| first
  | walk_at "as" | exact Ne.symm (by walk_at "as")
  | (refine' ne_of_none ?ne1 ?ne2; (case ne2 => walk_at "as"); (case ne1 => walk_at "hp"))
  | (refine' Ne.symm (ne_of_none ?ne1 ?ne2); (case ne2 => walk_at "as"); (case ne1 => walk_at "hp"))
  | exact ne_of (by walk_at "hp") (by walk_at "hp") (by intro z; cases z))
local macro_rules | `(tactic| walk_at "sd") => `(tactic| first
  | walk_at "as" | omega | decide | exact ⟨by omega, by omega⟩ | exact .inl ⟨by omega, by omega⟩ | exact .inr ⟨by omega, by omega⟩ | exact divp_wide (by walk_at "as") (by walk_at "as") | exact Sm.cmul (by walk_at "as") (by walk_at "as") | exact cmul_small (by omega) (by omega) (by omega) (by omega) | exact ⟨by omega, by decide⟩)
local macro_rules | `(tactic| walk_at "bt") => `(tactic| first
  | walk_at "as" | exact But.refl _ _ | exact Same.but (by walk_at "as")
  | (refine But.trans ?bt1 But.at; (case bt1 => walk_at "bt"))
  | (refine But.trans ?bt1 (But.new (by first | walk_at "as" | walk_at "hp")); (case bt1 => walk_at "bt"))
  | (refine But.trans ?bt1 (by walk_at "as"); (case bt1 => walk_at "bt"))
  | (refine But.trans ?bt1 (Same.but (by walk_at "as")); (case bt1 => walk_at "bt")))
local macro_rules | `(tactic| walk_at "sm") => `(tactic| first
  | walk_at "as" | exact My.Same.rfl' _
  | (refine' My.Same.at_ ?sm1 ?sm2; (case sm1 => walk_at "as"); (case sm2 => walk_at "sm"))
  | (refine' My.Same.tr ?sm1 (My.Same.new ?sm2); (case sm2 => walk_at "as"); (case sm1 => walk_at "sm"))
  | (refine' My.Same.tr ?sm1 ?sm2; (case sm2 => walk_at "as"); (case sm1 => walk_at "sm")))
local macro_rules | `(tactic| walk_at "sz") => `(tactic| first
  | assumption | exact lt_size (by rfl) | exact le_size (by rfl) | (rw [sizeLine_eq]; omega)
  | (rw [sizeLine_eq]; simp only [List.length_append, List.length_map, List.length_cons, List.length_nil]; omega))
local macro_rules | `(tactic| walk_at "few") => `(tactic| (repeat refine few_put ?_); exact few0)
local macro_rules | `(tactic| walk_at "rd1") => `(tactic| first
  | (with_reducible show tVar _ _ _ _); refine s_var rfl ?_
  | with_reducible refine s_c ?_ | with_reducible refine s_op ?_ | with_reducible refine s_un ?_
  | with_reducible refine s_cons ?_ | with_reducible refine s_nil ?_ | with_reducible refine s_cb ?_
  | with_reducible refine s_test ?_ | with_reducible refine s_B ?_ | with_reducible refine s_not ?_ | with_reducible refine s_and ?_ | with_reducible refine s_or ?_
  | with_reducible refine s_if ?_ | with_reducible refine s_notV ?_ | with_reducible refine s_andV ?_ | with_reducible refine s_orV ?_
  | with_reducible refine s_orT ?_ | with_reducible refine s_andT ?_ | with_reducible refine s_chain ?_
  | with_reducible refine s_isi_int ?_ | with_reducible refine s_isi_int_bool ?_ | with_reducible refine s_isi_str ?_
  | with_reducible refine iteT ?_ | with_reducible refine iteF ?_ | with_reducible refine iteNT ?_ | with_reducible refine iteNF ?_
  | with_reducible refine s_isN ?_ | with_reducible refine s_notN ?_
  | ((with_reducible refine' s_2setE ?g1 ?_); (case g1 => first | (dsimp only [List.set, L2.wipe, List.map, List.foldl]; done) | (dsimp only [List.set, L2.wipe, List.map, List.foldl]; rfl)))
  | with_reducible refine s_seq ?_ | with_reducible refine s_ifS ?_ | with_reducible refine s_asg ?_ | with_reducible refine s_ret ?_ | with_reducible refine s_drop ?_ | with_reducible refine s_next ?_
  | ((with_reducible refine' s_gnameE ?g1 ?_); (case g1 => first | (dsimp only [List.set, L2.wipe, List.map, List.foldl]; done) | (dsimp only [List.set, L2.wipe, List.map, List.foldl]; rfl)))
  | with_reducible refine s_gsub ?_ | with_reducible refine s_gcons ?_ | with_reducible refine s_gnil ?_
  | (with_reducible show gTup _ _ _ _ _ _ _); refine s_gtup (by walk_at "hp") rfl ?_
  | with_reducible refine s_eqI ?_ | with_reducible refine s_neI ?_ | with_reducible refine s_eqS ?_ | with_reducible refine s_neB ?_ | with_reducible refine s_eqB ?_ | with_reducible refine s_neSr ?_ | with_reducible refine s_neS ?_
  | with_reducible refine s_I0 ?_
  | (with_reducible show rI _ _ _ _ _ _); refine s_I (by walk_at "sd") ?_
  | (with_reducible show rIxL _ _ _ _ _); refine s_ixL (by walk_at "hp") rfl ?_
  | (with_reducible show rIxT _ _ _ _ _); refine s_ixT (by walk_at "hp") rfl ?_
  | (with_reducible show rSetL _ _ _ _ _); refine s_setL (by walk_at "hp") rfl ?_
  | with_reducible refine s_prop ?_
  | (with_reducible show _ ≤ sizeLine ∧ _); refine ⟨le_size (by rfl), ?_⟩
  | with_reducible refine ite_NN ?_ | with_reducible refine ite_IN ?_ | with_reducible refine ite_nNN ?_ | with_reducible refine ite_nIN ?_ | with_reducible refine ite_RN ?_ | with_reducible refine ite_nRN ?_
  | with_reducible refine s_sfld ?_
  | ((with_reducible refine' ⟨_, _, _, _, rfl, ?fp1, ?fp2, ?fp3, ?fp4, ?_⟩); (case fp1 => walk_at "hp"); (case fp2 => assumption); (case fp3 => assumption); (case fp4 => walk_at "few"))
  | with_reducible refine s_fldE ?_
  | ((with_reducible refine' ⟨_, _, _, _, _, rfl, ?fp1, ?fp2, ?fp3, ?fp4, ?_⟩); (case fp1 => walk_at "hp"); (case fp2 => assumption); (case fp3 => assumption); (case fp4 => rfl))
  | with_reducible refine s_bm ?_ | with_reducible refine s_bm0 ?_
  | ((with_reducible refine' s_tyL ?ty1 ?_); (case ty1 => walk_at "hp"))
  | ((with_reducible refine' s_append ?ap1 ?ap2 ?_); (case ap1 => walk_at "hp"); (case ap2 => walk_at "sz"))
  | ((with_reducible refine' s_extend ?ap1 ?ap2 ?ap3 ?_); (case ap1 => walk_at "hp"); (case ap2 => walk_at "hp"); (case ap3 => walk_at "sz"))
  | with_reducible refine s_for (fun _ _ => ?_) | with_reducible refine s_lc ?_ | with_reducible refine s_iList ?_ | with_reducible refine s_iTup ?_ | with_reducible refine s_iRng1 ?_ | with_reducible refine s_iRng2 ?_
  | with_reducible refine s_yes ?_ | with_reducible refine s_par ?_
  | with_reducible refine s_make ?_ | with_reducible refine s_meth ?_
  | with_reducible refine s_tup ?_ | with_reducible refine s_lst ?_ | with_reducible refine s_call ?_
  | with_reducible refine ⟨rfl, ?_⟩
  | with_reducible refine ⟨_, rfl, ?_⟩
  | ((with_reducible refine' ⟨_, _, rfl, ?sd1, ?_⟩); (case sd1 => walk_at "sd"))
  | with_reducible refine ⟨_, _, rfl, ?_⟩
  | with_reducible refine .inl ⟨_, rfl, ?_⟩
  | dsimp only [List.set]
  | walk_at "rdx"
  | (refine fun _ _ => ?_))
local macro_rules | `(tactic| walk_at "rd") => `(tactic| repeat (first
  | (with_reducible show tVar _ _ _ _); refine s_var rfl ?_
  | with_reducible refine s_c ?_ | with_reducible refine s_op ?_ | with_reducible refine s_un ?_
  | with_reducible refine s_cons ?_ | with_reducible refine s_nil ?_ | with_reducible refine s_cb ?_
  | with_reducible refine s_test ?_ | with_reducible refine s_B ?_ | with_reducible refine s_not ?_ | with_reducible refine s_and ?_ | with_reducible refine s_or ?_
  | with_reducible refine s_if ?_ | with_reducible refine s_notV ?_ | with_reducible refine s_andV ?_ | with_reducible refine s_orV ?_
  | with_reducible refine s_orT ?_ | with_reducible refine s_andT ?_ | with_reducible refine s_chain ?_
  | with_reducible refine s_isi_int ?_ | with_reducible refine s_isi_int_bool ?_ | with_reducible refine s_isi_str ?_
  | with_reducible refine iteT ?_ | with_reducible refine iteF ?_ | with_reducible refine iteNT ?_ | with_reducible refine iteNF ?_
  | with_reducible refine s_isN ?_ | with_reducible refine s_notN ?_
  | ((with_reducible refine' s_2setE ?g1 ?_); (case g1 => first | (dsimp only [List.set, L2.wipe, List.map, List.foldl]; done) | (dsimp only [List.set, L2.wipe, List.map, List.foldl]; rfl)))
  | with_reducible refine s_seq ?_ | with_reducible refine s_ifS ?_ | with_reducible refine s_asg ?_ | with_reducible refine s_ret ?_ | with_reducible refine s_drop ?_ | with_reducible refine s_next ?_
  | ((with_reducible refine' s_gnameE ?g1 ?_); (case g1 => first | (dsimp only [List.set, L2.wipe, List.map, List.foldl]; done) | (dsimp only [List.set, L2.wipe, List.map, List.foldl]; rfl)))
  | with_reducible refine s_gsub ?_ | with_reducible refine s_gcons ?_ | with_reducible refine s_gnil ?_
  | (with_reducible show gTup _ _ _ _ _ _ _); refine s_gtup (by walk_at "hp") rfl ?_
  | with_reducible refine s_eqI ?_ | with_reducible refine s_neI ?_ | with_reducible refine s_eqS ?_ | with_reducible refine s_neB ?_ | with_reducible refine s_eqB ?_ | with_reducible refine s_neSr ?_ | with_reducible refine s_neS ?_
  | with_reducible refine s_I0 ?_
  | (with_reducible show rI _ _ _ _ _ _); refine s_I (by walk_at "sd") ?_
  | (with_reducible show rIxL _ _ _ _ _); refine s_ixL (by walk_at "hp") rfl ?_
  | (with_reducible show rIxT _ _ _ _ _); refine s_ixT (by walk_at "hp") rfl ?_
  | (with_reducible show rSetL _ _ _ _ _); refine s_setL (by walk_at "hp") rfl ?_
  | with_reducible refine s_prop ?_
  | (with_reducible show _ ≤ sizeLine ∧ _); refine ⟨le_size (by rfl), ?_⟩
  | with_reducible refine ite_NN ?_ | with_reducible refine ite_IN ?_ | with_reducible refine ite_nNN ?_ | with_reducible refine ite_nIN ?_ | with_reducible refine ite_RN ?_ | with_reducible refine ite_nRN ?_
  | with_reducible refine s_sfld ?_
  | ((with_reducible refine' ⟨_, _, _, _, rfl, ?fp1, ?fp2, ?fp3, ?fp4, ?_⟩); (case fp1 => walk_at "hp"); (case fp2 => assumption); (case fp3 => assumption); (case fp4 => walk_at "few"))
  | with_reducible refine s_fldE ?_
  | ((with_reducible refine' ⟨_, _, _, _, _, rfl, ?fp1, ?fp2, ?fp3, ?fp4, ?_⟩); (case fp1 => walk_at "hp"); (case fp2 => assumption); (case fp3 => assumption); (case fp4 => rfl))
  | with_reducible refine s_bm ?_ | with_reducible refine s_bm0 ?_
  | ((with_reducible refine' s_tyL ?ty1 ?_); (case ty1 => walk_at "hp"))
  | ((with_reducible refine' s_append ?ap1 ?ap2 ?_); (case ap1 => walk_at "hp"); (case ap2 => walk_at "sz"))
  | ((with_reducible refine' s_extend ?ap1 ?ap2 ?ap3 ?_); (case ap1 => walk_at "hp"); (case ap2 => walk_at "hp"); (case ap3 => walk_at "sz"))
  | with_reducible refine s_for (fun _ _ => ?_) | with_reducible refine s_lc ?_ | with_reducible refine s_iList ?_ | with_reducible refine s_iTup ?_ | with_reducible refine s_iRng1 ?_ | with_reducible refine s_iRng2 ?_
  | with_reducible refine s_yes ?_ | with_reducible refine s_par ?_
  | with_reducible refine s_make ?_ | with_reducible refine s_meth ?_
  | with_reducible refine s_tup ?_ | with_reducible refine s_lst ?_ | with_reducible refine s_call ?_
  | with_reducible refine ⟨rfl, ?_⟩
  | with_reducible refine ⟨_, rfl, ?_⟩
  | ((with_reducible refine' ⟨_, _, rfl, ?sd1, ?_⟩); (case sd1 => walk_at "sd"))
  | with_reducible refine ⟨_, _, rfl, ?_⟩
  | with_reducible refine .inl ⟨_, rfl, ?_⟩
  | dsimp only [List.set]
  | walk_at "rdx"
  | (refine fun _ _ => ?_)))

namespace My
open PySem L2
def ManyAt (C : Addr) (H : Hp) (x : Addr) (lo : Int) (hi : Option Int) : Prop := ∃ (dx : Addr) (t : V), H x = some (.ins C dx [("_least", .int lo), ("_most", optV hi), ("_key", t)])
theorem ManyAt.but {C r x : Addr} {H H' : Hp} {lo : Int} {hi : Option Int} (h : ManyAt C H x lo hi) (b : But r H H') (n : ∀ xs, H r ≠ some xs ∨ x ≠ r) : ManyAt C H' x lo hi := by
  obtain ⟨dx, t, e⟩ := h
  refine ⟨dx, t, b.get e ?_⟩
  rintro rfl
  rcases n _ with z | z
  · exact z e
  · exact z rfl
theorem many_fields (C dx : Addr) (a b c : V) : some (HO.ins C dx (putF "_key" c (putF "_most" b (putF "_least" a [])))) = some (HO.ins C dx [("_least", a), ("_most", b), ("_key", c)]) := by
  rw [putF_nil, putF_ne (by decide +kernel), putF_nil, putF_ne (by decide +kernel), putF_ne (by decide +kernel), putF_nil]
/-! ### promises -/
def spIsI : Sp := fun vs H Q _ => ∃ i : Int, vs = [.int i] ∧ Q (.bl true) H
def spIsC : Sp := fun vs H Q _ => ∃ i : Int, vs = [.int i] ∧ 0 ≤ i ∧ Q (.bl true) H
def spUpTo : Sp := fun vs H Q _ => ∃ (i : Int) (m : Option Int), vs = [.int i, optV m] ∧ (∀ h, m = some h → i ≤ h) ∧ Q (.bl true) H
def spInit (C : Addr) : Sp := fun vs H Q _ => ∃ (x dx : Addr) (lo : Int) (hi : Option Int), vs = [.ref x, .int lo, optV hi] ∧ H x = some (.ins C dx []) ∧ 0 ≤ lo ∧ (∀ h, hi = some h → lo ≤ h) ∧ ∀ H', But x H H' → ManyAt C H' x lo hi → Q .non H'
def spLeast (C : Addr) : Sp := fun vs H Q _ => ∃ (x : Addr) (lo : Int) (hi : Option Int), vs = [.ref x] ∧ ManyAt C H x lo hi ∧ Q (.int lo) H
def spMost (C : Addr) : Sp := fun vs H Q _ => ∃ (x : Addr) (lo : Int) (hi : Option Int), vs = [.ref x] ∧ ManyAt C H x lo hi ∧ Q (optV hi) H
def spChkC : Sp := fun vs H Q _ => ∃ i : Int, vs = [.int i] ∧ 0 ≤ i ∧ Q .non H
def spChkM (C : Addr) : Sp := fun vs H Q _ => ∃ (x : Addr) (lo : Int) (hi : Option Int), vs = [.ref x] ∧ ManyAt C H x lo hi ∧ Q .non H
def Pot (H : Hp) (r : Addr) : Prop := ∃ p q : Int, H r = some (.lst [.int p, .int q]) ∧ 0 ≤ p ∧ 0 ≤ q ∧ q < 2147483648
def spPotOf (K : PySem.W.Frag) : Sp := fun vs H Q _ => ∃ (a : Addr) (ns : List Int) (k : Int), vs = [.ref a, .int k] ∧ SqL K H a (ns.map V.int) ∧ 0 ≤ k ∧ k < 1000 ∧ ∀ r H', Same H H' → H r = none → Pot H' r → Q (.ref r) H'
def spDraw : Sp := fun vs H Q _ => ∃ (r : Addr) (n : Int), vs = [.ref r, .int n] ∧ Pot H r ∧ 0 < n ∧ n.natAbs.log2 < 9000 ∧ ∀ d H', But r H H' → Pot H' r → 0 ≤ d → d < n → Q (.int d) H'
section
variable {P : Program} {w : World} {K : PySem.W.Frag} {mg : Str → Option Value} {base : Heap} {C_Many T_LINES : Addr}
theorem ok_init (M : Md K mg C_Many T_LINES) {f : Addr} {fd : FuncData} (F : FunD K "__init__" "Many.__init__" (defArgs st_Many___init__) (defBody st_Many___init__) (defScope st_Many___init__) [.non] [] f fd)
    (c_is_count : Dn P w K mg base "is_count" 2 ["value"] [] spIsC) (c__is_up_to : Dn P w K mg base "_is_up_to" 1 ["number", "most"] [] spUpTo) : FnG P w K mg base CX0 3 f fd ["self", "least", "most"] (spInit C_Many) := by
  refine fnG_body F sc_Many___init__ (fun vs H Q E h => ?_) (fun cdv A outer s H vs Q E hr h => ?_)
  · obtain ⟨x, dx, lo, hi, rfl, _⟩ := h
    rfl
  · obtain ⟨x, dx, lo, hi, rfl, hx, h0, h1, q⟩ := h
    refine ⟨_, (pss_cons (ps_if (pt_not (pt_val (pe_callD c_is_count (hr.mono (by decide)) rfl (pa_cons (pv 1) pa_nil)))) (pss_one ps_never) pss_nil) (pss_cons (ps_if (PW.pt (pw_and (pt_cmpR op_notN (pv 2) pe_non (nomark _)) (pw_and1 (pt_not (pt_val (pe_callD c_is_count (hr.mono (by decide)) rfl (pa_cons (pv 2) pa_nil))))))) (pss_one ps_never) pss_nil) (pss_cons (ps_if (pt_not (pt_val (pe_callD c__is_up_to (hr.mono (by decide)) rfl (pa_cons (pv 1) (pa_cons (pv 2) pa_nil))))) (pss_one ps_never) pss_nil) (pss_cons (ps_fld (pv 0) (pv 1) rfl) (pss_cons (ps_fld (pv 0) (pv 2) rfl) (pss_one (ps_fld (pv 0) (pe_tup (pa_cons (pv 1) (pa_cons (pe_cmpR op_isN (pv 2) pe_non (nomark _)) (pa_cons (pe_orT (pv 2) (pe_one pe_int)) pa_nil)))) rfl))))))), ?_⟩
    refine st_eq (σ := [some _, some _, some _]) rfl ?_
    walk_at "rd"
    refine ⟨lo, rfl, h0, ?_⟩
    have kM := M.k_Many
    have n1 := M.n_Many__least
    have n2 := M.n_Many__most
    have n3 := M.n_Many__key
    cases hi with
    | none =>
      walk_at "rd"
      refine ⟨lo, none, rfl, h1, ?_⟩
      walk_at "rd"
      refine ⟨false, rfl, ?_⟩
      walk_at "rd"
      exact q _ (by walk_at "bt") ⟨dx, _, upd_same.trans (many_fields _ _ _ _ _)⟩
    | some m =>
      have h2 := h1 m rfl
      have h3 : 0 ≤ m := by omega
      walk_at "rd"
      refine ⟨m, rfl, h3, ?_⟩
      walk_at "rd"
      refine ⟨lo, some m, rfl, h1, ?_⟩
      walk_at "rd"
      refine ⟨_, rfl, ?_⟩
      refine ite_b (fun _ => ?_) (fun _ => ?_)
      all_goals
        walk_at "rd"
        exact q _ (by walk_at "bt") ⟨dx, _, upd_same.trans (many_fields _ _ _ _ _)⟩
variable (M : Md K mg C_Many T_LINES)
include M
theorem c_is_integer : Dn P w K mg base "is_integer" 1 ["value"] [] spIsI := by
  refine dnN M.f_is_integer (fun F => ?_) (fun _ _ _ _ _ _ us hl => match us, hl with | [_], _ => rfl)
  refine fnG_body F sc_is_integer (fun vs H Q E h => ?_) (fun cdv A outer s H vs Q E hr h => ?_)
  · obtain ⟨i, rfl, _⟩ := h
    rfl
  · obtain ⟨i, rfl, q⟩ := h
    refine ⟨_, (pss_one (ps_ret (pe_and (pe_callB call_isi (by rfl) M.b_isinstance (by decide +kernel) (pa_cons (pv 0) (pa_cons (pe_bltn (v := .ty "int") (u := .type "int") (by rfl) M.b_int (by decide +kernel) rfl) pa_nil))) (pe_one (pe_not (pe_callB call_isi (by rfl) M.b_isinstance (by decide +kernel) (pa_cons (pv 0) (pa_cons (pe_bltn (v := .ty "bool") (u := .type "bool") (by rfl) M.b_bool (by decide +kernel) rfl) pa_nil)))))))), ?_⟩
    refine st_eq (σ := [some _]) rfl ?_
    walk_at "rd"
    exact q
theorem c_is_count : Dn P w K mg base "is_count" 2 ["value"] [] spIsC := by
  refine dnN M.f_is_count (fun F => ?_) (fun _ _ _ _ _ _ us hl => match us, hl with | [_], _ => rfl)
  have c_is_integer := c_is_integer (P := P) (w := w) (base := base) M
  refine fnG_body F sc_is_count (fun vs H Q E h => ?_) (fun cdv A outer s H vs Q E hr h => ?_)
  · obtain ⟨i, rfl, _⟩ := h
    rfl
  · obtain ⟨i, rfl, h0, q⟩ := h
    refine ⟨_, (pss_one (ps_ret (pe_and (pe_callD c_is_integer (hr.mono (by decide)) rfl (pa_cons (pv 0) pa_nil)) (pe_one (pe_cmpR op_ge (pv 0) pe_int (nomark _)))))), ?_⟩
    refine st_eq (σ := [some _]) rfl ?_
    walk_at "rd"
    refine ⟨i, rfl, ?_⟩
    walk_at "rd"
    rw [decide_eq_true h0]
    exact q
theorem c__is_up_to : Dn P w K mg base "_is_up_to" 1 ["number", "most"] [] spUpTo := by
  refine dnN M.f__is_up_to (fun F => ?_) (fun _ _ _ _ _ _ us hl => match us, hl with | [_, _], _ => rfl)
  refine fnG_body F sc__is_up_to (fun vs H Q E h => ?_) (fun cdv A outer s H vs Q E hr h => ?_)
  · obtain ⟨i, m, rfl, _⟩ := h
    rfl
  · obtain ⟨i, m, rfl, h0, q⟩ := h
    refine ⟨_, (pss_one (ps_ret (pe_or (pe_cmpR op_isN (pv 1) pe_non (nomark _)) (pe_one (pe_and (pe_cmpR op_notN (pv 0) pe_non (nomark _)) (pe_one (pe_cmpR op_le (pv 0) (pv 1) (nomark _)))))))), ?_⟩
    refine st_eq (σ := [some _, some _]) rfl ?_
    walk_at "rd"
    cases m with
    | none =>
      walk_at "rd"
      exact q
    | some m =>
      walk_at "rd"
      rw [decide_eq_true (h0 m rfl)]
      exact q
theorem c_Many_2 : Mkn P w K mg base "Many" C_Many 3 ["self", "least", "most"] [] (spInit C_Many) := by
  refine mkD (dvs := [.non]) 3 1 M.i_Many M.m_Many (fun F => ok_init M F (c_is_count M) (c__is_up_to M)) (by simp) rfl (fun _ _ _ _ _ _ _ us its h1 h2 => match us, its, h1, h2 with | [_, _, _], [_], _, _ => ⟨_, rfl, rfl⟩)
theorem c_Many_1 : Mkn P w K mg base "Many" C_Many 3 ["self", "least", "most"] [.non] (spInit C_Many) := by
  refine mkD (dvs := [.non]) 2 0 M.i_Many M.m_Many (fun F => ok_init M F (c_is_count M) (c__is_up_to M)) (by simp) rfl (fun _ _ _ _ _ _ _ us its h1 h2 => match us, its, h1, h2 with | [_, _], [_], _, _ => ⟨_, rfl, rfl⟩)
theorem c_Many_least : Prn P w K mg base C_Many "least" 1 ["self"] [] (spLeast C_Many) := by
  refine prN M.p_Many_least M.k_Many (fun F => ?_) (fun _ _ _ _ _ _ us hl => match us, hl with | [_], _ => rfl)
  refine fnG_body F sc_Many_least (fun vs H Q E h => ?_) (fun cdv A outer s H vs Q E hr h => ?_)
  · obtain ⟨x, lo, hi, rfl, _⟩ := h
    rfl
  · obtain ⟨x, lo, hi, rfl, ⟨dx, t, e⟩, q⟩ := h
    refine ⟨_, (pss_one (ps_ret (pe_fld (pv 0) rfl))), ?_⟩
    refine st_eq (σ := [some _]) rfl ?_
    have kM := M.k_Many
    have n1 := M.n_Many__least
    walk_at "rd"
    exact q
theorem c_Many_most : Prn P w K mg base C_Many "most" 1 ["self"] [] (spMost C_Many) := by
  refine prN M.p_Many_most M.k_Many (fun F => ?_) (fun _ _ _ _ _ _ us hl => match us, hl with | [_], _ => rfl)
  refine fnG_body F sc_Many_most (fun vs H Q E h => ?_) (fun cdv A outer s H vs Q E hr h => ?_)
  · obtain ⟨x, lo, hi, rfl, _⟩ := h
    rfl
  · obtain ⟨x, lo, hi, rfl, ⟨dx, t, e⟩, q⟩ := h
    refine ⟨_, (pss_one (ps_ret (pe_fld (pv 0) rfl))), ?_⟩
    refine st_eq (σ := [some _]) rfl ?_
    have kM := M.k_Many
    have n1 := M.n_Many__most
    walk_at "rd"
    exact q
theorem c_check_count : Dn P w K mg base "check_count" 3 ["count"] [] spChkC := by
  have c_is_count := c_is_count (P := P) (w := w) (base := base) M
  refine dnN M.f_check_count (fun F => ?_) (fun _ _ _ _ _ _ us hl => match us, hl with | [_], _ => rfl)
  refine fnG_body F sc_check_count (fun vs H Q E h => ?_) (fun cdv A outer s H vs Q E hr h => ?_)
  · obtain ⟨i, rfl, _⟩ := h
    rfl
  · obtain ⟨i, rfl, h0, q⟩ := h
    refine ⟨_, (pss_one (ps_if (pt_not (pt_val (pe_callD c_is_count (hr.mono (by decide)) rfl (pa_cons (pv 0) pa_nil)))) (pss_one ps_never) pss_nil)), ?_⟩
    refine st_eq (σ := [some _]) rfl ?_
    walk_at "rd"
    refine ⟨i, rfl, h0, ?_⟩
    walk_at "rd"
    exact q
theorem c__check_many : Dn P w K mg base "_check_many" 1 ["many"] [] (spChkM C_Many) := by
  refine dnN M.f__check_many (fun F => ?_) (fun _ _ _ _ _ _ us hl => match us, hl with | [_], _ => rfl)
  refine fnG_body F sc__check_many (fun vs H Q E h => ?_) (fun cdv A outer s H vs Q E hr h => ?_)
  · obtain ⟨x, lo, hi, rfl, _⟩ := h
    rfl
  · obtain ⟨x, lo, hi, rfl, ⟨dx, t, e⟩, q⟩ := h
    refine ⟨_, (pss_one (ps_if (pt_not (pt_val (pe_callB call_isi (by rfl) M.b_isinstance (by decide +kernel) (pa_cons (pv 0) (pa_cons (pe_glob (v := .ref C_Many) rfl M.m_Many rfl) pa_nil))))) (pss_one ps_never) pss_nil)), ?_⟩
    refine st_eq (σ := [some _]) rfl ?_
    walk_at "rd"
    refine s_isi_own (M.z_Many e) ?_
    walk_at "rd"
    exact q
/-! ### draws -/
theorem c__law_pot_of : Dn P w K mg base "_law_pot_of" 1 ["_law_script", "_law_k"] [] (spPotOf K) := by
  refine dnN M.f__law_pot_of (fun F => ?_) (fun _ _ _ _ _ _ us hl => match us, hl with | [_, _], _ => rfl)
  refine fnG_body F sc__law_pot_of (fun vs H Q E h => ?_) (fun cdv A outer s H vs Q E hr h => ?_)
  · obtain ⟨a, ns, k, rfl, _⟩ := h
    rfl
  · obtain ⟨a, ns, k, rfl, hS, h0, h1, q⟩ := h
    refine ⟨_, (pss_cons (ps_set (i := 2) sc__law_pot_of.nd rfl (.inl rfl) (pe_ifExp (pt_cmpR op_lt (pv 1) (pe_callB call_len_seq (by rfl) M.b_len (by decide +kernel) (pa_cons (pv 0) pa_nil)) (nomark _)) (pe_ix ix_list (pv 0) (pv 1) (fun _ _ => rfl)) (pe_op op_add (pe_op op_mulW pe_int (pv 1)) pe_int))) (pss_one (ps_ret (pe_lst (pa_cons (pe_callB (call_max2 rfl) (by rfl) M.b_max (by decide +kernel) (pa_cons pe_int (pa_cons (pe_op op_sub (pe_callB call_abs (by rfl) M.b_abs (by decide +kernel) (pa_cons (pv 2) pa_nil)) (pe_op op_pow pe_int pe_int)) pa_nil))) (pa_cons (pe_op op_add (pe_op op_mod (pe_callTy call_int1 (by rfl) M.b_int (by decide +kernel) (pa_cons (pe_op op_add (pe_op op_add (pe_op op_mulW (pe_op op_mod (pe_callTy call_int1 (by rfl) M.b_int (by decide +kernel) (pa_cons (pe_callB call_abs (by rfl) M.b_abs (by decide +kernel) (pa_cons (pv 2) pa_nil)) pa_nil)) pe_int) pe_int) (pe_op op_mulW pe_int (pv 1))) pe_int) pa_nil)) pe_int) pe_int) pa_nil)))))), ?_⟩
    refine st_eq (σ := [some _, some _, none]) rfl ?_
    walk_at "rd"
    refine ⟨_, _, rfl, .inl hS, ?_⟩
    walk_at "rd"
    refine ite_d (fun hc => ?_) (fun hc => ?_)
    · obtain ⟨c, ec⟩ := atI_ints h0 hc
      walk_at "rd"
      refine ⟨_, _, _, _, rfl, rfl, hS, ec, ?_⟩
      walk_at "rd"
      refine q _ _ (Same.new (by assumption)) (by assumption) ⟨_, _, upd_same, ?_, ?_, ?_⟩
      · split <;> omega
      · omega
      · omega
    · walk_at "rd"
      refine q _ _ (Same.new (by assumption)) (by assumption) ⟨_, _, upd_same, ?_, ?_, ?_⟩
      · split <;> omega
      · omega
      · omega
theorem c__law_draw : Dn P w K mg base "_law_draw" 1 ["_law_pot", "_law_some"] [] spDraw := by
  refine dnN M.f__law_draw (fun F => ?_) (fun _ _ _ _ _ _ us hl => match us, hl with | [_, _], _ => rfl)
  refine fnG_body F sc__law_draw (fun vs H Q E h => ?_) (fun cdv A outer s H vs Q E hr h => ?_)
  · obtain ⟨r, n, rfl, _⟩ := h
    rfl
  · obtain ⟨r, n, rfl, ⟨p, y, e, hp, hy, hz⟩, h0, h1, q⟩ := h
    refine ⟨_, (pss_cons (ps_if (pt_cmpR op_gt (pe_ix ix_list (pv 0) pe_int (fun _ _ => rfl)) pe_int (nomark _)) (pss_cons (ps_asg (pe_callB call_divmodW (by rfl) M.b_divmod (by decide +kernel) (pa_cons (pe_ix ix_list (pv 0) pe_int (fun _ _ => rfl)) (pa_cons (pv 1) pa_nil))) (pg_tup (by rfl) (pgs_cons (pg_sub (pv 0) pe_int set_list) (pgs_cons (pg_name (i := 2) sc__law_draw.nd rfl (.inl rfl)) pgs_nil)))) (pss_one (ps_ret (pv 2)))) pss_nil) (pss_cons (ps_asg (pe_op op_mod (pe_callTy call_int1 (by rfl) M.b_int (by decide +kernel) (pa_cons (pe_op op_add (pe_op op_mulW (pe_ix ix_list (pv 0) pe_int (fun _ _ => rfl)) pe_int) pe_int) pa_nil)) pe_int) (pg_sub (pv 0) pe_int set_list)) (pss_one (ps_ret (pe_op op_mod (pe_callTy call_int1 (by rfl) M.b_int (by decide +kernel) (pa_cons (pe_op op_fdivW (pe_op op_mod (pe_callTy call_int1 (by rfl) M.b_int (by decide +kernel) (pa_cons (pe_op op_mulW (pe_ix ix_list (pv 0) pe_int (fun _ _ => rfl)) (pe_ix ix_list (pv 0) pe_int (fun _ _ => rfl))) pa_nil)) pe_int) pe_int) pa_nil)) (pv 1)))))), ?_⟩
    refine st_eq (σ := [some _, some _, none]) rfl ?_
    walk_at "rd"
    refine ite_d (fun hc => ?_) (fun hc => ?_)
    · walk_at "rd"
      refine q _ _ ((But.new (by assumption)).trans But.at) ⟨_, _, upd_same, ?_, hy, hz⟩ (Int.emod_nonneg _ (by omega)) (Int.emod_lt_of_pos _ h0)
      exact Int.ediv_nonneg hp (by omega)
    · walk_at "rd"
      refine q _ _ But.at ⟨_, _, upd_same, hp, by omega, by omega⟩ (Int.emod_nonneg _ (by omega)) (Int.emod_lt_of_pos _ h0)
end
end My
namespace My
def OSm (k : Nat) : Option Int → Prop
  | none => True
  | some x => Sm k x
/-! ### the lines of [33] -/
def lin0 (a p b : Int) : Option Int → Bool
  | none => true
  | some s => decide (a * p ≤ b * s)
def lin2 (a p b : Int) : Bool := decide (a = 0) || decide (b ≥ p)
def lines (a p : Int) (q : Option Int) (b r : Int) (s : Option Int) : Bool := lin0 a p b s && lin0 b r a q && lin2 a p b && lin2 b r a
def ups (a : Int) : Option Int → List Int
  | none => []
  | some q => [a * q]
def bnds (a : Int) (q : Option Int) (b : Int) (s : Option Int) : List Int := a * b :: (ups a q ++ ups b s)
def lowB (a p b r : Int) : Int := if b * r > a * p then b * r else a * p
/-- h is the least of xs -/
def IsMin (xs : List Int) (h : Int) : Prop := h ∈ xs ∧ ∀ y, y ∈ xs → h ≤ y
theorem IsMin.uniq {xs ys : List Int} {g h : Int} (a : IsMin xs g) (b : IsMin ys h) (e : ∀ y, y ∈ xs ↔ y ∈ ys) : g = h := by
  have := a.2 h ((e h).2 b.1)
  have := b.2 g ((e g).1 a.1)
  omega
/-- what totals tells -/
def Tot (a p : Int) (q : Option Int) (b r : Int) (s : Option Int) : Option (Int × Int) → Prop
  | none => lines a p q b r s = false
  | some (l, h) => lines a p q b r s = true ∧ l = lowB a p b r ∧ IsMin (bnds a q b s) h
theorem lines_swap (a p : Int) (q : Option Int) (b r : Int) (s : Option Int) : lines b r s a p q = lines a p q b r s := by
  unfold lines
  cases lin0 a p b s <;> cases lin0 b r a q <;> cases lin2 a p b <;> cases lin2 b r a <;> rfl
theorem low_swap (a p b r : Int) : lowB b r a p = lowB a p b r := by
  unfold lowB
  split <;> split <;> omega
theorem bnds_swap (a : Int) (q : Option Int) (b : Int) (s : Option Int) (y : Int) : y ∈ bnds b s a q ↔ y ∈ bnds a q b s := by
  unfold bnds
  rw [Int.mul_comm b a]
  simp only [List.mem_cons, List.mem_append]
  constructor <;> (rintro (h | h | h)) <;> simp [h]
theorem Tot.swap {a p : Int} {q : Option Int} {b r : Int} {s : Option Int} {t : Option (Int × Int)} (h : Tot a p q b r s t) : Tot b r s a p q t := by
  cases t with
  | none => exact (lines_swap a p q b r s).trans h
  | some x =>
    obtain ⟨l, g⟩ := x
    obtain ⟨h1, h2, h3, h4⟩ := h
    exact ⟨(lines_swap a p q b r s).trans h1, h2.trans (low_swap a p b r).symm, (bnds_swap a q b s g).2 h3, fun y hy => h4 y ((bnds_swap a q b s y).1 hy)⟩
theorem Tot.uniq {a p : Int} {q : Option Int} {b r : Int} {s : Option Int} {t u : Option (Int × Int)} (h : Tot a p q b r s t) (g : Tot a p q b r s u) : t = u := by
  cases t with
  | none => cases u with
    | none => rfl
    | some y =>
      have e : lines a p q b r s = false := h
      have e2 := g.1
      rw [e] at e2
      cases e2
  | some x => cases u with
    | none =>
      have e : lines a p q b r s = false := g
      have e2 := h.1
      rw [e] at e2
      cases e2
    | some y =>
      obtain ⟨l, x⟩ := x
      obtain ⟨l', y⟩ := y
      obtain ⟨_, h2, h3⟩ := h
      obtain ⟨_, g2, g3⟩ := g
      have e1 := h2.trans g2.symm
      have e2 := h3.uniq g3 fun _ => Iff.rfl
      rw [e1, e2]
theorem low_ge (a p b r : Int) : a * p ≤ lowB a p b r ∧ b * r ≤ lowB a p b r := by
  unfold lowB
  split <;> omega
theorem low_le {a p b r m : Int} (h : a * p ≤ m) (g : b * r ≤ m) : lowB a p b r ≤ m := by
  unfold lowB
  split <;> omega
/-- the lines as inequalities -/
structure Lns (a p : Int) (q : Option Int) (b r : Int) (s : Option Int) : Prop where
  l0 : ∀ x, s = some x → a * p ≤ b * x
  l1 : ∀ x, q = some x → b * r ≤ a * x
  l2 : a = 0 ∨ p ≤ b
  l3 : b = 0 ∨ r ≤ a
theorem lns_iff {a p : Int} {q : Option Int} {b r : Int} {s : Option Int} : lines a p q b r s = true ↔ Lns a p q b r s := by
  unfold lines
  simp only [Bool.and_eq_true]
  constructor
  · rintro ⟨⟨⟨h0, h1⟩, h2⟩, h3⟩
    refine ⟨?_, ?_, ?_, ?_⟩
    · rintro x rfl
      exact of_decide_eq_true h0
    · rintro x rfl
      exact of_decide_eq_true h1
    · simpa [lin2] using h2
    · simpa [lin2] using h3
  · rintro ⟨h0, h1, h2, h3⟩
    refine ⟨⟨⟨?_, ?_⟩, ?_⟩, ?_⟩
    · cases s with
      | none => rfl
      | some x => exact decide_eq_true (h0 x rfl)
    · cases q with
      | none => rfl
      | some x => exact decide_eq_true (h1 x rfl)
    · simpa [lin2] using h2
    · simpa [lin2] using h3
theorem mem_bnds {a : Int} {q : Option Int} {b : Int} {s : Option Int} {y : Int} : y ∈ bnds a q b s ↔ y = a * b ∨ (∃ x, q = some x ∧ y = a * x) ∨ ∃ x, s = some x ∧ y = b * x := by
  unfold bnds
  cases q <;> cases s <;> simp [ups]
/-- so many times both sizes -/
theorem Tot.scale {a p : Int} {q : Option Int} {b r : Int} {s : Option Int} {k l h : Int} {t : Option (Int × Int)} (ha : 0 ≤ a) (hb : 0 ≤ b) (hp : 0 ≤ p) (hr : 0 ≤ r) (hk : 1 ≤ k)
    (x : Tot a p q b r s (some (l, h))) (y : Tot (a * k) p q (b * k) r s t) : ∃ l' h', t = some (l', h') ∧ l' ≤ l * k ∧ h * k ≤ h' := by
  obtain ⟨x1, rfl, x2, x3⟩ := x
  have L := lns_iff.1 x1
  have mk : ∀ {u v : Int}, u ≤ v → u * k ≤ v * k := fun z => Int.mul_le_mul_of_nonneg_right z (by omega)
  have sw : ∀ u v : Int, u * k * v = u * v * k := fun u v => by rw [Int.mul_assoc, Int.mul_comm k v, Int.mul_assoc]
  have up : ∀ {u : Int}, 0 ≤ u → u ≤ u * k := fun {u} z => by
    have := Int.mul_le_mul_of_nonneg_left hk z
    omega
  have L2 : Lns (a * k) p q (b * k) r s := by
    refine ⟨?_, ?_, ?_, ?_⟩
    · intro x e
      rw [sw, sw]
      exact mk (L.l0 x e)
    · intro x e
      rw [sw, sw]
      exact mk (L.l1 x e)
    · rcases L.l2 with e | e
      · left
        rw [e, Int.zero_mul]
      · right
        have := up hb
        omega
    · rcases L.l3 with e | e
      · left
        rw [e, Int.zero_mul]
      · right
        have := up ha
        omega
  cases t with
  | none =>
    have e : lines (a * k) p q (b * k) r s = false := y
    rw [lns_iff.2 L2] at e
    cases e
  | some z =>
    obtain ⟨l', h'⟩ := z
    obtain ⟨_, rfl, y2, y3⟩ := y
    refine ⟨_, _, rfl, low_le ?_ ?_, ?_⟩
    · rw [sw]
      exact mk (low_ge a p b r).1
    · rw [sw]
      exact mk (low_ge a p b r).2
    · rcases mem_bnds.1 y2 with e | ⟨x, e, e2⟩ | ⟨x, e, e2⟩
      · have h1 := mk (x3 _ (mem_bnds.2 (.inl rfl)))
        have h2 : a * b * k ≤ a * b * k * k := up (Int.mul_nonneg (Int.mul_nonneg ha hb) (by omega))
        have h3 : a * k * (b * k) = a * b * k * k := by rw [sw, ← Int.mul_assoc]
        omega
      · have h1 := mk (x3 _ (mem_bnds.2 (.inr (.inl ⟨x, e, rfl⟩))))
        have := sw a x
        omega
      · have h1 := mk (x3 _ (mem_bnds.2 (.inr (.inr ⟨x, e, rfl⟩))))
        have := sw b x
        omega
/-- sums of sizes -/
theorem Tot.sum {a p : Int} {q : Option Int} {b r : Int} {s : Option Int} {c d l h l2 h2 : Int} {t : Option (Int × Int)} (ha : 0 ≤ a) (hb : 0 ≤ b) (hc : 0 ≤ c) (hd : 0 ≤ d) (hp : 0 ≤ p) (hr : 0 ≤ r)
    (x : Tot a p q b r s (some (l, h))) (z : Tot c p q d r s (some (l2, h2))) (y : Tot (a + c) p q (b + d) r s t) : ∃ l' h', t = some (l', h') ∧ l' ≤ l + l2 ∧ h + h2 ≤ h' := by
  obtain ⟨x1, rfl, x2, x3⟩ := x
  obtain ⟨z1, rfl, z2, z3⟩ := z
  have L := lns_iff.1 x1
  have M := lns_iff.1 z1
  have L2 : Lns (a + c) p q (b + d) r s := by
    refine ⟨?_, ?_, ?_, ?_⟩
    · intro x e
      have h1 := L.l0 x e
      have h2 := M.l0 x e
      rw [Int.add_mul, Int.add_mul]
      omega
    · intro x e
      have h1 := L.l1 x e
      have h2 := M.l1 x e
      rw [Int.add_mul, Int.add_mul]
      omega
    · rcases L.l2 with e | e
      · rcases M.l2 with f | f
        · left
          omega
        · right
          omega
      · right
        omega
    · rcases L.l3 with e | e
      · rcases M.l3 with f | f
        · left
          omega
        · right
          omega
      · right
        omega
  cases t with
  | none =>
    have e : lines (a + c) p q (b + d) r s = false := y
    rw [lns_iff.2 L2] at e
    cases e
  | some w =>
    obtain ⟨l', h'⟩ := w
    obtain ⟨_, rfl, y2, y3⟩ := y
    refine ⟨_, _, rfl, low_le ?_ ?_, ?_⟩
    · rw [Int.add_mul]
      have := (low_ge a p b r).1
      have := (low_ge c p d r).1
      omega
    · rw [Int.add_mul]
      have := (low_ge a p b r).2
      have := (low_ge c p d r).2
      omega
    · rcases mem_bnds.1 y2 with e | ⟨x, e, e2⟩ | ⟨x, e, e2⟩
      · have h1 := x3 _ (mem_bnds.2 (.inl rfl))
        have h2 := z3 _ (mem_bnds.2 (.inl rfl))
        have h3 := Int.mul_nonneg ha hd
        have h4 := Int.mul_nonneg hc hb
        rw [Int.add_mul, Int.mul_add, Int.mul_add] at e
        omega
      · have h1 := x3 _ (mem_bnds.2 (.inr (.inl ⟨x, e, rfl⟩)))
        have h2 := z3 _ (mem_bnds.2 (.inr (.inl ⟨x, e, rfl⟩)))
        rw [Int.add_mul] at e2
        omega
      · have h1 := x3 _ (mem_bnds.2 (.inr (.inr ⟨x, e, rfl⟩)))
        have h2 := z3 _ (mem_bnds.2 (.inr (.inr ⟨x, e, rfl⟩)))
        rw [Int.add_mul] at e2
        omega
end My

open My L2 PySem
open My L2 PySem
local macro_rules | `(tactic| walk_at "as") => `(tactic| with_reducible assumption)
local macro_rules | `(tactic| walk_at "hp") => `(tactic| first
  | walk_at "as" | exact upd_same
  | (rw [upd_ne (by walk_at "ne")]; walk_at "hp")
  | (refine But.get (by walk_at "as") ?hp1 ?hp2; (case hp1 => walk_at "hp"); (case hp2 => walk_at "ne"))
  | (refine My.Same.get (by walk_at "as") ?hp1; (case hp1 => walk_at "hp")))
local macro_rules | `(tactic| walk_at "ne") => `(tactic| first
  | walk_at "as" | exact Ne.symm (by walk_at "as")
  | (refine' ne_of_none ?ne1 ?ne2; (case ne2 => walk_at "as"); (case ne1 => walk_at "hp"))
  | (refine' Ne.symm (ne_of_none ?ne1 ?ne2); (case ne2 => walk_at "as"); (case ne1 => walk_at "hp"))
  | exact ne_of (by walk_at "hp") (by walk_at "hp") (by intro z; cases z))
local macro_rules | `(tactic| walk_at "sd") => `(tactic| first
  | walk_at "as" | omega | decide | exact ⟨by omega, by omega⟩ | exact .inl ⟨by omega, by omega⟩ | exact .inr ⟨by omega, by omega⟩ | exact divp_wide (by walk_at "as") (by walk_at "as") | exact Sm.cmul (by walk_at "as") (by walk_at "as") | exact cmul_small (by omega) (by omega) (by omega) (by omega) | exact ⟨by omega, by decide⟩)
local macro_rules | `(tactic| walk_at "bt") => `(tactic| first
  | walk_at "as" | exact But.refl _ _ | exact Same.but (by walk_at "as")
  | (refine But.trans ?bt1 But.at; (case bt1 => walk_at "bt"))
  | (refine But.trans ?bt1 (But.new (by first | walk_at "as" | walk_at "hp")); (case bt1 => walk_at "bt"))
  | (refine But.trans ?bt1 (by walk_at "as"); (case bt1 => walk_at "bt"))
  | (refine But.trans ?bt1 (Same.but (by walk_at "as")); (case bt1 => walk_at "bt")))
local macro_rules | `(tactic| walk_at "sm") => `(tactic| first
  | walk_at "as" | exact My.Same.rfl' _
  | (refine' My.Same.at_ ?sm1 ?sm2; (case sm1 => walk_at "as"); (case sm2 => walk_at "sm"))
  | (refine' My.Same.tr ?sm1 (My.Same.new ?sm2); (case sm2 => walk_at "as"); (case sm1 => walk_at "sm"))
  | (refine' My.Same.tr ?sm1 ?sm2; (case sm2 => walk_at "as"); (case sm1 => walk_at "sm")))
local macro_rules | `(tactic| walk_at "sz") => `(tactic| first
  | assumption | exact lt_size (by rfl) | exact le_size (by rfl) | (rw [sizeLine_eq]; omega)
  | (rw [sizeLine_eq]; simp only [List.length_append, List.length_map, List.length_cons, List.length_nil]; omega))
local macro_rules | `(tactic| walk_at "few") => `(tactic| (repeat refine few_put ?_); exact few0)
local macro_rules | `(tactic| walk_at "rd1") => `(tactic| first
  | (with_reducible show tVar _ _ _ _); refine s_var rfl ?_
  | with_reducible refine s_c ?_ | with_reducible refine s_op ?_ | with_reducible refine s_un ?_
  | with_reducible refine s_cons ?_ | with_reducible refine s_nil ?_ | with_reducible refine s_cb ?_
  | with_reducible refine s_test ?_ | with_reducible refine s_B ?_ | with_reducible refine s_not ?_ | with_reducible refine s_and ?_ | with_reducible refine s_or ?_
  | with_reducible refine s_if ?_ | with_reducible refine s_notV ?_ | with_reducible refine s_andV ?_ | with_reducible refine s_orV ?_
  | with_reducible refine s_orT ?_ | with_reducible refine s_andT ?_ | with_reducible refine s_chain ?_
  | with_reducible refine s_isi_int ?_ | with_reducible refine s_isi_int_bool ?_ | with_reducible refine s_isi_str ?_
  | with_reducible refine iteT ?_ | with_reducible refine iteF ?_ | with_reducible refine iteNT ?_ | with_reducible refine iteNF ?_
  | with_reducible refine s_isN ?_ | with_reducible refine s_notN ?_
  | ((with_reducible refine' s_2setE ?g1 ?_); (case g1 => first | (dsimp only [List.set, L2.wipe, List.map, List.foldl]; done) | (dsimp only [List.set, L2.wipe, List.map, List.foldl]; rfl)))
  | with_reducible refine s_seq ?_ | with_reducible refine s_ifS ?_ | with_reducible refine s_asg ?_ | with_reducible refine s_ret ?_ | with_reducible refine s_drop ?_ | with_reducible refine s_next ?_
  | ((with_reducible refine' s_gnameE ?g1 ?_); (case g1 => first | (dsimp only [List.set, L2.wipe, List.map, List.foldl]; done) | (dsimp only [List.set, L2.wipe, List.map, List.foldl]; rfl)))
  | with_reducible refine s_gsub ?_ | with_reducible refine s_gcons ?_ | with_reducible refine s_gnil ?_
  | (with_reducible show gTup _ _ _ _ _ _ _); refine s_gtup (by walk_at "hp") rfl ?_
  | with_reducible refine s_eqI ?_ | with_reducible refine s_neI ?_ | with_reducible refine s_eqS ?_ | with_reducible refine s_neB ?_ | with_reducible refine s_eqB ?_ | with_reducible refine s_neSr ?_ | with_reducible refine s_neS ?_
  | with_reducible refine s_I0 ?_
  | (with_reducible show rI _ _ _ _ _ _); refine s_I (by walk_at "sd") ?_
  | (with_reducible show rIxL _ _ _ _ _); refine s_ixL (by walk_at "hp") rfl ?_
  | (with_reducible show rIxT _ _ _ _ _); refine s_ixT (by walk_at "hp") rfl ?_
  | (with_reducible show rSetL _ _ _ _ _); refine s_setL (by walk_at "hp") rfl ?_
  | with_reducible refine s_prop ?_
  | (with_reducible show _ ≤ sizeLine ∧ _); refine ⟨le_size (by rfl), ?_⟩
  | with_reducible refine ite_NN ?_ | with_reducible refine ite_IN ?_ | with_reducible refine ite_nNN ?_ | with_reducible refine ite_nIN ?_ | with_reducible refine ite_RN ?_ | with_reducible refine ite_nRN ?_
  | with_reducible refine s_sfld ?_
  | ((with_reducible refine' ⟨_, _, _, _, rfl, ?fp1, ?fp2, ?fp3, ?fp4, ?_⟩); (case fp1 => walk_at "hp"); (case fp2 => assumption); (case fp3 => assumption); (case fp4 => walk_at "few"))
  | with_reducible refine s_fldE ?_
  | ((with_reducible refine' ⟨_, _, _, _, _, rfl, ?fp1, ?fp2, ?fp3, ?fp4, ?_⟩); (case fp1 => walk_at "hp"); (case fp2 => assumption); (case fp3 => assumption); (case fp4 => rfl))
  | with_reducible refine s_bm ?_ | with_reducible refine s_bm0 ?_
  | ((with_reducible refine' s_tyL ?ty1 ?_); (case ty1 => walk_at "hp"))
  | ((with_reducible refine' s_append ?ap1 ?ap2 ?_); (case ap1 => walk_at "hp"); (case ap2 => walk_at "sz"))
  | ((with_reducible refine' s_extend ?ap1 ?ap2 ?ap3 ?_); (case ap1 => walk_at "hp"); (case ap2 => walk_at "hp"); (case ap3 => walk_at "sz"))
  | with_reducible refine s_for (fun _ _ => ?_) | with_reducible refine s_lc ?_ | with_reducible refine s_iList ?_ | with_reducible refine s_iTup ?_ | with_reducible refine s_iRng1 ?_ | with_reducible refine s_iRng2 ?_
  | with_reducible refine s_yes ?_ | with_reducible refine s_par ?_
  | with_reducible refine s_make ?_ | with_reducible refine s_meth ?_
  | with_reducible refine s_tup ?_ | with_reducible refine s_lst ?_ | with_reducible refine s_call ?_
  | with_reducible refine ⟨rfl, ?_⟩
  | with_reducible refine ⟨_, rfl, ?_⟩
  | ((with_reducible refine' ⟨_, _, rfl, ?sd1, ?_⟩); (case sd1 => walk_at "sd"))
  | with_reducible refine ⟨_, _, rfl, ?_⟩
  | with_reducible refine .inl ⟨_, rfl, ?_⟩
  | dsimp only [List.set]
  | walk_at "rdx"
  | (refine fun _ _ => ?_))
local macro_rules | `(tactic| walk_at "rd") => `(tactic| repeat (first
  | (with_reducible show tVar _ _ _ _); refine s_var rfl ?_
  | with_reducible refine s_c ?_ | with_reducible refine s_op ?_ | with_reducible refine s_un ?_
  | with_reducible refine s_cons ?_ | with_reducible refine s_nil ?_ | with_reducible refine s_cb ?_
  | with_reducible refine s_test ?_ | with_reducible refine s_B ?_ | with_reducible refine s_not ?_ | with_reducible refine s_and ?_ | with_reducible refine s_or ?_
  | with_reducible refine s_if ?_ | with_reducible refine s_notV ?_ | with_reducible refine s_andV ?_ | with_reducible refine s_orV ?_
  | with_reducible refine s_orT ?_ | with_reducible refine s_andT ?_ | with_reducible refine s_chain ?_
  | with_reducible refine s_isi_int ?_ | with_reducible refine s_isi_int_bool ?_ | with_reducible refine s_isi_str ?_
  | with_reducible refine iteT ?_ | with_reducible refine iteF ?_ | with_reducible refine iteNT ?_ | with_reducible refine iteNF ?_
  | with_reducible refine s_isN ?_ | with_reducible refine s_notN ?_
  | ((with_reducible refine' s_2setE ?g1 ?_); (case g1 => first | (dsimp only [List.set, L2.wipe, List.map, List.foldl]; done) | (dsimp only [List.set, L2.wipe, List.map, List.foldl]; rfl)))
  | with_reducible refine s_seq ?_ | with_reducible refine s_ifS ?_ | with_reducible refine s_asg ?_ | with_reducible refine s_ret ?_ | with_reducible refine s_drop ?_ | with_reducible refine s_next ?_
  | ((with_reducible refine' s_gnameE ?g1 ?_); (case g1 => first | (dsimp only [List.set, L2.wipe, List.map, List.foldl]; done) | (dsimp only [List.set, L2.wipe, List.map, List.foldl]; rfl)))
  | with_reducible refine s_gsub ?_ | with_reducible refine s_gcons ?_ | with_reducible refine s_gnil ?_
  | (with_reducible show gTup _ _ _ _ _ _ _); refine s_gtup (by walk_at "hp") rfl ?_
  | with_reducible refine s_eqI ?_ | with_reducible refine s_neI ?_ | with_reducible refine s_eqS ?_ | with_reducible refine s_neB ?_ | with_reducible refine s_eqB ?_ | with_reducible refine s_neSr ?_ | with_reducible refine s_neS ?_
  | with_reducible refine s_I0 ?_
  | (with_reducible show rI _ _ _ _ _ _); refine s_I (by walk_at "sd") ?_
  | (with_reducible show rIxL _ _ _ _ _); refine s_ixL (by walk_at "hp") rfl ?_
  | (with_reducible show rIxT _ _ _ _ _); refine s_ixT (by walk_at "hp") rfl ?_
  | (with_reducible show rSetL _ _ _ _ _); refine s_setL (by walk_at "hp") rfl ?_
  | with_reducible refine s_prop ?_
  | (with_reducible show _ ≤ sizeLine ∧ _); refine ⟨le_size (by rfl), ?_⟩
  | with_reducible refine ite_NN ?_ | with_reducible refine ite_IN ?_ | with_reducible refine ite_nNN ?_ | with_reducible refine ite_nIN ?_ | with_reducible refine ite_RN ?_ | with_reducible refine ite_nRN ?_
  | with_reducible refine s_sfld ?_
  | ((with_reducible refine' ⟨_, _, _, _, rfl, ?fp1, ?fp2, ?fp3, ?fp4, ?_⟩); (case fp1 => walk_at "hp"); (case fp2 => assumption); (case fp3 => assumption); (case fp4 => walk_at "few"))
  | with_reducible refine s_fldE ?_
  | ((with_reducible refine' ⟨_, _, _, _, _, rfl, ?fp1, ?fp2, ?fp3, ?fp4, ?_⟩); (case fp1 => walk_at "hp"); (case fp2 => assumption); (case fp3 => assumption); (case fp4 => rfl))
  | with_reducible refine s_bm ?_ | with_reducible refine s_bm0 ?_
  | ((with_reducible refine' s_tyL ?ty1 ?_); (case ty1 => walk_at "hp"))
  | ((with_reducible refine' s_append ?ap1 ?ap2 ?_); (case ap1 => walk_at "hp"); (case ap2 => walk_at "sz"))
  | ((with_reducible refine' s_extend ?ap1 ?ap2 ?ap3 ?_); (case ap1 => walk_at "hp"); (case ap2 => walk_at "hp"); (case ap3 => walk_at "sz"))
  | with_reducible refine s_for (fun _ _ => ?_) | with_reducible refine s_lc ?_ | with_reducible refine s_iList ?_ | with_reducible refine s_iTup ?_ | with_reducible refine s_iRng1 ?_ | with_reducible refine s_iRng2 ?_
  | with_reducible refine s_yes ?_ | with_reducible refine s_par ?_
  | with_reducible refine s_make ?_ | with_reducible refine s_meth ?_
  | with_reducible refine s_tup ?_ | with_reducible refine s_lst ?_ | with_reducible refine s_call ?_
  | with_reducible refine ⟨rfl, ?_⟩
  | with_reducible refine ⟨_, rfl, ?_⟩
  | ((with_reducible refine' ⟨_, _, rfl, ?sd1, ?_⟩); (case sd1 => walk_at "sd"))
  | with_reducible refine ⟨_, _, rfl, ?_⟩
  | with_reducible refine .inl ⟨_, rfl, ?_⟩
  | dsimp only [List.set]
  | walk_at "rdx"
  | (refine fun _ _ => ?_)))

namespace My
open PySem L2
section
variable {P : Program} {w : World} {K : PySem.W.Frag} {mg : Str → Option Value} {base : Heap} {C_Many T_LINES : Addr} (M : Md K mg C_Many T_LINES)
include M
omit M
def lineB (n a p : Int) (q : Option Int) (b r : Int) (s : Option Int) : Bool := if n = 0 then lin0 a p b s else if n = 1 then lin0 b r a q else if n = 2 then lin2 a p b else lin2 b r a
/-- sizes and numbers of partners as they are asked for -/
structure Szs (a p : Int) (q : Option Int) (b r : Int) (s : Option Int) : Prop where
  sa : Sm 250 a
  sb : Sm 250 b
  sp : Sm 70 p
  sq : ∀ x, q = some x → Sm 70 x
  sr : Sm 70 r
  ss : ∀ x, s = some x → Sm 70 x
  a0 : 0 ≤ a
  b0 : 0 ≤ b
def spLine (C : Addr) : Sp := fun vs H Q _ => ∃ (n a : Int) (x : Addr) (b : Int) (y : Addr) (p : Int) (q : Option Int) (r : Int) (s : Option Int), vs = [.int n, .int a, .ref x, .int b, .ref y] ∧ ManyAt C H x p q ∧ ManyAt C H y r s ∧ Szs a p q b r s ∧ Q (.bl (lineB n a p q b r s)) H
def spWrong (C : Addr) : Sp := fun vs H Q _ => ∃ (a : Int) (x : Addr) (b : Int) (y : Addr) (p : Int) (q : Option Int) (r : Int) (s : Option Int), vs = [.int a, .ref x, .int b, .ref y] ∧ ManyAt C H x p q ∧ ManyAt C H y r s ∧ Szs a p q b r s ∧ (lines a p q b r s = true → Q .non H) ∧ (lines a p q b r s = false → ∀ n, Q (.int n) H)
theorem p_most {C a : Addr} {H : Hp} {lo : Int} {hi : Option Int} {Q : VK} {E : XK} (h : ManyAt C H a lo hi) (q : Q (optV hi) H) : ∃ a' dx fs, V.ref a = .ref a' ∧ H a' = some (.ins C dx fs) ∧ spMost C (.ref a' :: []) H Q E := by
  obtain ⟨dx, t, e⟩ := h
  exact ⟨a, dx, _, rfl, e, a, lo, hi, rfl, ⟨dx, t, e⟩, q⟩
theorem p_least {C a : Addr} {H : Hp} {lo : Int} {hi : Option Int} {Q : VK} {E : XK} (h : ManyAt C H a lo hi) (q : Q (.int lo) H) : ∃ a' dx fs, V.ref a = .ref a' ∧ H a' = some (.ins C dx fs) ∧ spLeast C (.ref a' :: []) H Q E := by
  obtain ⟨dx, t, e⟩ := h
  exact ⟨a, dx, _, rfl, e, a, lo, hi, rfl, ⟨dx, t, e⟩, q⟩
local macro_rules | `(tactic| walk_at "rdx") => `(tactic| first | with_reducible refine p_most (by assumption) ?_ | with_reducible refine p_least (by assumption) ?_)
include M
theorem c_is_line_true : Dn P w K mg base "is_line_true" 3 ["line", "near", "near_many", "far", "far_many"] [] (spLine C_Many) := by
  have c_Many_most := c_Many_most (P := P) (w := w) (base := base) M
  have c_Many_least := c_Many_least (P := P) (w := w) (base := base) M
  refine dnN M.f_is_line_true (fun F => ?_) (fun _ _ _ _ _ _ us hl => match us, hl with | [_, _, _, _, _], _ => rfl)
  refine fnG_body F sc_is_line_true (fun vs H Q E h => ?_) (fun cdv A outer s H vs Q E hr h => ?_)
  · obtain ⟨n, a, x, b, y, p, q, r, s, rfl, _⟩ := h
    rfl
  · obtain ⟨n, a, x, b, y, p, q, r, s, rfl, hx, hy, z, k⟩ := h
    have za := z.sa
    have zb := z.sb
    have zp := z.sp
    have zr := z.sr
    have m1 : CMulW a p := za.cmul zp
    have m2 : CMulW b r := zb.cmul zr
    have m3 : ∀ x, s = some x → CMulW b x := fun x e => zb.cmul (z.ss x e)
    have m4 : ∀ x, q = some x → CMulW a x := fun x e => za.cmul (z.sq x e)
    refine ⟨_, (pss_cons (ps_if (pt_cmpR op_eq (pv 0) pe_int (nomark _)) (pss_one (ps_ret (pe_or (pe_cmpR op_isN (pe_propD c_Many_most (pv 4) (hr.mono (by decide)) rfl) pe_non (nomark _)) (pe_one (pe_cmpR op_le (pe_op op_mulW (pv 1) (pe_propD c_Many_least (pv 2) (hr.mono (by decide)) rfl)) (pe_op op_mulW (pv 3) (pe_propD c_Many_most (pv 4) (hr.mono (by decide)) rfl)) (nomark _)))))) pss_nil) (pss_cons (ps_if (pt_cmpR op_eq (pv 0) pe_int (nomark _)) (pss_one (ps_ret (pe_or (pe_cmpR op_isN (pe_propD c_Many_most (pv 2) (hr.mono (by decide)) rfl) pe_non (nomark _)) (pe_one (pe_cmpR op_le (pe_op op_mulW (pv 3) (pe_propD c_Many_least (pv 4) (hr.mono (by decide)) rfl)) (pe_op op_mulW (pv 1) (pe_propD c_Many_most (pv 2) (hr.mono (by decide)) rfl)) (nomark _)))))) pss_nil) (pss_cons (ps_if (pt_cmpR op_eq (pv 0) pe_int (nomark _)) (pss_one (ps_ret (pe_or (pe_cmpR op_eq (pv 1) pe_int (nomark _)) (pe_one (pe_cmpR op_ge (pv 3) (pe_propD c_Many_least (pv 2) (hr.mono (by decide)) rfl) (nomark _)))))) pss_nil) (pss_one (ps_ret (pe_or (pe_cmpR op_eq (pv 3) pe_int (nomark _)) (pe_one (pe_cmpR op_ge (pv 1) (pe_propD c_Many_least (pv 4) (hr.mono (by decide)) rfl) (nomark _))))))))), ?_⟩
    refine st_eq (σ := [some _, some _, some _, some _, some _]) rfl ?_
    walk_at "rd"
    refine ite_d (fun e => ?_) (fun e0 => ?_)
    · cases e
      walk_at "rd"
      cases s with
      | none =>
        walk_at "rd"
        exact k
      | some s =>
        have := m3 _ rfl
        walk_at "rd"
        exact k
    walk_at "rd"
    refine ite_d (fun e => ?_) (fun e1 => ?_)
    · cases e
      walk_at "rd"
      cases q with
      | none =>
        walk_at "rd"
        exact k
      | some s =>
        have := m4 _ rfl
        walk_at "rd"
        exact k
    walk_at "rd"
    refine ite_d (fun e => ?_) (fun e2 => ?_)
    · cases e
      walk_at "rd"
      have k' : Q (V.bl (lin2 a p b)) H := k
      unfold lin2 at k'
      refine ite_d (fun e => ?_) (fun e => ?_)
      · rw [decide_eq_true e] at k'
        exact k'
      · rw [decide_eq_false e] at k'
        walk_at "rd"
        exact k'
    · walk_at "rd"
      have k' : Q (V.bl (lin2 b r a)) H := by
        unfold lineB at k
        rw [if_neg e0, if_neg e1, if_neg e2] at k
        exact k
      unfold lin2 at k'
      refine ite_d (fun e => ?_) (fun e => ?_)
      · rw [decide_eq_true e] at k'
        exact k'
      · rw [decide_eq_false e] at k'
        walk_at "rd"
        exact k'
omit M in
theorem lines_of {a p : Int} {q : Option Int} {b r : Int} {s : Option Int} (h0 : lineB 0 a p q b r s = true) (h1 : lineB 1 a p q b r s = true) (h2 : lineB 2 a p q b r s = true) (h3 : lineB 3 a p q b r s = true) : lines a p q b r s = true := by
  have e0 : lin0 a p b s = true := h0
  have e1 : lin0 b r a q = true := h1
  have e2 : lin2 a p b = true := h2
  have e3 : lin2 b r a = true := h3
  unfold lines
  rw [e0, e1, e2, e3]
  rfl
omit M in
theorem lineB_of {a p : Int} {q : Option Int} {b r : Int} {s : Option Int} (h : lines a p q b r s = true) (i : Nat) (hi : i < 4) : lineB i a p q b r s = true := by
  unfold lines at h
  simp only [Bool.and_eq_true] at h
  match i, hi with
  | 0, _ => exact h.1.1.1
  | 1, _ => exact h.1.1.2
  | 2, _ => exact h.1.2
  | 3, _ => exact h.2
omit M in
theorem xs4 {x : V} {i : Nat} (h : [V.int 0, V.int 1, V.int 2, V.int 3][i]? = some x) : x = .int i := by
  match i, h with
  | 0, h => exact (Option.some.inj h).symm
  | 1, h => exact (Option.some.inj h).symm
  | 2, h => exact (Option.some.inj h).symm
  | 3, h => exact (Option.some.inj h).symm
  | n + 4, h => cases h
theorem c_wrong_line : Dn P w K mg base "wrong_line" 4 ["near", "near_many", "far", "far_many"] [] (spWrong C_Many) := by
  have c_is_line_true := c_is_line_true (P := P) (w := w) (base := base) M
  refine dnN M.f_wrong_line (fun F => ?_) (fun _ _ _ _ _ _ us hl => match us, hl with | [_, _, _, _], _ => rfl)
  refine fnG_body F sc_wrong_line (fun vs H Q E h => ?_) (fun cdv A outer s H vs Q E hr h => ?_)
  · obtain ⟨a, x, b, y, p, q, r, s, rfl, _⟩ := h
    rfl
  · obtain ⟨a, x, b, y, p, q, r, s, rfl, hx, hy, z, k0, k1⟩ := h
    refine ⟨_, (pss_cons (ps_for (passes_of rfl) rfl (pi_tup (pe_glob (v := .ref T_LINES) rfl M.g_LINES rfl)) (pg_name (i := 4) sc_wrong_line.nd rfl (.inl rfl)) (pss_one (ps_if (pt_not (pt_val (pe_callD c_is_line_true (hr.mono (by decide)) rfl (pa_cons (pv 4) (pa_cons (pv 0) (pa_cons (pv 1) (pa_cons (pv 2) (pa_cons (pv 3) pa_nil)))))))) (pss_one (ps_ret (pv 4))) pss_nil))) (pss_one (ps_ret pe_non))), ?_⟩
    refine st_eq (σ := [some _, some _, some _, some _, none]) rfl ?_
    walk_at "rd"
    refine ⟨⟨_, M.q_LINES _⟩, for_tup (K := K) (a := T_LINES) (xs := [.int 0, .int 1, .int 2, .int 3]) (fun i σ H' => H' = H ∧ (∃ v, σ = [some (.int a), some (.ref x), some (.int b), some (.ref y), v]) ∧ ∀ j : Nat, j < i → lineB j a p q b r s = true) ?_ ?_ ?_ ?_⟩
    · exact ⟨rfl, ⟨_, rfl⟩, fun j h => absurd h (Nat.not_lt_zero _)⟩
    · intro i σ H' _ _
      exact M.q_LINES _
    · subst_vars
      rintro i v σ H' hi ⟨rfl, ⟨u, rfl⟩, hj⟩
      have e := xs4 hi
      subst e
      walk_at "rd"
      refine ⟨_, a, x, b, y, p, q, r, s, rfl, hx, hy, z, ?_⟩
      walk_at "rd"
      refine ite_nb (fun e => ?_) (fun e => ?_)
      · walk_at "rd"
        refine k1 ?_ _
        have hi4 : i < 4 := (List.getElem?_eq_some_iff.mp hi).1
        cases el : lines a p q b r s with
        | false => rfl
        | true =>
          have := lineB_of el i hi4
          rw [e] at this
          cases this
      · walk_at "rd"
        refine ⟨⟨_, rfl⟩, fun j hj' => ?_⟩
        rcases Nat.lt_succ_iff_lt_or_eq.mp hj' with h | h
        · exact hj j h
        · rw [h]
          exact e
    · subst_vars
      rintro σ H' ⟨rfl, ⟨u, rfl⟩, hj⟩
      walk_at "rd"
      exact k0 (lines_of (hj 0 (by decide)) (hj 1 (by decide)) (hj 2 (by decide)) (hj 3 (by decide)))
end
end My

open My L2 PySem
open My L2 PySem
local macro_rules | `(tactic| walk_at "as") => `(tactic| with_reducible assumption)
local macro_rules | `(tactic| walk_at "hp") => `(tactic| first
  | walk_at "as" | exact upd_same
  | (rw [upd_ne (by walk_at "ne")]; walk_at "hp")
  | (refine But.get (by walk_at "as") ?hp1 ?hp2; (case hp1 => walk_at "hp"); (case hp2 => walk_at "ne"))
  | (refine My.Same.get (by walk_at "as") ?hp1; (case hp1 => walk_at "hp")))
local macro_rules | `(tactic| walk_at "ne") => `(tactic| first
  | walk_at "as" | exact Ne.symm (by walk_at "as")
  | (refine' ne_of_none ?ne1 ?ne2; (case ne2 => walk_at "as"); (case ne1 => walk_at "hp"))
  | (refine' Ne.symm (ne_of_none ?ne1 ?ne2); (case ne2 => walk_at "as"); (case ne1 => walk_at "hp"))
  | exact ne_of (by walk_at "hp") (by walk_at "hp") (by intro z; cases z))
local macro_rules | `(tactic| walk_at "sd") => `(tactic| first
  | walk_at "as" | omega | decide | exact ⟨by omega, by omega⟩ | exact .inl ⟨by omega, by omega⟩ | exact .inr ⟨by omega, by omega⟩ | exact divp_wide (by walk_at "as") (by walk_at "as") | exact Sm.cmul (by walk_at "as") (by walk_at "as") | exact cmul_small (by omega) (by omega) (by omega) (by omega) | exact ⟨by omega, by decide⟩)
local macro_rules | `(tactic| walk_at "bt") => `(tactic| first
  | walk_at "as" | exact But.refl _ _ | exact Same.but (by walk_at "as")
  | (refine But.trans ?bt1 But.at; (case bt1 => walk_at "bt"))
  | (refine But.trans ?bt1 (But.new (by first | walk_at "as" | walk_at "hp")); (case bt1 => walk_at "bt"))
  | (refine But.trans ?bt1 (by walk_at "as"); (case bt1 => walk_at "bt"))
  | (refine But.trans ?bt1 (Same.but (by walk_at "as")); (case bt1 => walk_at "bt")))
local macro_rules | `(tactic| walk_at "sm") => `(tactic| first
  | walk_at "as" | exact My.Same.rfl' _
  | (refine' My.Same.at_ ?sm1 ?sm2; (case sm1 => walk_at "as"); (case sm2 => walk_at "sm"))
  | (refine' My.Same.tr ?sm1 (My.Same.new ?sm2); (case sm2 => walk_at "as"); (case sm1 => walk_at "sm"))
  | (refine' My.Same.tr ?sm1 ?sm2; (case sm2 => walk_at "as"); (case sm1 => walk_at "sm")))
local macro_rules | `(tactic| walk_at "sz") => `(tactic| first
  | assumption | exact lt_size (by rfl) | exact le_size (by rfl) | (rw [sizeLine_eq]; omega)
  | (rw [sizeLine_eq]; simp only [List.length_append, List.length_map, List.length_cons, List.length_nil]; omega))
local macro_rules | `(tactic| walk_at "few") => `(tactic| (repeat refine few_put ?_); exact few0)
local macro_rules | `(tactic| walk_at "rd1") => `(tactic| first
  | (with_reducible show tVar _ _ _ _); refine s_var rfl ?_
  | with_reducible refine s_c ?_ | with_reducible refine s_op ?_ | with_reducible refine s_un ?_
  | with_reducible refine s_cons ?_ | with_reducible refine s_nil ?_ | with_reducible refine s_cb ?_
  | with_reducible refine s_test ?_ | with_reducible refine s_B ?_ | with_reducible refine s_not ?_ | with_reducible refine s_and ?_ | with_reducible refine s_or ?_
  | with_reducible refine s_if ?_ | with_reducible refine s_notV ?_ | with_reducible refine s_andV ?_ | with_reducible refine s_orV ?_
  | with_reducible refine s_orT ?_ | with_reducible refine s_andT ?_ | with_reducible refine s_chain ?_
  | with_reducible refine s_isi_int ?_ | with_reducible refine s_isi_int_bool ?_ | with_reducible refine s_isi_str ?_
  | with_reducible refine iteT ?_ | with_reducible refine iteF ?_ | with_reducible refine iteNT ?_ | with_reducible refine iteNF ?_
  | with_reducible refine s_isN ?_ | with_reducible refine s_notN ?_
  | ((with_reducible refine' s_2setE ?g1 ?_); (case g1 => first | (dsimp only [List.set, L2.wipe, List.map, List.foldl]; done) | (dsimp only [List.set, L2.wipe, List.map, List.foldl]; rfl)))
  | with_reducible refine s_seq ?_ | with_reducible refine s_ifS ?_ | with_reducible refine s_asg ?_ | with_reducible refine s_ret ?_ | with_reducible refine s_drop ?_ | with_reducible refine s_next ?_
  | ((with_reducible refine' s_gnameE ?g1 ?_); (case g1 => first | (dsimp only [List.set, L2.wipe, List.map, List.foldl]; done) | (dsimp only [List.set, L2.wipe, List.map, List.foldl]; rfl)))
  | with_reducible refine s_gsub ?_ | with_reducible refine s_gcons ?_ | with_reducible refine s_gnil ?_
  | (with_reducible show gTup _ _ _ _ _ _ _); refine s_gtup (by walk_at "hp") rfl ?_
  | with_reducible refine s_eqI ?_ | with_reducible refine s_neI ?_ | with_reducible refine s_eqS ?_ | with_reducible refine s_neB ?_ | with_reducible refine s_eqB ?_ | with_reducible refine s_neSr ?_ | with_reducible refine s_neS ?_
  | with_reducible refine s_I0 ?_
  | (with_reducible show rI _ _ _ _ _ _); refine s_I (by walk_at "sd") ?_
  | (with_reducible show rIxL _ _ _ _ _); refine s_ixL (by walk_at "hp") rfl ?_
  | (with_reducible show rIxT _ _ _ _ _); refine s_ixT (by walk_at "hp") rfl ?_
  | (with_reducible show rSetL _ _ _ _ _); refine s_setL (by walk_at "hp") rfl ?_
  | with_reducible refine s_prop ?_
  | (with_reducible show _ ≤ sizeLine ∧ _); refine ⟨le_size (by rfl), ?_⟩
  | with_reducible refine ite_NN ?_ | with_reducible refine ite_IN ?_ | with_reducible refine ite_nNN ?_ | with_reducible refine ite_nIN ?_ | with_reducible refine ite_RN ?_ | with_reducible refine ite_nRN ?_
  | with_reducible refine s_sfld ?_
  | ((with_reducible refine' ⟨_, _, _, _, rfl, ?fp1, ?fp2, ?fp3, ?fp4, ?_⟩); (case fp1 => walk_at "hp"); (case fp2 => assumption); (case fp3 => assumption); (case fp4 => walk_at "few"))
  | with_reducible refine s_fldE ?_
  | ((with_reducible refine' ⟨_, _, _, _, _, rfl, ?fp1, ?fp2, ?fp3, ?fp4, ?_⟩); (case fp1 => walk_at "hp"); (case fp2 => assumption); (case fp3 => assumption); (case fp4 => rfl))
  | with_reducible refine s_bm ?_ | with_reducible refine s_bm0 ?_
  | ((with_reducible refine' s_tyL ?ty1 ?_); (case ty1 => walk_at "hp"))
  | ((with_reducible refine' s_append ?ap1 ?ap2 ?_); (case ap1 => walk_at "hp"); (case ap2 => walk_at "sz"))
  | ((with_reducible refine' s_extend ?ap1 ?ap2 ?ap3 ?_); (case ap1 => walk_at "hp"); (case ap2 => walk_at "hp"); (case ap3 => walk_at "sz"))
  | with_reducible refine s_for (fun _ _ => ?_) | with_reducible refine s_lc ?_ | with_reducible refine s_iList ?_ | with_reducible refine s_iTup ?_ | with_reducible refine s_iRng1 ?_ | with_reducible refine s_iRng2 ?_
  | with_reducible refine s_yes ?_ | with_reducible refine s_par ?_
  | with_reducible refine s_make ?_ | with_reducible refine s_meth ?_
  | with_reducible refine s_tup ?_ | with_reducible refine s_lst ?_ | with_reducible refine s_call ?_
  | with_reducible refine ⟨rfl, ?_⟩
  | with_reducible refine ⟨_, rfl, ?_⟩
  | ((with_reducible refine' ⟨_, _, rfl, ?sd1, ?_⟩); (case sd1 => walk_at "sd"))
  | with_reducible refine ⟨_, _, rfl, ?_⟩
  | with_reducible refine .inl ⟨_, rfl, ?_⟩
  | dsimp only [List.set]
  | walk_at "rdx"
  | (refine fun _ _ => ?_))
local macro_rules | `(tactic| walk_at "rd") => `(tactic| repeat (first
  | (with_reducible show tVar _ _ _ _); refine s_var rfl ?_
  | with_reducible refine s_c ?_ | with_reducible refine s_op ?_ | with_reducible refine s_un ?_
  | with_reducible refine s_cons ?_ | with_reducible refine s_nil ?_ | with_reducible refine s_cb ?_
  | with_reducible refine s_test ?_ | with_reducible refine s_B ?_ | with_reducible refine s_not ?_ | with_reducible refine s_and ?_ | with_reducible refine s_or ?_
  | with_reducible refine s_if ?_ | with_reducible refine s_notV ?_ | with_reducible refine s_andV ?_ | with_reducible refine s_orV ?_
  | with_reducible refine s_orT ?_ | with_reducible refine s_andT ?_ | with_reducible refine s_chain ?_
  | with_reducible refine s_isi_int ?_ | with_reducible refine s_isi_int_bool ?_ | with_reducible refine s_isi_str ?_
  | with_reducible refine iteT ?_ | with_reducible refine iteF ?_ | with_reducible refine iteNT ?_ | with_reducible refine iteNF ?_
  | with_reducible refine s_isN ?_ | with_reducible refine s_notN ?_
  | ((with_reducible refine' s_2setE ?g1 ?_); (case g1 => first | (dsimp only [List.set, L2.wipe, List.map, List.foldl]; done) | (dsimp only [List.set, L2.wipe, List.map, List.foldl]; rfl)))
  | with_reducible refine s_seq ?_ | with_reducible refine s_ifS ?_ | with_reducible refine s_asg ?_ | with_reducible refine s_ret ?_ | with_reducible refine s_drop ?_ | with_reducible refine s_next ?_
  | ((with_reducible refine' s_gnameE ?g1 ?_); (case g1 => first | (dsimp only [List.set, L2.wipe, List.map, List.foldl]; done) | (dsimp only [List.set, L2.wipe, List.map, List.foldl]; rfl)))
  | with_reducible refine s_gsub ?_ | with_reducible refine s_gcons ?_ | with_reducible refine s_gnil ?_
  | (with_reducible show gTup _ _ _ _ _ _ _); refine s_gtup (by walk_at "hp") rfl ?_
  | with_reducible refine s_eqI ?_ | with_reducible refine s_neI ?_ | with_reducible refine s_eqS ?_ | with_reducible refine s_neB ?_ | with_reducible refine s_eqB ?_ | with_reducible refine s_neSr ?_ | with_reducible refine s_neS ?_
  | with_reducible refine s_I0 ?_
  | (with_reducible show rI _ _ _ _ _ _); refine s_I (by walk_at "sd") ?_
  | (with_reducible show rIxL _ _ _ _ _); refine s_ixL (by walk_at "hp") rfl ?_
  | (with_reducible show rIxT _ _ _ _ _); refine s_ixT (by walk_at "hp") rfl ?_
  | (with_reducible show rSetL _ _ _ _ _); refine s_setL (by walk_at "hp") rfl ?_
  | with_reducible refine s_prop ?_
  | (with_reducible show _ ≤ sizeLine ∧ _); refine ⟨le_size (by rfl), ?_⟩
  | with_reducible refine ite_NN ?_ | with_reducible refine ite_IN ?_ | with_reducible refine ite_nNN ?_ | with_reducible refine ite_nIN ?_ | with_reducible refine ite_RN ?_ | with_reducible refine ite_nRN ?_
  | with_reducible refine s_sfld ?_
  | ((with_reducible refine' ⟨_, _, _, _, rfl, ?fp1, ?fp2, ?fp3, ?fp4, ?_⟩); (case fp1 => walk_at "hp"); (case fp2 => assumption); (case fp3 => assumption); (case fp4 => walk_at "few"))
  | with_reducible refine s_fldE ?_
  | ((with_reducible refine' ⟨_, _, _, _, _, rfl, ?fp1, ?fp2, ?fp3, ?fp4, ?_⟩); (case fp1 => walk_at "hp"); (case fp2 => assumption); (case fp3 => assumption); (case fp4 => rfl))
  | with_reducible refine s_bm ?_ | with_reducible refine s_bm0 ?_
  | ((with_reducible refine' s_tyL ?ty1 ?_); (case ty1 => walk_at "hp"))
  | ((with_reducible refine' s_append ?ap1 ?ap2 ?_); (case ap1 => walk_at "hp"); (case ap2 => walk_at "sz"))
  | ((with_reducible refine' s_extend ?ap1 ?ap2 ?ap3 ?_); (case ap1 => walk_at "hp"); (case ap2 => walk_at "hp"); (case ap3 => walk_at "sz"))
  | with_reducible refine s_for (fun _ _ => ?_) | with_reducible refine s_lc ?_ | with_reducible refine s_iList ?_ | with_reducible refine s_iTup ?_ | with_reducible refine s_iRng1 ?_ | with_reducible refine s_iRng2 ?_
  | with_reducible refine s_yes ?_ | with_reducible refine s_par ?_
  | with_reducible refine s_make ?_ | with_reducible refine s_meth ?_
  | with_reducible refine s_tup ?_ | with_reducible refine s_lst ?_ | with_reducible refine s_call ?_
  | with_reducible refine ⟨rfl, ?_⟩
  | with_reducible refine ⟨_, rfl, ?_⟩
  | ((with_reducible refine' ⟨_, _, rfl, ?sd1, ?_⟩); (case sd1 => walk_at "sd"))
  | with_reducible refine ⟨_, _, rfl, ?_⟩
  | with_reducible refine .inl ⟨_, rfl, ?_⟩
  | dsimp only [List.set]
  | walk_at "rdx"
  | (refine fun _ _ => ?_)))

namespace My
open PySem L2
section
variable {P : Program} {w : World} {K : PySem.W.Frag} {mg : Str → Option Value} {base : Heap} {C_Many T_LINES : Addr} (M : Md K mg C_Many T_LINES)
include M
omit M
def TotV (H : Hp) (v : V) : Option (Int × Int) → Prop
  | none => v = .non
  | some x => ∃ T : Addr, v = .ref T ∧ H T = some (.tup [.int x.1, .int x.2])
def spTot (C : Addr) : Sp := fun vs H Q _ => ∃ (a : Int) (x : Addr) (b : Int) (y : Addr) (p : Int) (q : Option Int) (r : Int) (s : Option Int), vs = [.int a, .ref x, .int b, .ref y] ∧ ManyAt C H x p q ∧ ManyAt C H y r s ∧ Szs a p q b r s ∧
  ∀ t v H', Tot a p q b r s t → Same H H' → TotV H' v t → Q v H'
theorem q_most {C a dx : Addr} {t : V} {H : Hp} {lo : Int} {hi : Option Int} {Q : VK} {E : XK} (e : H a = some (.ins C dx [("_least", .int lo), ("_most", optV hi), ("_key", t)])) (q : Q (optV hi) H) : ∃ a' dx fs, V.ref a = .ref a' ∧ H a' = some (.ins C dx fs) ∧ spMost C (.ref a' :: []) H Q E :=
  p_most ⟨dx, t, e⟩ q
theorem q_least {C a dx : Addr} {t : V} {H : Hp} {lo : Int} {hi : Option Int} {Q : VK} {E : XK} (e : H a = some (.ins C dx [("_least", .int lo), ("_most", optV hi), ("_key", t)])) (q : Q (.int lo) H) : ∃ a' dx fs, V.ref a = .ref a' ∧ H a' = some (.ins C dx fs) ∧ spLeast C (.ref a' :: []) H Q E :=
  p_least ⟨dx, t, e⟩ q
local macro_rules | `(tactic| walk_at "rdx") => `(tactic| first
  | ((with_reducible refine' q_most ?x1 ?_); (case x1 => walk_at "hp"))
  | ((with_reducible refine' q_least ?x1 ?_); (case x1 => walk_at "hp"))
  | (with_reducible show spChkC _ _ _ _); refine ⟨_, rfl, by assumption, ?_⟩
  | (with_reducible show spChkM _ _ _ _ _); refine ⟨_, _, _, rfl, by assumption, ?_⟩)
include M
theorem c_totals : Dn P w K mg base "totals" 5 ["near", "near_many", "far", "far_many"] [] (spTot C_Many) := by
  have c_wrong_line := c_wrong_line (P := P) (w := w) (base := base) M
  have c_check_count := c_check_count (P := P) (w := w) (base := base) M
  have c__check_many := c__check_many (P := P) (w := w) (base := base) M
  have c_Many_most := c_Many_most (P := P) (w := w) (base := base) M
  have c_Many_least := c_Many_least (P := P) (w := w) (base := base) M
  refine dnN M.f_totals (fun F => ?_) (fun _ _ _ _ _ _ us hl => match us, hl with | [_, _, _, _], _ => rfl)
  refine fnG_body F sc_totals (fun vs H Q E h => ?_) (fun cdv A outer s H vs Q E hr h => ?_)
  · obtain ⟨a, x, b, y, p, q, r, s, rfl, _⟩ := h
    rfl
  · obtain ⟨a, x, b, y, p, q, r, s, rfl, hx, hy, z, k⟩ := h
    have za := z.sa
    have zb := z.sb
    have zp := z.sp
    have zr := z.sr
    have a0 := z.a0
    have b0 := z.b0
    have m1 : CMulW a p := za.cmul zp
    have m2 : CMulW b r := zb.cmul zr
    have m5 : CMulW a b := za.cmul zb
    have m3 : ∀ x, s = some x → CMulW b x := fun x e => zb.cmul (z.ss x e)
    have m4 : ∀ x, q = some x → CMulW a x := fun x e => za.cmul (z.sq x e)
    refine ⟨_, (pss_cons (ps_expr (pe_callD c_check_count (hr.mono (by decide)) rfl (pa_cons (pv 0) pa_nil))) (pss_cons (ps_expr (pe_callD c__check_many (hr.mono (by decide)) rfl (pa_cons (pv 1) pa_nil))) (pss_cons (ps_expr (pe_callD c_check_count (hr.mono (by decide)) rfl (pa_cons (pv 2) pa_nil))) (pss_cons (ps_expr (pe_callD c__check_many (hr.mono (by decide)) rfl (pa_cons (pv 3) pa_nil))) (pss_cons (ps_if (pt_cmpR op_notN (pe_callD c_wrong_line (hr.mono (by decide)) rfl (pa_cons (pv 0) (pa_cons (pv 1) (pa_cons (pv 2) (pa_cons (pv 3) pa_nil))))) pe_non (nomark _)) (pss_one (ps_ret pe_non)) pss_nil) (pss_cons (ps_set (i := 4) sc_totals.nd rfl (.inl rfl) (pe_callB (call_max2 rfl) (by rfl) M.b_max (by decide +kernel) (pa_cons (pe_op op_mulW (pv 0) (pe_propD c_Many_least (pv 1) (hr.mono (by decide)) rfl)) (pa_cons (pe_op op_mulW (pv 2) (pe_propD c_Many_least (pv 3) (hr.mono (by decide)) rfl)) pa_nil)))) (pss_cons (ps_set (i := 5) sc_totals.nd rfl (.inl rfl) (pe_lst (pa_cons (pe_op op_mulW (pv 0) (pv 2)) pa_nil))) (pss_cons (ps_if (pt_cmpR op_notN (pe_propD c_Many_most (pv 1) (hr.mono (by decide)) rfl) pe_non (nomark _)) (pss_one (ps_expr (pe_bm PySem.F.plainAttrs_list PySem.F.slot_list_append PySem.F.type_list_append mt_append (pv 5) (pa_cons (pe_op op_mulW (pv 0) (pe_propD c_Many_most (pv 1) (hr.mono (by decide)) rfl)) pa_nil)))) pss_nil) (pss_cons (ps_if (pt_cmpR op_notN (pe_propD c_Many_most (pv 3) (hr.mono (by decide)) rfl) pe_non (nomark _)) (pss_one (ps_expr (pe_bm PySem.F.plainAttrs_list PySem.F.slot_list_append PySem.F.type_list_append mt_append (pv 5) (pa_cons (pe_op op_mulW (pv 2) (pe_propD c_Many_most (pv 3) (hr.mono (by decide)) rfl)) pa_nil)))) pss_nil) (pss_one (ps_ret (pe_tup (pa_cons (pv 4) (pa_cons (pe_callB (cr_min rfl) (by rfl) M.b_min (by decide +kernel) (pa_cons (pv 5) pa_nil)) pa_nil)))))))))))))), ?_⟩
    refine st_eq (σ := [some _, some _, some _, some _, none, none]) rfl ?_
    walk_at "rd"
    refine ⟨a, x, b, y, p, q, r, s, rfl, hx, hy, z, fun e => ?_, fun e n => ?_⟩
    · obtain ⟨dx, tx, ex⟩ := id hx
      obtain ⟨dy, ty, ey⟩ := id hy
      cases q with
      | none =>
        cases s with
        | none =>
          walk_at "rd"
          refine ⟨_, [a * b], rfl, SqL.of (by walk_at "hp"), by simp, fun m hm hle => ?_⟩
          walk_at "rd"
          exact k (some (lowB a p b r, m)) (.ref _) _ ⟨e, rfl, hm, hle⟩ (by walk_at "sm") ⟨_, rfl, upd_same⟩
        | some s =>
          have m3' := m3 s rfl
          walk_at "rd"
          refine ⟨_, [a * b, b * s], rfl, SqL.of (by walk_at "hp"), by simp, fun m hm hle => ?_⟩
          walk_at "rd"
          exact k (some (lowB a p b r, m)) (.ref _) _ ⟨e, rfl, hm, hle⟩ (by walk_at "sm") ⟨_, rfl, upd_same⟩
      | some q =>
        have m4' := m4 q rfl
        cases s with
        | none =>
          walk_at "rd"
          refine ⟨_, [a * b, a * q], rfl, SqL.of (by walk_at "hp"), by simp, fun m hm hle => ?_⟩
          walk_at "rd"
          exact k (some (lowB a p b r, m)) (.ref _) _ ⟨e, rfl, hm, hle⟩ (by walk_at "sm") ⟨_, rfl, upd_same⟩
        | some s =>
          have m3' := m3 s rfl
          walk_at "rd"
          refine ⟨_, [a * b, a * q, b * s], rfl, SqL.of (by walk_at "hp"), by simp, fun m hm hle => ?_⟩
          walk_at "rd"
          exact k (some (lowB a p b r, m)) (.ref _) _ ⟨e, rfl, hm, hle⟩ (by walk_at "sm") ⟨_, rfl, upd_same⟩
    · walk_at "rd"
      exact k none .non H e (My.Same.rfl' H) rfl
end
end My

open My L2 PySem
open My L2 PySem
local macro_rules | `(tactic| walk_at "as") => `(tactic| with_reducible assumption)
local macro_rules | `(tactic| walk_at "hp") => `(tactic| first
  | walk_at "as" | exact upd_same
  | (rw [upd_ne (by walk_at "ne")]; walk_at "hp")
  | (refine But.get (by walk_at "as") ?hp1 ?hp2; (case hp1 => walk_at "hp"); (case hp2 => walk_at "ne"))
  | (refine My.Same.get (by walk_at "as") ?hp1; (case hp1 => walk_at "hp")))
local macro_rules | `(tactic| walk_at "ne") => `(tactic| first
  | walk_at "as" | exact Ne.symm (by walk_at "as")
  | (refine' ne_of_none ?ne1 ?ne2; (case ne2 => walk_at "as"); (case ne1 => walk_at "hp"))
  | (refine' Ne.symm (ne_of_none ?ne1 ?ne2); (case ne2 => walk_at "as"); (case ne1 => walk_at "hp"))
  | exact ne_of (by walk_at "hp") (by walk_at "hp") (by intro z; cases z))
local macro_rules | `(tactic| walk_at "sd") => `(tactic| first
  | walk_at "as" | omega | decide | exact ⟨by omega, by omega⟩ | exact .inl ⟨by omega, by omega⟩ | exact .inr ⟨by omega, by omega⟩ | exact divp_wide (by walk_at "as") (by walk_at "as") | exact Sm.cmul (by walk_at "as") (by walk_at "as") | exact cmul_small (by omega) (by omega) (by omega) (by omega) | exact ⟨by omega, by decide⟩)
local macro_rules | `(tactic| walk_at "bt") => `(tactic| first
  | walk_at "as" | exact But.refl _ _ | exact Same.but (by walk_at "as")
  | (refine But.trans ?bt1 But.at; (case bt1 => walk_at "bt"))
  | (refine But.trans ?bt1 (But.new (by first | walk_at "as" | walk_at "hp")); (case bt1 => walk_at "bt"))
  | (refine But.trans ?bt1 (by walk_at "as"); (case bt1 => walk_at "bt"))
  | (refine But.trans ?bt1 (Same.but (by walk_at "as")); (case bt1 => walk_at "bt")))
local macro_rules | `(tactic| walk_at "sm") => `(tactic| first
  | walk_at "as" | exact My.Same.rfl' _
  | (refine' My.Same.at_ ?sm1 ?sm2; (case sm1 => walk_at "as"); (case sm2 => walk_at "sm"))
  | (refine' My.Same.tr ?sm1 (My.Same.new ?sm2); (case sm2 => walk_at "as"); (case sm1 => walk_at "sm"))
  | (refine' My.Same.tr ?sm1 ?sm2; (case sm2 => walk_at "as"); (case sm1 => walk_at "sm")))
local macro_rules | `(tactic| walk_at "sz") => `(tactic| first
  | assumption | exact lt_size (by rfl) | exact le_size (by rfl) | (rw [sizeLine_eq]; omega)
  | (rw [sizeLine_eq]; simp only [List.length_append, List.length_map, List.length_cons, List.length_nil]; omega))
local macro_rules | `(tactic| walk_at "few") => `(tactic| (repeat refine few_put ?_); exact few0)
local macro_rules | `(tactic| walk_at "rd1") => `(tactic| first
  | (with_reducible show tVar _ _ _ _); refine s_var rfl ?_
  | with_reducible refine s_c ?_ | with_reducible refine s_op ?_ | with_reducible refine s_un ?_
  | with_reducible refine s_cons ?_ | with_reducible refine s_nil ?_ | with_reducible refine s_cb ?_
  | with_reducible refine s_test ?_ | with_reducible refine s_B ?_ | with_reducible refine s_not ?_ | with_reducible refine s_and ?_ | with_reducible refine s_or ?_
  | with_reducible refine s_if ?_ | with_reducible refine s_notV ?_ | with_reducible refine s_andV ?_ | with_reducible refine s_orV ?_
  | with_reducible refine s_orT ?_ | with_reducible refine s_andT ?_ | with_reducible refine s_chain ?_
  | with_reducible refine s_isi_int ?_ | with_reducible refine s_isi_int_bool ?_ | with_reducible refine s_isi_str ?_
  | with_reducible refine iteT ?_ | with_reducible refine iteF ?_ | with_reducible refine iteNT ?_ | with_reducible refine iteNF ?_
  | with_reducible refine s_isN ?_ | with_reducible refine s_notN ?_
  | ((with_reducible refine' s_2setE ?g1 ?_); (case g1 => first | (dsimp only [List.set, L2.wipe, List.map, List.foldl]; done) | (dsimp only [List.set, L2.wipe, List.map, List.foldl]; rfl)))
  | with_reducible refine s_seq ?_ | with_reducible refine s_ifS ?_ | with_reducible refine s_asg ?_ | with_reducible refine s_ret ?_ | with_reducible refine s_drop ?_ | with_reducible refine s_next ?_
  | ((with_reducible refine' s_gnameE ?g1 ?_); (case g1 => first | (dsimp only [List.set, L2.wipe, List.map, List.foldl]; done) | (dsimp only [List.set, L2.wipe, List.map, List.foldl]; rfl)))
  | with_reducible refine s_gsub ?_ | with_reducible refine s_gcons ?_ | with_reducible refine s_gnil ?_
  | (with_reducible show gTup _ _ _ _ _ _ _); refine s_gtup (by walk_at "hp") rfl ?_
  | with_reducible refine s_eqI ?_ | with_reducible refine s_neI ?_ | with_reducible refine s_eqS ?_ | with_reducible refine s_neB ?_ | with_reducible refine s_eqB ?_ | with_reducible refine s_neSr ?_ | with_reducible refine s_neS ?_
  | with_reducible refine s_I0 ?_
  | (with_reducible show rI _ _ _ _ _ _); refine s_I (by walk_at "sd") ?_
  | (with_reducible show rIxL _ _ _ _ _); refine s_ixL (by walk_at "hp") rfl ?_
  | (with_reducible show rIxT _ _ _ _ _); refine s_ixT (by walk_at "hp") rfl ?_
  | (with_reducible show rSetL _ _ _ _ _); refine s_setL (by walk_at "hp") rfl ?_
  | with_reducible refine s_prop ?_
  | (with_reducible show _ ≤ sizeLine ∧ _); refine ⟨le_size (by rfl), ?_⟩
  | with_reducible refine ite_NN ?_ | with_reducible refine ite_IN ?_ | with_reducible refine ite_nNN ?_ | with_reducible refine ite_nIN ?_ | with_reducible refine ite_RN ?_ | with_reducible refine ite_nRN ?_
  | with_reducible refine s_sfld ?_
  | ((with_reducible refine' ⟨_, _, _, _, rfl, ?fp1, ?fp2, ?fp3, ?fp4, ?_⟩); (case fp1 => walk_at "hp"); (case fp2 => assumption); (case fp3 => assumption); (case fp4 => walk_at "few"))
  | with_reducible refine s_fldE ?_
  | ((with_reducible refine' ⟨_, _, _, _, _, rfl, ?fp1, ?fp2, ?fp3, ?fp4, ?_⟩); (case fp1 => walk_at "hp"); (case fp2 => assumption); (case fp3 => assumption); (case fp4 => rfl))
  | with_reducible refine s_bm ?_ | with_reducible refine s_bm0 ?_
  | ((with_reducible refine' s_tyL ?ty1 ?_); (case ty1 => walk_at "hp"))
  | ((with_reducible refine' s_append ?ap1 ?ap2 ?_); (case ap1 => walk_at "hp"); (case ap2 => walk_at "sz"))
  | ((with_reducible refine' s_extend ?ap1 ?ap2 ?ap3 ?_); (case ap1 => walk_at "hp"); (case ap2 => walk_at "hp"); (case ap3 => walk_at "sz"))
  | with_reducible refine s_for (fun _ _ => ?_) | with_reducible refine s_lc ?_ | with_reducible refine s_iList ?_ | with_reducible refine s_iTup ?_ | with_reducible refine s_iRng1 ?_ | with_reducible refine s_iRng2 ?_
  | with_reducible refine s_yes ?_ | with_reducible refine s_par ?_
  | with_reducible refine s_make ?_ | with_reducible refine s_meth ?_
  | with_reducible refine s_tup ?_ | with_reducible refine s_lst ?_ | with_reducible refine s_call ?_
  | with_reducible refine ⟨rfl, ?_⟩
  | with_reducible refine ⟨_, rfl, ?_⟩
  | ((with_reducible refine' ⟨_, _, rfl, ?sd1, ?_⟩); (case sd1 => walk_at "sd"))
  | with_reducible refine ⟨_, _, rfl, ?_⟩
  | with_reducible refine .inl ⟨_, rfl, ?_⟩
  | dsimp only [List.set]
  | walk_at "rdx"
  | (refine fun _ _ => ?_))
local macro_rules | `(tactic| walk_at "rd") => `(tactic| repeat (first
  | (with_reducible show tVar _ _ _ _); refine s_var rfl ?_
  | with_reducible refine s_c ?_ | with_reducible refine s_op ?_ | with_reducible refine s_un ?_
  | with_reducible refine s_cons ?_ | with_reducible refine s_nil ?_ | with_reducible refine s_cb ?_
  | with_reducible refine s_test ?_ | with_reducible refine s_B ?_ | with_reducible refine s_not ?_ | with_reducible refine s_and ?_ | with_reducible refine s_or ?_
  | with_reducible refine s_if ?_ | with_reducible refine s_notV ?_ | with_reducible refine s_andV ?_ | with_reducible refine s_orV ?_
  | with_reducible refine s_orT ?_ | with_reducible refine s_andT ?_ | with_reducible refine s_chain ?_
  | with_reducible refine s_isi_int ?_ | with_reducible refine s_isi_int_bool ?_ | with_reducible refine s_isi_str ?_
  | with_reducible refine iteT ?_ | with_reducible refine iteF ?_ | with_reducible refine iteNT ?_ | with_reducible refine iteNF ?_
  | with_reducible refine s_isN ?_ | with_reducible refine s_notN ?_
  | ((with_reducible refine' s_2setE ?g1 ?_); (case g1 => first | (dsimp only [List.set, L2.wipe, List.map, List.foldl]; done) | (dsimp only [List.set, L2.wipe, List.map, List.foldl]; rfl)))
  | with_reducible refine s_seq ?_ | with_reducible refine s_ifS ?_ | with_reducible refine s_asg ?_ | with_reducible refine s_ret ?_ | with_reducible refine s_drop ?_ | with_reducible refine s_next ?_
  | ((with_reducible refine' s_gnameE ?g1 ?_); (case g1 => first | (dsimp only [List.set, L2.wipe, List.map, List.foldl]; done) | (dsimp only [List.set, L2.wipe, List.map, List.foldl]; rfl)))
  | with_reducible refine s_gsub ?_ | with_reducible refine s_gcons ?_ | with_reducible refine s_gnil ?_
  | (with_reducible show gTup _ _ _ _ _ _ _); refine s_gtup (by walk_at "hp") rfl ?_
  | with_reducible refine s_eqI ?_ | with_reducible refine s_neI ?_ | with_reducible refine s_eqS ?_ | with_reducible refine s_neB ?_ | with_reducible refine s_eqB ?_ | with_reducible refine s_neSr ?_ | with_reducible refine s_neS ?_
  | with_reducible refine s_I0 ?_
  | (with_reducible show rI _ _ _ _ _ _); refine s_I (by walk_at "sd") ?_
  | (with_reducible show rIxL _ _ _ _ _); refine s_ixL (by walk_at "hp") rfl ?_
  | (with_reducible show rIxT _ _ _ _ _); refine s_ixT (by walk_at "hp") rfl ?_
  | (with_reducible show rSetL _ _ _ _ _); refine s_setL (by walk_at "hp") rfl ?_
  | with_reducible refine s_prop ?_
  | (with_reducible show _ ≤ sizeLine ∧ _); refine ⟨le_size (by rfl), ?_⟩
  | with_reducible refine ite_NN ?_ | with_reducible refine ite_IN ?_ | with_reducible refine ite_nNN ?_ | with_reducible refine ite_nIN ?_ | with_reducible refine ite_RN ?_ | with_reducible refine ite_nRN ?_
  | with_reducible refine s_sfld ?_
  | ((with_reducible refine' ⟨_, _, _, _, rfl, ?fp1, ?fp2, ?fp3, ?fp4, ?_⟩); (case fp1 => walk_at "hp"); (case fp2 => assumption); (case fp3 => assumption); (case fp4 => walk_at "few"))
  | with_reducible refine s_fldE ?_
  | ((with_reducible refine' ⟨_, _, _, _, _, rfl, ?fp1, ?fp2, ?fp3, ?fp4, ?_⟩); (case fp1 => walk_at "hp"); (case fp2 => assumption); (case fp3 => assumption); (case fp4 => rfl))
  | with_reducible refine s_bm ?_ | with_reducible refine s_bm0 ?_
  | ((with_reducible refine' s_tyL ?ty1 ?_); (case ty1 => walk_at "hp"))
  | ((with_reducible refine' s_append ?ap1 ?ap2 ?_); (case ap1 => walk_at "hp"); (case ap2 => walk_at "sz"))
  | ((with_reducible refine' s_extend ?ap1 ?ap2 ?ap3 ?_); (case ap1 => walk_at "hp"); (case ap2 => walk_at "hp"); (case ap3 => walk_at "sz"))
  | with_reducible refine s_for (fun _ _ => ?_) | with_reducible refine s_lc ?_ | with_reducible refine s_iList ?_ | with_reducible refine s_iTup ?_ | with_reducible refine s_iRng1 ?_ | with_reducible refine s_iRng2 ?_
  | with_reducible refine s_yes ?_ | with_reducible refine s_par ?_
  | with_reducible refine s_make ?_ | with_reducible refine s_meth ?_
  | with_reducible refine s_tup ?_ | with_reducible refine s_lst ?_ | with_reducible refine s_call ?_
  | with_reducible refine ⟨rfl, ?_⟩
  | with_reducible refine ⟨_, rfl, ?_⟩
  | ((with_reducible refine' ⟨_, _, rfl, ?sd1, ?_⟩); (case sd1 => walk_at "sd"))
  | with_reducible refine ⟨_, _, rfl, ?_⟩
  | with_reducible refine .inl ⟨_, rfl, ?_⟩
  | dsimp only [List.set]
  | walk_at "rdx"
  | (refine fun _ _ => ?_)))

namespace My
open PySem L2
section
variable {P : Program} {w : World} {K : PySem.W.Frag} {mg : Str → Option Value} {base : Heap} {C_Many T_LINES : Addr} (M : Md K mg C_Many T_LINES)
include M
omit M
theorem Pot.up {H : Hp} {r p : Addr} {o : HO} (h : Pot H r) (n : H p = none) : Pot (upd H p o) r := by
  obtain ⟨x, y, e, h⟩ := h
  exact ⟨x, y, by rw [upd_ne (ne_of_none e n)]; exact e, h⟩
theorem Pot.ne {H : Hp} {r p : Addr} (h : Pot H r) (n : H p = none) : p ≠ r := by
  obtain ⟨x, y, e, h⟩ := h
  exact (ne_of_none e n).symm
def spPick : Sp := fun vs H Q _ => ∃ (r l : Addr) (xs : List V), vs = [.ref r, .ref l] ∧ H l = some (.lst xs) ∧ l ≠ r ∧ 0 < xs.length ∧ xs.length < 100000 ∧ Pot H r ∧ ∀ v H', v ∈ xs → But r H H' → Pot H' r → Q v H'
def spMade (C : Addr) : Sp := fun vs H Q _ => ∃ (t : Addr) (p : Int) (q : Option Int), vs = [.ref t] ∧ H t = some (.tup [.int p, optV q]) ∧ 0 ≤ p ∧ (∀ h, q = some h → p ≤ h) ∧ ∀ x H', Same H H' → ManyAt C H' x p q → Q (.ref x) H'
/-- a drawn Many's numbers -/
def Nums (p : Int) (q : Option Int) : Prop := 0 ≤ p ∧ p ≤ 10 ^ 18 ∧ ∀ h, q = some h → p ≤ h ∧ h ≤ 2 * 10 ^ 18
def spNums : Sp := fun vs H Q _ => ∃ r : Addr, vs = [.ref r] ∧ Pot H r ∧ ∀ (t : Addr) (p : Int) (q : Option Int) H', H' t = some (.tup [.int p, optV q]) → Nums p q → But r H H' → Pot H' r → Q (.ref t) H'
local macro_rules | `(tactic| walk_at "pot") => `(tactic| first | walk_at "as" | (refine' Pot.up ?pt1 ?pt2; (case pt2 => walk_at "as"); (case pt1 => walk_at "pot")))
include M
theorem c__law_pick : Dn P w K mg base "_law_pick" 2 ["_law_pot", "_law_some"] [] spPick := by
  have c__law_draw := c__law_draw (P := P) (w := w) (base := base) M
  refine dnN M.f__law_pick (fun F => ?_) (fun _ _ _ _ _ _ us hl => match us, hl with | [_, _], _ => rfl)
  refine fnG_body F sc__law_pick (fun vs H Q E h => ?_) (fun cdv A outer s H vs Q E hr h => ?_)
  · obtain ⟨r, l, xs, rfl, _⟩ := h
    rfl
  · obtain ⟨r, l, xs, rfl, hl, hn, h0, h1, hp, q⟩ := h
    refine ⟨_, (pss_one (ps_ret (pe_ix ix_list (pv 1) (pe_callD c__law_draw (hr.mono (by decide)) rfl (pa_cons (pv 0) (pa_cons (pe_callB call_len_seq (by rfl) M.b_len (by decide +kernel) (pa_cons (pv 1) pa_nil)) pa_nil))) (fun _ _ => rfl)))), ?_⟩
    refine st_eq (σ := [some _, some _]) rfl ?_
    walk_at "rd"
    refine ⟨_, _, rfl, .inl (SqL.of hl), ?_⟩
    walk_at "rd"
    refine ⟨r, _, rfl, hp, by omega, ?_, fun d H' hb hp' d0 d1 => ?_⟩
    · exact lg (sm62 (by omega) (by omega))
    · obtain ⟨j, rfl⟩ : ∃ j : Nat, d = j := ⟨d.toNat, by omega⟩
      have hj : j < xs.length := by omega
      walk_at "rd"
      refine s_ixL (v := xs[j]) (hb.get hl hn) (atI_nat (by simp [hj])) ?_
      exact q _ _ (List.getElem_mem hj) hb hp'
theorem c__law_made_many : Dn P w K mg base "_law_made_many" 5 ["_law_pair"] [] (spMade C_Many) := by
  have c_Many_1 := c_Many_1 (P := P) (w := w) (base := base) M
  have c_Many_2 := c_Many_2 (P := P) (w := w) (base := base) M
  refine dnN M.f__law_made_many (fun F => ?_) (fun _ _ _ _ _ _ us hl => match us, hl with | [_], _ => rfl)
  refine fnG_body F sc__law_made_many (fun vs H Q E h => ?_) (fun cdv A outer s H vs Q E hr h => ?_)
  · obtain ⟨t, p, q, rfl, _⟩ := h
    rfl
  · obtain ⟨t, p, q, rfl, ht, h0, h1, k⟩ := h
    refine ⟨_, (pss_one (ps_ret (pe_ifExp (pt_cmpR op_isN (pe_ix ix_tup (pv 0) pe_int (fun _ _ => rfl)) pe_non (nomark _)) (pe_makeD c_Many_1 (hr.mono (by decide)) rfl (pa_cons (pe_ix ix_tup (pv 0) pe_int (fun _ _ => rfl)) pa_nil)) (pe_makeD c_Many_2 (hr.mono (by decide)) rfl (pa_cons (pe_ix ix_tup (pv 0) pe_int (fun _ _ => rfl)) (pa_cons (pe_ix ix_tup (pv 0) pe_int (fun _ _ => rfl)) pa_nil)))))), ?_⟩
    refine st_eq (σ := [some _]) rfl ?_
    cases q with
    | none =>
      walk_at "rd"
      refine fun _ => ⟨_, _, p, none, rfl, upd_same, h0, h1, fun H' hb hm => ⟨rfl, ?_⟩⟩
      exact k _ _ (hb.same (by walk_at "sm") (by assumption)) hm
    | some q =>
      walk_at "rd"
      refine fun _ => ⟨_, _, p, some q, rfl, upd_same, h0, h1, fun H' hb hm => ⟨rfl, ?_⟩⟩
      exact k _ _ (hb.same (by walk_at "sm") (by assumption)) hm
theorem c__law_numbers_in : Dn P w K mg base "_law_numbers_in" 3 ["_law_pot"] [] spNums := by
  have c__law_draw := c__law_draw (P := P) (w := w) (base := base) M
  have c__law_pick := c__law_pick (P := P) (w := w) (base := base) M
  refine dnN M.f__law_numbers_in (fun F => ?_) (fun _ _ _ _ _ _ us hl => match us, hl with | [_], _ => rfl)
  refine fnG_body F sc__law_numbers_in (fun vs H Q E h => ?_) (fun cdv A outer s H vs Q E hr h => ?_)
  · obtain ⟨r, rfl, _⟩ := h
    rfl
  · obtain ⟨r, rfl, hp, k⟩ := h
    refine ⟨_, (pss_cons (ps_set (i := 1) sc__law_numbers_in.nd rfl (.inl rfl) (pe_callD c__law_pick (hr.mono (by decide)) rfl (pa_cons (pv 0) (pa_cons (pe_lst (pa_cons pe_int (pa_cons pe_int (pa_cons pe_int (pa_cons (pe_op op_pow pe_int pe_int) pa_nil))))) pa_nil)))) (pss_cons (ps_set (i := 2) sc__law_numbers_in.nd rfl (.inl rfl) (pe_callD c__law_draw (hr.mono (by decide)) rfl (pa_cons (pv 0) (pa_cons (pe_op op_add (pv 1) pe_int) pa_nil)))) (pss_one (ps_ret (pe_callD c__law_pick (hr.mono (by decide)) rfl (pa_cons (pv 0) (pa_cons (pe_lst (pa_cons (pe_tup (pa_cons (pv 2) (pa_cons (pe_op op_add (pv 2) (pe_callD c__law_draw (hr.mono (by decide)) rfl (pa_cons (pv 0) (pa_cons (pv 1) pa_nil)))) pa_nil))) (pa_cons (pe_tup (pa_cons (pv 2) (pa_cons (pv 2) pa_nil))) (pa_cons (pe_tup (pa_cons (pv 2) (pa_cons pe_non pa_nil))) (pa_cons (pe_tup (pa_cons pe_int (pa_cons (pv 2) pa_nil))) pa_nil))))) pa_nil))))))), ?_⟩
    refine st_eq (σ := [some _, none, none]) rfl ?_
    walk_at "rd"
    refine ⟨r, _, _, rfl, upd_same, hp.ne (by assumption), by simp, by simp, by walk_at "pot", fun v H1 hv hb hp1 => ?_⟩
    obtain ⟨t, rfl, t0, t1⟩ : ∃ t : Int, v = .int t ∧ 0 < t ∧ t ≤ 1000000000000000000 := by
      simp at hv
      rcases hv with rfl | rfl
      · exact ⟨6, rfl, by decide, by decide⟩
      · exact ⟨_, rfl, by decide, by decide⟩
    walk_at "rd"
    refine ⟨r, _, rfl, hp1, by omega, lg (sm62 (by omega) (by omega)), fun d H2 hb2 hp2 d0 d1 => ?_⟩
    walk_at "rd"
    refine ⟨r, _, rfl, hp2, by omega, lg (sm62 (by omega) (by omega)), fun e H3 hb3 hp3 e0 e1 => ?_⟩
    walk_at "rd"
    rename_i l0 nl0 a1 n1 a2 n2 a3 n3 a4 n4 l nl
    have r1 := hp3.ne n1
    have r2 := (hp3.up n1).ne n2
    have r3 := ((hp3.up n1).up n2).ne n3
    have r4 := (((hp3.up n1).up n2).up n3).ne n4
    have r5 := ((((hp3.up n1).up n2).up n3).up n4).ne nl
    refine ⟨r, _, _, rfl, upd_same, r5, by simp, by simp, by walk_at "pot", fun v H4 hv hb4 hp4 => ?_⟩
    simp at hv
    have z0 : (0 : Int) ≤ 10 ^ 18 := by decide
    have ee : (10 : Int) ^ 18 = 1000000000000000000 := by decide
    rcases hv with rfl | rfl | rfl | rfl
    · exact k a1 d (some (d + e)) H4 (by walk_at "hp") ⟨d0, by omega, fun h z => by cases z; omega⟩ (by walk_at "bt") hp4
    · exact k a2 d (some d) H4 (by walk_at "hp") ⟨d0, by omega, fun h z => by cases z; omega⟩ (by walk_at "bt") hp4
    · exact k a3 d none H4 (by walk_at "hp") ⟨d0, by omega, fun h z => nomatch z⟩ (by walk_at "bt") hp4
    · exact k a4 0 (some d) H4 (by walk_at "hp") ⟨by omega, by omega, fun h z => by cases z; omega⟩ (by walk_at "bt") hp4
end
end My

open My L2 PySem
open My L2 PySem
local macro_rules | `(tactic| walk_at "as") => `(tactic| with_reducible assumption)
local macro_rules | `(tactic| walk_at "hp") => `(tactic| first
  | walk_at "as" | exact upd_same
  | (rw [upd_ne (by walk_at "ne")]; walk_at "hp")
  | (refine But.get (by walk_at "as") ?hp1 ?hp2; (case hp1 => walk_at "hp"); (case hp2 => walk_at "ne"))
  | (refine My.Same.get (by walk_at "as") ?hp1; (case hp1 => walk_at "hp")))
local macro_rules | `(tactic| walk_at "ne") => `(tactic| first
  | walk_at "as" | exact Ne.symm (by walk_at "as")
  | (refine' ne_of_none ?ne1 ?ne2; (case ne2 => walk_at "as"); (case ne1 => walk_at "hp"))
  | (refine' Ne.symm (ne_of_none ?ne1 ?ne2); (case ne2 => walk_at "as"); (case ne1 => walk_at "hp"))
  | exact ne_of (by walk_at "hp") (by walk_at "hp") (by intro z; cases z))
local macro_rules | `(tactic| walk_at "sd") => `(tactic| first
  | walk_at "as" | omega | decide | exact ⟨by omega, by omega⟩ | exact .inl ⟨by omega, by omega⟩ | exact .inr ⟨by omega, by omega⟩ | exact divp_wide (by walk_at "as") (by walk_at "as") | exact Sm.cmul (by walk_at "as") (by walk_at "as") | exact cmul_small (by omega) (by omega) (by omega) (by omega) | exact ⟨by omega, by decide⟩)
local macro_rules | `(tactic| walk_at "bt") => `(tactic| first
  | walk_at "as" | exact But.refl _ _ | exact Same.but (by walk_at "as")
  | (refine But.trans ?bt1 But.at; (case bt1 => walk_at "bt"))
  | (refine But.trans ?bt1 (But.new (by first | walk_at "as" | walk_at "hp")); (case bt1 => walk_at "bt"))
  | (refine But.trans ?bt1 (by walk_at "as"); (case bt1 => walk_at "bt"))
  | (refine But.trans ?bt1 (Same.but (by walk_at "as")); (case bt1 => walk_at "bt")))
local macro_rules | `(tactic| walk_at "sm") => `(tactic| first
  | walk_at "as" | exact My.Same.rfl' _
  | (refine' My.Same.at_ ?sm1 ?sm2; (case sm1 => walk_at "as"); (case sm2 => walk_at "sm"))
  | (refine' My.Same.tr ?sm1 (My.Same.new ?sm2); (case sm2 => walk_at "as"); (case sm1 => walk_at "sm"))
  | (refine' My.Same.tr ?sm1 ?sm2; (case sm2 => walk_at "as"); (case sm1 => walk_at "sm")))
local macro_rules | `(tactic| walk_at "sz") => `(tactic| first
  | assumption | exact lt_size (by rfl) | exact le_size (by rfl) | (rw [sizeLine_eq]; omega)
  | (rw [sizeLine_eq]; simp only [List.length_append, List.length_map, List.length_cons, List.length_nil]; omega))
local macro_rules | `(tactic| walk_at "few") => `(tactic| (repeat refine few_put ?_); exact few0)
local macro_rules | `(tactic| walk_at "rd1") => `(tactic| first
  | (with_reducible show tVar _ _ _ _); refine s_var rfl ?_
  | with_reducible refine s_c ?_ | with_reducible refine s_op ?_ | with_reducible refine s_un ?_
  | with_reducible refine s_cons ?_ | with_reducible refine s_nil ?_ | with_reducible refine s_cb ?_
  | with_reducible refine s_test ?_ | with_reducible refine s_B ?_ | with_reducible refine s_not ?_ | with_reducible refine s_and ?_ | with_reducible refine s_or ?_
  | with_reducible refine s_if ?_ | with_reducible refine s_notV ?_ | with_reducible refine s_andV ?_ | with_reducible refine s_orV ?_
  | with_reducible refine s_orT ?_ | with_reducible refine s_andT ?_ | with_reducible refine s_chain ?_
  | with_reducible refine s_isi_int ?_ | with_reducible refine s_isi_int_bool ?_ | with_reducible refine s_isi_str ?_
  | with_reducible refine iteT ?_ | with_reducible refine iteF ?_ | with_reducible refine iteNT ?_ | with_reducible refine iteNF ?_
  | with_reducible refine s_isN ?_ | with_reducible refine s_notN ?_
  | ((with_reducible refine' s_2setE ?g1 ?_); (case g1 => first | (dsimp only [List.set, L2.wipe, List.map, List.foldl]; done) | (dsimp only [List.set, L2.wipe, List.map, List.foldl]; rfl)))
  | with_reducible refine s_seq ?_ | with_reducible refine s_ifS ?_ | with_reducible refine s_asg ?_ | with_reducible refine s_ret ?_ | with_reducible refine s_drop ?_ | with_reducible refine s_next ?_
  | ((with_reducible refine' s_gnameE ?g1 ?_); (case g1 => first | (dsimp only [List.set, L2.wipe, List.map, List.foldl]; done) | (dsimp only [List.set, L2.wipe, List.map, List.foldl]; rfl)))
  | with_reducible refine s_gsub ?_ | with_reducible refine s_gcons ?_ | with_reducible refine s_gnil ?_
  | (with_reducible show gTup _ _ _ _ _ _ _); refine s_gtup (by walk_at "hp") rfl ?_
  | with_reducible refine s_eqI ?_ | with_reducible refine s_neI ?_ | with_reducible refine s_eqS ?_ | with_reducible refine s_neB ?_ | with_reducible refine s_eqB ?_ | with_reducible refine s_neSr ?_ | with_reducible refine s_neS ?_
  | with_reducible refine s_I0 ?_
  | (with_reducible show rI _ _ _ _ _ _); refine s_I (by walk_at "sd") ?_
  | (with_reducible show rIxL _ _ _ _ _); refine s_ixL (by walk_at "hp") rfl ?_
  | (with_reducible show rIxT _ _ _ _ _); refine s_ixT (by walk_at "hp") rfl ?_
  | (with_reducible show rSetL _ _ _ _ _); refine s_setL (by walk_at "hp") rfl ?_
  | with_reducible refine s_prop ?_
  | (with_reducible show _ ≤ sizeLine ∧ _); refine ⟨le_size (by rfl), ?_⟩
  | with_reducible refine ite_NN ?_ | with_reducible refine ite_IN ?_ | with_reducible refine ite_nNN ?_ | with_reducible refine ite_nIN ?_ | with_reducible refine ite_RN ?_ | with_reducible refine ite_nRN ?_
  | with_reducible refine s_sfld ?_
  | ((with_reducible refine' ⟨_, _, _, _, rfl, ?fp1, ?fp2, ?fp3, ?fp4, ?_⟩); (case fp1 => walk_at "hp"); (case fp2 => assumption); (case fp3 => assumption); (case fp4 => walk_at "few"))
  | with_reducible refine s_fldE ?_
  | ((with_reducible refine' ⟨_, _, _, _, _, rfl, ?fp1, ?fp2, ?fp3, ?fp4, ?_⟩); (case fp1 => walk_at "hp"); (case fp2 => assumption); (case fp3 => assumption); (case fp4 => rfl))
  | with_reducible refine s_bm ?_ | with_reducible refine s_bm0 ?_
  | ((with_reducible refine' s_tyL ?ty1 ?_); (case ty1 => walk_at "hp"))
  | ((with_reducible refine' s_append ?ap1 ?ap2 ?_); (case ap1 => walk_at "hp"); (case ap2 => walk_at "sz"))
  | ((with_reducible refine' s_extend ?ap1 ?ap2 ?ap3 ?_); (case ap1 => walk_at "hp"); (case ap2 => walk_at "hp"); (case ap3 => walk_at "sz"))
  | with_reducible refine s_for (fun _ _ => ?_) | with_reducible refine s_lc ?_ | with_reducible refine s_iList ?_ | with_reducible refine s_iTup ?_ | with_reducible refine s_iRng1 ?_ | with_reducible refine s_iRng2 ?_
  | with_reducible refine s_yes ?_ | with_reducible refine s_par ?_
  | with_reducible refine s_make ?_ | with_reducible refine s_meth ?_
  | with_reducible refine s_tup ?_ | with_reducible refine s_lst ?_ | with_reducible refine s_call ?_
  | with_reducible refine ⟨rfl, ?_⟩
  | with_reducible refine ⟨_, rfl, ?_⟩
  | ((with_reducible refine' ⟨_, _, rfl, ?sd1, ?_⟩); (case sd1 => walk_at "sd"))
  | with_reducible refine ⟨_, _, rfl, ?_⟩
  | with_reducible refine .inl ⟨_, rfl, ?_⟩
  | dsimp only [List.set]
  | walk_at "rdx"
  | (refine fun _ _ => ?_))
local macro_rules | `(tactic| walk_at "rd") => `(tactic| repeat (first
  | (with_reducible show tVar _ _ _ _); refine s_var rfl ?_
  | with_reducible refine s_c ?_ | with_reducible refine s_op ?_ | with_reducible refine s_un ?_
  | with_reducible refine s_cons ?_ | with_reducible refine s_nil ?_ | with_reducible refine s_cb ?_
  | with_reducible refine s_test ?_ | with_reducible refine s_B ?_ | with_reducible refine s_not ?_ | with_reducible refine s_and ?_ | with_reducible refine s_or ?_
  | with_reducible refine s_if ?_ | with_reducible refine s_notV ?_ | with_reducible refine s_andV ?_ | with_reducible refine s_orV ?_
  | with_reducible refine s_orT ?_ | with_reducible refine s_andT ?_ | with_reducible refine s_chain ?_
  | with_reducible refine s_isi_int ?_ | with_reducible refine s_isi_int_bool ?_ | with_reducible refine s_isi_str ?_
  | with_reducible refine iteT ?_ | with_reducible refine iteF ?_ | with_reducible refine iteNT ?_ | with_reducible refine iteNF ?_
  | with_reducible refine s_isN ?_ | with_reducible refine s_notN ?_
  | ((with_reducible refine' s_2setE ?g1 ?_); (case g1 => first | (dsimp only [List.set, L2.wipe, List.map, List.foldl]; done) | (dsimp only [List.set, L2.wipe, List.map, List.foldl]; rfl)))
  | with_reducible refine s_seq ?_ | with_reducible refine s_ifS ?_ | with_reducible refine s_asg ?_ | with_reducible refine s_ret ?_ | with_reducible refine s_drop ?_ | with_reducible refine s_next ?_
  | ((with_reducible refine' s_gnameE ?g1 ?_); (case g1 => first | (dsimp only [List.set, L2.wipe, List.map, List.foldl]; done) | (dsimp only [List.set, L2.wipe, List.map, List.foldl]; rfl)))
  | with_reducible refine s_gsub ?_ | with_reducible refine s_gcons ?_ | with_reducible refine s_gnil ?_
  | (with_reducible show gTup _ _ _ _ _ _ _); refine s_gtup (by walk_at "hp") rfl ?_
  | with_reducible refine s_eqI ?_ | with_reducible refine s_neI ?_ | with_reducible refine s_eqS ?_ | with_reducible refine s_neB ?_ | with_reducible refine s_eqB ?_ | with_reducible refine s_neSr ?_ | with_reducible refine s_neS ?_
  | with_reducible refine s_I0 ?_
  | (with_reducible show rI _ _ _ _ _ _); refine s_I (by walk_at "sd") ?_
  | (with_reducible show rIxL _ _ _ _ _); refine s_ixL (by walk_at "hp") rfl ?_
  | (with_reducible show rIxT _ _ _ _ _); refine s_ixT (by walk_at "hp") rfl ?_
  | (with_reducible show rSetL _ _ _ _ _); refine s_setL (by walk_at "hp") rfl ?_
  | with_reducible refine s_prop ?_
  | (with_reducible show _ ≤ sizeLine ∧ _); refine ⟨le_size (by rfl), ?_⟩
  | with_reducible refine ite_NN ?_ | with_reducible refine ite_IN ?_ | with_reducible refine ite_nNN ?_ | with_reducible refine ite_nIN ?_ | with_reducible refine ite_RN ?_ | with_reducible refine ite_nRN ?_
  | with_reducible refine s_sfld ?_
  | ((with_reducible refine' ⟨_, _, _, _, rfl, ?fp1, ?fp2, ?fp3, ?fp4, ?_⟩); (case fp1 => walk_at "hp"); (case fp2 => assumption); (case fp3 => assumption); (case fp4 => walk_at "few"))
  | with_reducible refine s_fldE ?_
  | ((with_reducible refine' ⟨_, _, _, _, _, rfl, ?fp1, ?fp2, ?fp3, ?fp4, ?_⟩); (case fp1 => walk_at "hp"); (case fp2 => assumption); (case fp3 => assumption); (case fp4 => rfl))
  | with_reducible refine s_bm ?_ | with_reducible refine s_bm0 ?_
  | ((with_reducible refine' s_tyL ?ty1 ?_); (case ty1 => walk_at "hp"))
  | ((with_reducible refine' s_append ?ap1 ?ap2 ?_); (case ap1 => walk_at "hp"); (case ap2 => walk_at "sz"))
  | ((with_reducible refine' s_extend ?ap1 ?ap2 ?ap3 ?_); (case ap1 => walk_at "hp"); (case ap2 => walk_at "hp"); (case ap3 => walk_at "sz"))
  | with_reducible refine s_for (fun _ _ => ?_) | with_reducible refine s_lc ?_ | with_reducible refine s_iList ?_ | with_reducible refine s_iTup ?_ | with_reducible refine s_iRng1 ?_ | with_reducible refine s_iRng2 ?_
  | with_reducible refine s_yes ?_ | with_reducible refine s_par ?_
  | with_reducible refine s_make ?_ | with_reducible refine s_meth ?_
  | with_reducible refine s_tup ?_ | with_reducible refine s_lst ?_ | with_reducible refine s_call ?_
  | with_reducible refine ⟨rfl, ?_⟩
  | with_reducible refine ⟨_, rfl, ?_⟩
  | ((with_reducible refine' ⟨_, _, rfl, ?sd1, ?_⟩); (case sd1 => walk_at "sd"))
  | with_reducible refine ⟨_, _, rfl, ?_⟩
  | with_reducible refine .inl ⟨_, rfl, ?_⟩
  | dsimp only [List.set]
  | walk_at "rdx"
  | (refine fun _ _ => ?_)))

namespace My
open PySem L2
section
variable {P : Program} {w : World} {K : PySem.W.Frag} {mg : Str → Option Value} {base : Heap} {C_Many T_LINES : Addr} (M : Md K mg C_Many T_LINES)
include M
omit M
theorem Pot.neT {H : Hp} {r t : Addr} {xs : List V} (h : Pot H r) (e : H t = some (.tup xs)) : t ≠ r := by
  obtain ⟨x, y, e2, h⟩ := h
  exact ne_of e e2 (by intro z; cases z)
theorem clamp {x E : Int} (h : 0 ≤ E) : 0 ≤ (if (if x > 0 then x else 0) < E then (if x > 0 then x else 0) else E) ∧ (if (if x > 0 then x else 0) < E then (if x > 0 then x else 0) else E) ≤ E := by
  split <;> split <;> omega
theorem Nums.s0 {p : Int} {q : Option Int} (h : Nums p q) : Sm 70 p := Sm.le h.1 h.2.1 (by decide)
theorem Nums.s1 {p : Int} {q : Option Int} (h : Nums p q) (x : Int) (e : q = some x) : Sm 70 x := by
  have := h.2.2 x e
  have := h.1
  exact Sm.le (y := 2 * 10 ^ 18) (by omega) (by omega) (by decide)
def spSizes : Sp := fun vs H Q _ => ∃ (i t u : Addr) (p : Int) (q : Option Int) (r : Int) (s : Option Int), vs = [.ref i, .ref t, .ref u] ∧ H t = some (.tup [.int p, optV q]) ∧ H u = some (.tup [.int r, optV s]) ∧ Nums p q ∧ Nums r s ∧ Pot H i ∧
  ∀ (w : Addr) (a b : Int) H', H' w = some (.tup [.int a, .int b]) → 0 ≤ a → a ≤ 10 ^ 60 → 0 ≤ b → b ≤ 10 ^ 60 → But i H H' → Pot H' i → Q (.ref w) H'
local macro_rules | `(tactic| walk_at "pot") => `(tactic| first | walk_at "as" | (refine' Pot.up ?pt1 ?pt2; (case pt2 => walk_at "as"); (case pt1 => walk_at "pot")))
include M
theorem c__law_sizes_in : Dn P w K mg base "_law_sizes_in" 3 ["_law_pot", "_law_one", "_law_two"] [] spSizes := by
  have c__law_draw := c__law_draw (P := P) (w := w) (base := base) M
  have c__law_pick := c__law_pick (P := P) (w := w) (base := base) M
  refine dnN M.f__law_sizes_in (fun F => ?_) (fun _ _ _ _ _ _ us hl => match us, hl with | [_, _, _], _ => rfl)
  refine fnG_body F sc__law_sizes_in (fun vs H Q E h => ?_) (fun cdv A outer s H vs Q E hr h => ?_)
  · obtain ⟨i, t, u, p, q, r, s, rfl, _⟩ := h
    rfl
  · obtain ⟨i, t, u, p, q, r, s, rfl, ht, hu, n1, n2, hp, k⟩ := h
    have ti := hp.neT ht
    have ui := hp.neT hu
    have s1 := n1.s0
    have s2 := n2.s0
    have o1 : Sm 70 (1 : Int) := by decide
    have o7 : Sm 70 (7 : Int) := by decide
    refine ⟨_, (pss_cons (ps_set (i := 3) sc__law_sizes_in.nd rfl (.inl rfl) (pe_callD c__law_draw (hr.mono (by decide)) rfl (pa_cons (pv 0) (pa_cons (pe_callD c__law_pick (hr.mono (by decide)) rfl (pa_cons (pv 0) (pa_cons (pe_lst (pa_cons pe_int (pa_cons pe_int (pa_cons (pe_op op_pow pe_int pe_int) (pa_cons (pe_op op_pow pe_int pe_int) pa_nil))))) pa_nil))) pa_nil)))) (pss_cons (ps_set (i := 4) sc__law_sizes_in.nd rfl (.inl rfl) (pe_lst (pa_cons (pe_ix ix_tup (pv 1) pe_int (fun _ _ => rfl)) (pa_cons (pe_ix ix_tup (pv 2) pe_int (fun _ _ => rfl)) (pa_cons (pe_ifExp (pt_cmpR op_isN (pe_ix ix_tup (pv 1) pe_int (fun _ _ => rfl)) pe_non (nomark _)) pe_int (pe_ix ix_tup (pv 1) pe_int (fun _ _ => rfl))) (pa_cons (pe_ifExp (pt_cmpR op_isN (pe_ix ix_tup (pv 2) pe_int (fun _ _ => rfl)) pe_non (nomark _)) pe_int (pe_ix ix_tup (pv 2) pe_int (fun _ _ => rfl))) (pa_cons pe_int (pa_cons pe_int pa_nil)))))))) (pss_cons (ps_set (i := 5) sc__law_sizes_in.nd rfl (.inl rfl) (pe_op op_sub (pe_op op_add (pe_op op_mulW (pv 3) (pe_callD c__law_pick (hr.mono (by decide)) rfl (pa_cons (pv 0) (pa_cons (pv 4) pa_nil)))) (pe_callD c__law_draw (hr.mono (by decide)) rfl (pa_cons (pv 0) (pa_cons pe_int pa_nil)))) pe_int)) (pss_cons (ps_set (i := 6) sc__law_sizes_in.nd rfl (.inl rfl) (pe_op op_sub (pe_op op_add (pe_op op_mulW (pv 3) (pe_callD c__law_pick (hr.mono (by decide)) rfl (pa_cons (pv 0) (pa_cons (pv 4) pa_nil)))) (pe_callD c__law_draw (hr.mono (by decide)) rfl (pa_cons (pv 0) (pa_cons pe_int pa_nil)))) pe_int)) (pss_one (ps_ret (pe_tup (pa_cons (pe_callB (call_min2 rfl) (by rfl) M.b_min (by decide +kernel) (pa_cons (pe_op op_pow pe_int pe_int) (pa_cons (pe_callB (call_max2 rfl) (by rfl) M.b_max (by decide +kernel) (pa_cons pe_int (pa_cons (pv 5) pa_nil))) pa_nil))) (pa_cons (pe_callB (call_min2 rfl) (by rfl) M.b_min (by decide +kernel) (pa_cons (pe_op op_pow pe_int pe_int) (pa_cons (pe_callB (call_max2 rfl) (by rfl) M.b_max (by decide +kernel) (pa_cons pe_int (pa_cons (pv 6) pa_nil))) pa_nil))) pa_nil))))))))), ?_⟩
    refine st_eq (σ := [some _, some _, some _, none, none, none, none]) rfl ?_
    walk_at "rd"
    rename_i l nl
    refine ⟨i, _, _, rfl, upd_same, hp.ne nl, by simp, by simp, by walk_at "pot", fun v H1 hv hb hp1 => ?_⟩
    obtain ⟨n, rfl, n0, ns⟩ : ∃ t : Int, v = .int t ∧ 0 < t ∧ Sm 200 t := by
      simp at hv
      rcases hv with rfl | rfl | rfl | rfl
      · exact ⟨_, rfl, by decide, by decide⟩
      · exact ⟨_, rfl, by decide, by decide⟩
      · exact ⟨_, rfl, by decide, by decide⟩
      · exact ⟨_, rfl, by decide, by decide⟩
    walk_at "rd"
    refine ⟨i, _, rfl, hp1, n0, lg ns, fun d H2 hb2 hp2 d0 d1 => ?_⟩
    have ds : Sm 200 d := Sm.le d0 (by omega) ns
    have st : ∀ x, q = some x → Sm 70 x := n1.s1
    have su : ∀ x, s = some x → Sm 70 x := n2.s1
    have hb3 : But i H H2 := by walk_at "bt"
    have ht2 := hb3.get ht ti
    have hu2 := hb3.get hu ui
    cases q <;> cases s <;> (
      try have hq := st _ rfl
      try have hs := su _ rfl
      walk_at "rd"
      rename_i l2 nl2
      refine ⟨i, _, _, rfl, upd_same, hp2.ne nl2, by simp, by simp, by walk_at "pot", fun v H3 hv hb3 hp3 => ?_⟩
      obtain ⟨x, rfl, xs⟩ : ∃ t : Int, v = .int t ∧ Sm 70 t := by
        iterate 6 refine (List.mem_cons.mp hv).elim (fun e => ⟨_, e, by assumption⟩) (fun hv => ?_)
        exact absurd hv (List.not_mem_nil)
      have c1 : CMulW d x := ds.cmul xs
      walk_at "rd"
      refine ⟨i, _, rfl, hp3, by decide, by decide, fun e H4 hb4 hp4 e0 e1 => ?_⟩
      walk_at "rd"
      refine ⟨i, l2, _, rfl, hb4.get (hb3.get upd_same (hp2.ne nl2)) (hp2.ne nl2), hp2.ne nl2, by simp, by simp, hp4, fun v H5 hv hb5 hp5 => ?_⟩
      obtain ⟨y, rfl, ys⟩ : ∃ t : Int, v = .int t ∧ Sm 70 t := by
        iterate 6 refine (List.mem_cons.mp hv).elim (fun e => ⟨_, e, by assumption⟩) (fun hv => ?_)
        exact absurd hv (List.not_mem_nil)
      have c2 : CMulW d y := ds.cmul ys
      walk_at "rd"
      refine ⟨i, _, rfl, hp5, by decide, by decide, fun f H6 hb6 hp6 f0 f1 => ?_⟩
      walk_at "rd"
      refine k _ _ _ _ upd_same (clamp (by decide)).1 (clamp (by decide)).2 (clamp (by decide)).1 (clamp (by decide)).2 (by walk_at "bt") (by walk_at "pot"))
end
end My

open My L2 PySem
open My L2 PySem
local macro_rules | `(tactic| walk_at "as") => `(tactic| with_reducible assumption)
local macro_rules | `(tactic| walk_at "hp") => `(tactic| first
  | walk_at "as" | exact upd_same
  | (rw [upd_ne (by walk_at "ne")]; walk_at "hp")
  | (refine But.get (by walk_at "as") ?hp1 ?hp2; (case hp1 => walk_at "hp"); (case hp2 => walk_at "ne"))
  | (refine My.Same.get (by walk_at "as") ?hp1; (case hp1 => walk_at "hp")))
local macro_rules | `(tactic| walk_at "ne") => `(tactic| first
  | walk_at "as" | exact Ne.symm (by walk_at "as")
  | (refine' ne_of_none ?ne1 ?ne2; (case ne2 => walk_at "as"); (case ne1 => walk_at "hp"))
  | (refine' Ne.symm (ne_of_none ?ne1 ?ne2); (case ne2 => walk_at "as"); (case ne1 => walk_at "hp"))
  | exact ne_of (by walk_at "hp") (by walk_at "hp") (by intro z; cases z))
local macro_rules | `(tactic| walk_at "sd") => `(tactic| first
  | walk_at "as" | omega | decide | exact ⟨by omega, by omega⟩ | exact .inl ⟨by omega, by omega⟩ | exact .inr ⟨by omega, by omega⟩ | exact divp_wide (by walk_at "as") (by walk_at "as") | exact Sm.cmul (by walk_at "as") (by walk_at "as") | exact cmul_small (by omega) (by omega) (by omega) (by omega) | exact ⟨by omega, by decide⟩)
local macro_rules | `(tactic| walk_at "bt") => `(tactic| first
  | walk_at "as" | exact But.refl _ _ | exact Same.but (by walk_at "as")
  | (refine But.trans ?bt1 But.at; (case bt1 => walk_at "bt"))
  | (refine But.trans ?bt1 (But.new (by first | walk_at "as" | walk_at "hp")); (case bt1 => walk_at "bt"))
  | (refine But.trans ?bt1 (by walk_at "as"); (case bt1 => walk_at "bt"))
  | (refine But.trans ?bt1 (Same.but (by walk_at "as")); (case bt1 => walk_at "bt")))
local macro_rules | `(tactic| walk_at "sm") => `(tactic| first
  | walk_at "as" | exact My.Same.rfl' _
  | (refine' My.Same.at_ ?sm1 ?sm2; (case sm1 => walk_at "as"); (case sm2 => walk_at "sm"))
  | (refine' My.Same.tr ?sm1 (My.Same.new ?sm2); (case sm2 => walk_at "as"); (case sm1 => walk_at "sm"))
  | (refine' My.Same.tr ?sm1 ?sm2; (case sm2 => walk_at "as"); (case sm1 => walk_at "sm")))
local macro_rules | `(tactic| walk_at "sz") => `(tactic| first
  | assumption | exact lt_size (by rfl) | exact le_size (by rfl) | (rw [sizeLine_eq]; omega)
  | (rw [sizeLine_eq]; simp only [List.length_append, List.length_map, List.length_cons, List.length_nil]; omega))
local macro_rules | `(tactic| walk_at "few") => `(tactic| (repeat refine few_put ?_); exact few0)
local macro_rules | `(tactic| walk_at "rd1") => `(tactic| first
  | (with_reducible show tVar _ _ _ _); refine s_var rfl ?_
  | with_reducible refine s_c ?_ | with_reducible refine s_op ?_ | with_reducible refine s_un ?_
  | with_reducible refine s_cons ?_ | with_reducible refine s_nil ?_ | with_reducible refine s_cb ?_
  | with_reducible refine s_test ?_ | with_reducible refine s_B ?_ | with_reducible refine s_not ?_ | with_reducible refine s_and ?_ | with_reducible refine s_or ?_
  | with_reducible refine s_if ?_ | with_reducible refine s_notV ?_ | with_reducible refine s_andV ?_ | with_reducible refine s_orV ?_
  | with_reducible refine s_orT ?_ | with_reducible refine s_andT ?_ | with_reducible refine s_chain ?_
  | with_reducible refine s_isi_int ?_ | with_reducible refine s_isi_int_bool ?_ | with_reducible refine s_isi_str ?_
  | with_reducible refine iteT ?_ | with_reducible refine iteF ?_ | with_reducible refine iteNT ?_ | with_reducible refine iteNF ?_
  | with_reducible refine s_isN ?_ | with_reducible refine s_notN ?_
  | ((with_reducible refine' s_2setE ?g1 ?_); (case g1 => first | (dsimp only [List.set, L2.wipe, List.map, List.foldl]; done) | (dsimp only [List.set, L2.wipe, List.map, List.foldl]; rfl)))
  | with_reducible refine s_seq ?_ | with_reducible refine s_ifS ?_ | with_reducible refine s_asg ?_ | with_reducible refine s_ret ?_ | with_reducible refine s_drop ?_ | with_reducible refine s_next ?_
  | ((with_reducible refine' s_gnameE ?g1 ?_); (case g1 => first | (dsimp only [List.set, L2.wipe, List.map, List.foldl]; done) | (dsimp only [List.set, L2.wipe, List.map, List.foldl]; rfl)))
  | with_reducible refine s_gsub ?_ | with_reducible refine s_gcons ?_ | with_reducible refine s_gnil ?_
  | (with_reducible show gTup _ _ _ _ _ _ _); refine s_gtup (by walk_at "hp") rfl ?_
  | with_reducible refine s_eqI ?_ | with_reducible refine s_neI ?_ | with_reducible refine s_eqS ?_ | with_reducible refine s_neB ?_ | with_reducible refine s_eqB ?_ | with_reducible refine s_neSr ?_ | with_reducible refine s_neS ?_
  | with_reducible refine s_I0 ?_
  | (with_reducible show rI _ _ _ _ _ _); refine s_I (by walk_at "sd") ?_
  | (with_reducible show rIxL _ _ _ _ _); refine s_ixL (by walk_at "hp") rfl ?_
  | (with_reducible show rIxT _ _ _ _ _); refine s_ixT (by walk_at "hp") rfl ?_
  | (with_reducible show rSetL _ _ _ _ _); refine s_setL (by walk_at "hp") rfl ?_
  | with_reducible refine s_prop ?_
  | (with_reducible show _ ≤ sizeLine ∧ _); refine ⟨le_size (by rfl), ?_⟩
  | with_reducible refine ite_NN ?_ | with_reducible refine ite_IN ?_ | with_reducible refine ite_nNN ?_ | with_reducible refine ite_nIN ?_ | with_reducible refine ite_RN ?_ | with_reducible refine ite_nRN ?_
  | with_reducible refine s_sfld ?_
  | ((with_reducible refine' ⟨_, _, _, _, rfl, ?fp1, ?fp2, ?fp3, ?fp4, ?_⟩); (case fp1 => walk_at "hp"); (case fp2 => assumption); (case fp3 => assumption); (case fp4 => walk_at "few"))
  | with_reducible refine s_fldE ?_
  | ((with_reducible refine' ⟨_, _, _, _, _, rfl, ?fp1, ?fp2, ?fp3, ?fp4, ?_⟩); (case fp1 => walk_at "hp"); (case fp2 => assumption); (case fp3 => assumption); (case fp4 => rfl))
  | with_reducible refine s_bm ?_ | with_reducible refine s_bm0 ?_
  | ((with_reducible refine' s_tyL ?ty1 ?_); (case ty1 => walk_at "hp"))
  | ((with_reducible refine' s_append ?ap1 ?ap2 ?_); (case ap1 => walk_at "hp"); (case ap2 => walk_at "sz"))
  | ((with_reducible refine' s_extend ?ap1 ?ap2 ?ap3 ?_); (case ap1 => walk_at "hp"); (case ap2 => walk_at "hp"); (case ap3 => walk_at "sz"))
  | with_reducible refine s_for (fun _ _ => ?_) | with_reducible refine s_lc ?_ | with_reducible refine s_iList ?_ | with_reducible refine s_iTup ?_ | with_reducible refine s_iRng1 ?_ | with_reducible refine s_iRng2 ?_
  | with_reducible refine s_yes ?_ | with_reducible refine s_par ?_
  | with_reducible refine s_make ?_ | with_reducible refine s_meth ?_
  | with_reducible refine s_tup ?_ | with_reducible refine s_lst ?_ | with_reducible refine s_call ?_
  | with_reducible refine ⟨rfl, ?_⟩
  | with_reducible refine ⟨_, rfl, ?_⟩
  | ((with_reducible refine' ⟨_, _, rfl, ?sd1, ?_⟩); (case sd1 => walk_at "sd"))
  | with_reducible refine ⟨_, _, rfl, ?_⟩
  | with_reducible refine .inl ⟨_, rfl, ?_⟩
  | dsimp only [List.set]
  | walk_at "rdx"
  | (refine fun _ _ => ?_))
local macro_rules | `(tactic| walk_at "rd") => `(tactic| repeat (first
  | (with_reducible show tVar _ _ _ _); refine s_var rfl ?_
  | with_reducible refine s_c ?_ | with_reducible refine s_op ?_ | with_reducible refine s_un ?_
  | with_reducible refine s_cons ?_ | with_reducible refine s_nil ?_ | with_reducible refine s_cb ?_
  | with_reducible refine s_test ?_ | with_reducible refine s_B ?_ | with_reducible refine s_not ?_ | with_reducible refine s_and ?_ | with_reducible refine s_or ?_
  | with_reducible refine s_if ?_ | with_reducible refine s_notV ?_ | with_reducible refine s_andV ?_ | with_reducible refine s_orV ?_
  | with_reducible refine s_orT ?_ | with_reducible refine s_andT ?_ | with_reducible refine s_chain ?_
  | with_reducible refine s_isi_int ?_ | with_reducible refine s_isi_int_bool ?_ | with_reducible refine s_isi_str ?_
  | with_reducible refine iteT ?_ | with_reducible refine iteF ?_ | with_reducible refine iteNT ?_ | with_reducible refine iteNF ?_
  | with_reducible refine s_isN ?_ | with_reducible refine s_notN ?_
  | ((with_reducible refine' s_2setE ?g1 ?_); (case g1 => first | (dsimp only [List.set, L2.wipe, List.map, List.foldl]; done) | (dsimp only [List.set, L2.wipe, List.map, List.foldl]; rfl)))
  | with_reducible refine s_seq ?_ | with_reducible refine s_ifS ?_ | with_reducible refine s_asg ?_ | with_reducible refine s_ret ?_ | with_reducible refine s_drop ?_ | with_reducible refine s_next ?_
  | ((with_reducible refine' s_gnameE ?g1 ?_); (case g1 => first | (dsimp only [List.set, L2.wipe, List.map, List.foldl]; done) | (dsimp only [List.set, L2.wipe, List.map, List.foldl]; rfl)))
  | with_reducible refine s_gsub ?_ | with_reducible refine s_gcons ?_ | with_reducible refine s_gnil ?_
  | (with_reducible show gTup _ _ _ _ _ _ _); refine s_gtup (by walk_at "hp") rfl ?_
  | with_reducible refine s_eqI ?_ | with_reducible refine s_neI ?_ | with_reducible refine s_eqS ?_ | with_reducible refine s_neB ?_ | with_reducible refine s_eqB ?_ | with_reducible refine s_neSr ?_ | with_reducible refine s_neS ?_
  | with_reducible refine s_I0 ?_
  | (with_reducible show rI _ _ _ _ _ _); refine s_I (by walk_at "sd") ?_
  | (with_reducible show rIxL _ _ _ _ _); refine s_ixL (by walk_at "hp") rfl ?_
  | (with_reducible show rIxT _ _ _ _ _); refine s_ixT (by walk_at "hp") rfl ?_
  | (with_reducible show rSetL _ _ _ _ _); refine s_setL (by walk_at "hp") rfl ?_
  | with_reducible refine s_prop ?_
  | (with_reducible show _ ≤ sizeLine ∧ _); refine ⟨le_size (by rfl), ?_⟩
  | with_reducible refine ite_NN ?_ | with_reducible refine ite_IN ?_ | with_reducible refine ite_nNN ?_ | with_reducible refine ite_nIN ?_ | with_reducible refine ite_RN ?_ | with_reducible refine ite_nRN ?_
  | with_reducible refine s_sfld ?_
  | ((with_reducible refine' ⟨_, _, _, _, rfl, ?fp1, ?fp2, ?fp3, ?fp4, ?_⟩); (case fp1 => walk_at "hp"); (case fp2 => assumption); (case fp3 => assumption); (case fp4 => walk_at "few"))
  | with_reducible refine s_fldE ?_
  | ((with_reducible refine' ⟨_, _, _, _, _, rfl, ?fp1, ?fp2, ?fp3, ?fp4, ?_⟩); (case fp1 => walk_at "hp"); (case fp2 => assumption); (case fp3 => assumption); (case fp4 => rfl))
  | with_reducible refine s_bm ?_ | with_reducible refine s_bm0 ?_
  | ((with_reducible refine' s_tyL ?ty1 ?_); (case ty1 => walk_at "hp"))
  | ((with_reducible refine' s_append ?ap1 ?ap2 ?_); (case ap1 => walk_at "hp"); (case ap2 => walk_at "sz"))
  | ((with_reducible refine' s_extend ?ap1 ?ap2 ?ap3 ?_); (case ap1 => walk_at "hp"); (case ap2 => walk_at "hp"); (case ap3 => walk_at "sz"))
  | with_reducible refine s_for (fun _ _ => ?_) | with_reducible refine s_lc ?_ | with_reducible refine s_iList ?_ | with_reducible refine s_iTup ?_ | with_reducible refine s_iRng1 ?_ | with_reducible refine s_iRng2 ?_
  | with_reducible refine s_yes ?_ | with_reducible refine s_par ?_
  | with_reducible refine s_make ?_ | with_reducible refine s_meth ?_
  | with_reducible refine s_tup ?_ | with_reducible refine s_lst ?_ | with_reducible refine s_call ?_
  | with_reducible refine ⟨rfl, ?_⟩
  | with_reducible refine ⟨_, rfl, ?_⟩
  | ((with_reducible refine' ⟨_, _, rfl, ?sd1, ?_⟩); (case sd1 => walk_at "sd"))
  | with_reducible refine ⟨_, _, rfl, ?_⟩
  | with_reducible refine .inl ⟨_, rfl, ?_⟩
  | dsimp only [List.set]
  | walk_at "rdx"
  | (refine fun _ _ => ?_)))

namespace My
open PySem L2
section
variable {P : Program} {w : World} {K : PySem.W.Frag} {mg : Str → Option Value} {base : Heap} {C_Many T_LINES : Addr} (M : Md K mg C_Many T_LINES)
include M
omit M
def spDue : Sp := fun vs H Q _ => ∃ (a : Int) (x : Addr) (b : Int) (y : Addr) (p : Int) (q : Option Int) (r : Int) (s : Option Int), vs = [.int a, .ref x, .int b, .ref y] ∧ H x = some (.tup [.int p, optV q]) ∧ H y = some (.tup [.int r, optV s]) ∧ Szs a p q b r s ∧
  ∀ t v H', Tot a p q b r s t → Same H H' → TotV H' v t → Q v H'
def grow (a : Int) (q : Option Int) (b : Int) (s : Option Int) : Nat → List Int
  | 0 => [a * b]
  | 1 => a * b :: ups a q
  | _ => bnds a q b s
def part (n : Int) (o : Option Int) : Nat → List V
  | 0 => []
  | _ => (ups n o).map V.int
theorem ups_len (n : Int) (o : Option Int) : (ups n o).length ≤ 1 := by
  cases o <;> simp [ups]
theorem part_len (n : Int) (o : Option Int) (i : Nat) : (part n o i).length ≤ 1 := by
  match i with
  | 0 => simp [part]
  | k + 1 => simpa [part] using ups_len n o
theorem grow_len (a : Int) (q : Option Int) (b : Int) (s : Option Int) (i : Nat) : (grow a q b s i).length ≤ 3 := by
  have h1 := ups_len a q
  have h2 := ups_len b s
  match i with
  | 0 => simp [grow]
  | 1 =>
    simp only [grow, List.length_cons]
    omega
  | k + 2 =>
    simp only [grow, bnds, List.length_cons, List.length_append]
    omega
theorem turn1 {w v : V} {i : Nat} (hi : [w][i]? = some v) : i = 0 ∧ v = w := by
  match i, hi with
  | 0, hi => exact ⟨rfl, (Option.some.inj hi).symm⟩
  | n + 1, hi => cases hi
theorem turn2 {p1 p2 : Addr} {i : Nat} {v : V} {H : Hp} {a : Int} {q : Option Int} {b : Int} {s : Option Int} (hi : [V.ref p1, V.ref p2][i]? = some v) (h1 : H p1 = some (.tup [.int a, optV q])) (h2 : H p2 = some (.tup [.int b, optV s]))
    (m4 : ∀ x, q = some x → CMulW a x) (m3 : ∀ x, s = some x → CMulW b x) :
    ∃ (pt : Addr) (n : Int) (o : Option Int), v = .ref pt ∧ H pt = some (.tup [.int n, optV o]) ∧ (∀ x, o = some x → CMulW n x) ∧ grow a q b s (i + 1) = grow a q b s i ++ ups n o := by
  match i, hi with
  | 0, hi => exact ⟨p1, a, q, (Option.some.inj hi).symm, h1, m4, rfl⟩
  | 1, hi => exact ⟨p2, b, s, (Option.some.inj hi).symm, h2, m3, by simp [grow, bnds]⟩
  | n + 2, hi => cases hi
local macro_rules | `(tactic| walk_at "leaf") => `(tactic| (refine' qb_eq ?lf1 ?lf2; (case lf1 => assumption); (case lf2 => simp [lin0, lin2] <;> omega)))
local macro_rules | `(tactic| walk_at "tst") => `(tactic| first | walk_at "leaf" | (refine ite_d (fun _ => ?_) (fun _ => ?_) <;> walk_at "tst") | (walk_at "rd1"; walk_at "tst"))
include M
theorem c__law_due_totals : Dn P w K mg base "_law_due_totals" 1 ["_law_a", "_law_one", "_law_b", "_law_two"] [] spDue := by
  refine dnN M.f__law_due_totals (fun F => ?_) (fun _ _ _ _ _ _ us hl => match us, hl with | [_, _, _, _], _ => rfl)
  refine fnG_body F sc__law_due_totals (fun vs H Q E h => ?_) (fun cdv A outer s H vs Q E hr h => ?_)
  · obtain ⟨a, x, b, y, p, q, r, s, rfl, _⟩ := h
    rfl
  · obtain ⟨a, x, b, y, p, q, r, s, rfl, hx, hy, z, k⟩ := h
    have za := z.sa
    have zb := z.sb
    have zp := z.sp
    have zr := z.sr
    have a0 := z.a0
    have b0 := z.b0
    have m1 : CMulW a p := za.cmul zp
    have m2 : CMulW b r := zb.cmul zr
    have m5 : CMulW a b := za.cmul zb
    have m3 : ∀ x, s = some x → CMulW b x := fun x e => zb.cmul (z.ss x e)
    have m4 : ∀ x, q = some x → CMulW a x := fun x e => za.cmul (z.sq x e)
    refine ⟨_, (pss_cons (ps_if (PW.pt (pw_or (PW.pt (pw_and (pt_cmpR op_notN (pe_ix ix_tup (pv 3) pe_int (fun _ _ => rfl)) pe_non (nomark _)) (pw_and1 (pt_cmpR op_lt (pe_op op_mulW (pv 2) (pe_ix ix_tup (pv 3) pe_int (fun _ _ => rfl))) (pe_op op_mulW (pv 0) (pe_ix ix_tup (pv 1) pe_int (fun _ _ => rfl))) (nomark _))))) (pw_or1 (PW.pt (pw_and (pt_cmpR op_notN (pe_ix ix_tup (pv 1) pe_int (fun _ _ => rfl)) pe_non (nomark _)) (pw_and1 (pt_cmpR op_lt (pe_op op_mulW (pv 0) (pe_ix ix_tup (pv 1) pe_int (fun _ _ => rfl))) (pe_op op_mulW (pv 2) (pe_ix ix_tup (pv 3) pe_int (fun _ _ => rfl))) (nomark _)))))))) (pss_one (ps_ret pe_non)) pss_nil) (pss_cons (ps_if (PW.pt (pw_or (PW.pt (pw_and (pt_cmpR op_gt (pv 0) pe_int (nomark _)) (pw_and1 (pt_cmpR op_lt (pv 2) (pe_ix ix_tup (pv 1) pe_int (fun _ _ => rfl)) (nomark _))))) (pw_or1 (PW.pt (pw_and (pt_cmpR op_gt (pv 2) pe_int (nomark _)) (pw_and1 (pt_cmpR op_lt (pv 0) (pe_ix ix_tup (pv 3) pe_int (fun _ _ => rfl)) (nomark _)))))))) (pss_one (ps_ret pe_non)) pss_nil) (pss_cons (ps_set (i := 4) sc__law_due_totals.nd rfl (.inl rfl) (pe_lst (pa_cons (pe_op op_mulW (pv 0) (pv 2)) pa_nil))) (pss_cons (ps_for (passes_of rfl) rfl (pi_list (pe_lst (pa_cons (pe_tup (pa_cons (pv 0) (pa_cons (pe_ix ix_tup (pv 1) pe_int (fun _ _ => rfl)) pa_nil))) (pa_cons (pe_tup (pa_cons (pv 2) (pa_cons (pe_ix ix_tup (pv 3) pe_int (fun _ _ => rfl)) pa_nil))) pa_nil)))) (pg_tup (by rfl) (pgs_cons (pg_name (i := 5) sc__law_due_totals.nd rfl (.inr rfl)) (pgs_cons (pg_name (i := 6) sc__law_due_totals.nd rfl (.inl rfl)) pgs_nil))) (pss_one (ps_expr (pe_bm PySem.F.plainAttrs_list PySem.F.slot_list_extend PySem.F.type_list_extend mt_extend (pv 4) (pa_cons (pe_lc (own := [("_law_high", 7)]) (g := gName 7) (tt := _) (by rfl) sc__law_due_totals.nd (pi_list (pe_lst (pa_cons (pv 6) pa_nil))) (blkOk_by (own := [("_law_high", 7)]) (N := N__law_due_totals) (sc := defScope st__law_due_totals) (by decide +kernel)) (fun _ _ _ _ _ => pg_name (i := 7) sc__law_due_totals.nd rfl (by first | exact Or.inl rfl | exact Or.inr rfl)) (fun _ _ _ _ _ => pts_one (pt_cmpR op_notN (pv 7) pe_non (nomark _))) (fun _ _ _ _ _ => (pe_op op_mulW (pv 5) (pv 7)))) pa_nil))))) (pss_one (ps_ret (pe_tup (pa_cons (pe_callB (call_max2 rfl) (by rfl) M.b_max (by decide +kernel) (pa_cons (pe_op op_mulW (pv 0) (pe_ix ix_tup (pv 1) pe_int (fun _ _ => rfl))) (pa_cons (pe_op op_mulW (pv 2) (pe_ix ix_tup (pv 3) pe_int (fun _ _ => rfl))) pa_nil))) (pa_cons (pe_callB (cr_min rfl) (by rfl) M.b_min (by decide +kernel) (pa_cons (pv 4) pa_nil)) pa_nil))))))))), ?_⟩
    refine st_eq (σ := [some _, some _, some _, some _, none, none, none, none]) rfl ?_
    with_reducible refine s_seq ?_
    with_reducible refine s_ifS ?_
    refine s_cut (!(lin0 a p b s && lin0 b r a q)) ?_ (fun QB hQ => ?_)
    · refine ite_nb (fun e1 => ?_) (fun e1 => ?_)
      · walk_at "rd"
        refine k none _ _ ?_ (My.Same.rfl' H) rfl
        show lines a p q b r s = false
        unfold lines
        rw [e1]
        rfl
      · with_reducible refine s_next ?_
        with_reducible refine s_seq ?_
        with_reducible refine s_ifS ?_
        refine s_cut (!(lin2 a p b && lin2 b r a)) ?_ (fun QB hQ => ?_)
        · refine ite_nb (fun e2 => ?_) (fun e2 => ?_)
          · walk_at "rd"
            refine k none _ _ ?_ (My.Same.rfl' H) rfl
            show lines a p q b r s = false
            unfold lines
            rw [Bool.and_assoc, e2, Bool.and_false]
          · have e : lines a p q b r s = true := by
              unfold lines
              rw [Bool.and_assoc, e1, e2]
              rfl
            walk_at "rd"
            rename_i g ng D hD p1 np1 p2 np2 l nl
            have lg : l ≠ g := by walk_at "ne"
            refine ⟨⟨_, SqL.of upd_same⟩, for_list (K := K) (a := l) (xs := [.ref p1, .ref p2]) (fun i σ H' => (∃ v w, σ = [some (.int a), some (.ref x), some (.int b), some (.ref y), some (.ref g), v, w, none]) ∧ Same H H' ∧
              H' l = some (.lst [.ref p1, .ref p2]) ∧ H' p1 = some (.tup [.int a, optV q]) ∧ H' p2 = some (.tup [.int b, optV s]) ∧ H' g = some (.lst ((grow a q b s i).map V.int))) ?_ ?_ ?_ ?_⟩
            · refine ⟨⟨_, _, rfl⟩, by walk_at "sm", upd_same, by walk_at "hp", by walk_at "hp", ?_⟩
              walk_at "hp"
            · intro i σ H' _ h
              exact SqL.of h.2.2.1
            · subst_vars
              rintro i v σ H' hi ⟨⟨v5, v6, rfl⟩, hs, hl, h1, h2, hg⟩
              obtain ⟨pt, n, o, rfl, hpt, hm, hG⟩ := turn2 hi h1 h2 m4 m3
              walk_at "rd"
              rename_i lt nlt
              refine ⟨⟨_, SqL.of upd_same⟩, fun Dl nD => lc_list (K := K) (a := lt) (xs := [optV o]) (fun i H'' => Same H' H'' ∧ H'' lt = some (.lst [optV o]) ∧ H'' Dl = some (.lst (part n o i))) ?_ ?_ ?_ ?_⟩
              · exact ⟨by walk_at "sm", by walk_at "hp", upd_same⟩
              · intro i H'' _ h
                exact SqL.of h.2.1
              · rintro j v H'' hj ⟨hs2, hlt, hD⟩
                obtain ⟨rfl, rfl⟩ := turn1 hj
                have nD' : H' Dl = none := L2.Same.free (My.Same.new nlt) nD
                cases o with
                | none =>
                  walk_at "rd"
                  exact ⟨hs2, hlt, hD⟩
                | some o =>
                  have := hm o rfl
                  walk_at "rd"
                  exact ⟨_, hD, by walk_at "sz", by walk_at "sm", by walk_at "hp", upd_same⟩
              · rintro H'' ⟨hs2, hlt, hD⟩
                walk_at "rd"
                have nD' : H' Dl = none := L2.Same.free (My.Same.new nlt) nD
                have hg2 : H'' g = some (.lst ((grow a q b s i).map V.int)) := hs2 _ _ hg
                have hl2 := hs2 _ _ hl
                have h12 := hs2 _ _ h1
                have h22 := hs2 _ _ h2
                refine s_extend hg2 hD ?_ ?_
                · have := grow_len a q b s i
                  have := part_len n o [optV o].length
                  rw [sizeLine_eq, List.length_map]
                  omega
                · refine ⟨⟨_, _, rfl⟩, by walk_at "sm", by walk_at "hp", by walk_at "hp", by walk_at "hp", ?_⟩
                  · rw [upd_same, hG, List.map_append]
                    rfl
            · subst_vars
              rintro σ H' ⟨⟨v5, v6, rfl⟩, hs, hl, h1, h2, hg⟩
              walk_at "rd"
              refine ⟨_, bnds a q b s, rfl, SqL.of hg, by simp [bnds], fun m hm hle => ?_⟩
              walk_at "rd"
              exact k (some (lowB a p b r, m)) (.ref _) _ ⟨e, rfl, hm, hle⟩ (by walk_at "sm") ⟨_, rfl, upd_same⟩
        · walk_at "tst"
    · cases q <;> cases s <;> (
        try have hq := m4 _ rfl
        try have hs := m3 _ rfl
        walk_at "tst")
end
end My

open My L2 PySem
open My L2 PySem
local macro_rules | `(tactic| walk_at "as") => `(tactic| with_reducible assumption)
local macro_rules | `(tactic| walk_at "hp") => `(tactic| first
  | walk_at "as" | exact upd_same
  | (rw [upd_ne (by walk_at "ne")]; walk_at "hp")
  | (refine But.get (by walk_at "as") ?hp1 ?hp2; (case hp1 => walk_at "hp"); (case hp2 => walk_at "ne"))
  | (refine My.Same.get (by walk_at "as") ?hp1; (case hp1 => walk_at "hp")))
local macro_rules | `(tactic| walk_at "ne") => `(tactic| first
  | walk_at "as" | exact Ne.symm (by walk_at "as")
  | (refine' ne_of_none ?ne1 ?ne2; (case ne2 => walk_at "as"); (case ne1 => walk_at "hp"))
  | (refine' Ne.symm (ne_of_none ?ne1 ?ne2); (case ne2 => walk_at "as"); (case ne1 => walk_at "hp"))
  | exact ne_of (by walk_at "hp") (by walk_at "hp") (by intro z; cases z))
local macro_rules | `(tactic| walk_at "sd") => `(tactic| first
  | walk_at "as" | omega | decide | exact ⟨by omega, by omega⟩ | exact .inl ⟨by omega, by omega⟩ | exact .inr ⟨by omega, by omega⟩ | exact divp_wide (by walk_at "as") (by walk_at "as") | exact Sm.cmul (by walk_at "as") (by walk_at "as") | exact cmul_small (by omega) (by omega) (by omega) (by omega) | exact ⟨by omega, by decide⟩)
local macro_rules | `(tactic| walk_at "bt") => `(tactic| first
  | walk_at "as" | exact But.refl _ _ | exact Same.but (by walk_at "as")
  | (refine But.trans ?bt1 But.at; (case bt1 => walk_at "bt"))
  | (refine But.trans ?bt1 (But.new (by first | walk_at "as" | walk_at "hp")); (case bt1 => walk_at "bt"))
  | (refine But.trans ?bt1 (by walk_at "as"); (case bt1 => walk_at "bt"))
  | (refine But.trans ?bt1 (Same.but (by walk_at "as")); (case bt1 => walk_at "bt")))
local macro_rules | `(tactic| walk_at "sm") => `(tactic| first
  | walk_at "as" | exact My.Same.rfl' _
  | (refine' My.Same.at_ ?sm1 ?sm2; (case sm1 => walk_at "as"); (case sm2 => walk_at "sm"))
  | (refine' My.Same.tr ?sm1 (My.Same.new ?sm2); (case sm2 => walk_at "as"); (case sm1 => walk_at "sm"))
  | (refine' My.Same.tr ?sm1 ?sm2; (case sm2 => walk_at "as"); (case sm1 => walk_at "sm")))
local macro_rules | `(tactic| walk_at "sz") => `(tactic| first
  | assumption | exact lt_size (by rfl) | exact le_size (by rfl) | (rw [sizeLine_eq]; omega)
  | (rw [sizeLine_eq]; simp only [List.length_append, List.length_map, List.length_cons, List.length_nil]; omega))
local macro_rules | `(tactic| walk_at "few") => `(tactic| (repeat refine few_put ?_); exact few0)
local macro_rules | `(tactic| walk_at "rd1") => `(tactic| first
  | (with_reducible show tVar _ _ _ _); refine s_var rfl ?_
  | with_reducible refine s_c ?_ | with_reducible refine s_op ?_ | with_reducible refine s_un ?_
  | with_reducible refine s_cons ?_ | with_reducible refine s_nil ?_ | with_reducible refine s_cb ?_
  | with_reducible refine s_test ?_ | with_reducible refine s_B ?_ | with_reducible refine s_not ?_ | with_reducible refine s_and ?_ | with_reducible refine s_or ?_
  | with_reducible refine s_if ?_ | with_reducible refine s_notV ?_ | with_reducible refine s_andV ?_ | with_reducible refine s_orV ?_
  | with_reducible refine s_orT ?_ | with_reducible refine s_andT ?_ | with_reducible refine s_chain ?_
  | with_reducible refine s_isi_int ?_ | with_reducible refine s_isi_int_bool ?_ | with_reducible refine s_isi_str ?_
  | with_reducible refine iteT ?_ | with_reducible refine iteF ?_ | with_reducible refine iteNT ?_ | with_reducible refine iteNF ?_
  | with_reducible refine s_isN ?_ | with_reducible refine s_notN ?_
  | ((with_reducible refine' s_2setE ?g1 ?_); (case g1 => first | (dsimp only [List.set, L2.wipe, List.map, List.foldl]; done) | (dsimp only [List.set, L2.wipe, List.map, List.foldl]; rfl)))
  | with_reducible refine s_seq ?_ | with_reducible refine s_ifS ?_ | with_reducible refine s_asg ?_ | with_reducible refine s_ret ?_ | with_reducible refine s_drop ?_ | with_reducible refine s_next ?_
  | ((with_reducible refine' s_gnameE ?g1 ?_); (case g1 => first | (dsimp only [List.set, L2.wipe, List.map, List.foldl]; done) | (dsimp only [List.set, L2.wipe, List.map, List.foldl]; rfl)))
  | with_reducible refine s_gsub ?_ | with_reducible refine s_gcons ?_ | with_reducible refine s_gnil ?_
  | (with_reducible show gTup _ _ _ _ _ _ _); refine s_gtup (by walk_at "hp") rfl ?_
  | with_reducible refine s_eqI ?_ | with_reducible refine s_neI ?_ | with_reducible refine s_eqS ?_ | with_reducible refine s_neB ?_ | with_reducible refine s_eqB ?_ | with_reducible refine s_neSr ?_ | with_reducible refine s_neS ?_
  | with_reducible refine s_I0 ?_
  | (with_reducible show rI _ _ _ _ _ _); refine s_I (by walk_at "sd") ?_
  | (with_reducible show rIxL _ _ _ _ _); refine s_ixL (by walk_at "hp") rfl ?_
  | (with_reducible show rIxT _ _ _ _ _); refine s_ixT (by walk_at "hp") rfl ?_
  | (with_reducible show rSetL _ _ _ _ _); refine s_setL (by walk_at "hp") rfl ?_
  | with_reducible refine s_prop ?_
  | (with_reducible show _ ≤ sizeLine ∧ _); refine ⟨le_size (by rfl), ?_⟩
  | with_reducible refine ite_NN ?_ | with_reducible refine ite_IN ?_ | with_reducible refine ite_nNN ?_ | with_reducible refine ite_nIN ?_ | with_reducible refine ite_RN ?_ | with_reducible refine ite_nRN ?_
  | with_reducible refine s_sfld ?_
  | ((with_reducible refine' ⟨_, _, _, _, rfl, ?fp1, ?fp2, ?fp3, ?fp4, ?_⟩); (case fp1 => walk_at "hp"); (case fp2 => assumption); (case fp3 => assumption); (case fp4 => walk_at "few"))
  | with_reducible refine s_fldE ?_
  | ((with_reducible refine' ⟨_, _, _, _, _, rfl, ?fp1, ?fp2, ?fp3, ?fp4, ?_⟩); (case fp1 => walk_at "hp"); (case fp2 => assumption); (case fp3 => assumption); (case fp4 => rfl))
  | with_reducible refine s_bm ?_ | with_reducible refine s_bm0 ?_
  | ((with_reducible refine' s_tyL ?ty1 ?_); (case ty1 => walk_at "hp"))
  | ((with_reducible refine' s_append ?ap1 ?ap2 ?_); (case ap1 => walk_at "hp"); (case ap2 => walk_at "sz"))
  | ((with_reducible refine' s_extend ?ap1 ?ap2 ?ap3 ?_); (case ap1 => walk_at "hp"); (case ap2 => walk_at "hp"); (case ap3 => walk_at "sz"))
  | with_reducible refine s_for (fun _ _ => ?_) | with_reducible refine s_lc ?_ | with_reducible refine s_iList ?_ | with_reducible refine s_iTup ?_ | with_reducible refine s_iRng1 ?_ | with_reducible refine s_iRng2 ?_
  | with_reducible refine s_yes ?_ | with_reducible refine s_par ?_
  | with_reducible refine s_make ?_ | with_reducible refine s_meth ?_
  | with_reducible refine s_tup ?_ | with_reducible refine s_lst ?_ | with_reducible refine s_call ?_
  | with_reducible refine ⟨rfl, ?_⟩
  | with_reducible refine ⟨_, rfl, ?_⟩
  | ((with_reducible refine' ⟨_, _, rfl, ?sd1, ?_⟩); (case sd1 => walk_at "sd"))
  | with_reducible refine ⟨_, _, rfl, ?_⟩
  | with_reducible refine .inl ⟨_, rfl, ?_⟩
  | dsimp only [List.set]
  | walk_at "rdx"
  | (refine fun _ _ => ?_))
local macro_rules | `(tactic| walk_at "rd") => `(tactic| repeat (first
  | (with_reducible show tVar _ _ _ _); refine s_var rfl ?_
  | with_reducible refine s_c ?_ | with_reducible refine s_op ?_ | with_reducible refine s_un ?_
  | with_reducible refine s_cons ?_ | with_reducible refine s_nil ?_ | with_reducible refine s_cb ?_
  | with_reducible refine s_test ?_ | with_reducible refine s_B ?_ | with_reducible refine s_not ?_ | with_reducible refine s_and ?_ | with_reducible refine s_or ?_
  | with_reducible refine s_if ?_ | with_reducible refine s_notV ?_ | with_reducible refine s_andV ?_ | with_reducible refine s_orV ?_
  | with_reducible refine s_orT ?_ | with_reducible refine s_andT ?_ | with_reducible refine s_chain ?_
  | with_reducible refine s_isi_int ?_ | with_reducible refine s_isi_int_bool ?_ | with_reducible refine s_isi_str ?_
  | with_reducible refine iteT ?_ | with_reducible refine iteF ?_ | with_reducible refine iteNT ?_ | with_reducible refine iteNF ?_
  | with_reducible refine s_isN ?_ | with_reducible refine s_notN ?_
  | ((with_reducible refine' s_2setE ?g1 ?_); (case g1 => first | (dsimp only [List.set, L2.wipe, List.map, List.foldl]; done) | (dsimp only [List.set, L2.wipe, List.map, List.foldl]; rfl)))
  | with_reducible refine s_seq ?_ | with_reducible refine s_ifS ?_ | with_reducible refine s_asg ?_ | with_reducible refine s_ret ?_ | with_reducible refine s_drop ?_ | with_reducible refine s_next ?_
  | ((with_reducible refine' s_gnameE ?g1 ?_); (case g1 => first | (dsimp only [List.set, L2.wipe, List.map, List.foldl]; done) | (dsimp only [List.set, L2.wipe, List.map, List.foldl]; rfl)))
  | with_reducible refine s_gsub ?_ | with_reducible refine s_gcons ?_ | with_reducible refine s_gnil ?_
  | (with_reducible show gTup _ _ _ _ _ _ _); refine s_gtup (by walk_at "hp") rfl ?_
  | with_reducible refine s_eqI ?_ | with_reducible refine s_neI ?_ | with_reducible refine s_eqS ?_ | with_reducible refine s_neB ?_ | with_reducible refine s_eqB ?_ | with_reducible refine s_neSr ?_ | with_reducible refine s_neS ?_
  | with_reducible refine s_I0 ?_
  | (with_reducible show rI _ _ _ _ _ _); refine s_I (by walk_at "sd") ?_
  | (with_reducible show rIxL _ _ _ _ _); refine s_ixL (by walk_at "hp") rfl ?_
  | (with_reducible show rIxT _ _ _ _ _); refine s_ixT (by walk_at "hp") rfl ?_
  | (with_reducible show rSetL _ _ _ _ _); refine s_setL (by walk_at "hp") rfl ?_
  | with_reducible refine s_prop ?_
  | (with_reducible show _ ≤ sizeLine ∧ _); refine ⟨le_size (by rfl), ?_⟩
  | with_reducible refine ite_NN ?_ | with_reducible refine ite_IN ?_ | with_reducible refine ite_nNN ?_ | with_reducible refine ite_nIN ?_ | with_reducible refine ite_RN ?_ | with_reducible refine ite_nRN ?_
  | with_reducible refine s_sfld ?_
  | ((with_reducible refine' ⟨_, _, _, _, rfl, ?fp1, ?fp2, ?fp3, ?fp4, ?_⟩); (case fp1 => walk_at "hp"); (case fp2 => assumption); (case fp3 => assumption); (case fp4 => walk_at "few"))
  | with_reducible refine s_fldE ?_
  | ((with_reducible refine' ⟨_, _, _, _, _, rfl, ?fp1, ?fp2, ?fp3, ?fp4, ?_⟩); (case fp1 => walk_at "hp"); (case fp2 => assumption); (case fp3 => assumption); (case fp4 => rfl))
  | with_reducible refine s_bm ?_ | with_reducible refine s_bm0 ?_
  | ((with_reducible refine' s_tyL ?ty1 ?_); (case ty1 => walk_at "hp"))
  | ((with_reducible refine' s_append ?ap1 ?ap2 ?_); (case ap1 => walk_at "hp"); (case ap2 => walk_at "sz"))
  | ((with_reducible refine' s_extend ?ap1 ?ap2 ?ap3 ?_); (case ap1 => walk_at "hp"); (case ap2 => walk_at "hp"); (case ap3 => walk_at "sz"))
  | with_reducible refine s_for (fun _ _ => ?_) | with_reducible refine s_lc ?_ | with_reducible refine s_iList ?_ | with_reducible refine s_iTup ?_ | with_reducible refine s_iRng1 ?_ | with_reducible refine s_iRng2 ?_
  | with_reducible refine s_yes ?_ | with_reducible refine s_par ?_
  | with_reducible refine s_make ?_ | with_reducible refine s_meth ?_
  | with_reducible refine s_tup ?_ | with_reducible refine s_lst ?_ | with_reducible refine s_call ?_
  | with_reducible refine ⟨rfl, ?_⟩
  | with_reducible refine ⟨_, rfl, ?_⟩
  | ((with_reducible refine' ⟨_, _, rfl, ?sd1, ?_⟩); (case sd1 => walk_at "sd"))
  | with_reducible refine ⟨_, _, rfl, ?_⟩
  | with_reducible refine .inl ⟨_, rfl, ?_⟩
  | dsimp only [List.set]
  | walk_at "rdx"
  | (refine fun _ _ => ?_)))

namespace My
open PySem L2
section
variable {P : Program} {w : World} {K : PySem.W.Frag} {mg : Str → Option Value} {base : Heap} {C_Many T_LINES : Addr} (M : Md K mg C_Many T_LINES)
include M
omit M
theorem Pot.same {H H' : Hp} {r : Addr} (h : Pot H r) (s : Same H H') : Pot H' r := by
  obtain ⟨x, y, e, h⟩ := h
  exact ⟨x, y, s _ _ e, h⟩
theorem TotV.same {H H' : Hp} {v : V} {t : Option (Int × Int)} (h : TotV H v t) (s : Same H H') : TotV H' v t := by
  cases t with
  | none => exact h
  | some x =>
    obtain ⟨T, e, f⟩ := h
    exact ⟨T, e, s _ _ f⟩
theorem TotV.but {H H' : Hp} {v : V} {t : Option (Int × Int)} {r : Addr} (h : TotV H v t) (b : But r H H') (p : Pot H r) : TotV H' v t := by
  cases t with
  | none => exact h
  | some x =>
    obtain ⟨T, e, f⟩ := h
    exact ⟨T, e, b.get f (p.neT f)⟩
theorem ManyAt.same {C x : Addr} {H H' : Hp} {lo : Int} {hi : Option Int} (h : ManyAt C H x lo hi) (s : Same H H') : ManyAt C H' x lo hi := by
  obtain ⟨dx, t, e⟩ := h
  exact ⟨dx, t, s _ _ e⟩
theorem ManyAt.buts {C x r : Addr} {H H' : Hp} {lo : Int} {hi : Option Int} (h : ManyAt C H x lo hi) (b : But r H H') (p : Pot H r) : ManyAt C H' x lo hi := by
  obtain ⟨dx, t, e⟩ := h
  obtain ⟨_, _, e2, _⟩ := p
  exact ⟨dx, t, b.get e (ne_of e e2 (by intro z; cases z))⟩
def totD : Option (Int × Int) → PyData
  | none => .none
  | some x => .tuple [.int x.1, .int x.2]
theorem shownI {i : Int} (h : Sm 520 i) : (PyData.shown (.int i)).length ≤ 600 := by
  have h1 := int_text_length_le (k := 520) (by decide) h.log
  show (Str.ofString (toString i)).length ≤ 600
  rw [PyProof.Rows.ofString_len]
  omega
theorem s_repr {K : PySem.W.Frag} {H : Hp} {v : V} {t : Option (Int × Int)} (h : TotV H v t) (z : ∀ x, t = some x → Sm 520 x.1 ∧ Sm 520 x.2) :
    Dp K H v (totD t) ∧ PySem.SeqAt.shaped (totD t) = true ∧ (totD t).showable = true ∧ (totD t).hasDict = false ∧ (totD t).shown.length ≤ sizeLine := by
  cases t with
  | none =>
    cases (show v = .non from h)
    exact ⟨.non, rfl, rfl, rfl, le_size (by rfl)⟩
  | some x =>
    obtain ⟨T, rfl, e⟩ := h
    obtain ⟨z1, z2⟩ := z x rfl
    refine ⟨.tup (SqT.of e) (.cons (.int _) (.cons (.int _) .nil)), ?_, ?_, ?_, ?_⟩
    · rfl
    · have l1 := z1.log
      have l2 := z2.log
      simp [totD, PyData.showable, PyData.showableAll]
      omega
    · rfl
    · have h1 := PyData.shown_le_bulk 600 (by decide) (totD (some x)) (by simp [totD, PyData.leavesShort, PyData.leavesShortAll, shownI z1, shownI z2])
      have h2 : (totD (some x)).bulk = 2 := rfl
      rw [h2] at h1
      rw [sizeLine_eq]
      omega
theorem Tot.sm {a p : Int} {q : Option Int} {b r : Int} {s : Option Int} {t : Option (Int × Int)} (h : Tot a p q b r s t) (z : Szs a p q b r s) (x : Int × Int) (e : t = some x) : Sm 520 x.1 ∧ Sm 520 x.2 := by
  subst e
  obtain ⟨l, g⟩ := x
  obtain ⟨_, rfl, h2, _⟩ := h
  constructor
  · show Sm 520 (lowB a p b r)
    unfold lowB
    split
    · exact (z.sb.mul z.sr).mono (by decide)
    · exact (z.sa.mul z.sp).mono (by decide)
  · show Sm 520 g
    rcases mem_bnds.1 h2 with e | ⟨x, e, e2⟩ | ⟨x, e, e2⟩
    · rw [e]
      exact (z.sa.mul z.sb).mono (by decide)
    · rw [e2]
      exact (z.sa.mul (z.sq x e)).mono (by decide)
    · rw [e2]
      exact (z.sb.mul (z.ss x e)).mono (by decide)
theorem Szs.mk' {a p : Int} {q : Option Int} {b r : Int} {s : Option Int} (n1 : Nums p q) (n2 : Nums r s) (a0 : 0 ≤ a) (a1 : a ≤ 10 ^ 65) (b0 : 0 ≤ b) (b1 : b ≤ 10 ^ 65) : Szs a p q b r s :=
  ⟨Sm.le a0 a1 (by decide), Sm.le b0 b1 (by decide), n1.s0, n1.s1, n2.s0, n2.s1, a0, b0⟩
def spRight : Sp := fun vs H Q _ => ∃ r : Addr, vs = [.ref r] ∧ Pot H r ∧ ∀ H', But r H H' → Pot H' r → Q (.bl true) H'
include M
set_option maxHeartbeats 0 in
theorem c__law_right : Dn P w K mg base "_law_right" 6 ["_law_pot"] [] spRight := by
  have c__law_draw := c__law_draw (P := P) (w := w) (base := base) M
  have c__law_numbers_in := c__law_numbers_in (P := P) (w := w) (base := base) M
  have c__law_sizes_in := c__law_sizes_in (P := P) (w := w) (base := base) M
  have c__law_made_many := c__law_made_many (P := P) (w := w) (base := base) M
  have c__law_due_totals := c__law_due_totals (P := P) (w := w) (base := base) M
  have c_totals := c_totals (P := P) (w := w) (base := base) M
  refine dnN M.f__law_right (fun F => ?_) (fun _ _ _ _ _ _ us hl => match us, hl with | [_], _ => rfl)
  refine fnG_body F sc__law_right (fun vs H Q E h => ?_) (fun cdv A outer s H vs Q E hr h => ?_)
  · obtain ⟨r, rfl, _⟩ := h
    rfl
  · obtain ⟨i, rfl, hp, k⟩ := h
    refine ⟨_, (pss_cons (ps_par (i := 1) (j := 2) (by rfl) sc__law_right.nd rfl rfl (by decide) rfl rfl (pa_cons (pe_callD c__law_numbers_in (hr.mono (by decide)) rfl (pa_cons (pv 0) pa_nil)) (pa_cons (pe_callD c__law_numbers_in (hr.mono (by decide)) rfl (pa_cons (pv 0) pa_nil)) pa_nil)) (by rfl)) (pss_cons (ps_asg (pe_tup (pa_cons (pe_callD c__law_sizes_in (hr.mono (by decide)) rfl (pa_cons (pv 0) (pa_cons (pv 1) (pa_cons (pv 2) pa_nil)))) (pa_cons (pe_callD c__law_sizes_in (hr.mono (by decide)) rfl (pa_cons (pv 0) (pa_cons (pv 1) (pa_cons (pv 2) pa_nil)))) pa_nil))) (pg_tup (by rfl) (pgs_cons (pg_tup (by rfl) (pgs_cons (pg_name (i := 3) sc__law_right.nd rfl (.inl rfl)) (pgs_cons (pg_name (i := 4) sc__law_right.nd rfl (.inl rfl)) pgs_nil))) (pgs_cons (pg_tup (by rfl) (pgs_cons (pg_name (i := 5) sc__law_right.nd rfl (.inl rfl)) (pgs_cons (pg_name (i := 6) sc__law_right.nd rfl (.inl rfl)) pgs_nil))) pgs_nil)))) (pss_cons (ps_par (i := 7) (j := 8) (by rfl) sc__law_right.nd rfl rfl (by decide) rfl rfl (pa_cons (pe_callD c__law_made_many (hr.mono (by decide)) rfl (pa_cons (pv 1) pa_nil)) (pa_cons (pe_callD c__law_made_many (hr.mono (by decide)) rfl (pa_cons (pv 2) pa_nil)) pa_nil)) (by rfl)) (pss_cons (ps_par (i := 9) (j := 10) (by rfl) sc__law_right.nd rfl rfl (by decide) rfl rfl (pa_cons (pe_callD c__law_due_totals (hr.mono (by decide)) rfl (pa_cons (pv 3) (pa_cons (pv 1) (pa_cons (pv 4) (pa_cons (pv 2) pa_nil))))) (pa_cons (pe_callD c__law_due_totals (hr.mono (by decide)) rfl (pa_cons (pv 5) (pa_cons (pv 1) (pa_cons (pv 6) (pa_cons (pv 2) pa_nil))))) pa_nil)) (by rfl)) (pss_cons (ps_set (i := 11) sc__law_right.nd rfl (.inl rfl) (pe_callD c_totals (hr.mono (by decide)) rfl (pa_cons (pv 3) (pa_cons (pv 7) (pa_cons (pv 4) (pa_cons (pv 8) pa_nil)))))) (pss_cons (ps_if (PW.pt (pw_or (pt_cmpR op_ne (pe_callB (call_reprD hr) (by rfl) M.b_repr (by decide +kernel) (pa_cons (pv 11) pa_nil)) (pe_callB (call_reprD hr) (by rfl) M.b_repr (by decide +kernel) (pa_cons (pv 9) pa_nil)) (nomark _)) (pw_or1 (pt_cmpR op_ne (pe_callB (call_reprD hr) (by rfl) M.b_repr (by decide +kernel) (pa_cons (pe_callD c_totals (hr.mono (by decide)) rfl (pa_cons (pv 4) (pa_cons (pv 8) (pa_cons (pv 3) (pa_cons (pv 7) pa_nil))))) pa_nil)) (pe_callB (call_reprD hr) (by rfl) M.b_repr (by decide +kernel) (pa_cons (pv 9) pa_nil)) (nomark _))))) (pss_one (ps_ret pe_bl)) pss_nil) (pss_cons (ps_if (pt_cmpR op_ne (pe_callB (call_reprD hr) (by rfl) M.b_repr (by decide +kernel) (pa_cons (pe_callD c_totals (hr.mono (by decide)) rfl (pa_cons (pv 5) (pa_cons (pv 7) (pa_cons (pv 6) (pa_cons (pv 8) pa_nil))))) pa_nil)) (pe_callB (call_reprD hr) (by rfl) M.b_repr (by decide +kernel) (pa_cons (pv 10) pa_nil)) (nomark _)) (pss_one (ps_ret pe_bl)) pss_nil) (pss_cons (ps_set (i := 12) sc__law_right.nd rfl (.inl rfl) (pe_op op_add pe_int (pe_callD c__law_draw (hr.mono (by decide)) rfl (pa_cons (pv 0) (pa_cons (pe_op op_pow pe_int pe_int) pa_nil))))) (pss_cons (ps_set (i := 13) sc__law_right.nd rfl (.inl rfl) (pe_callD c_totals (hr.mono (by decide)) rfl (pa_cons (pe_op op_mulW (pv 3) (pv 12)) (pa_cons (pv 7) (pa_cons (pe_op op_mulW (pv 4) (pv 12)) (pa_cons (pv 8) pa_nil)))))) (pss_cons (ps_if (PW.pt (pw_and (pt_cmpR op_notN (pv 9) pe_non (nomark _)) (pw_and1 (pt_cmpR op_isN (pv 13) pe_non (nomark _))))) (pss_one (ps_ret pe_bl)) pss_nil) (pss_cons (ps_if (PW.pt (pw_and (pt_cmpR op_notN (pv 9) pe_non (nomark _)) (pw_and1 (PW.pt (pw_or (pt_cmpR op_gt (pe_ix ix_tup (pv 13) pe_int (fun _ _ => rfl)) (pe_op op_mulW (pe_ix ix_tup (pv 9) pe_int (fun _ _ => rfl)) (pv 12)) (nomark _)) (pw_or1 (pt_cmpR op_gt (pe_op op_mulW (pe_ix ix_tup (pv 9) pe_int (fun _ _ => rfl)) (pv 12)) (pe_ix ix_tup (pv 13) pe_int (fun _ _ => rfl)) (nomark _)))))))) (pss_one (ps_ret pe_bl)) pss_nil) (pss_cons (ps_set (i := 14) sc__law_right.nd rfl (.inl rfl) (pe_callD c_totals (hr.mono (by decide)) rfl (pa_cons (pe_op op_add (pv 3) (pv 5)) (pa_cons (pv 7) (pa_cons (pe_op op_add (pv 4) (pv 6)) (pa_cons (pv 8) pa_nil)))))) (pss_cons (ps_if (PW.pt (pw_or (pt_cmpR op_isN (pv 9) pe_non (nomark _)) (pw_or1 (pt_cmpR op_isN (pv 10) pe_non (nomark _))))) (pss_one (ps_ret pe_bl)) pss_nil) (pss_one (ps_ret (pe_and (pe_cmpR op_notN (pv 14) pe_non (nomark _)) (pe_and (pe_cmpR op_le (pe_ix ix_tup (pv 14) pe_int (fun _ _ => rfl)) (pe_op op_add (pe_ix ix_tup (pv 9) pe_int (fun _ _ => rfl)) (pe_ix ix_tup (pv 10) pe_int (fun _ _ => rfl))) (nomark _)) (pe_one (pe_cmpR op_ge (pe_ix ix_tup (pv 14) pe_int (fun _ _ => rfl)) (pe_op op_add (pe_ix ix_tup (pv 9) pe_int (fun _ _ => rfl)) (pe_ix ix_tup (pv 10) pe_int (fun _ _ => rfl))) (nomark _)))))))))))))))))))), ?_⟩
    refine st_eq (σ := [some _, none, none, none, none, none, none, none, none, none, none, none, none, none, none]) rfl ?_
    walk_at "rd"
    refine ⟨i, rfl, hp, fun t1 p q H1 e1 n1 b1 hp1 => ?_⟩
    walk_at "rd"
    refine ⟨i, rfl, hp1, fun t2 r s H2 e2 n2 b2 hp2 => ?_⟩
    have e12 := b2.get e1 (hp1.neT e1)
    walk_at "rd"
    refine ⟨i, t1, t2, p, q, r, s, rfl, e12, e2, n1, n2, hp2, fun w1 a b H3 f1 a0 a1 b0 b1' b3 hp3 => ?_⟩
    have e13 := b3.get e12 (hp2.neT e12)
    have e23 := b3.get e2 (hp2.neT e2)
    walk_at "rd"
    refine ⟨i, t1, t2, p, q, r, s, rfl, e13, e23, n1, n2, hp3, fun w2 c d H4 f2 c0 c1 d0 d1 b4 hp4 => ?_⟩
    have e14 := b4.get e13 (hp3.neT e13)
    have e24 := b4.get e23 (hp3.neT e23)
    have f14 := b4.get f1 (hp3.neT f1)
    walk_at "rd"
    rename_i tt ntt
    refine ⟨t1, p, q, rfl, by walk_at "hp", n1.1, fun h e => (n1.2.2 h e).1, fun x H5 s5 m5 => ?_⟩
    have S5 : Same H4 H5 := My.Same.tr (My.Same.new ntt) s5
    walk_at "rd"
    refine ⟨t2, r, s, rfl, S5 _ _ e24, n2.1, fun h e => (n2.2.2 h e).1, fun y H6 s6 m6 => ?_⟩
    have S6 : Same H4 H6 := My.Same.tr S5 s6
    have x6 := m5.same s6
    have zab : Szs a p q b r s := Szs.mk' n1 n2 a0 (by omega) b0 (by omega)
    have zba : Szs b r s a p q := Szs.mk' n2 n1 b0 (by omega) a0 (by omega)
    have zcd : Szs c p q d r s := Szs.mk' n1 n2 c0 (by omega) d0 (by omega)
    have e16 := S6 _ _ e14
    have e26 := S6 _ _ e24
    have hp6 := hp4.same S6
    walk_at "rd"
    refine ⟨a, t1, b, t2, p, q, r, s, rfl, e16, e26, zab, fun tD vD H7 D7 s7 v7 => ?_⟩
    walk_at "rd"
    refine ⟨c, t1, d, t2, p, q, r, s, rfl, s7 _ _ e16, s7 _ _ e26, zcd, fun tA vA H8 D8 s8 v8 => ?_⟩
    have S8 : Same H6 H8 := My.Same.tr s7 s8
    have vD8 := v7.same s8
    walk_at "rd"
    refine ⟨a, x, b, y, p, q, r, s, rfl, x6.same S8, m6.same S8, zab, fun tS vS H9 D9 s9 v9 => ?_⟩
    cases D9.uniq D7
    have S9 : Same H6 H9 := My.Same.tr S8 s9
    have vD9 := vD8.same s9
    have vA9 := v8.same s9
    walk_at "rd"
    obtain ⟨r1, r2, r3, r4, r5⟩ := s_repr (K := K) v9 (D7.sm zab)
    refine ⟨_, _, rfl, r1, r2, r3, r4, r5, ?_⟩
    walk_at "rd"
    obtain ⟨r1, r2, r3, r4, r5⟩ := s_repr (K := K) vD9 (D7.sm zab)
    refine ⟨_, _, rfl, r1, r2, r3, r4, r5, ?_⟩
    walk_at "rd"
    refine ⟨b, y, a, x, r, s, p, q, rfl, m6.same S9, x6.same S9, zba, fun tT vT Ha Da sa va => ?_⟩
    cases Da.uniq D7.swap
    have Sa : Same H6 Ha := My.Same.tr S9 sa
    have vDa := vD9.same sa
    have vAa := vA9.same sa
    walk_at "rd"
    obtain ⟨r1, r2, r3, r4, r5⟩ := s_repr (K := K) va (D7.sm zab)
    refine ⟨_, _, rfl, r1, r2, r3, r4, r5, ?_⟩
    walk_at "rd"
    obtain ⟨r1, r2, r3, r4, r5⟩ := s_repr (K := K) vDa (D7.sm zab)
    refine ⟨_, _, rfl, r1, r2, r3, r4, r5, ?_⟩
    walk_at "rd"
    refine ⟨c, x, d, y, p, q, r, s, rfl, x6.same Sa, m6.same Sa, zcd, fun tU vU Hb Db sb vb => ?_⟩
    cases Db.uniq D8
    have Sb : Same H6 Hb := My.Same.tr Sa sb
    have vDb := vDa.same sb
    have vAb := vAa.same sb
    walk_at "rd"
    obtain ⟨r1, r2, r3, r4, r5⟩ := s_repr (K := K) vb (D8.sm zcd)
    refine ⟨_, _, rfl, r1, r2, r3, r4, r5, ?_⟩
    walk_at "rd"
    obtain ⟨r1, r2, r3, r4, r5⟩ := s_repr (K := K) vAb (D8.sm zcd)
    refine ⟨_, _, rfl, r1, r2, r3, r4, r5, ?_⟩
    have hpb := hp6.same Sb
    walk_at "rd"
    refine ⟨i, _, rfl, hpb, by decide, by decide, fun g Hc bc hpc g0 g1 => ?_⟩
    have vDc := vDb.but bc hpb
    have vAc := vAb.but bc hpb
    have xc := (x6.same Sb).buts bc hpb
    have yc := (m6.same Sb).buts bc hpb
    have g1' : g < 10000 := g1
    have sg : Sm 62 (1 + g) := sm62 (by omega) (by omega)
    have ca : CMulW a (1 + g) := zab.sa.cmul sg
    have cb : CMulW b (1 + g) := zab.sb.cmul sg
    have ua : 0 ≤ a * (1 + g) ∧ a * (1 + g) ≤ 10 ^ 65 := ⟨Int.mul_nonneg a0 (by omega), Int.le_trans (Int.mul_le_mul a1 (show 1 + g ≤ 10000 by omega) (by omega) (by decide)) (by decide)⟩
    have ub : 0 ≤ b * (1 + g) ∧ b * (1 + g) ≤ 10 ^ 65 := ⟨Int.mul_nonneg b0 (by omega), Int.le_trans (Int.mul_le_mul b1' (show 1 + g ≤ 10000 by omega) (by omega) (by decide)) (by decide)⟩
    walk_at "rd"
    refine ⟨_, x, _, y, p, q, r, s, rfl, xc, yc, Szs.mk' n1 n2 ua.1 ua.2 ub.1 ub.2, fun tM vM Hd Dd sd vd => ?_⟩
    have vDd := vDc.same sd
    have vAd := vAc.same sd
    have hpd := hpc.same sd
    have xd := xc.same sd
    have yd := yc.same sd
    have hB : But i H Hd := (((((b1.trans b2).trans b3).trans b4).trans (My.Same.but (My.Same.tr S6 Sb))).trans bc).trans (My.Same.but sd)
    cases tD with
    | none =>
      cases (show vD = .non from vDd)
      walk_at "rd"
      refine ⟨_, x, _, y, p, q, r, s, rfl, xd, yd, Szs.mk' n1 n2 (by omega) (by omega) (by omega) (by omega), fun tW vW He De se ve => ?_⟩
      walk_at "rd"
      exact k _ (hB.trans (My.Same.but se)) (hpd.same se)
    | some u =>
      obtain ⟨l, h⟩ := u
      obtain ⟨T, rfl, eT⟩ := vDd
      obtain ⟨l', h', rfl, hl, hh⟩ := D7.scale a0 b0 n1.1 n2.1 (show 1 ≤ 1 + g by omega) Dd
      obtain ⟨T', rfl, eT'⟩ := vd
      have z1 := D7.sm zab _ rfl
      have cl : CMulW l (1 + g) := z1.1.cmul sg
      have ch : CMulW h (1 + g) := z1.2.cmul sg
      walk_at "rd"
      refine ite_d (fun hc => ?_) (fun hc => ?_)
      · exfalso
        have : l * (1 + g) < l' := hc
        omega
      walk_at "rd"
      refine ite_d (fun hc => ?_) (fun hc => ?_)
      · exfalso
        have : h' < h * (1 + g) := hc
        omega
      walk_at "rd"
      refine ⟨_, x, _, y, p, q, r, s, rfl, xd, yd, Szs.mk' n1 n2 (by omega) (by omega) (by omega) (by omega), fun tW vW He De se ve => ?_⟩
      have eTe := se _ _ eT
      have vAe := vAd.same se
      cases tA with
      | none =>
        cases (show vA = .non from vAe)
        walk_at "rd"
        exact k _ (hB.trans (My.Same.but se)) (hpd.same se)
      | some u =>
        obtain ⟨l2, h2⟩ := u
        obtain ⟨T2, rfl, eT2⟩ := vAe
        obtain ⟨l3, h3, rfl, hl3, hh3⟩ := D7.sum a0 b0 c0 d0 n1.1 n2.1 D8 De
        obtain ⟨T3, rfl, eT3⟩ := ve
        walk_at "rd"
        have f1 : l3 ≤ l + l2 := hl3
        have f2 : h + h2 ≤ h3 := hh3
        refine ite_d (fun _ => ?_) (fun hc => absurd f1 hc)
        walk_at "rd"
        rw [decide_eq_true (show h + h2 ≤ h3 from f2)]
        exact k _ (hB.trans (My.Same.but se)) (hpd.same se)
end
end My

open My L2 PySem
open My L2 PySem
local macro_rules | `(tactic| walk_at "as") => `(tactic| with_reducible assumption)
local macro_rules | `(tactic| walk_at "hp") => `(tactic| first
  | walk_at "as" | exact upd_same
  | (rw [upd_ne (by walk_at "ne")]; walk_at "hp")
  | (refine But.get (by walk_at "as") ?hp1 ?hp2; (case hp1 => walk_at "hp"); (case hp2 => walk_at "ne"))
  | (refine My.Same.get (by walk_at "as") ?hp1; (case hp1 => walk_at "hp")))
local macro_rules | `(tactic| walk_at "ne") => `(tactic| first
  | walk_at "as" | exact Ne.symm (by walk_at "as")
  | (refine' ne_of_none ?ne1 ?ne2; (case ne2 => walk_at "as"); (case ne1 => walk_at "hp"))
  | (refine' Ne.symm (ne_of_none ?ne1 ?ne2); (case ne2 => walk_at "as"); (case ne1 => walk_at "hp"))
  | exact ne_of (by walk_at "hp") (by walk_at "hp") (by intro z; cases z))
local macro_rules | `(tactic| walk_at "sd") => `(tactic| first
  | walk_at "as" | omega | decide | exact ⟨by omega, by omega⟩ | exact .inl ⟨by omega, by omega⟩ | exact .inr ⟨by omega, by omega⟩ | exact divp_wide (by walk_at "as") (by walk_at "as") | exact Sm.cmul (by walk_at "as") (by walk_at "as") | exact cmul_small (by omega) (by omega) (by omega) (by omega) | exact ⟨by omega, by decide⟩)
local macro_rules | `(tactic| walk_at "bt") => `(tactic| first
  | walk_at "as" | exact But.refl _ _ | exact Same.but (by walk_at "as")
  | (refine But.trans ?bt1 But.at; (case bt1 => walk_at "bt"))
  | (refine But.trans ?bt1 (But.new (by first | walk_at "as" | walk_at "hp")); (case bt1 => walk_at "bt"))
  | (refine But.trans ?bt1 (by walk_at "as"); (case bt1 => walk_at "bt"))
  | (refine But.trans ?bt1 (Same.but (by walk_at "as")); (case bt1 => walk_at "bt")))
local macro_rules | `(tactic| walk_at "sm") => `(tactic| first
  | walk_at "as" | exact My.Same.rfl' _
  | (refine' My.Same.at_ ?sm1 ?sm2; (case sm1 => walk_at "as"); (case sm2 => walk_at "sm"))
  | (refine' My.Same.tr ?sm1 (My.Same.new ?sm2); (case sm2 => walk_at "as"); (case sm1 => walk_at "sm"))
  | (refine' My.Same.tr ?sm1 ?sm2; (case sm2 => walk_at "as"); (case sm1 => walk_at "sm")))
local macro_rules | `(tactic| walk_at "sz") => `(tactic| first
  | assumption | exact lt_size (by rfl) | exact le_size (by rfl) | (rw [sizeLine_eq]; omega)
  | (rw [sizeLine_eq]; simp only [List.length_append, List.length_map, List.length_cons, List.length_nil]; omega))
local macro_rules | `(tactic| walk_at "few") => `(tactic| (repeat refine few_put ?_); exact few0)
local macro_rules | `(tactic| walk_at "rd1") => `(tactic| first
  | (with_reducible show tVar _ _ _ _); refine s_var rfl ?_
  | with_reducible refine s_c ?_ | with_reducible refine s_op ?_ | with_reducible refine s_un ?_
  | with_reducible refine s_cons ?_ | with_reducible refine s_nil ?_ | with_reducible refine s_cb ?_
  | with_reducible refine s_test ?_ | with_reducible refine s_B ?_ | with_reducible refine s_not ?_ | with_reducible refine s_and ?_ | with_reducible refine s_or ?_
  | with_reducible refine s_if ?_ | with_reducible refine s_notV ?_ | with_reducible refine s_andV ?_ | with_reducible refine s_orV ?_
  | with_reducible refine s_orT ?_ | with_reducible refine s_andT ?_ | with_reducible refine s_chain ?_
  | with_reducible refine s_isi_int ?_ | with_reducible refine s_isi_int_bool ?_ | with_reducible refine s_isi_str ?_
  | with_reducible refine iteT ?_ | with_reducible refine iteF ?_ | with_reducible refine iteNT ?_ | with_reducible refine iteNF ?_
  | with_reducible refine s_isN ?_ | with_reducible refine s_notN ?_
  | ((with_reducible refine' s_2setE ?g1 ?_); (case g1 => first | (dsimp only [List.set, L2.wipe, List.map, List.foldl]; done) | (dsimp only [List.set, L2.wipe, List.map, List.foldl]; rfl)))
  | with_reducible refine s_seq ?_ | with_reducible refine s_ifS ?_ | with_reducible refine s_asg ?_ | with_reducible refine s_ret ?_ | with_reducible refine s_drop ?_ | with_reducible refine s_next ?_
  | ((with_reducible refine' s_gnameE ?g1 ?_); (case g1 => first | (dsimp only [List.set, L2.wipe, List.map, List.foldl]; done) | (dsimp only [List.set, L2.wipe, List.map, List.foldl]; rfl)))
  | with_reducible refine s_gsub ?_ | with_reducible refine s_gcons ?_ | with_reducible refine s_gnil ?_
  | (with_reducible show gTup _ _ _ _ _ _ _); refine s_gtup (by walk_at "hp") rfl ?_
  | with_reducible refine s_eqI ?_ | with_reducible refine s_neI ?_ | with_reducible refine s_eqS ?_ | with_reducible refine s_neB ?_ | with_reducible refine s_eqB ?_ | with_reducible refine s_neSr ?_ | with_reducible refine s_neS ?_
  | with_reducible refine s_I0 ?_
  | (with_reducible show rI _ _ _ _ _ _); refine s_I (by walk_at "sd") ?_
  | (with_reducible show rIxL _ _ _ _ _); refine s_ixL (by walk_at "hp") rfl ?_
  | (with_reducible show rIxT _ _ _ _ _); refine s_ixT (by walk_at "hp") rfl ?_
  | (with_reducible show rSetL _ _ _ _ _); refine s_setL (by walk_at "hp") rfl ?_
  | with_reducible refine s_prop ?_
  | (with_reducible show _ ≤ sizeLine ∧ _); refine ⟨le_size (by rfl), ?_⟩
  | with_reducible refine ite_NN ?_ | with_reducible refine ite_IN ?_ | with_reducible refine ite_nNN ?_ | with_reducible refine ite_nIN ?_ | with_reducible refine ite_RN ?_ | with_reducible refine ite_nRN ?_
  | with_reducible refine s_sfld ?_
  | ((with_reducible refine' ⟨_, _, _, _, rfl, ?fp1, ?fp2, ?fp3, ?fp4, ?_⟩); (case fp1 => walk_at "hp"); (case fp2 => assumption); (case fp3 => assumption); (case fp4 => walk_at "few"))
  | with_reducible refine s_fldE ?_
  | ((with_reducible refine' ⟨_, _, _, _, _, rfl, ?fp1, ?fp2, ?fp3, ?fp4, ?_⟩); (case fp1 => walk_at "hp"); (case fp2 => assumption); (case fp3 => assumption); (case fp4 => rfl))
  | with_reducible refine s_bm ?_ | with_reducible refine s_bm0 ?_
  | ((with_reducible refine' s_tyL ?ty1 ?_); (case ty1 => walk_at "hp"))
  | ((with_reducible refine' s_append ?ap1 ?ap2 ?_); (case ap1 => walk_at "hp"); (case ap2 => walk_at "sz"))
  | ((with_reducible refine' s_extend ?ap1 ?ap2 ?ap3 ?_); (case ap1 => walk_at "hp"); (case ap2 => walk_at "hp"); (case ap3 => walk_at "sz"))
  | with_reducible refine s_for (fun _ _ => ?_) | with_reducible refine s_lc ?_ | with_reducible refine s_iList ?_ | with_reducible refine s_iTup ?_ | with_reducible refine s_iRng1 ?_ | with_reducible refine s_iRng2 ?_
  | with_reducible refine s_yes ?_ | with_reducible refine s_par ?_
  | with_reducible refine s_make ?_ | with_reducible refine s_meth ?_
  | with_reducible refine s_tup ?_ | with_reducible refine s_lst ?_ | with_reducible refine s_call ?_
  | with_reducible refine ⟨rfl, ?_⟩
  | with_reducible refine ⟨_, rfl, ?_⟩
  | ((with_reducible refine' ⟨_, _, rfl, ?sd1, ?_⟩); (case sd1 => walk_at "sd"))
  | with_reducible refine ⟨_, _, rfl, ?_⟩
  | with_reducible refine .inl ⟨_, rfl, ?_⟩
  | dsimp only [List.set]
  | walk_at "rdx"
  | (refine fun _ _ => ?_))
local macro_rules | `(tactic| walk_at "rd") => `(tactic| repeat (first
  | (with_reducible show tVar _ _ _ _); refine s_var rfl ?_
  | with_reducible refine s_c ?_ | with_reducible refine s_op ?_ | with_reducible refine s_un ?_
  | with_reducible refine s_cons ?_ | with_reducible refine s_nil ?_ | with_reducible refine s_cb ?_
  | with_reducible refine s_test ?_ | with_reducible refine s_B ?_ | with_reducible refine s_not ?_ | with_reducible refine s_and ?_ | with_reducible refine s_or ?_
  | with_reducible refine s_if ?_ | with_reducible refine s_notV ?_ | with_reducible refine s_andV ?_ | with_reducible refine s_orV ?_
  | with_reducible refine s_orT ?_ | with_reducible refine s_andT ?_ | with_reducible refine s_chain ?_
  | with_reducible refine s_isi_int ?_ | with_reducible refine s_isi_int_bool ?_ | with_reducible refine s_isi_str ?_
  | with_reducible refine iteT ?_ | with_reducible refine iteF ?_ | with_reducible refine iteNT ?_ | with_reducible refine iteNF ?_
  | with_reducible refine s_isN ?_ | with_reducible refine s_notN ?_
  | ((with_reducible refine' s_2setE ?g1 ?_); (case g1 => first | (dsimp only [List.set, L2.wipe, List.map, List.foldl]; done) | (dsimp only [List.set, L2.wipe, List.map, List.foldl]; rfl)))
  | with_reducible refine s_seq ?_ | with_reducible refine s_ifS ?_ | with_reducible refine s_asg ?_ | with_reducible refine s_ret ?_ | with_reducible refine s_drop ?_ | with_reducible refine s_next ?_
  | ((with_reducible refine' s_gnameE ?g1 ?_); (case g1 => first | (dsimp only [List.set, L2.wipe, List.map, List.foldl]; done) | (dsimp only [List.set, L2.wipe, List.map, List.foldl]; rfl)))
  | with_reducible refine s_gsub ?_ | with_reducible refine s_gcons ?_ | with_reducible refine s_gnil ?_
  | (with_reducible show gTup _ _ _ _ _ _ _); refine s_gtup (by walk_at "hp") rfl ?_
  | with_reducible refine s_eqI ?_ | with_reducible refine s_neI ?_ | with_reducible refine s_eqS ?_ | with_reducible refine s_neB ?_ | with_reducible refine s_eqB ?_ | with_reducible refine s_neSr ?_ | with_reducible refine s_neS ?_
  | with_reducible refine s_I0 ?_
  | (with_reducible show rI _ _ _ _ _ _); refine s_I (by walk_at "sd") ?_
  | (with_reducible show rIxL _ _ _ _ _); refine s_ixL (by walk_at "hp") rfl ?_
  | (with_reducible show rIxT _ _ _ _ _); refine s_ixT (by walk_at "hp") rfl ?_
  | (with_reducible show rSetL _ _ _ _ _); refine s_setL (by walk_at "hp") rfl ?_
  | with_reducible refine s_prop ?_
  | (with_reducible show _ ≤ sizeLine ∧ _); refine ⟨le_size (by rfl), ?_⟩
  | with_reducible refine ite_NN ?_ | with_reducible refine ite_IN ?_ | with_reducible refine ite_nNN ?_ | with_reducible refine ite_nIN ?_ | with_reducible refine ite_RN ?_ | with_reducible refine ite_nRN ?_
  | with_reducible refine s_sfld ?_
  | ((with_reducible refine' ⟨_, _, _, _, rfl, ?fp1, ?fp2, ?fp3, ?fp4, ?_⟩); (case fp1 => walk_at "hp"); (case fp2 => assumption); (case fp3 => assumption); (case fp4 => walk_at "few"))
  | with_reducible refine s_fldE ?_
  | ((with_reducible refine' ⟨_, _, _, _, _, rfl, ?fp1, ?fp2, ?fp3, ?fp4, ?_⟩); (case fp1 => walk_at "hp"); (case fp2 => assumption); (case fp3 => assumption); (case fp4 => rfl))
  | with_reducible refine s_bm ?_ | with_reducible refine s_bm0 ?_
  | ((with_reducible refine' s_tyL ?ty1 ?_); (case ty1 => walk_at "hp"))
  | ((with_reducible refine' s_append ?ap1 ?ap2 ?_); (case ap1 => walk_at "hp"); (case ap2 => walk_at "sz"))
  | ((with_reducible refine' s_extend ?ap1 ?ap2 ?ap3 ?_); (case ap1 => walk_at "hp"); (case ap2 => walk_at "hp"); (case ap3 => walk_at "sz"))
  | with_reducible refine s_for (fun _ _ => ?_) | with_reducible refine s_lc ?_ | with_reducible refine s_iList ?_ | with_reducible refine s_iTup ?_ | with_reducible refine s_iRng1 ?_ | with_reducible refine s_iRng2 ?_
  | with_reducible refine s_yes ?_ | with_reducible refine s_par ?_
  | with_reducible refine s_make ?_ | with_reducible refine s_meth ?_
  | with_reducible refine s_tup ?_ | with_reducible refine s_lst ?_ | with_reducible refine s_call ?_
  | with_reducible refine ⟨rfl, ?_⟩
  | with_reducible refine ⟨_, rfl, ?_⟩
  | ((with_reducible refine' ⟨_, _, rfl, ?sd1, ?_⟩); (case sd1 => walk_at "sd"))
  | with_reducible refine ⟨_, _, rfl, ?_⟩
  | with_reducible refine .inl ⟨_, rfl, ?_⟩
  | dsimp only [List.set]
  | walk_at "rdx"
  | (refine fun _ _ => ?_)))

namespace My
open PySem L2
section
variable {P : Program} {w : World} {K : PySem.W.Frag} {mg : Str → Option Value} {base : Heap} {C_Many T_LINES : Addr} (M : Md K mg C_Many T_LINES)
include M
omit M
def spLaw (K : PySem.W.Frag) : Sp := fun vs H Q _ => ∃ (a : Addr) (ns : List Int), vs = [.ref a] ∧ SqL K H a (ns.map V.int) ∧ ns.length ≤ 63 ∧ ∀ H', Q (.bl true) H'
theorem turns5 (n : Nat) : 0 ≤ (if (if 5 < (n : Int) then 5 else (n : Int)) > 1 then (if 5 < (n : Int) then 5 else (n : Int)) else 1) ∧ (if (if 5 < (n : Int) then 5 else (n : Int)) > 1 then (if 5 < (n : Int) then 5 else (n : Int)) else 1) ≤ 5 := by
  split <;> split <;> omega
theorem rep_map (n : Nat) : List.replicate n (V.bl true) = (List.replicate n true).map V.bl := by
  rw [List.map_replicate]
theorem rep_all (n : Nat) : (List.replicate n true).all id = true := by
  induction n with
  | zero => rfl
  | succ n ih => simpa using ih
include M
theorem ok_law {f : Addr} {fd : FuncData} (F : FunD K "law" "law" (defArgs st_law) (defBody st_law) (defScope st_law) [] [] f fd) : FnG P w K mg base CX0 7 f fd ["_law_script"] (spLaw K) := by
  have c__law_pot_of := c__law_pot_of (P := P) (w := w) (base := base) M
  have c__law_right := c__law_right (P := P) (w := w) (base := base) M
  refine fnG_body F sc_law (fun vs H Q E h => ?_) (fun cdv A outer s H vs Q E hr h => ?_)
  · obtain ⟨a, ns, rfl, _⟩ := h
    rfl
  · obtain ⟨a, ns, rfl, hS, hl, k⟩ := h
    refine ⟨_, (pss_cons (ps_for (passes_of rfl) rfl (pi_range1 (by rfl) M.b_range (pa_cons (pe_callB (call_max2 rfl) (by rfl) M.b_max (by decide +kernel) (pa_cons pe_int (pa_cons (pe_callB (call_min2 rfl) (by rfl) M.b_min (by decide +kernel) (pa_cons (pe_callB call_len_seq (by rfl) M.b_len (by decide +kernel) (pa_cons (pv 0) pa_nil)) (pa_cons pe_int pa_nil))) pa_nil))) pa_nil)) (pg_name (i := 1) sc_law.nd rfl (.inl rfl)) (pss_cons (ps_set (i := 2) sc_law.nd rfl (.inr rfl) (pe_callD c__law_pot_of (hr.mono (by decide)) rfl (pa_cons (pv 0) (pa_cons (pv 1) pa_nil)))) (pss_one (ps_if (pt_not (pt_val (pe_callB (cr_all rfl) (by rfl) M.b_all (by decide +kernel) (pa_cons (pe_lc (own := [("_law_turn", 3)]) (g := gName 3) (tt := tYes) (by rfl) sc_law.nd (pi_range1 (by rfl) M.b_range (pa_cons pe_int pa_nil)) (blkOk_by (own := [("_law_turn", 3)]) (N := N_law) (sc := defScope st_law) (by decide +kernel)) (fun _ _ _ _ _ => pg_name (i := 3) sc_law.nd rfl (by first | exact Or.inl rfl | exact Or.inr rfl)) (fun _ _ _ _ _ => pts_nil) (fun _ _ _ _ _ => (pe_callD c__law_right (hr.mono (by decide)) rfl (pa_cons (pv 2) pa_nil)))) pa_nil)))) (pss_one (ps_ret pe_bl)) pss_nil)))) (pss_one (ps_ret pe_bl))), ?_⟩
    refine st_eq (σ := [some _, none, none, none]) rfl ?_
    walk_at "rd"
    refine ⟨_, _, rfl, .inl hS, ?_⟩
    walk_at "rd"
    have hb := turns5 (ns.map V.int).length
    refine ⟨Int.le_trans (by decide) hb.1, Int.lt_of_le_of_lt hb.2 (by decide), for_range (lo := 0) (fun i σ H' => (∃ u v, σ = [some (.ref a), u, v, none]) ∧ Same H H' ∧ i ≤ 5) ?_ ?_ ?_⟩
    · exact ⟨⟨_, _, rfl⟩, My.Same.rfl' H, Nat.zero_le _⟩
    · subst_vars
      rintro i σ H1 hi ⟨⟨u, v, rfl⟩, hs, _⟩
      have hi5 : i + 1 ≤ 5 := by
        have := hb.2
        omega
      walk_at "rd"
      refine ⟨a, ns, _, rfl, hs.seq hS, by omega, by omega, fun r H2 s2 nr p2 => ?_⟩
      walk_at "rd"
      refine ⟨by decide, by decide, fun D nD => lc_range (lo := 0) (n := 6) (fun j H3 => Same H1 H3 ∧ Pot H3 r ∧ H3 D = some (.lst (List.replicate j (V.bl true))) ∧ j ≤ 6) ?_ ?_ ?_⟩
      · exact ⟨by walk_at "sm", p2.up nD, upd_same, Nat.zero_le _⟩
      · rintro j H3 hj ⟨s3, p3, hD, _⟩
        walk_at "rd"
        refine ⟨r, rfl, p3, fun H4 b4 p4 => ?_⟩
        have dr : D ≠ r := p2.ne nD
        have nD1 : H1 D = none := L2.Same.free s2 nD
        refine ⟨_, b4.get hD dr, ?_, (My.Same.at_ nD1 (b4.same s3 nr)), ?_, ?_, hj⟩
        · rw [List.length_replicate, sizeLine_eq]
          omega
        · obtain ⟨x, y, e, q⟩ := p4
          exact ⟨x, y, by rw [upd_ne dr.symm]; exact e, q⟩
        · rw [upd_same, List.replicate_succ']
      · rintro H3 ⟨s3, p3, hD, _⟩
        walk_at "rd"
        refine ⟨_, List.replicate 6 true, rfl, SqL.of (by rw [← rep_map]; exact hD), ?_⟩
        rw [rep_all]
        walk_at "rd"
        exact ⟨⟨_, _, rfl⟩, My.Same.tr hs s3, hi5⟩
    · subst_vars
      rintro σ H1 ⟨⟨u, v, rfl⟩, hs, _⟩
      walk_at "rd"
      exact k _
end
end My

namespace My
open PySem L2
theorem all_mk {l : PySem.W.OpenLaw} {w : World} {K : PySem.W.Frag} {h : Heap} {mg : Str → Option Value} {fa : Addr} (X : K.In h) (G : h.Ns mainGlobals mg) (hfa : mg "law" = some (.ref fa))
    {f_is_integer : Addr}
    {od1 an1 : Option Addr} {sl1 : Array (Option Value)} {oc1 kV1 dc1 pm1 cd1 ct1 : Value}
    {f_is_count : Addr}
    {od2 an2 : Option Addr} {sl2 : Array (Option Value)} {oc2 kV2 dc2 pm2 cd2 ct2 : Value}
    {f__is_up_to : Addr}
    {od3 an3 : Option Addr} {sl3 : Array (Option Value)} {oc3 kV3 dc3 pm3 cd3 ct3 : Value}
    {f_check_count : Addr}
    {od4 an4 : Option Addr} {sl4 : Array (Option Value)} {oc4 kV4 dc4 pm4 cd4 ct4 : Value}
    {f__check_many : Addr}
    {od5 an5 : Option Addr} {sl5 : Array (Option Value)} {oc5 kV5 dc5 pm5 cd5 ct5 : Value}
    {f_is_line_true : Addr}
    {od6 an6 : Option Addr} {sl6 : Array (Option Value)} {oc6 kV6 dc6 pm6 cd6 ct6 : Value}
    {f_wrong_line : Addr}
    {od7 an7 : Option Addr} {sl7 : Array (Option Value)} {oc7 kV7 dc7 pm7 cd7 ct7 : Value}
    {f_totals : Addr}
    {od8 an8 : Option Addr} {sl8 : Array (Option Value)} {oc8 kV8 dc8 pm8 cd8 ct8 : Value}
    {f__law_pot_of : Addr}
    {od9 an9 : Option Addr} {sl9 : Array (Option Value)} {oc9 kV9 dc9 pm9 cd9 ct9 : Value}
    {f__law_draw : Addr}
    {od10 an10 : Option Addr} {sl10 : Array (Option Value)} {oc10 kV10 dc10 pm10 cd10 ct10 : Value}
    {f__law_pick : Addr}
    {od11 an11 : Option Addr} {sl11 : Array (Option Value)} {oc11 kV11 dc11 pm11 cd11 ct11 : Value}
    {f__law_made_many : Addr}
    {od12 an12 : Option Addr} {sl12 : Array (Option Value)} {oc12 kV12 dc12 pm12 cd12 ct12 : Value}
    {f__law_numbers_in : Addr}
    {od13 an13 : Option Addr} {sl13 : Array (Option Value)} {oc13 kV13 dc13 pm13 cd13 ct13 : Value}
    {f__law_sizes_in : Addr}
    {od14 an14 : Option Addr} {sl14 : Array (Option Value)} {oc14 kV14 dc14 pm14 cd14 ct14 : Value}
    {f__law_due_totals : Addr}
    {od15 an15 : Option Addr} {sl15 : Array (Option Value)} {oc15 kV15 dc15 pm15 cd15 ct15 : Value}
    {f__law_right : Addr}
    {od16 an16 : Option Addr} {sl16 : Array (Option Value)} {oc16 kV16 dc16 pm16 cd16 ct16 : Value}
    {tq_LINES_0 : Tok}
    {tq_LINES_1 : Tok}
    {tq_LINES_2 : Tok}
    {tq_LINES_3 : Tok}
    {T_LINES : Addr} {o_LINES : Obj} {z_LINES : Nat}
    {C_Many : Addr}
    {fi_Many : Addr}
    {od17 an17 : Option Addr} {sl17 : Array (Option Value)} {oc17 kV17 dc17 pm17 cd17 ct17 : Value}
    {T17 : Addr} {o17 : Obj} {z17 : Nat}
    {fp_Many_least pp_Many_least : Addr} {rs_Many_least : List Value}
    {od18 an18 : Option Addr} {sl18 : Array (Option Value)} {oc18 kV18 dc18 pm18 cd18 ct18 : Value}
    {fp_Many_most pp_Many_most : Addr} {rs_Many_most : List Value}
    {od19 an19 : Option Addr} {sl19 : Array (Option Value)} {oc19 kV19 dc19 pm19 cd19 ct19 : Value}
    {f_law : Addr}
    {od20 an20 : Option Addr} {sl20 : Array (Option Value)} {oc20 kV20 dc20 pm20 cd20 ct20 : Value}
    (b_isinstance : PySem.W.nsIn K mainGlobals "isinstance" = some none)
    (b_int : PySem.W.nsIn K mainGlobals "int" = some none)
    (b_bool : PySem.W.nsIn K mainGlobals "bool" = some none)
    (b_max : PySem.W.nsIn K mainGlobals "max" = some none)
    (b_min : PySem.W.nsIn K mainGlobals "min" = some none)
    (b_abs : PySem.W.nsIn K mainGlobals "abs" = some none)
    (b_divmod : PySem.W.nsIn K mainGlobals "divmod" = some none)
    (b_len : PySem.W.nsIn K mainGlobals "len" = some none)
    (b_range : PySem.W.nsIn K mainGlobals "range" = some none)
    (b_all : PySem.W.nsIn K mainGlobals "all" = some none)
    (b_repr : PySem.W.nsIn K mainGlobals "repr" = some none)
    (a_is_integer : PySem.W.nsIn K mainGlobals "is_integer" = some (some (.ref f_is_integer)))
    (l1 : K.lookup f_is_integer = some ⟨oc1, od1, .func (PySem.W.fnOf "is_integer" "is_integer" (defArgs st_is_integer) (defBody st_is_integer) (defScope st_is_integer) .none kV1 dc1 pm1 an1 cd1 ct1), sl1⟩)
    (c1 : PySem.W.codeIn K cd1 "is_integer" = true)
    (k1 : PySem.W.keepIn K (.ref f_is_integer) = true)
    (a_is_count : PySem.W.nsIn K mainGlobals "is_count" = some (some (.ref f_is_count)))
    (l2 : K.lookup f_is_count = some ⟨oc2, od2, .func (PySem.W.fnOf "is_count" "is_count" (defArgs st_is_count) (defBody st_is_count) (defScope st_is_count) .none kV2 dc2 pm2 an2 cd2 ct2), sl2⟩)
    (c2 : PySem.W.codeIn K cd2 "is_count" = true)
    (k2 : PySem.W.keepIn K (.ref f_is_count) = true)
    (a__is_up_to : PySem.W.nsIn K mainGlobals "_is_up_to" = some (some (.ref f__is_up_to)))
    (l3 : K.lookup f__is_up_to = some ⟨oc3, od3, .func (PySem.W.fnOf "_is_up_to" "_is_up_to" (defArgs st__is_up_to) (defBody st__is_up_to) (defScope st__is_up_to) .none kV3 dc3 pm3 an3 cd3 ct3), sl3⟩)
    (c3 : PySem.W.codeIn K cd3 "_is_up_to" = true)
    (k3 : PySem.W.keepIn K (.ref f__is_up_to) = true)
    (a_check_count : PySem.W.nsIn K mainGlobals "check_count" = some (some (.ref f_check_count)))
    (l4 : K.lookup f_check_count = some ⟨oc4, od4, .func (PySem.W.fnOf "check_count" "check_count" (defArgs st_check_count) (defBody st_check_count) (defScope st_check_count) .none kV4 dc4 pm4 an4 cd4 ct4), sl4⟩)
    (c4 : PySem.W.codeIn K cd4 "check_count" = true)
    (k4 : PySem.W.keepIn K (.ref f_check_count) = true)
    (a__check_many : PySem.W.nsIn K mainGlobals "_check_many" = some (some (.ref f__check_many)))
    (l5 : K.lookup f__check_many = some ⟨oc5, od5, .func (PySem.W.fnOf "_check_many" "_check_many" (defArgs st__check_many) (defBody st__check_many) (defScope st__check_many) .none kV5 dc5 pm5 an5 cd5 ct5), sl5⟩)
    (c5 : PySem.W.codeIn K cd5 "_check_many" = true)
    (k5 : PySem.W.keepIn K (.ref f__check_many) = true)
    (a_is_line_true : PySem.W.nsIn K mainGlobals "is_line_true" = some (some (.ref f_is_line_true)))
    (l6 : K.lookup f_is_line_true = some ⟨oc6, od6, .func (PySem.W.fnOf "is_line_true" "is_line_true" (defArgs st_is_line_true) (defBody st_is_line_true) (defScope st_is_line_true) .none kV6 dc6 pm6 an6 cd6 ct6), sl6⟩)
    (c6 : PySem.W.codeIn K cd6 "is_line_true" = true)
    (k6 : PySem.W.keepIn K (.ref f_is_line_true) = true)
    (a_wrong_line : PySem.W.nsIn K mainGlobals "wrong_line" = some (some (.ref f_wrong_line)))
    (l7 : K.lookup f_wrong_line = some ⟨oc7, od7, .func (PySem.W.fnOf "wrong_line" "wrong_line" (defArgs st_wrong_line) (defBody st_wrong_line) (defScope st_wrong_line) .none kV7 dc7 pm7 an7 cd7 ct7), sl7⟩)
    (c7 : PySem.W.codeIn K cd7 "wrong_line" = true)
    (k7 : PySem.W.keepIn K (.ref f_wrong_line) = true)
    (a_totals : PySem.W.nsIn K mainGlobals "totals" = some (some (.ref f_totals)))
    (l8 : K.lookup f_totals = some ⟨oc8, od8, .func (PySem.W.fnOf "totals" "totals" (defArgs st_totals) (defBody st_totals) (defScope st_totals) .none kV8 dc8 pm8 an8 cd8 ct8), sl8⟩)
    (c8 : PySem.W.codeIn K cd8 "totals" = true)
    (k8 : PySem.W.keepIn K (.ref f_totals) = true)
    (a__law_pot_of : PySem.W.nsIn K mainGlobals "_law_pot_of" = some (some (.ref f__law_pot_of)))
    (l9 : K.lookup f__law_pot_of = some ⟨oc9, od9, .func (PySem.W.fnOf "_law_pot_of" "_law_pot_of" (defArgs st__law_pot_of) (defBody st__law_pot_of) (defScope st__law_pot_of) .none kV9 dc9 pm9 an9 cd9 ct9), sl9⟩)
    (c9 : PySem.W.codeIn K cd9 "_law_pot_of" = true)
    (k9 : PySem.W.keepIn K (.ref f__law_pot_of) = true)
    (a__law_draw : PySem.W.nsIn K mainGlobals "_law_draw" = some (some (.ref f__law_draw)))
    (l10 : K.lookup f__law_draw = some ⟨oc10, od10, .func (PySem.W.fnOf "_law_draw" "_law_draw" (defArgs st__law_draw) (defBody st__law_draw) (defScope st__law_draw) .none kV10 dc10 pm10 an10 cd10 ct10), sl10⟩)
    (c10 : PySem.W.codeIn K cd10 "_law_draw" = true)
    (k10 : PySem.W.keepIn K (.ref f__law_draw) = true)
    (a__law_pick : PySem.W.nsIn K mainGlobals "_law_pick" = some (some (.ref f__law_pick)))
    (l11 : K.lookup f__law_pick = some ⟨oc11, od11, .func (PySem.W.fnOf "_law_pick" "_law_pick" (defArgs st__law_pick) (defBody st__law_pick) (defScope st__law_pick) .none kV11 dc11 pm11 an11 cd11 ct11), sl11⟩)
    (c11 : PySem.W.codeIn K cd11 "_law_pick" = true)
    (k11 : PySem.W.keepIn K (.ref f__law_pick) = true)
    (a__law_made_many : PySem.W.nsIn K mainGlobals "_law_made_many" = some (some (.ref f__law_made_many)))
    (l12 : K.lookup f__law_made_many = some ⟨oc12, od12, .func (PySem.W.fnOf "_law_made_many" "_law_made_many" (defArgs st__law_made_many) (defBody st__law_made_many) (defScope st__law_made_many) .none kV12 dc12 pm12 an12 cd12 ct12), sl12⟩)
    (c12 : PySem.W.codeIn K cd12 "_law_made_many" = true)
    (k12 : PySem.W.keepIn K (.ref f__law_made_many) = true)
    (a__law_numbers_in : PySem.W.nsIn K mainGlobals "_law_numbers_in" = some (some (.ref f__law_numbers_in)))
    (l13 : K.lookup f__law_numbers_in = some ⟨oc13, od13, .func (PySem.W.fnOf "_law_numbers_in" "_law_numbers_in" (defArgs st__law_numbers_in) (defBody st__law_numbers_in) (defScope st__law_numbers_in) .none kV13 dc13 pm13 an13 cd13 ct13), sl13⟩)
    (c13 : PySem.W.codeIn K cd13 "_law_numbers_in" = true)
    (k13 : PySem.W.keepIn K (.ref f__law_numbers_in) = true)
    (a__law_sizes_in : PySem.W.nsIn K mainGlobals "_law_sizes_in" = some (some (.ref f__law_sizes_in)))
    (l14 : K.lookup f__law_sizes_in = some ⟨oc14, od14, .func (PySem.W.fnOf "_law_sizes_in" "_law_sizes_in" (defArgs st__law_sizes_in) (defBody st__law_sizes_in) (defScope st__law_sizes_in) .none kV14 dc14 pm14 an14 cd14 ct14), sl14⟩)
    (c14 : PySem.W.codeIn K cd14 "_law_sizes_in" = true)
    (k14 : PySem.W.keepIn K (.ref f__law_sizes_in) = true)
    (a__law_due_totals : PySem.W.nsIn K mainGlobals "_law_due_totals" = some (some (.ref f__law_due_totals)))
    (l15 : K.lookup f__law_due_totals = some ⟨oc15, od15, .func (PySem.W.fnOf "_law_due_totals" "_law_due_totals" (defArgs st__law_due_totals) (defBody st__law_due_totals) (defScope st__law_due_totals) .none kV15 dc15 pm15 an15 cd15 ct15), sl15⟩)
    (c15 : PySem.W.codeIn K cd15 "_law_due_totals" = true)
    (k15 : PySem.W.keepIn K (.ref f__law_due_totals) = true)
    (a__law_right : PySem.W.nsIn K mainGlobals "_law_right" = some (some (.ref f__law_right)))
    (l16 : K.lookup f__law_right = some ⟨oc16, od16, .func (PySem.W.fnOf "_law_right" "_law_right" (defArgs st__law_right) (defBody st__law_right) (defScope st__law_right) .none kV16 dc16 pm16 an16 cd16 ct16), sl16⟩)
    (c16 : PySem.W.codeIn K cd16 "_law_right" = true)
    (k16 : PySem.W.keepIn K (.ref f__law_right) = true)
    (a_LINES : PySem.W.nsIn K mainGlobals "LINES" = some (some (.ref T_LINES)))
    (lc_LINES : K.lookup T_LINES = some o_LINES)
    (e1LINES : o_LINES.cls = .type "tuple")
    (e2LINES : o_LINES.data = .seq #[.int 0 tq_LINES_0, .int 1 tq_LINES_1, .int 2 tq_LINES_2, .int 3 tq_LINES_3] z_LINES)
    (a_Many : PySem.W.nsIn K mainGlobals "Many" = some (some (.ref C_Many)))
    (pg_Many : PySem.W.plainGet K C_Many Str.empty = true)
    (hd_Many : PySem.W.hasDictIn K C_Many = true)
    (po_Many : PySem.W.plainOver K C_Many = true)
    (sa_Many : PySem.W.findIn K (.ref C_Many) "__setattr__" = some (some (.builtin "object.__setattr__")))
    (mk_Many : PySem.W.makesIn K C_Many = true)
    (in_Many : PySem.W.findIn K (.ref C_Many) "__init__" = some (some (.ref fi_Many)))
    (if_Many : PySem.W.isFn K (.ref fi_Many) = true)
    (kc_Many : PySem.W.keepIn K (.ref C_Many) = true)
    (l17 : K.lookup fi_Many = some ⟨oc17, od17, .func (PySem.W.fnOf "__init__" "Many.__init__" (defArgs st_Many___init__) (defBody st_Many___init__) (defScope st_Many___init__) (.ref T17) kV17 dc17 pm17 an17 cd17 ct17), sl17⟩)
    (c17 : PySem.W.codeIn K cd17 "Many.__init__" = true)
    (k17 : PySem.W.keepIn K (.ref fi_Many) = true)
    (d17 : K.lookup T17 = some o17)
    (e17 : o17.data = .seq #[.none] z17)
    (hnc : PySem.W.specialIn K (.builtin "object.__class__") "__get__" = some (some (.builtin "getset_descriptor.__get__")))
    (htk : PySem.W.takesIn K (.builtin "object.__class__") = some true)
    (ha_Many : PySem.W.findIn K (.ref C_Many) "__class__" = some (some (.builtin "object.__class__")))
    (hm_Many : PySem.W.mroIn K C_Many (.type "object") = some true)
    (n_Many__least : PySem.W.findIn K (.ref C_Many) "_least" = some none)
    (n_Many__most : PySem.W.findIn K (.ref C_Many) "_most" = some none)
    (n_Many__key : PySem.W.findIn K (.ref C_Many) "_key" = some none)
    (x_Many_least : PySem.W.findIn K (.ref C_Many) "least" = some (some (.ref pp_Many_least)))
    (g_Many_least : PySem.W.specialIn K (.ref pp_Many_least) "__get__" = some (some (.builtin "property.__get__")))
    (t_Many_least : PySem.W.takesIn K (.ref pp_Many_least) = some true)
    (r_Many_least : PySem.W.recIn K pp_Many_least "property" = some (.ref fp_Many_least :: rs_Many_least))
    (l18 : K.lookup fp_Many_least = some ⟨oc18, od18, .func (PySem.W.fnOf "least" "Many.least" (defArgs st_Many_least) (defBody st_Many_least) (defScope st_Many_least) .none kV18 dc18 pm18 an18 cd18 ct18), sl18⟩)
    (c18 : PySem.W.codeIn K cd18 "Many.least" = true)
    (k18 : PySem.W.keepIn K (.ref fp_Many_least) = true)
    (x_Many_most : PySem.W.findIn K (.ref C_Many) "most" = some (some (.ref pp_Many_most)))
    (g_Many_most : PySem.W.specialIn K (.ref pp_Many_most) "__get__" = some (some (.builtin "property.__get__")))
    (t_Many_most : PySem.W.takesIn K (.ref pp_Many_most) = some true)
    (r_Many_most : PySem.W.recIn K pp_Many_most "property" = some (.ref fp_Many_most :: rs_Many_most))
    (l19 : K.lookup fp_Many_most = some ⟨oc19, od19, .func (PySem.W.fnOf "most" "Many.most" (defArgs st_Many_most) (defBody st_Many_most) (defScope st_Many_most) .none kV19 dc19 pm19 an19 cd19 ct19), sl19⟩)
    (c19 : PySem.W.codeIn K cd19 "Many.most" = true)
    (k19 : PySem.W.keepIn K (.ref fp_Many_most) = true)
    (a_law : PySem.W.nsIn K mainGlobals "law" = some (some (.ref f_law)))
    (l20 : K.lookup f_law = some ⟨oc20, od20, .func (PySem.W.fnOf "law" "law" (defArgs st_law) (defBody st_law) (defScope st_law) .none kV20 dc20 pm20 an20 cd20 ct20), sl20⟩)
    (c20 : PySem.W.codeIn K cd20 "law" = true)
    (k20 : PySem.W.keepIn K (.ref f_law) = true)
    : ∃ fd : FuncData, (∀ (s : Shared) (v : Value), BindsTo s fd ⟨[v], []⟩ [("_law_script", v)]) ∧ ∀ base : Heap, K.In base → base.Ns mainGlobals mg → FnG l.prog w K mg base CX0 7 fa fd ["_law_script"] (spLaw K) := by
  have e := hfa.symm.trans (PySem.W.mg_of X G a_law)
  cases e
  have M : Md K mg C_Many T_LINES := ⟨PySem.W.mg_none_of X G b_isinstance,
    PySem.W.mg_none_of X G b_int,
    PySem.W.mg_none_of X G b_bool,
    PySem.W.mg_none_of X G b_max,
    PySem.W.mg_none_of X G b_min,
    PySem.W.mg_none_of X G b_abs,
    PySem.W.mg_none_of X G b_divmod,
    PySem.W.mg_none_of X G b_len,
    PySem.W.mg_none_of X G b_range,
    PySem.W.mg_none_of X G b_all,
    PySem.W.mg_none_of X G b_repr,
    ⟨_, _, ⟨⟨_, _, _, _, _, _, _, _, _, _, rfl, l1, c1, .inl ⟨rfl, rfl⟩, .inl rfl⟩, k1⟩, PySem.W.mg_of X G a_is_integer⟩,
    ⟨_, _, ⟨⟨_, _, _, _, _, _, _, _, _, _, rfl, l2, c2, .inl ⟨rfl, rfl⟩, .inl rfl⟩, k2⟩, PySem.W.mg_of X G a_is_count⟩,
    ⟨_, _, ⟨⟨_, _, _, _, _, _, _, _, _, _, rfl, l3, c3, .inl ⟨rfl, rfl⟩, .inl rfl⟩, k3⟩, PySem.W.mg_of X G a__is_up_to⟩,
    ⟨_, _, ⟨⟨_, _, _, _, _, _, _, _, _, _, rfl, l4, c4, .inl ⟨rfl, rfl⟩, .inl rfl⟩, k4⟩, PySem.W.mg_of X G a_check_count⟩,
    ⟨_, _, ⟨⟨_, _, _, _, _, _, _, _, _, _, rfl, l5, c5, .inl ⟨rfl, rfl⟩, .inl rfl⟩, k5⟩, PySem.W.mg_of X G a__check_many⟩,
    ⟨_, _, ⟨⟨_, _, _, _, _, _, _, _, _, _, rfl, l6, c6, .inl ⟨rfl, rfl⟩, .inl rfl⟩, k6⟩, PySem.W.mg_of X G a_is_line_true⟩,
    ⟨_, _, ⟨⟨_, _, _, _, _, _, _, _, _, _, rfl, l7, c7, .inl ⟨rfl, rfl⟩, .inl rfl⟩, k7⟩, PySem.W.mg_of X G a_wrong_line⟩,
    ⟨_, _, ⟨⟨_, _, _, _, _, _, _, _, _, _, rfl, l8, c8, .inl ⟨rfl, rfl⟩, .inl rfl⟩, k8⟩, PySem.W.mg_of X G a_totals⟩,
    ⟨_, _, ⟨⟨_, _, _, _, _, _, _, _, _, _, rfl, l9, c9, .inl ⟨rfl, rfl⟩, .inl rfl⟩, k9⟩, PySem.W.mg_of X G a__law_pot_of⟩,
    ⟨_, _, ⟨⟨_, _, _, _, _, _, _, _, _, _, rfl, l10, c10, .inl ⟨rfl, rfl⟩, .inl rfl⟩, k10⟩, PySem.W.mg_of X G a__law_draw⟩,
    ⟨_, _, ⟨⟨_, _, _, _, _, _, _, _, _, _, rfl, l11, c11, .inl ⟨rfl, rfl⟩, .inl rfl⟩, k11⟩, PySem.W.mg_of X G a__law_pick⟩,
    ⟨_, _, ⟨⟨_, _, _, _, _, _, _, _, _, _, rfl, l12, c12, .inl ⟨rfl, rfl⟩, .inl rfl⟩, k12⟩, PySem.W.mg_of X G a__law_made_many⟩,
    ⟨_, _, ⟨⟨_, _, _, _, _, _, _, _, _, _, rfl, l13, c13, .inl ⟨rfl, rfl⟩, .inl rfl⟩, k13⟩, PySem.W.mg_of X G a__law_numbers_in⟩,
    ⟨_, _, ⟨⟨_, _, _, _, _, _, _, _, _, _, rfl, l14, c14, .inl ⟨rfl, rfl⟩, .inl rfl⟩, k14⟩, PySem.W.mg_of X G a__law_sizes_in⟩,
    ⟨_, _, ⟨⟨_, _, _, _, _, _, _, _, _, _, rfl, l15, c15, .inl ⟨rfl, rfl⟩, .inl rfl⟩, k15⟩, PySem.W.mg_of X G a__law_due_totals⟩,
    ⟨_, _, ⟨⟨_, _, _, _, _, _, _, _, _, _, rfl, l16, c16, .inl ⟨rfl, rfl⟩, .inl rfl⟩, k16⟩, PySem.W.mg_of X G a__law_right⟩,
    PySem.W.mg_of X G a_LINES,
    fun H => Or.inr ⟨o_LINES, _, z_LINES, lc_LINES, e1LINES, e2LINES, by show 4 ≤ sizeLine; decide, (.cons ⟨_, rfl⟩ (.cons ⟨_, rfl⟩ (.cons ⟨_, rfl⟩ (.cons ⟨_, rfl⟩ .nil))))⟩,
    PySem.W.mg_of X G a_Many,
    ⟨pg_Many, hd_Many, po_Many, sa_Many⟩,
    ⟨_, _, ⟨mk_Many, in_Many, if_Many, kc_Many⟩, ⟨⟨_, _, _, _, _, _, _, _, _, _, rfl, l17, c17, .inr ⟨by simp, T17, o17, _, z17, rfl, d17, e17, (.cons rfl .nil)⟩, .inl rfl⟩, k17⟩⟩,
    fun e => .ins e ⟨pg_Many, hd_Many, po_Many, sa_Many⟩ ha_Many hnc htk hm_Many,
    n_Many__least,
    n_Many__most,
    n_Many__key,
    ⟨_, _, _, ⟨x_Many_least, g_Many_least, t_Many_least, _, r_Many_least⟩, ⟨⟨_, _, _, _, _, _, _, _, _, _, rfl, l18, c18, .inl ⟨rfl, rfl⟩, .inl rfl⟩, k18⟩⟩,
    ⟨_, _, _, ⟨x_Many_most, g_Many_most, t_Many_most, _, r_Many_most⟩, ⟨⟨_, _, _, _, _, _, _, _, _, _, rfl, l19, c19, .inl ⟨rfl, rfl⟩, .inl rfl⟩, k19⟩⟩⟩
  exact ⟨_, fun s v => .of_eq rfl, fun base _ _ => ok_law M ⟨⟨_, _, _, _, _, _, _, _, _, _, rfl, l20, c20, .inl ⟨rfl, rfl⟩, .inl rfl⟩, k20⟩⟩
theorem walk {l : PySem.W.OpenLaw} {q : Program} {loose : List Str} {XP : (Str → Option Value) → Heap → Prop} {YP : World → Heap → Prop} {d : DefRec} {K : Params → PySem.W.Frag} (hn : l.most = some 63) (hdf : d.params.defaults = [])
    (hY : ∀ (w : World) (h : Heap), YP w h → (K w.params).In h)
    (F : ∀ (w : World) (mg : Str → Option Value) (fa : Addr) (h : Heap), (K w.params).In h → h.Ns mainGlobals mg → mg d.name = some (.ref fa) →
      ∃ fd : FuncData, (∀ (s : Shared) (u : Value), BindsTo s fd ⟨[u], []⟩ [("_law_script", u)]) ∧ ∀ base : Heap, (K w.params).In base → base.Ns mainGlobals mg → FnG l.prog w (K w.params) mg base CX0 7 fa fd ["_law_script"] (spLaw (K w.params))) :
    PySem.W.WalkO q loose XP YP l.row.toRowW d [] (fun f vs => PySem.call f vs) :=
  walkG (n := 63) (k := 7) (x := "_law_script") (sp := fun w => spLaw (K w.params)) hn (by decide) hdf ⟨⟨rfl, by decide, by decide⟩, rfl⟩ hY F (fun _ _ a ns hl _ hS => ⟨a, ns, rfl, hS, hl, fun _ => rfl⟩)
end My
open PySem PySem.W PyProof.Rows
set_option maxRecDepth 100000 in
set_option maxHeartbeats 0 in
theorem PySem.Challenge.cw_howmanyeach_k35_totals_far_away_holds : PySem.Challenge.rw_howmanyeach_k35_totals_far_away.Holds := by
  w_on; o_law; k_head; (case hw => w_witness2)
  k_fill
  refine My.walk (l := PySem.Challenge.rw_howmanyeach_k35_totals_far_away) rfl rfl (fun w h Y => PySem.W.kIn_of Y) ?F
  case F =>
    intro w mg fa h KX G hmg
    refine' My.all_mk KX G hmg ?b_isinstance ?b_int ?b_bool ?b_max ?b_min ?b_abs ?b_divmod ?b_len ?b_range ?b_all ?b_repr ?a_is_integer ?l1 ?c1 ?k1 ?a_is_count ?l2 ?c2 ?k2 ?a__is_up_to ?l3 ?c3 ?k3 ?a_check_count ?l4 ?c4 ?k4 ?a__check_many ?l5 ?c5 ?k5 ?a_is_line_true ?l6 ?c6 ?k6 ?a_wrong_line ?l7 ?c7 ?k7 ?a_totals ?l8 ?c8 ?k8 ?a__law_pot_of ?l9 ?c9 ?k9 ?a__law_draw ?l10 ?c10 ?k10 ?a__law_pick ?l11 ?c11 ?k11 ?a__law_made_many ?l12 ?c12 ?k12 ?a__law_numbers_in ?l13 ?c13 ?k13 ?a__law_sizes_in ?l14 ?c14 ?k14 ?a__law_due_totals ?l15 ?c15 ?k15 ?a__law_right ?l16 ?c16 ?k16 ?a_LINES ?lc_LINES ?e1LINES ?e2LINES ?a_Many ?pg_Many ?hd_Many ?po_Many ?sa_Many ?mk_Many ?in_Many ?if_Many ?kc_Many ?l17 ?c17 ?k17 ?d17 ?e17 ?hnc ?htk ?ha_Many ?hm_Many ?n_Many__least ?n_Many__most ?n_Many__key ?x_Many_least ?g_Many_least ?t_Many_least ?r_Many_least ?l18 ?c18 ?k18 ?x_Many_most ?g_Many_most ?t_Many_most ?r_Many_most ?l19 ?c19 ?k19 ?a_law ?l20 ?c20 ?k20
    (case b_isinstance => k_is)
    (case b_int => k_is)
    (case b_bool => k_is)
    (case b_max => k_is)
    (case b_min => k_is)
    (case b_abs => k_is)
    (case b_divmod => k_is)
    (case b_len => k_is)
    (case b_range => k_is)
    (case b_all => k_is)
    (case b_repr => k_is)
    (case a_is_integer => k_is)
    (case l1 => k_is)
    (case c1 => k_is)
    (case k1 => k_is)
    (case a_is_count => k_is)
    (case l2 => k_is)
    (case c2 => k_is)
    (case k2 => k_is)
    (case a__is_up_to => k_is)
    (case l3 => k_is)
    (case c3 => k_is)
    (case k3 => k_is)
    (case a_check_count => k_is)
    (case l4 => k_is)
    (case c4 => k_is)
    (case k4 => k_is)
    (case a__check_many => k_is)
    (case l5 => k_is)
    (case c5 => k_is)
    (case k5 => k_is)
    (case a_is_line_true => k_is)
    (case l6 => k_is)
    (case c6 => k_is)
    (case k6 => k_is)
    (case a_wrong_line => k_is)
    (case l7 => k_is)
    (case c7 => k_is)
    (case k7 => k_is)
    (case a_totals => k_is)
    (case l8 => k_is)
    (case c8 => k_is)
    (case k8 => k_is)
    (case a__law_pot_of => k_is)
    (case l9 => k_is)
    (case c9 => k_is)
    (case k9 => k_is)
    (case a__law_draw => k_is)
    (case l10 => k_is)
    (case c10 => k_is)
    (case k10 => k_is)
    (case a__law_pick => k_is)
    (case l11 => k_is)
    (case c11 => k_is)
    (case k11 => k_is)
    (case a__law_made_many => k_is)
    (case l12 => k_is)
    (case c12 => k_is)
    (case k12 => k_is)
    (case a__law_numbers_in => k_is)
    (case l13 => k_is)
    (case c13 => k_is)
    (case k13 => k_is)
    (case a__law_sizes_in => k_is)
    (case l14 => k_is)
    (case c14 => k_is)
    (case k14 => k_is)
    (case a__law_due_totals => k_is)
    (case l15 => k_is)
    (case c15 => k_is)
    (case k15 => k_is)
    (case a__law_right => k_is)
    (case l16 => k_is)
    (case c16 => k_is)
    (case k16 => k_is)
    (case a_LINES => k_is)
    (case lc_LINES => k_is)
    (case e1LINES => exact rfl)
    (case e2LINES => exact rfl)
    (case a_Many => k_is)
    (case pg_Many => k_is)
    (case hd_Many => k_is)
    (case po_Many => k_is)
    (case sa_Many => k_is)
    (case mk_Many => k_is)
    (case in_Many => k_is)
    (case if_Many => k_is)
    (case kc_Many => k_is)
    (case l17 => k_is)
    (case c17 => k_is)
    (case k17 => k_is)
    (case d17 => k_is)
    (case e17 => exact rfl)
    (case hnc => k_is)
    (case htk => k_is)
    (case ha_Many => k_is)
    (case hm_Many => k_is)
    (case n_Many__least => k_is)
    (case n_Many__most => k_is)
    (case n_Many__key => k_is)
    (case x_Many_least => k_is)
    (case g_Many_least => k_is)
    (case t_Many_least => k_is)
    (case r_Many_least => k_is)
    (case l18 => k_is)
    (case c18 => k_is)
    (case k18 => k_is)
    (case x_Many_most => k_is)
    (case g_Many_most => k_is)
    (case t_Many_most => k_is)
    (case r_Many_most => k_is)
    (case l19 => k_is)
    (case c19 => k_is)
    (case k19 => k_is)
    (case a_law => k_is)
    (case l20 => k_is)
    (case c20 => k_is)
    (case k20 => k_is)

