import PyProof.Rows.All
import Wide.All
import OpenK.AllK
import Wide.FinOn
import HandS.ForMost
import HandS.Wide
import HandS.WideBits
import HandS.Property
import HandS.Defaults
import HandS.RaiseMore
import HandS.IsInst
import HandS.Flow
import HandS.SetFor
import HandS.Strs
import HandS.Conv
import PySem.Challenge.RW_howmanyeach_k34_whole_totals_by_all_pair
set_option Elab.async false
set_option linter.all false
set_option maxRecDepth 100000
set_option maxHeartbeats 4000000
namespace My
open PySem L2
/-! ### readings, one row each -/
section
variable {σ : L2.St} {H : Hp} {Q : VK} {i : Nat} {v x y : V} {ta tb te tc : TE} {r : R2} {D : Ends} {t u : TS} {tt tu : TT} {ts : TA} {g : TG} {K : PySem.W.Frag} {QB : Bool → Hp → Prop} {QA : List V → Hp → Prop}
theorem s_var (e : σ[i]? = some (some v)) (q : Q v H) : tVar i σ H Q := ⟨v, e, q⟩
theorem s_c (q : Q v H) : tC v σ H Q := q
theorem s_op (h : ta σ H fun x H1 => tb σ H1 fun y H2 => r x y H2 Q) : tOp r ta tb σ H Q := h
theorem s_un {r : V → Hp → VK → Prop} (h : ta σ H fun x H1 => r x H1 Q) : tUn r ta σ H Q := h
theorem s_cons (h : ta σ H fun x H1 => ts σ H1 fun xs H2 => QA (x :: xs) H2) : tCons ta ts σ H QA := h
theorem s_nil (h : QA [] H) : tNil σ H QA := h
theorem s_cb {r : List V → Hp → VK → Prop} (h : ts σ H fun vs H1 => r vs H1 Q) : tCB r ts σ H Q := h
theorem s_test (h : te σ H fun x H' => ∃ k, x = .bl k ∧ QB k H') : tTest te σ H QB := h
theorem s_B (h : te σ H fun x H' => ∃ k, x = .bl k ∧ QB k H') : tB te σ H QB := h
theorem s_not (h : tt σ H fun c H1 => QB (!c) H1) : tNot tt σ H QB := h
theorem s_and (h : tt σ H fun c H1 => if c = true then tu σ H1 QB else QB false H1) : tAnd tt tu σ H QB := h
theorem s_or (h : tt σ H fun c H1 => if c = true then QB true H1 else tu σ H1 QB) : tOr tt tu σ H QB := h
theorem s_if (h : tt σ H fun c H1 => if c = true then ta σ H1 Q else tb σ H1 Q) : tIf tt ta tb σ H Q := h
theorem s_notV (h : ta σ H fun x H1 => ∃ c, x = .bl c ∧ Q (.bl (!c)) H1) : tNotV ta σ H Q := h
theorem s_andV (h : ta σ H fun x H1 => ∃ c, x = .bl c ∧ if c = true then tb σ H1 Q else Q (.bl false) H1) : tAndV ta tb σ H Q := h
theorem s_orV (h : ta σ H fun x H1 => ∃ c, x = .bl c ∧ if c = true then Q (.bl true) H1 else tb σ H1 Q) : tOrV ta tb σ H Q := h
theorem s_isN (h : ta σ H fun x H1 => Q (.bl (decide (x = .non))) H1) : tIsN ta σ H Q := h
theorem s_notN (h : ta σ H fun x H1 => Q (.bl (!decide (x = .non))) H1) : tNotN ta σ H Q := h
theorem s_seq (h : t { D with nx := u D } σ H) : tSeq t u D σ H := h
theorem s_ifS (h : tt σ H fun b H1 => if b = true then t D σ H1 else u D σ H1) : tIfS tt t u D σ H := h
theorem s_asg (h : te σ H fun x H1 => g x σ H1 D.nx) : tAsg te g D σ H := h
theorem s_ret (h : te σ H D.rt) : tRet te D σ H := h
theorem s_drop (h : te σ H fun _ H1 => D.nx σ H1) : tDrop te D σ H := h
theorem s_next (h : D.nx σ H) : tNext D σ H := h
theorem s_break (h : D.bk σ H) : tBreak D σ H := h
theorem s_cont (h : D.ct σ H) : tCont D σ H := h
theorem s_gname {Q : L2.St → Hp → Prop} (h : Q (σ.set i (some v)) H) : gName i v σ H Q := h
theorem s_gsub {Q : L2.St → Hp → Prop} {to ti : TE} {t : TSet} (h : to σ H fun o H1 => ti σ H1 fun i H2 => t o i v H2 fun H3 => Q σ H3) : gSub to ti t v σ H Q := h
theorem s_gcons {Q : L2.St → Hp → Prop} {t : TG} {u : TGs} {vs : List V} (h : t v σ H fun σ' H' => u vs σ' H' Q) : gCons t u (v :: vs) σ H Q := ⟨v, vs, rfl, h⟩
theorem s_gnil {Q : L2.St → Hp → Prop} (h : Q σ H) : gNil [] σ H Q := ⟨rfl, h⟩
theorem s_gtup {Q : L2.St → Hp → Prop} {n : Nat} {t : TGs} {a : Addr} {xs : List V} (h1 : H a = some (.tup xs)) (h2 : xs.length = n) (h : t xs σ H Q) : gTup K n t (.ref a) σ H Q := ⟨a, xs, rfl, SqT.of h1, h2, h⟩
theorem s_I0 {g : Int → Int → V} {a b : Int} (q : Q (g a b) H) : rI0 g (.int a) (.int b) H Q := ⟨a, b, rfl, rfl, q⟩
theorem s_I {C : Int → Int → Prop} {g : Int → Int → V} {a b : Int} (hc : C a b) (q : Q (g a b) H) : rI C g (.int a) (.int b) H Q := ⟨a, b, rfl, rfl, hc, q⟩
theorem s_ixL {a : Addr} {xs : List V} {k : Int} (h : H a = some (.lst xs)) (e : atI xs k = some v) (q : Q v H) : rIxL K (.ref a) (.int k) H Q := ⟨a, xs, k, v, rfl, rfl, SqL.of h, e, q⟩
theorem s_ixT {a : Addr} {xs : List V} {k : Int} (h : H a = some (.tup xs)) (e : atI xs k = some v) (q : Q v H) : rIxT K (.ref a) (.int k) H Q := ⟨a, xs, k, v, rfl, rfl, SqT.of h, e, q⟩
theorem s_setL {a : Addr} {xs : List V} {k : Int} {j : Nat} {Q : Hp → Prop} (h : H a = some (.lst xs)) (e : ixN xs.length k = some j) (q : Q (upd H a (.lst (xs.set j v)))) : rSetL (.ref a) (.int k) v H Q := ⟨a, xs, k, j, rfl, rfl, h, e, q⟩
theorem s_tup (h : ts σ H fun xs H1 => xs.length ≤ sizeLine ∧ ∀ p, H1 p = none → Q (.ref p) (upd H1 p (.tup xs))) : tTup ts σ H Q := h
theorem s_lst (h : ts σ H fun xs H1 => xs.length ≤ sizeLine ∧ ∀ p, H1 p = none → Q (.ref p) (upd H1 p (.lst xs))) : tLst ts σ H Q := h
theorem s_call {sp : Sp} {dvs : List V} {E : XK} (h : ts σ H fun vs H1 => sp (vs ++ dvs) H1 Q E) : tCall sp dvs E ts σ H Q := h
theorem s_fld {a C dx : Addr} {fs : List (Str × V)} {f : Str} (h : ta σ H fun x H1 => ∃ a C dx fs v, x = .ref a ∧ H1 a = some (.ins C dx fs) ∧ Cls K C ∧ NoAttr K C f ∧ fs.lookup f = some v ∧ Q v H1) : tFld K ta f σ H Q := h
theorem ite_d {p : Prop} [Decidable p] {A B : Prop} (h1 : p → A) (h2 : ¬ p → B) : if decide p = true then A else B := by
  by_cases h : p
  · rw [if_pos (decide_eq_true h)]; exact h1 h
  · rw [if_neg (by simpa using h)]; exact h2 h
theorem ite_n {p : Prop} [Decidable p] {A B : Prop} (h1 : ¬ p → A) (h2 : p → B) : if (!decide p) = true then A else B := by
  by_cases h : p
  · rw [if_neg (by simpa using h)]; exact h2 h
  · rw [if_pos (by simpa using h)]; exact h1 h
end
theorem st_eq {N : List Str} {vs : List V} {σ : L2.St} {t : TS} {D : Ends} {H : Hp} (e : L2.start N vs = σ) (h : t D σ H) : t D (L2.start N vs) H := by
  rw [e]; exact h
theorem divp_wide {i j : Int} (h : 0 < j) (hb : j.natAbs.log2 < 9000) : CDivP i j := ⟨h, PyProof.noPylong_of_log2 hb⟩
/-! ### heaps -/
/-- all but r stays -/
def But (r : Addr) (H H' : Hp) : Prop := ∀ c o, H c = some o → c ≠ r → H' c = some o
theorem But.get {r c : Addr} {o : HO} {H H' : Hp} (b : But r H H') (h : H c = some o) (n : c ≠ r) : H' c = some o := b c o h n
theorem But.refl (r : Addr) (H : Hp) : But r H H := fun _ _ h _ => h
theorem But.trans {r : Addr} {H H1 H2 : Hp} (a : But r H H1) (b : But r H1 H2) : But r H H2 := fun c o h n => b c o (a c o h n) n
theorem But.new {r p : Addr} {o : HO} {H : Hp} (h : H p = none) : But r H (upd H p o) := fun c u e _ => by rw [upd_ne (ne_of_none e h)]; exact e
theorem But.at {r : Addr} {o : HO} {H : Hp} : But r H (upd H r o) := fun c u e n => by rw [upd_ne n]; exact e
theorem Same.get {c : Addr} {o : HO} {H H' : Hp} (b : Same H H') (h : H c = some o) : H' c = some o := b c o h
end My
namespace My
open PySem L2 PySem.Spec PyProof.Rows
/-! ### defs that may tell texts of containers: what is being shown already is known to be nothing -/
structure RoomG (k : Nat) (A : Around) : Prop where
  r : Room k A
  g : A.guards = some []
theorem RoomG.mono {j k : Nat} {A : Around} (q : RoomG k A) (h : j ≤ k) : RoomG j A := ⟨q.r.mono h, q.g⟩
theorem RoomG.units {k : Nat} {A : Around} (q : RoomG k A) : A.units + 64 < cLine := q.r.units
theorem RoomG.in1 {k : Nat} {A : Around} (q : RoomG (k + 1) A) : RoomG k A.in1 := ⟨q.r.in1, q.g⟩
theorem hug {A : Around} {k : Nat} (q : RoomG k A) : A.units + 1 < cLine := hu_of q.r
/-- the def at f keeps the promise sp wherever nothing is being shown -/
structure FnG (P : Program) (w : World) (K : PySem.W.Frag) (mg : Str → Option Value) (base : Heap) (CX : CXT) (k : Nat) (f : Addr) (fd : FuncData) (ps : List Str) (sp : Sp) : Prop where
  len : ∀ vs H Q E, sp vs H Q E → vs.length = ps.length
  go : ∀ (A : Around) (outer : List Env) (s : Shared) (H : Hp) (args : Args) (us : List Value) (vs : List V) (Q : VK) (E : XK), RoomG k A →
    Env0 P w K mg base A outer s H → BindsTo s fd args (ps.zip us) → Vals vs us → sp vs H Q E →
      codeAny (model P w) A (.call (.ref f) args) (CR CX outer P w H s Q E) s
section
variable {P : Program} {w : World} {K : PySem.W.Frag} {mg : Str → Option Value} {base : Heap} {CX : CXT} {k j : Nat} {f : Addr} {fd : FuncData} {ps : List Str} {sp sp' : Sp}
theorem FnG.of (F : FnOk P w K mg base CX k f fd ps sp) : FnG P w K mg base CX k f fd ps sp := ⟨F.len, fun A outer s H args us vs Q E hr => F.run A outer s H args us vs Q E hr.r⟩
theorem FnG.mono (F : FnG P w K mg base CX j f fd ps sp) (h : j ≤ k) : FnG P w K mg base CX k f fd ps sp := ⟨F.len, fun A outer s H args us vs Q E hr => F.go A outer s H args us vs Q E (hr.mono h)⟩
theorem FnG.imp (F : FnG P w K mg base CX k f fd ps sp) (h : ∀ vs H Q E, sp' vs H Q E → sp vs H Q E) : FnG P w K mg base CX k f fd ps sp' :=
  ⟨fun vs H Q E q => F.len vs H Q E (h _ _ _ _ q), fun A outer s H args us vs Q E hr a b c d => F.go A outer s H args us vs Q E hr a b c (h _ _ _ _ d)⟩
theorem fnG_body {x qual : Str} {st : Stmt} {N : List Str} {dvs0 : List V} {kws0 : List (Str × V)} (F : FunD K x qual (defArgs st) (defBody st) (defScope st) dvs0 kws0 f fd) (S : FnScope N ps (defScope st)) (len : ∀ vs H Q E, sp vs H Q E → vs.length = ps.length)
    (hb : ∀ (cdv : Value) (A : Around) (outer : List Env) (s : Shared) (H : Hp) (vs : List V) (Q : VK) (E : XK), RoomG k (A.deeper (envOfC qual (defScope st) s.heap.objs.size f cdv)) → sp vs H Q E →
      ∃ t, PSs (cxOf CX P w K mg base N qual (defScope st) f cdv A outer s H E) (defBody st) t ∧ t { nx := fun _ H' => Q .non H', rt := Q } (start N vs) H) :
    FnG P w K mg base CX (k + 1) f fd ps sp := by
  obtain ⟨oc, od, dV, kV, doc, pm, an, cdv, ct, osl, rfl, lk, hcd, _, _⟩ := F.ex
  constructor
  · exact len
  · intro A outer s H args us vs Q E hr e0 hbi r hsp
    have keeps0 : ∀ b o, base.get? b = some o → s.heap.get? b = some o := fun b o e => (e0.bs b o e).1
    have inK : K.In s.heap := e0.mod.kin.keeps keeps0
    refine codeAny_call_function hr.r.depth (inK _ _ lk) rfl S.co S.gen rfl (PySem.W.codeRec_of inK hcd) (hbi _ _ _ _ ?_)
    refine wpAny_newFunctionEnv_cells S.kind ?_ fun env he s1 x => ?_
    · intro ⟨n, v⟩ hy
      cases S.par n (List.of_mem_zip hy).1 with
      | inl q => exact Or.inl q
      | inr q => exact Or.inr ⟨q, PySem.W.cellsFrom_some _ _ _ (Or.inl q)⟩
    · subst he
      refine ⟨(e0.mod.nolimit.keeps keeps0).keeps x.toInCall.keep, codeAny_func ?_⟩
      obtain ⟨t, ht, hq⟩ := hb cdv A outer s H vs Q E ⟨hr.r.deeper _, hr.g⟩ hsp
      have I0 := inv_start (CX := CX) (P := P) (E := E) S hr.r.hd e0 (len _ _ _ _ hsp) r x
      refine wpAny_mono (ht.run [] s1 (start N vs) H _ I0 hq) ?_ (fun _ _ z => z)
      intro fl s' hs
      cases fl with
      | ret u => obtain ⟨v, σ', H', J, rv, q⟩ := hs; exact ⟨v, H', J.os, J.bare, J.base, J.hok, rv, q⟩
      | next => obtain ⟨σ', H', J, q⟩ := hs; exact ⟨V.non, H', J.os, J.bare, J.base, J.hok, rfl, q⟩
      | brk => exact hs.elim fun _ z => z.elim fun _ y => y.2.elim
      | cont => exact hs.elim fun _ z => z.elim fun _ y => y.2.elim
end
/-! ### bundles: a def, a class, a method, a property, by its name -/
structure Dn (P : Program) (w : World) (K : PySem.W.Frag) (mg : Str → Option Value) (base : Heap) (x : Str) (k : Nat) (ps : List Str) (dvs : List V) (sp : Sp) : Prop where
  ex : ∃ (f : Addr) (fd : FuncData) (ds : List Value), FnG P w K mg base CX0 k f fd ps sp ∧ mg x = some (.ref f) ∧ PySem.W.keepIn K (.ref f) = true ∧ Binds K fd ps ds ∧ Vals dvs ds
structure Mkn (P : Program) (w : World) (K : PySem.W.Frag) (mg : Str → Option Value) (base : Heap) (x : Str) (C : Addr) (k : Nat) (ps : List Str) (dvs : List V) (sp : Sp) : Prop where
  ex : ∃ (f : Addr) (fd : FuncData) (ds : List Value), Mk K C f ∧ FnG P w K mg base CX0 k f fd ps sp ∧ mg x = some (.ref C) ∧ Binds K fd ps ds ∧ Vals dvs ds
structure Mtn (P : Program) (w : World) (K : PySem.W.Frag) (mg : Str → Option Value) (base : Heap) (C : Addr) (m : Str) (k : Nat) (ps : List Str) (dvs : List V) (sp : Sp) : Prop where
  ex : ∃ (f : Addr) (fd : FuncData) (ds : List Value), Cls K C ∧ Meth K C m f ∧ FnG P w K mg base CX0 k f fd ps sp ∧ Binds K fd ps ds ∧ Vals dvs ds
structure Prn (P : Program) (w : World) (K : PySem.W.Frag) (mg : Str → Option Value) (base : Heap) (C : Addr) (m : Str) (k : Nat) (ps : List Str) (dvs : List V) (sp : Sp) : Prop where
  ex : ∃ (p g : Addr) (fd : FuncData) (ds : List Value), Cls K C ∧ PropOf K C m p g ∧ FnG P w K mg base CX0 k g fd ps sp ∧ Binds K fd ps ds ∧ Vals dvs ds
section
variable {X : Cx} {j k : Nat} {f C : Addr} {fd : FuncData} {ps : List Str} {sp : Sp} {dvs : List V} {ds : List Value} {x m : Str} {p pos apos : Pos} {e o : Expr} {es : List Expr} {ta : TE} {t : TA}
theorem goG {pins : List (Addr × Obj)} {σ : L2.St} {H : Hp} {s : Shared} {Q : VK} {us : List Value} {vs : List V} (F : FnG X.prog X.w X.K X.mg X.base CX0 k f fd ps sp) (hr : RoomG k X.A) (hb : Binds X.K fd ps ds) (hd : Vals dvs ds)
    (I : Inv X pins σ H s) (r : Vals vs us) (h : sp (vs ++ dvs) H Q E0) : wpAny (model X.prog X.w) X.A (call (.ref f) us) (EP X pins σ Q) X.xe s := by
  have r2 := r.append hd
  have hl : (us ++ ds).length = ps.length := r2.length.symm.trans (F.len _ _ _ _ h)
  refine wpAny_call (codeAny_mono (F.go X.A X.stack s H ⟨us, []⟩ (us ++ ds) _ Q E0 hr I.env0 (hb s us I.kIn hl) r2 h) ?_)
  intro r s' hq
  cases r with
  | error e => exact (show False from hq).elim
  | ok fl => cases fl with
    | ret u => exact I.after hq
    | next => exact (show False from hq).elim
    | brk => exact (show False from hq).elim
    | cont => exact (show False from hq).elim
theorem pe_callD (D : Dn X.prog X.w X.K X.mg X.base x k ps dvs sp) (hr : RoomG k X.A) (hg : Gl X x) (ha : PA X (e :: es) t) (hdb : (x == ("__debug__" : Str)) = false := by decide)
    (h1 : starEach (e :: es) X.env = (false, eval e X.env) :: starEach es X.env := by rfl) (h2 : (backTo pos (starEach es X.env)).any (·.1) = false := by rfl) : PE X (.Call (.Name x p) (e :: es) [] pos) (tCall sp dvs E0 t) := by
  obtain ⟨f, fd, ds, F, hm, hk, hb, hd⟩ := D.ex
  constructor
  intro pins s σ H Q I h
  exact wpAny_Call_Name_kw (ld_glob I hg hm (PySem.W.callWith_K (h₀ := X.base) I.ok.mod.kin hk (thn (ha.run pos pins s σ H _ I h) fun us s1 ⟨vs, H1, I1, r, q⟩ => ⟨I1.kIn, goG F hr hb hd I1 r q⟩) h1 h2) hdb)
theorem pe_call0D (D : Dn X.prog X.w X.K X.mg X.base x k ps dvs sp) (hr : RoomG k X.A) (hg : Gl X x) (hdb : (x == ("__debug__" : Str)) = false := by decide) : PE X (.Call (.Name x p) [] [] pos) (tCall sp dvs E0 tNil) := by
  obtain ⟨f, fd, ds, F, hm, hk, hb, hd⟩ := D.ex
  constructor
  intro pins s σ H Q I h
  exact wpAny_Call_Name_kw (ld_glob I hg hm (PySem.W.callWith_K0 I.kIn hk (goG (us := []) F hr hb hd I .nil h)) hdb)
theorem goMake {pins : List (Addr × Obj)} {σ : L2.St} {H : Hp} {s : Shared} {Q : VK} {us : List Value} {vs : List V} (M : Mk X.K C f) (F : FnG X.prog X.w X.K X.mg X.base CX0 k f fd ps sp) (hr : RoomG (k + 1) X.A) (hb : Binds X.K fd ps ds) (hd : Vals dvs ds)
    (I : Inv X pins σ H s) (r : Vals vs us) (h : ∀ x dx, H x = none → H dx = none → dx ≠ x → sp (.ref x :: (vs ++ dvs)) (upd (upd H dx (.own x)) x (.ins C dx [])) (fun v H2 => v = .non ∧ Q (.ref x) H2) E0) :
    wpAny (model X.prog X.w) X.A (call (.ref C) us) (EP X pins σ Q) X.xe s := by
  have nx : H (s.heap.objs.size + 1) = none := I.hok.fresh (Nat.le_succ _)
  have nd : H s.heap.objs.size = none := I.hok.fresh (Nat.le_refl _)
  have hq := h _ _ nx nd (Nat.ne_of_lt (Nat.lt_succ_self _))
  have J := Inv.made (C := C) I
  have r2 : Vals (V.ref (s.heap.objs.size + 1) :: (vs ++ dvs)) (Value.ref (s.heap.objs.size + 1) :: us ++ ds) := .cons rfl (r.append hd)
  have hl : (Value.ref (s.heap.objs.size + 1) :: us ++ ds).length = ps.length := r2.length.symm.trans (F.len _ _ _ _ hq)
  have hr2 : RoomG k (X.A.under (.builtin "type.__call__" ⟨.ref C :: us, []⟩)) := ⟨hr.r.make C us [], hr.g⟩
  refine wpAny_call (make_map (f := f) I.kIn M.makes M.init (beq_iff_eq.mp M.fn) (codeAny_mono
    (F.go _ X.stack _ _ ⟨Value.ref (s.heap.objs.size + 1) :: us, []⟩ _ _ _ E0 hr2 (J.env0.make C us []) (hb _ (Value.ref (s.heap.objs.size + 1) :: us) J.kIn hl) r2 hq) ?_))
  intro r s' hq'
  cases r with
  | error e => exact (show False from hq').elim
  | ok fl => cases fl with
    | ret u =>
      obtain ⟨v, H', I3, rv, ev, q3⟩ := J.after hq'
      subst ev
      exact ⟨rv, V.ref (s.heap.objs.size + 1), H', I3, rfl, q3⟩
    | next => exact (show False from hq').elim
    | brk => exact (show False from hq').elim
    | cont => exact (show False from hq').elim
theorem pe_makeD (D : Mkn X.prog X.w X.K X.mg X.base x C k ps dvs sp) (hr : RoomG (k + 1) X.A) (hg : Gl X x) (ha : PA X (e :: es) t) (hdb : (x == ("__debug__" : Str)) = false := by decide)
    (h1 : starEach (e :: es) X.env = (false, eval e X.env) :: starEach es X.env := by rfl) (h2 : (backTo pos (starEach es X.env)).any (·.1) = false := by rfl) : PE X (.Call (.Name x p) (e :: es) [] pos) (tMake C sp dvs E0 t) := by
  obtain ⟨f, fd, ds, M, F, hm, hb, hd⟩ := D.ex
  constructor
  intro pins s σ H Q I h
  exact wpAny_Call_Name_kw (ld_glob I hg hm (PySem.W.callWith_K (h₀ := X.base) I.ok.mod.kin M.kp (thn (ha.run pos pins s σ H _ I h) fun us s1 ⟨vs, H1, I1, r, q⟩ => ⟨I1.kIn, goMake M F hr hb hd I1 r q⟩) h1 h2) hdb)
theorem pe_make0D (D : Mkn X.prog X.w X.K X.mg X.base x C k ps dvs sp) (hr : RoomG (k + 1) X.A) (hg : Gl X x) (hdb : (x == ("__debug__" : Str)) = false := by decide) : PE X (.Call (.Name x p) [] [] pos) (tMake C sp dvs E0 tNil) := by
  obtain ⟨f, fd, ds, M, F, hm, hb, hd⟩ := D.ex
  constructor
  intro pins s σ H Q I h
  exact wpAny_Call_Name_kw (ld_glob I hg hm (PySem.W.callWith_K0 I.kIn M.kp (goMake (us := []) M F hr hb hd I .nil h)) hdb)
theorem pe_methD {pl : Sem Bool} (D : Mtn X.prog X.w X.K X.mg X.base C m k ps dvs sp) (he : PE X o ta) (hr : RoomG k X.A) (ha : PA X (e :: es) t)
    (h1 : starEach (e :: es) X.env = (false, eval e X.env) :: starEach es X.env := by rfl) (h2 : (backTo pos (starEach es X.env)).any (·.1) = false := by rfl)
    (h3 : eval (.Call (.Attribute o m apos) (e :: es) [] pos) X.env = (do
      let v ← eval o X.env
      standAt apos.atName
      let (g, fst) ← holding [v] (getMethod v m pl)
      callWith pos g fst (backTo pos (starEach (e :: es) X.env)) (backToKw pos (keywordEach [] X.env))) := by rfl) : PE X (.Call (.Attribute o m apos) (e :: es) [] pos) (tMeth C m sp dvs E0 ta t) := by
  obtain ⟨f, fd, ds, c, hm, F, hb, hd⟩ := D.ex
  constructor
  intro pins s σ H Q I h
  refine PySem.W.methodCall_KW (pl := pl) (thn (he.run pins s σ H _ I h) ?_) h3
  rintro u s1 ⟨x, H1, I1, rx, a, dx, fs, rfl, ea, l, q⟩
  obtain rfl : u = Value.ref a := rx
  exact getmeth_ok I1 ea c hm l (PySem.W.callWith_K (first := [.ref a]) I1.kIn hm.kp (thn (ha.run pos pins s1 σ H1 _ I1 q) fun us s2 ⟨vs, H2, I2, r, q2⟩ => ⟨I2.kIn, goG (vs := .ref a :: vs) F hr hb hd I2 (.cons rfl r) q2⟩) h1 h2)
theorem pe_meth0D {pl : Sem Bool} (D : Mtn X.prog X.w X.K X.mg X.base C m k ps dvs sp) (he : PE X o ta) (hr : RoomG k X.A)
    (h3 : eval (.Call (.Attribute o m apos) [] [] pos) X.env = (do
      let v ← eval o X.env
      standAt apos.atName
      let (g, fst) ← holding [v] (getMethod v m pl)
      callWith pos g fst (backTo pos (starEach [] X.env)) (backToKw pos (keywordEach [] X.env))) := by rfl) : PE X (.Call (.Attribute o m apos) [] [] pos) (tMeth C m sp dvs E0 ta tNil) := by
  obtain ⟨f, fd, ds, c, hm, F, hb, hd⟩ := D.ex
  constructor
  intro pins s σ H Q I h
  refine PySem.W.methodCall_KW (pl := pl) (thn (he.run pins s σ H _ I h) ?_) h3
  rintro u s1 ⟨x, H1, I1, rx, a, dx, fs, rfl, ea, l, q⟩
  obtain rfl : u = Value.ref a := rx
  exact getmeth_ok I1 ea c hm l (PySem.W.callWith_K0 (first := [.ref a]) I1.kIn hm.kp (goG (us := [.ref a]) (vs := [.ref a]) F hr hb hd I1 (.cons rfl .nil) q))
theorem pe_propD (D : Prn X.prog X.w X.K X.mg X.base C m k ps dvs sp) (he : PE X e ta) (hr : RoomG (k + 1) X.A) (hab : attributeBase e m X.env (eval e X.env) = eval e X.env) : PE X (.Attribute e m pos) (tProp C sp dvs E0 ta) := by
  obtain ⟨p, g, fd, ds, c, hp, F, hb, hd⟩ := D.ex
  constructor
  intro pins s σ H Q I h
  refine attr_of hab (thn (he.run pins s σ H _ I h) ?_)
  rintro u s1 ⟨x, H1, I1, rx, a, dx, fs, rfl, ea, q⟩
  obtain rfl : u = Value.ref a := rx
  obtain ⟨mA, O, _, _, _, _⟩ := ins_get I1.hok ea
  obtain ⟨od, J, _⟩ := O.look
  obtain ⟨rest, hrec⟩ := hp.rec_
  have I2 := I1.tok (s1.toks + 1)
  have hl : ([Value.ref a] ++ ds).length = ps.length := by
    have z := F.len _ _ _ _ q
    have y := hd.length
    simp only [List.length_cons, List.length_append, List.length_nil] at z ⊢
    omega
  have hc : (PySem.W.clsIn X.K C).isSome = true := by
    obtain ⟨cd, hc, _⟩ := PySem.W.any_some c.hd
    simp [hc]
  have pg := PySem.W.plainGet_of (c.get m)
  refine PySem.W.get_bind I1.kIn J pg.1 (PySem.W.findObj_data hc hp.at_ hp.get hp.tak) pg.2 (wpAny_call (PySem.W.prop_get (s := { s1 with toks := s1.toks + 1 }) I1.kIn hrec ?_))
  refine codeAny_mono (F.go X.A.in1 X.stack { s1 with toks := s1.toks + 1 } H1 ⟨[.ref a], []⟩ (.ref a :: ds) (.ref a :: dvs) Q E0 hr.in1 I2.env0.in1 (hb _ [.ref a] I2.kIn hl) (.cons rfl hd) q) ?_
  intro r s' hq
  cases r with
  | error er => exact (show False from hq).elim
  | ok fl => cases fl with
    | ret u =>
      obtain ⟨v, H', I3, rv, q3⟩ := I2.after hq
      show wpAny _ _ (handedOut u) _ _ _
      rw [PySem.W.handedOut_of (handed_of rv)]
      exact wpAny_pure ⟨v, H', I3, rv, q3⟩
    | next => exact (show False from hq).elim
    | brk => exact (show False from hq).elim
    | cont => exact (show False from hq).elim
/-- repr of data -/
theorem call_reprD (hr : RoomG k X.A) : CallR X (.builtin "repr") (fun xs H Q => ∃ y d, xs = [y] ∧ Dp X.K H y d ∧ SeqAt.shaped d = true ∧ d.showable = true ∧ d.hasDict = false ∧ d.shown.length ≤ sizeLine ∧ Q (.str d.shown) H) := by
  intro pins s σ H xs us Q I r h
  obtain ⟨y, d, rfl, hd, hs, hw, hn, hz, q⟩ := h
  obtain ⟨u, rfl, ru⟩ := vals1 r
  obtain ⟨as, rd⟩ := Dp.reads I d y u hd ru
  have hA : X.A.units + (d.depth + 1) < cLine := by
    have := SeqAt.depth_of_shaped hs
    have := hr.r.un
    omega
  have fin : ∀ {t : Tok} {s' : Shared}, Inv X pins σ H s' → EP X pins σ Q (.str d.shown t) s' := fun J => ⟨.str d.shown, H, J, ⟨_, rfl⟩, q⟩
  cases rd with
  | none => exact PySem.P.repr_of_none (fin (I.tok _))
  | bool b => exact PySem.P.repr_of_bool (fin (I.tok _))
  | int i t => exact PySem.P.repr_of_int (of_decide_eq_true hw) (fin (I.tok _))
  | str z t => exact PySem.P.repr_of_str (fin (I.tok _)) hz
  | list h1 h2 h3 h4 => exact PySem.repr_of_reads' (.list h1 h2 h3 h4) hw (PyData.noDict_hsm hn) hr.g hA (fun _ _ e => e) (fun h' t tk hk => fin (I.kept hk)) hz
  | tuple h1 h2 h3 h4 => exact PySem.repr_of_reads' (.tuple h1 h2 h3 h4) hw (PyData.noDict_hsm hn) hr.g hA (fun _ _ e => e) (fun h' t tk hk => fin (I.kept hk)) hz
  | dict h1 h2 h3 h4 h5 => simp [PyData.hasDict] at hn
end
end My
namespace My
open PySem L2 PySem.Spec PyProof.Rows PySem.W
section
variable {P : Program} {w : World} {K : Frag} {mg mb : Str → Option Value} {k : Nat} {fa a : Addr} {fd : FuncData} {x : Str} {sp : Sp} {s : Shared} {vs : List Value} {ns : List Int}
abbrev lawEnd (s : Shared) : Result → Shared → Prop := fun r s' => r = .ok (.ret (.bool true)) ∧ OldK s.heap s'.heap ∧ s'.os = s.os ∧ AllBare s'.gens
theorem lawG_from {H : Hp} (KX : K.In s.heap) (hns : s.heap.Ns mainGlobals mg) (hb : s.heap.Ns builtinsNs mb) (hbb : ∀ y : Str, y ≠ "__name__" → mb y = bootBuiltins y) (hlim : s.heap.NoLimit) (hg : s.gens = #[])
    (ha : s.heap.get? a = some { cls := .type "list", data := .seq vs.toArray }) (hr : RoomG k callerA)
    (F : ∀ base : Heap, K.In base → base.Ns mainGlobals mg → FnG P w K mg base CX0 k fa fd [x] sp) (bnd : ∀ (s : Shared) (u : Value), BindsTo s fd ⟨[u], []⟩ [(x, u)])
    (hsp : sp [.ref a] H (fun v _ => v = .bl true) E0) (only : Only H) (ok : HOk P w H s.heap) (atA : ∀ b, H b ≠ none → b = a) (nK : H a ≠ none → K.lookup a = none) :
    codeAny (model P w) callerA (.call (.ref fa) ⟨[.ref a], []⟩) (lawEnd s) s := by
  have free : ∀ {b : Addr}, b ≠ a → H b = none := fun {b} n => Classical.byContradiction fun z => n (atA b z)
  have nsB : ∀ {b : Addr} {m : Str → Option Value}, s.heap.Ns b m → (hidT s.heap H).Ns b m := by
    rintro b m ⟨o, es, ep, e, d, r⟩
    refine ⟨o, es, ep, hidT_get e (free ?_), d, r⟩
    rintro rfl
    rw [ha] at e
    cases e
    cases (show Data.seq vs.toArray _ = Data.dict es ep from d)
  have inB : K.In (hidT s.heap H) := by
    intro b o e
    refine hidT_get (KX b o e) (Classical.byContradiction fun z => ?_)
    have := nK (atA b z ▸ z)
    rw [atA b z, this] at e
    cases e
  obtain ⟨mc, l1, l2⟩ := hlim
  have md : Mod K mg (hidT s.heap H) := ⟨inB, nsB hns, ⟨mb, nsB hb, hbb⟩, mc, nsB l1, l2⟩
  have env : Env0 P w K mg (hidT s.heap H) callerA [] s H :=
    ⟨rfl, md, fun b o e => of_hidT e, Nat.le_of_eq (hidT_size _ _), trivial, fun b z => (List.not_mem_nil (show b ∈ ([] : List Addr) from z)).elim, ok, .of_eq hg⟩
  refine codeAny_mono ((F _ inB (nsB hns)).go callerA [] s H ⟨[.ref a], []⟩ [.ref a] [.ref a] _ _ hr env (bnd s (.ref a)) (.cons rfl .nil) hsp) ?_
  rintro (e | fl) s' h
  · exact (show False from h).elim
  · cases fl with
    | ret u =>
      obtain ⟨v, H', os, bare, un, ok', rv, (rfl : v = .bl true)⟩ := h
      obtain rfl : u = Value.bool true := rv
      refine ⟨rfl, OldK.of_keep ?_, os, bare⟩
      intro b o e
      cases q : H b with
      | none => exact un.keep b o e q (fun z => (List.not_mem_nil (show b ∈ ([] : List Addr) from z)).elim) (by simp)
      | some u =>
        rcases only b with z | ⟨ob, xs, z⟩
        · exact absurd (q.symm.trans z) (by simp)
        · have y1 := (ok b _ z).1
          have y2 := (ok' b _ (un.frzs b ob _ z)).1
          rw [e] at y1
          cases y1
          exact y2
    | next => exact (show False from h).elim
    | brk => exact (show False from h).elim
    | cont => exact (show False from h).elim
theorem lawG (KX : K.In s.heap) (hns : s.heap.Ns mainGlobals mg) (hb : s.heap.Ns builtinsNs mb) (hbb : ∀ y : Str, y ≠ "__name__" → mb y = bootBuiltins y) (hlim : s.heap.NoLimit) (hg : s.gens = #[])
    (ha : s.heap.get? a = some { cls := .type "list", data := .seq vs.toArray }) (hi : IntsAre vs ns) (hl : ns.length ≤ sizeLine) (hr : RoomG k callerA)
    (F : ∀ base : Heap, K.In base → base.Ns mainGlobals mg → FnG P w K mg base CX0 k fa fd [x] sp) (bnd : ∀ (s : Shared) (u : Value), BindsTo s fd ⟨[u], []⟩ [(x, u)])
    (hsp : ∀ H : Hp, Only H → SqL K H a (ns.map V.int) → sp [.ref a] H (fun v _ => v = .bl true) E0) :
    codeAny (model P w) callerA (.call (.ref fa) ⟨[.ref a], []⟩) (lawEnd s) s := by
  have rv := vals_ints hi
  cases hk : K.lookup a with
  | some o =>
    have e := (ha.symm.trans (KX a o hk))
    cases e
    have hS : SqL K (fun _ => none) a (ns.map V.int) := Or.inr ⟨_, vs.toArray, _, hk, rfl, rfl, rfl, by rw [List.size_toArray, hi.length]; exact hl, by simpa using rv⟩
    exact lawG_from (H := fun _ => none) KX hns hb hbb hlim hg ha hr F bnd (hsp _ (fun _ => Or.inl rfl) hS) (fun _ => Or.inl rfl) (fun b u z => nomatch z) (fun b z => (z rfl).elim) fun z => (z rfl).elim
  | none =>
    let H1 : Hp := upd (fun _ => none) a (.frz { cls := .type "list", data := .seq vs.toArray } (.lst (ns.map V.int)))
    have same : H1 a = some (.frz { cls := .type "list", data := .seq vs.toArray } (.lst (ns.map V.int))) := upd_same
    have els : ∀ b, b ≠ a → H1 b = none := fun b n => upd_ne n
    have on : Only H1 := fun b => (Classical.em (b = a)).elim (fun e => Or.inr ⟨_, _, e ▸ same⟩) fun n => Or.inl (els b n)
    refine lawG_from (H := H1) KX hns hb hbb hlim hg ha hr F bnd (hsp H1 on (Or.inl (Or.inr ⟨_, same⟩))) on ?_ (fun b z => Classical.byContradiction fun n => z (els b n)) fun _ => hk
    intro b u z
    rcases Classical.em (b = a) with e | n
    · subst e
      rw [same] at z
      cases z
      exact ⟨ha, by rw [List.length_map]; exact hl, vs, _, rv, ha⟩
    · rw [els b n] at z
      cases z
end
theorem walkG {l : OpenLaw} {n k : Nat} {q : Program} {loose : List Str} {XP : (Str → Option Value) → Heap → Prop} {YP : World → Heap → Prop} {d : DefRec} {K : Params → Frag} {sp : World → Sp} {x : Str}
    (hn : l.most = some n) (hn2 : n ≤ sizeLine) (hdf : d.params.defaults = []) (hr : RoomG k callerA) (hY : ∀ (w : World) (h : Heap), YP w h → (K w.params).In h)
    (F : ∀ (w : World) (mg : Str → Option Value) (fa : Addr) (h : Heap), (K w.params).In h → h.Ns mainGlobals mg → mg d.name = some (.ref fa) →
      ∃ fd : FuncData, (∀ (s : Shared) (u : Value), BindsTo s fd ⟨[u], []⟩ [(x, u)]) ∧ ∀ base : Heap, (K w.params).In base → base.Ns mainGlobals mg → FnG l.prog w (K w.params) mg base CX0 k fa fd [x] (sp w))
    (hsp : ∀ (w : World) (H : Hp) (a : Addr) (ns : List Int), ns.length ≤ n → Only H → SqL (K w.params) H a (ns.map V.int) → sp w [.ref a] H (fun v _ => v = .bl true) E0) :
    WalkO q loose XP YP l.row.toRowW d [] (fun f vs => PySem.call f vs) := by
  refine Att.attach_call hn hdf ?_
  intro w s₀ s₁ mg mb fa o pm cd doc a vs ns G Y ho hd hcd hmg hobj hints hlen hg
  obtain ⟨fd, hb, hF⟩ := F w mg fa _ (hY w _ Y) G.T.g hmg
  exact lawG (hY w _ Y) G.T.g G.T.b G.T.builtins G.T.nolimit hg hobj hints (Nat.le_trans hlen hn2) hr hF hb fun H h1 h2 => hsp w H a ns hlen h1 h2
end My

namespace My
open PySem L2 PySem.Spec PyProof.Rows
section
variable {σ : L2.St} {H : Hp} {Q : VK} {ta tb : TE} {K : PySem.W.Frag} {i : Int}
/-- slot i holds v -/
inductive GetAt : Nat → L2.St → V → Prop
  | zero {v : V} {l : L2.St} : GetAt 0 (some v :: l) v
  | succ {i : Nat} {v : V} {x : Option V} {l : L2.St} (h : GetAt i l v) : GetAt (i + 1) (x :: l) v
inductive SetAt : Nat → V → L2.St → L2.St → Prop
  | zero {v : V} {x : Option V} {l : L2.St} : SetAt 0 v (x :: l) (some v :: l)
  | succ {i : Nat} {v : V} {x : Option V} {l m : L2.St} (h : SetAt i v l m) : SetAt (i + 1) v (x :: l) (x :: m)
theorem GetAt.get {i : Nat} {σ : L2.St} {v : V} (h : GetAt i σ v) : σ[i]? = some (some v) := by
  induction h with
  | zero => rfl
  | succ _ ih => simpa using ih
theorem SetAt.set {i : Nat} {σ τ : L2.St} {v : V} (h : SetAt i v σ τ) : σ.set i (some v) = τ := by
  induction h with
  | zero => rfl
  | succ _ ih => simpa using ih
theorem s_varG {i : Nat} {v : V} (g : GetAt i σ v) (q : Q v H) : tVar i σ H Q := ⟨v, g.get, q⟩
theorem s_gnameG {i : Nat} {v : V} {τ : L2.St} {Q : L2.St → Hp → Prop} (g : SetAt i v σ τ) (q : Q τ H) : gName i v σ H Q := by
  show Q (σ.set i (some v)) H
  rw [g.set]
  exact q
theorem s_gnameE {i : Nat} {v : V} {τ : L2.St} {Q : L2.St → Hp → Prop} (e : σ.set i (some v) = τ) (q : Q τ H) : gName i v σ H Q := by
  show Q (σ.set i (some v)) H
  rw [e]
  exact q
theorem s_2setE {D : Ends} {i j : Nat} {t : TS} {x y : V} {τ : L2.St} (e : (σ.set i (some x)).set j (some y) = τ) (h : t D τ H) : t D ((σ.set i (some x)).set j (some y)) H := by
  rw [e]
  exact h
theorem s_orT (h : ta σ H fun x H1 => ∃ k, TruV K x H1 k ∧ if k = true then Q x H1 else tb σ H1 Q) : tOrT K ta tb σ H Q := h
theorem s_andT (h : ta σ H fun x H1 => ∃ k, TruV K x H1 k ∧ if k = true then tb σ H1 Q else Q x H1) : tAndT K ta tb σ H Q := h
theorem s_chain {r r' : R2} {tc : TE} (h : ta σ H fun x H1 => tb σ H1 fun y H2 => r x y H2 fun z H3 => ∃ k, z = .bl k ∧
  (if k = true then tc σ H3 fun w' H4 => r' y w' H4 Q else Q (.bl false) H3)) : tChain r r' ta tb tc σ H Q := h
theorem s_isi_int (q : Q (.bl true) H) : rIsi K [.int i, .ty "int"] H Q := ⟨_, _, _, _, true, rfl, .ty _, .base (.int i), kit_ty (by decide +kernel), q⟩
theorem s_isi_int_bool (q : Q (.bl false) H) : rIsi K [.int i, .ty "bool"] H Q := ⟨_, _, _, _, false, rfl, .ty _, .base (.int i), kit_ty (by decide +kernel), q⟩
theorem s_isi_own {a C : Addr} (t : TyOf K H (.ref a) (.ref C)) (q : Q (.bl true) H) : rIsi K [.ref a, .ref C] H Q := ⟨_, _, _, _, true, rfl, .own C, .base t, by simp [PySem.W.kitOne], q⟩
theorem s_prop {C : Addr} {sp : Sp} {dvs : List V} {E : XK} (h : ta σ H fun x H1 => ∃ a dx fs, x = .ref a ∧ H1 a = some (.ins C dx fs) ∧ sp (.ref a :: dvs) H1 Q E) : tProp C sp dvs E ta σ H Q := h
theorem s_sfld {D : Ends} {f : Str} (h : tb σ H fun y H1 => ta σ H1 fun x H2 => ∃ a C dx fs, x = .ref a ∧ H2 a = some (.ins C dx fs) ∧ Cls K C ∧ NoAttr K C f ∧ fs.length < 1000 ∧ D.nx σ (upd H2 a (.ins C dx (putF f y fs)))) : sFld K ta tb f D σ H := h
theorem s_fput {a C dx : Addr} {fs : List (Str × V)} {f : Str} {y : V} {Q : Hp → Prop} (e : H a = some (.ins C dx fs)) (c : Cls K C) (n : NoAttr K C f) (l : fs.length < 1000) (q : Q (upd H a (.ins C dx (putF f y fs)))) :
    ∃ a' C dx fs, V.ref a = .ref a' ∧ H a' = some (.ins C dx fs) ∧ Cls K C ∧ NoAttr K C f ∧ fs.length < 1000 ∧ Q (upd H a' (.ins C dx (putF f y fs))) := ⟨a, C, dx, fs, rfl, e, c, n, l, q⟩
theorem s_fget {a C dx : Addr} {fs : List (Str × V)} {f : Str} {v : V} (e : H a = some (.ins C dx fs)) (c : Cls K C) (n : NoAttr K C f) (l : fs.lookup f = some v) (q : Q v H) :
    ∃ a' C dx fs v, V.ref a = .ref a' ∧ H a' = some (.ins C dx fs) ∧ Cls K C ∧ NoAttr K C f ∧ fs.lookup f = some v ∧ Q v H := ⟨a, C, dx, fs, v, rfl, e, c, n, l, q⟩
theorem few0 {m : Nat} : ([] : List (Str × V)).length < m + 1 := Nat.succ_pos _
theorem few_put {m : Nat} {fs : List (Str × V)} {f : Str} {v : V} (h : fs.length < m) : (putF f v fs).length < m + 1 := by
  have e : ∀ fs : List (Str × V), (putF f v fs).length ≤ fs.length + 1 := by
    intro fs
    induction fs with
    | nil => exact Nat.le_refl _
    | cons x r ih =>
      obtain ⟨g, x⟩ := x
      unfold putF
      split
      · exact Nat.le_succ _
      · exact Nat.succ_le_succ ih
  exact Nat.lt_of_le_of_lt (e fs) (Nat.succ_lt_succ h)
theorem putF_nil {f : Str} {v : V} : putF f v [] = [(f, v)] := rfl
theorem putF_ne {f g : Str} {v x : V} {r : List (Str × V)} (h : g ≠ f) : putF f v ((g, x) :: r) = (g, x) :: putF f v r := if_neg h
theorem s_eqI {i j : Int} (q : Q (.bl (decide (i = j))) H) : rEq (.int i) (.int j) H Q := by
  refine ⟨rfl, ?_⟩
  rw [show decide (V.int i = V.int j) = decide (i = j) from by (rw [Bool.eq_iff_iff]; simp)]
  exact q
theorem s_neI {i j : Int} (q : Q (.bl (!decide (i = j))) H) : rNe (.int i) (.int j) H Q := by
  refine ⟨rfl, ?_⟩
  rw [show decide (V.int i = V.int j) = decide (i = j) from by (rw [Bool.eq_iff_iff]; simp)]
  exact q
theorem s_eqS {i j : Str} (q : Q (.bl (decide (i = j))) H) : rEq (.str i) (.str j) H Q := by
  refine ⟨rfl, ?_⟩
  rw [show decide (V.str i = V.str j) = decide (i = j) from by (rw [Bool.eq_iff_iff]; simp)]
  exact q
theorem s_neSr {i : Str} (q : Q (.bl false) H) : rNe (.str i) (.str i) H Q := by
  refine ⟨rfl, ?_⟩
  rw [decide_eq_true rfl]
  exact q
theorem s_neS {i j : Str} (q : Q (.bl (!decide (i = j))) H) : rNe (.str i) (.str j) H Q := by
  refine ⟨rfl, ?_⟩
  rw [show decide (V.str i = V.str j) = decide (i = j) from by (rw [Bool.eq_iff_iff]; simp)]
  exact q
theorem s_bm {T : String} {r : V → List V → Hp → VK → Prop} {t : TA} (h : ta σ H fun x H1 => tyV K T x H1 ∧ t σ H1 fun xs H2 => r x xs H2 Q) : tBM K T r ta t σ H Q := h
theorem s_bm0 {T : String} {r : V → List V → Hp → VK → Prop} (h : ta σ H fun x H1 => tyV K T x H1 ∧ r x [] H1 Q) : tBM0 K T r ta σ H Q := h
theorem s_tyL {a : Addr} {xs : List V} {P : Prop} (h : H a = some (.lst xs)) (q : P) : tyV K "list" (.ref a) H ∧ P := ⟨.inl ⟨rfl, xs, SqL.of h⟩, q⟩
theorem s_append {l : Addr} {xs : List V} {y : V} (h : H l = some (.lst xs)) (hz : xs.length < sizeLine) (q : Q .non (upd H l (.lst (xs ++ [y])))) : rAppend (.ref l) [y] H Q := ⟨l, xs, y, rfl, rfl, h, hz, q⟩
theorem s_extend {l b : Addr} {xs zs : List V} (h : H l = some (.lst xs)) (hb : H b = some (.lst zs)) (hz : xs.length + zs.length ≤ sizeLine) (q : Q .non (upd H l (.lst (xs ++ zs)))) : rExtend (.ref l) [.ref b] H Q := ⟨l, b, xs, zs, rfl, rfl, h, hb, hz, q⟩
theorem lt_size {n : Nat} (h : Nat.blt n sizeLine = true) : n < sizeLine := Nat.le_of_ble_eq_true h
theorem s_make {C : Addr} {sp : Sp} {dvs : List V} {E : XK} {t : TA} (h : t σ H fun vs H1 => ∀ x dx, H1 x = none → H1 dx = none → dx ≠ x → sp (.ref x :: (vs ++ dvs)) (upd (upd H1 dx (.own x)) x (.ins C dx [])) (fun v H2 => v = .non ∧ Q (.ref x) H2) E) : tMake C sp dvs E t σ H Q := h
theorem s_meth {C : Addr} {m : Str} {sp : Sp} {dvs : List V} {E : XK} {t : TA} (h : ta σ H fun x H1 => ∃ a dx fs, x = .ref a ∧ H1 a = some (.ins C dx fs) ∧ fs.lookup m = none ∧ t σ H1 fun vs H2 => sp (x :: (vs ++ dvs)) H2 Q E) : tMeth C m sp dvs E ta t σ H Q := h
theorem s_for {wi : TI} {g : TG} {tb : TS} {D0 : Ends}
    (h : ∀ D : Ends, D = D0 → wi σ H fun J H1 => ∃ W : Nat → Nat → L2.St → Hp → Prop, (∃ m, W 0 m σ H1) ∧ ∀ i m σ H, W i m σ H →
      (J.stop i H ∧ D.nx σ H) ∨ (J.go i H ∧ ∃ N : L2.St → Hp → Prop, (∀ σ' H', N σ' H' → ∃ m', m' < m ∧ W (i + 1) m' σ' H') ∧
        ∀ x H', J.yld i H x H' → g x σ H' fun σ2 H2 => tb { D with nx := N, ct := N, bk := D.nx } σ2 H2)) : tFor wi g tb D0 σ H := h D0 rfl
theorem s_lc {wi : TI} {g : TG} {tt : TT} {te : TE} {vs : List Nat}
    (h : wi σ H fun J H1 => ∀ D, H1 D = none → ∃ W : Nat → Nat → Hp → Prop, (∃ m, W 0 m (upd H1 D (.lst []))) ∧ ∀ i m H, W i m H →
      (J.stop i H ∧ Q (.ref D) H) ∨ (J.go i H ∧ ∃ Nx : Hp → Prop, (∀ H', Nx H' → ∃ m', m' < m ∧ W (i + 1) m' H') ∧
        ∀ x H', J.yld i H x H' → g x (wipe σ vs) H' fun σ2 H2 => wipe σ2 vs = wipe σ vs ∧ tt σ2 H2 fun b H3 =>
          if b = true then te σ2 H3 fun y H4 => ∃ acc, H4 D = some (.lst acc) ∧ acc.length < sizeLine ∧ Nx (upd H4 D (.lst (acc ++ [y]))) else Nx H3)) : tLc wi g tt te vs σ H Q := h
theorem s_iList {R : L2.It → Hp → Prop} (h : ta σ H fun x H1 => ∃ a, x = .ref a ∧ (∃ xs, SqL K H1 a xs) ∧ R (Itl K a) H1) : iList K ta σ H R := h
theorem s_iTup {R : L2.It → Hp → Prop} (h : ta σ H fun x H1 => ∃ a, x = .ref a ∧ (∃ xs, SqT K H1 a xs) ∧ R (Itt K a) H1) : iTup K ta σ H R := h
theorem s_iRng1 {R : L2.It → Hp → Prop} {t : TA} (h : t σ H fun vs H1 => ∃ j : Int, vs = [.int j] ∧ -(2 ^ 62) ≤ j ∧ j < 2 ^ 62 ∧ R (Itr 0 j.toNat) H1) : iRng1 t σ H R := h
theorem s_iRng2 {R : L2.It → Hp → Prop} {t : TA} (h : t σ H fun vs H1 => ∃ i j : Int, vs = [.int i, .int j] ∧ (-(2 ^ 62) ≤ i ∧ i < 2 ^ 62 ∧ -(2 ^ 62) ≤ j ∧ j < 2 ^ 62) ∧ R (Itr i (j - i).toNat) H1) : iRng2 t σ H R := h
theorem s_par {D : Ends} {i j : Nat} {t : TA} (h : t σ H fun vs H1 => ∃ v w, vs = [v, w] ∧ D.nx ((σ.set i (some v)).set j (some w)) H1) : tPar i j t D σ H := h
theorem s_2set {D : Ends} {i j : Nat} {t : TS} {x y : V} {τ υ : L2.St} (g : SetAt i x σ τ) (g2 : SetAt j y τ υ) (h : t D υ H) : t D ((σ.set i (some x)).set j (some y)) H := by
  rw [g.set, g2.set]
  exact h
theorem s_yes {QB : Bool → Hp → Prop} (h : QB true H) : tYes σ H QB := h
theorem s_fldE {f : Str} (h : ta σ H fun x H1 => ∃ a C dx fs v, x = .ref a ∧ H1 a = some (.ins C dx fs) ∧ Cls K C ∧ NoAttr K C f ∧ fs.lookup f = some v ∧ Q v H1) : tFld K ta f σ H Q := h
theorem s_isi_str {x : Str} (q : Q (.bl true) H) : rIsi K [.str x, .ty "str"] H Q := ⟨_, _, _, _, true, rfl, .ty _, .base (.str x), kit_ty (by decide +kernel), q⟩
theorem s_truInt {i : Int} {P : Bool → Prop} (q : P (i != 0)) : ∃ k, TruV K (.int i) H k ∧ P k := ⟨_, rfl, q⟩
theorem s_neB {i j : Bool} (q : Q (.bl (i != j)) H) : rNe (.bl i) (.bl j) H Q := by
  refine ⟨rfl, ?_⟩
  rw [show (!decide (V.bl i = V.bl j)) = (i != j) from by cases i <;> cases j <;> rfl]
  exact q
theorem s_eqB {i j : Bool} (q : Q (.bl (i == j)) H) : rEq (.bl i) (.bl j) H Q := by
  refine ⟨rfl, ?_⟩
  rw [show decide (V.bl i = V.bl j) = (i == j) from by cases i <;> cases j <;> rfl]
  exact q
theorem inV_ints (x : Int) (ns : List Int) : inV (.int x) (ns.map V.int) = decide (x ∈ ns) := by
  unfold inV
  rw [List.any_map, Bool.eq_iff_iff, List.any_eq_true, decide_eq_true_eq]
  constructor
  · rintro ⟨y, hy, e⟩
    have e2 : y = x := by simpa [eqV] using e
    exact e2 ▸ hy
  · intro h
    exact ⟨x, h, by simp [eqV]⟩
theorem flat_ints (ns : List Int) : (ns.map V.int).all flatV = true := by
  rw [List.all_map, List.all_eq_true]
  intro x _
  rfl
theorem le_size {n : Nat} (h : Nat.ble n sizeLine = true) : n ≤ sizeLine := Nat.le_of_ble_eq_true h
theorem ite_NN {A B : Prop} (h : A) : if decide (V.non = V.non) = true then A else B := by rw [if_pos (decide_eq_true rfl)]; exact h
theorem ite_IN {A B : Prop} {i : Int} (h : B) : if decide (V.int i = V.non) = true then A else B := by rw [if_neg (by simp)]; exact h
theorem ite_nNN {A B : Prop} (h : B) : if (!decide (V.non = V.non)) = true then A else B := by rw [if_neg (by simp)]; exact h
theorem ite_nIN {A B : Prop} {i : Int} (h : A) : if (!decide (V.int i = V.non)) = true then A else B := by rw [if_pos (by simp)]; exact h
/-- the test's answer c is known: what follows need not be read twice -/
theorem s_cut {tt : TT} {QB : Bool → Hp → Prop} (c : Bool) (h1 : QB c H) (h2 : ∀ QB' : Bool → Hp → Prop, QB' c H → tt σ H QB') : tt σ H QB := h2 QB h1
theorem qb_eq {QB : Bool → Hp → Prop} {c d : Bool} (h : QB c H) (e : c = true ↔ d = true) : QB d H := by
  rw [← (Bool.eq_iff_iff.mpr e)]
  exact h
theorem ite_RN {A B : Prop} {a : Addr} (h : B) : if decide (V.ref a = V.non) = true then A else B := by rw [if_neg (by simp)]; exact h
theorem ite_nRN {A B : Prop} {a : Addr} (h : A) : if (!decide (V.ref a = V.non)) = true then A else B := by rw [if_pos (by simp)]; exact h
theorem iteNT {A B : Prop} (h : B) : if (!true) = true then A else B := by simpa using h
theorem iteNF {A B : Prop} (h : A) : if (!false) = true then A else B := by simpa using h
theorem ite_b {b : Bool} {A B : Prop} (h1 : b = true → A) (h2 : b = false → B) : if b = true then A else B := by
  cases b
  · exact iteF (h2 rfl)
  · exact iteT (h1 rfl)
theorem ite_nb {b : Bool} {A B : Prop} (h1 : b = false → A) (h2 : b = true → B) : if (!b) = true then A else B := by
  cases b
  · exact iteNF (h1 rfl)
  · exact iteNT (h2 rfl)
end
section
variable {P : Program} {w : World} {K : PySem.W.Frag} {mg : Str → Option Value} {base : Heap} {x qual : Str} {params : Arguments} {body : List Stmt} {scope : Scope} {dvs : List V} {C : Addr} {k : Nat} {ps : List Str} {sp : Sp}
theorem dnN (e : ∃ (f : Addr) (fd : FuncData), FunD K x qual params body scope [] [] f fd ∧ mg x = some (.ref f)) (ok : ∀ {f : Addr} {fd : FuncData}, FunD K x qual params body scope [] [] f fd → FnG P w K mg base CX0 k f fd ps sp)
    (h : ∀ (kV doc pm : Value) (an : Option Addr) (cdv ct : Value) (us : List Value), us.length = ps.length → bindArgs (PySem.W.fnOf x qual params body scope .none kV doc pm an cdv ct) ⟨us, []⟩ = pure (ps.zip us)) : Dn P w K mg base x k ps [] sp := by
  obtain ⟨f, fd, F, hm⟩ := e
  exact ⟨f, fd, [], ok F, hm, F.kp, F.bindsN h, .nil⟩
theorem prN {q : Str} (e : ∃ (p f : Addr) (fd : FuncData), PropOf K C q p f ∧ FunD K x qual params body scope [] [] f fd) (c : Cls K C) (ok : ∀ {f : Addr} {fd : FuncData}, FunD K x qual params body scope [] [] f fd → FnG P w K mg base CX0 k f fd ps sp)
    (h : ∀ (kV doc pm : Value) (an : Option Addr) (cdv ct : Value) (us : List Value), us.length = ps.length → bindArgs (PySem.W.fnOf x qual params body scope .none kV doc pm an cdv ct) ⟨us, []⟩ = pure (ps.zip us)) : Prn P w K mg base C q k ps [] sp := by
  obtain ⟨p, f, fd, hp, F⟩ := e
  exact ⟨p, f, fd, [], c, hp, ok F, F.bindsN h, .nil⟩
theorem mtN {q : Str} (e : ∃ (f : Addr) (fd : FuncData), Meth K C q f ∧ FunD K x qual params body scope [] [] f fd) (c : Cls K C) (ok : ∀ {f : Addr} {fd : FuncData}, FunD K x qual params body scope [] [] f fd → FnG P w K mg base CX0 k f fd ps sp)
    (h : ∀ (kV doc pm : Value) (an : Option Addr) (cdv ct : Value) (us : List Value), us.length = ps.length → bindArgs (PySem.W.fnOf x qual params body scope .none kV doc pm an cdv ct) ⟨us, []⟩ = pure (ps.zip us)) : Mtn P w K mg base C q k ps [] sp := by
  obtain ⟨f, fd, hp, F⟩ := e
  exact ⟨f, fd, [], c, hp, ok F, F.bindsN h, .nil⟩
theorem mkN {y : Str} (e : ∃ (f : Addr) (fd : FuncData), Mk K C f ∧ FunD K x qual params body scope [] [] f fd) (m : mg y = some (.ref C)) (ok : ∀ {f : Addr} {fd : FuncData}, FunD K x qual params body scope [] [] f fd → FnG P w K mg base CX0 k f fd ps sp)
    (h : ∀ (kV doc pm : Value) (an : Option Addr) (cdv ct : Value) (us : List Value), us.length = ps.length → bindArgs (PySem.W.fnOf x qual params body scope .none kV doc pm an cdv ct) ⟨us, []⟩ = pure (ps.zip us)) : Mkn P w K mg base y C k ps [] sp := by
  obtain ⟨f, fd, hp, F⟩ := e
  exact ⟨f, fd, [], hp, ok F, m, F.bindsN h, .nil⟩
theorem mkD {y : Str} (n j : Nat) (e : ∃ (f : Addr) (fd : FuncData), Mk K C f ∧ FunD K x qual params body scope dvs [] f fd) (m : mg y = some (.ref C)) (ok : ∀ {f : Addr} {fd : FuncData}, FunD K x qual params body scope dvs [] f fd → FnG P w K mg base CX0 k f fd ps sp) (hd : dvs ≠ []) (hn : n + (dvs.length - j) = ps.length)
    (h : ∀ (T : Addr) (kV doc pm : Value) (an : Option Addr) (cdv ct : Value) (us its : List Value), us.length = n → its.length = dvs.length →
      ∃ k, bindArgs (PySem.W.fnOf x qual params body scope (.ref T) kV doc pm an cdv ct) ⟨us, []⟩ = seqItems? (.ref T) >>= k ∧ k (some its.toArray) = pure (ps.zip (us ++ its.drop j))) : Mkn P w K mg base y C k ps (dvs.drop j) sp := by
  obtain ⟨f, fd, hp, F⟩ := e
  obtain ⟨ds, hv, hb⟩ := F.binds1 n j hd hn h
  exact ⟨f, fd, ds, hp, ok F, m, hb, hv⟩
end
abbrev optV : Option Int → V
  | none => .non
  | some i => .int i
/-- a comprehension within a comprehension -/
def reS (scope sc : Scope) : Scope := { scope with names := scope.names.map fun p => if (p.2 == NameKind.free && sc.kind == ScopeKind.function && sc.names.lookup p.1 == some NameKind.cell) = true then (p.1, NameKind.cell) else p }
theorem reS_eq (scope : Scope) (env : Env) : PySem.relabel scope env = reS scope env.scope := by
  unfold PySem.relabel reS
  congr 1
theorem blkOk_nest {X : Cx} {s : Shared} {H : Hp} {scope0 scope : Scope} {cl : List (Str × Addr)} {C : Addr} {env : Env} {fp : List Addr} {own : List (Str × Nat)} (N : List Str) (sc : Scope) (e : X.N = N) (e2 : env.scope = sc) (h : blkC N (reS scope0 sc) scope own = true) :
    BlkOk (X.blk s H scope0 (compEnvC scope0 cl C env) fp).N (X.blk s H scope0 (compEnvC scope0 cl C env) fp).env.scope scope own := by
  have z := blkOk_by h
  subst e e2
  rw [← reS_eq] at z
  exact z
/-! ### rules within a comprehension: the written part by its own name -/
section
variable {X : Cx} {K : PySem.W.Frag} {l e : Expr} {tl ta : TE} {tg : Expr} {f : Str} {pos : Pos}
def rLen (K : PySem.W.Frag) : List V → Hp → VK → Prop := fun xs H Q => ∃ p ys, xs = [.ref p] ∧ (SqL K H p ys ∨ SqT K H p ys) ∧ Q (.int ys.length) H
theorem ix_listK (h : X.K = K) : IxR X (rIxL K) := h ▸ ix_list
theorem ix_tupK (h : X.K = K) : IxR X (rIxT K) := h ▸ ix_tup
theorem call_len_seqK (h : X.K = K) : CallR X (.builtin "len") (rLen K) := by
  subst h
  exact call_len_seq
theorem pi_listK (h : X.K = K) (hl : PE X l tl) : PI X tg l (iList K tl) := h ▸ pi_list hl
theorem pi_tupK (h : X.K = K) (hl : PE X l tl) : PI X tg l (iTup K tl) := h ▸ pi_tup hl
theorem cr_allK (h : X.K = K) (hc : X.calm = true) : CallR X (.builtin "all") (rAll K) := h ▸ cr_all hc
theorem cr_anyK (h : X.K = K) (hc : X.calm = true) : CallR X (.builtin "any") (rAny K) := h ▸ cr_any hc
theorem cr_sumK (h : X.K = K) (hc : X.calm = true) : CallR X (.builtin "sum") (rSum K) := h ▸ cr_sum hc
theorem cr_maxK (h : X.K = K) (hc : X.calm = true) : CallR X (.builtin "max") (rMax K) := h ▸ cr_max hc
theorem cr_minK (h : X.K = K) (hc : X.calm = true) : CallR X (.builtin "min") (rMin K) := h ▸ cr_min hc
theorem op_in_seqK (h : X.K = K) : OpR X (compareOp .In) (rIn K false) := h ▸ op_in_seq
theorem op_notIn_seqK (h : X.K = K) : OpR X (compareOp .NotIn) (rIn K true) := h ▸ op_notIn_seq
theorem op_eqDK (h : X.K = K) (hu : X.A.units + 64 < cLine) : OpR X (compareOp .Eq) (rEqD K) := h ▸ op_eqD hu
theorem op_neDK (h : X.K = K) (hu : X.A.units + 64 < cLine) : OpR X (compareOp .NotEq) (rNeD K) := h ▸ op_neD hu
theorem pe_fldK (h : X.K = K) (he : PE X e ta) (hb : attributeBase e f X.env (eval e X.env) = eval e X.env) : PE X (.Attribute e f pos) (tFld K ta f) := h ▸ pe_fld he hb
end
theorem s_len {K : PySem.W.Frag} {a : Addr} {xs : List V} {H : Hp} {Q : VK} (h : SqL K H a xs) (q : Q (.int xs.length) H) : rLen K [.ref a] H Q := ⟨a, xs, rfl, .inl h, q⟩
/-! ### bounds of ints -/
theorem Same.new {p : Addr} {o : HO} {H : Hp} (h : H p = none) : Same H (upd H p o) := fun c u e => by rw [upd_ne (ne_of_none e h)]; exact e
theorem Same.rfl' (H : Hp) : Same H H := fun _ _ e => e
theorem Same.tr {A B C : Hp} (x : Same A B) (y : Same B C) : Same A C := fun c u e => y c u (x c u e)
theorem Same.at_ {p : Addr} {o : HO} {H H1 : Hp} (h : H p = none) (s : Same H H1) : Same H (upd H1 p o) := fun c u e => by rw [upd_ne (ne_of_none e h)]; exact s c u e
theorem Same.but {r : Addr} {H H' : Hp} (s : Same H H') : But r H H' := fun c o h _ => s c o h
def Sm (k : Nat) (x : Int) : Prop := x.natAbs < 2 ^ k
instance {k : Nat} {x : Int} : Decidable (Sm k x) := inferInstanceAs (Decidable (_ < _))
theorem Sm.mono {j k : Nat} {x : Int} (h : Sm j x) (l : j ≤ k) : Sm k x := Nat.lt_of_lt_of_le h (Nat.pow_le_pow_right (by decide) l)
theorem Sm.mul {j k : Nat} {x y : Int} (h : Sm j x) (g : Sm k y) : Sm (j + k) (x * y) := by
  unfold Sm at *
  rw [Int.natAbs_mul, Nat.pow_add]
  exact Nat.mul_lt_mul'' h g
theorem Sm.add {k : Nat} {x y : Int} (h : Sm k x) (g : Sm k y) : Sm (k + 1) (x + y) := by
  unfold Sm at *
  rw [Nat.pow_succ]
  omega
theorem Sm.le {k : Nat} {x y : Int} (h0 : 0 ≤ x) (h : x ≤ y) (g : Sm k y) : Sm k x := by
  unfold Sm at *
  omega
theorem Sm.cmul {j k : Nat} {x y : Int} (h : Sm j x) (g : Sm k y) (h0 : 0 < j := by decide) (h1 : 0 < k := by decide) (l : j + k ≤ 1000000 := by decide) : CMulW x y := wide_mul h g h0 h1 l
theorem But.same {x : Addr} {H H1 H' : Hp} (b : But x H1 H') (s : Same H H1) (n : H x = none) : Same H H' := fun c o h => b c o (s c o h) (ne_of_none h n)
theorem lg {k : Nat} {x : Int} (h : Sm k x) (h0 : 0 < k := by decide) (hk : k ≤ 9000 := by decide) : x.natAbs.log2 < 9000 := Nat.lt_of_lt_of_le (PySem.Flt.log2_lt_of h0 h) hk
theorem sm62 {x : Int} (h0 : 0 ≤ x) (h : x < 4611686018427387904) : Sm 62 x := by
  show x.natAbs < 4611686018427387904
  omega
theorem cmul_small {i j : Int} (h0 : 0 ≤ i) (h1 : i < 2147483648) (g0 : 0 ≤ j) (g1 : j < 2147483648) : CMulW i j := wide_mul (a := 31) (b := 31) (by omega) (by omega) (by decide) (by decide) (by decide)
theorem atI_ints {ns : List Int} {k : Int} (h0 : 0 ≤ k) (h : k < (ns.map V.int).length) : ∃ c, atI (ns.map V.int) k = some (.int c) := by
  obtain ⟨j, rfl⟩ : ∃ j : Nat, k = j := ⟨k.toNat, by omega⟩
  rw [List.length_map] at h
  have hj : j < ns.length := by omega
  exact ⟨ns[j], atI_nat (by rw [List.getElem?_map, List.getElem?_eq_getElem hj]; rfl)⟩
theorem Sm.log {k : Nat} {x : Int} (h : Sm k x) (h0 : 0 < k := by decide) : x.natAbs.log2 < k := PySem.Flt.log2_lt_of h0 h
end My

namespace My
open PySem L2 PySem.Spec PyProof.Rows Sem
/-! ### set(xs), xs a list of ints -/
abbrev setO0 (w : World) : Obj := { cls := .type "set", dict := none, data := .set #[] 0 (.fresh 0 0 (!w.params.followText "set-order")) }
section
variable {P : Program} {w : World} {A : Around} {E : Value → Shared → Prop} {s : Shared}
theorem set_ints {l : Addr} {its : Array Value} (ks : List Int) {Q : Value → Shared → Prop} (calm : A.handled = none) (isl : s.heap.IsList l its) (are : IntsAre its.toList ks) (few : ks.length + 1 < scanBound)
    (fin : ∀ (hp : Heap) (tk c : Nat), SetR w hp s.heap.objs.size (fun j => decide (j ∈ ks)) c → c ≤ ks.length → (∀ b o, s.heap.get? b = some o → hp.get? b = some o) → Q (.ref s.heap.objs.size) { s with heap := hp, toks := tk }) :
    wpAny (model P w) A (call (.type "set") [.ref l]) Q E s := by
  have size_eq : its.size = ks.length := by simpa using IntsAre.length are
  have z1 := F.called_set.mro
  have z2 := F.called_set.made
  have z3 := F.called_set.sub
  have z4 := F.called_set.notType
  have z5 := F.called_set.canCreate
  have z6 := F.typeCall_set_1 (.ref l)
  obtain ⟨c0, tl0, mro0⟩ := z1
  apply wpAny_call; apply codeAny_of_tree
  show wpAny _ _ (callAny (Value.type "set") _) _ _ _
  apply wpAny_pure; refine ⟨Code.quiet_builtin _ (by decide +kernel), ?_⟩; apply codeAny_builtin F.entry_type_call
  rw [Around.under_plain (weight_type_call_type "set" [Value.ref l] []) (by rfl)]
  repeat (any_goals (first | assumption | wp_step))
  apply codeAny_mono (code_set_led1 (.ref l) (E := E) (Q₁ := fun v t => v = .ref s.heap.objs.size ∧ t = { s with heap := s.heap.push (setO0 w) }) ⟨rfl, rfl⟩)
  rintro (er | fl) t hq
  · exact hq
  cases fl with
  | ret v =>
    obtain ⟨rfl, rfl⟩ := hq
    have atS : (s.heap.push (setO0 w)).get? s.heap.objs.size = some (setO0 w) := Heap.get?_push_size _ rfl
    have ty : Shared.TypeIs { s with heap := s.heap.push (setO0 w) } (.ref s.heap.objs.size) "set" := ⟨_, atS, rfl⟩
    have i1 := F.called_set.init.lookup
    have i2 := F.called_set.init.bind (.ref s.heap.objs.size)
    repeat (any_goals (first | assumption | wp_step))
    refine codeAny_mono (codeAny_call_builtin (R := wants (fun v t => v = .none ∧ ∃ hp tk c, t = { s with heap := hp, toks := tk } ∧ SetR w hp s.heap.objs.size (fun j => decide (j ∈ ks)) c ∧ c ≤ ks.length ∧
      ∀ b o, s.heap.get? b = some o → hp.get? b = some o) E) F.called_set.init.plain F.entry_set_init (check_set_init_1 ty ?_)) ?_
    · obtain ⟨o1, at1, cls1, n1, dat1⟩ := isl
      obtain ⟨oc, od, odat, osl⟩ := o1
      simp only at cls1 dat1
      subst cls1 dat1
      have at2 : (s.heap.push (setO0 w)).get? l = some { cls := .type "list", dict := od, data := .seq its n1, slots := osl } := Heap.get?_push_of_some _ at1
      have u1 := F.sub_list_set
      have u2 := F.sub_list_frozenset
      have u3 : (Value.type "list" == Value.type "dict") = false := by decide
      have isl2 : (s.heap.push (setO0 w)).IsList l its := ⟨_, at2, rfl, n1, rfl⟩
      unfold Builtin.«set.__init__» noKeywords Builtin.Frozenset.updateFrom
      generalize gPI : pyIter = PI
      wp_walk
      subst gPI
      apply wpAny_pyIter_list isl2
      apply wpAny_bind; apply wpAny_runValue
      have lS : l < s.heap.objs.size := Heap.lt_size at1
      have calm3 : A.in1.in1.in1.handled = none := by simp [calm]
      have lI : l ≠ (s.heap.push (setO0 w)).objs.size := Heap.size_push .. ▸ Nat.ne_of_lt (Nat.lt_succ_of_lt lS)
      have Sf : s.heap.objs.size ∉ [(s.heap.push (setO0 w)).objs.size, l] := by
        rw [Heap.size_push, List.mem_cons, List.mem_singleton]
        rintro (z | z)
        · exact absurd z (Nat.ne_of_lt (Nat.lt_succ_self _))
        · exact absurd z.symm (Nat.ne_of_lt lS)
      have vals : ∀ (i : Nat) (v : Value), its[i]? = some v → ∃ k t, ks[i]? = some k ∧ v = .int k t := fun i v hv => by
        have lt : i < ks.length := size_eq ▸ (Array.getElem?_eq_some_iff.mp hv).1
        obtain ⟨t, e⟩ := IntsAre.int_at are i v (by simpa using hv)
        exact ⟨ks[i], t, List.getElem?_eq_getElem lt, by rw [e, List.getD_eq_getElem?_getD, List.getElem?_eq_getElem lt]; rfl⟩
      refine set_update_ints ((Walks.list calm3 _ l lI its).toS) s.heap.objs.size Sf ks size_eq few vals (its.size - 0) 0 _ (by omega) (Nat.zero_le _) ⟨⟨_, Heap.get?_push_size _ rfl, rfl, rfl⟩, isl2.push _⟩ ⟨0, Nat.le_refl 0, setR_new_at (Heap.get?_push_of_some _ atS)⟩ ?_
      intro t c moved le R
      obtain ⟨hp, gs, dr, tk, os⟩ := t
      have e1 : gs = s.gens := moved.gens
      have e2 : dr = s.drawn := moved.drawn
      have e3 : os = s.os := moved.os
      subst e1 e2 e3
      show wpAny _ _ _ _ _ _
      apply wpAny_pure
      show wpAny _ _ (ret Value.none) _ _ _
      refine wpAny_pure ⟨rfl, hp, tk, c, rfl, R, size_eq ▸ le, fun b o e => ?_⟩
      have b0 : b < s.heap.objs.size := Heap.lt_size e
      refine moved.heap b o ?_ (Heap.get?_push_of_some _ (Heap.get?_push_of_some _ e))
      rw [Heap.size_push]
      simp only [List.mem_cons, List.mem_singleton, List.not_mem_nil, or_false, not_or]
      exact ⟨Nat.ne_of_lt b0, Nat.ne_of_lt (Nat.lt_succ_of_lt b0)⟩
    · rintro (er | fl) t hq
      · exact hq
      cases fl with
      | ret v =>
        obtain ⟨rfl, hp, tk, c, rfl, R, le, keep⟩ := hq
        repeat (any_goals (first | assumption | wp_step))
        exact fin _ _ _ R le keep
      | _ => exact hq.elim
  | _ => exact hq.elim
end
section
variable {X : Cx}
/-- set(xs) of a list of ints: a new set -/
def rSetOfI (K : PySem.W.Frag) (w : World) : List V → Hp → VK → Prop := fun xs H Q => ∃ (l : Addr) (ns : List Int), xs = [.ref l] ∧ SqL K H l (ns.map V.int) ∧ ns.length + 1 < scanBound ∧
  ∀ (p : Addr) (ks : List Int), H p = none → ks.Nodup → (∀ k, k ∈ ks ↔ k ∈ ns) → Q (.ref p) (upd H p (SetO w p (fun j => decide (j ∈ ns)) ks.length))
theorem cr_setOfI (hc : X.calm = true) : CallR X (.type "set") (rSetOfI X.K X.w) := by
  intro pins s σ H xs us Q I r h
  obtain ⟨l, ns, rfl, hl, few, q⟩ := h
  rw [Vals.ref1 r]
  obtain ⟨its, rv, pl, _⟩ := I.list hl
  have fresh : H s.heap.objs.size = none := I.hok.fresh (Nat.le_refl _)
  refine set_ints (P := X.prog) (w := X.w) ns (I.ok.hd hc) pl.isList (by simpa using intsAre_of rv) few fun hp tk c R le keep => ?_
  refine ⟨.ref s.heap.objs.size, upd H s.heap.objs.size (SetO X.w s.heap.objs.size (fun j => decide (j ∈ ns)) c), I.laid (t' := tk) keep (Nat.le_refl _) (setO_new R), rfl, ?_⟩
  obtain ⟨o, es, ep, t, _, _, _, _, nd, hm, _, _, ln, _⟩ := id R
  have e : (es.toList.map keyOf).length = c := by rw [List.length_map, Array.length_toList, ln]
  rw [← e]
  exact q _ _ fresh nd fun k => ((hm k).symm).trans decide_eq_true_iff
end
/-- different numbers below n: at most n -/
theorem nd_len : ∀ (n : Nat) (ks : List Int), ks.Nodup → (∀ k ∈ ks, 0 ≤ k ∧ k < (n : Int)) → ks.length ≤ n
  | 0, ks, _, h => by
    cases ks with
    | nil => exact Nat.le_refl _
    | cons k ks =>
      have := h k (List.mem_cons_self ..)
      omega
  | n + 1, ks, nd, h => by
    by_cases hm : (n : Int) ∈ ks
    · have ih := nd_len n (ks.erase (n : Int)) (nd.erase _) fun k hk => by
        rw [nd.mem_erase_iff] at hk
        have := h k hk.2
        have := hk.1
        omega
      rw [List.length_erase_of_mem hm] at ih
      omega
    · have ih := nd_len n ks nd fun k hk => by
        have := h k hk
        have hne : k ≠ n := fun e => hm (e ▸ hk)
        omega
      omega
end My

namespace My
open PySem L2
def top (i : Nat) : Stmt := PySem.Challenge.pw_howmanyeach_k34_whole_totals_by_all_pair.main.body.getD i (.Pass ⟨0, 0, 0, 0⟩)
abbrev st_is_integer : Stmt := top 14
abbrev N_is_integer : List Str := ["value"]
abbrev P_is_integer : List Str := ["value"]
theorem sc_is_integer : FnScope N_is_integer P_is_integer (defScope st_is_integer) := ⟨rfl, rfl, rfl, by decide +kernel, rfl, by decide +kernel, by decide +kernel⟩
abbrev st_is_count : Stmt := top 15
abbrev N_is_count : List Str := ["value"]
abbrev P_is_count : List Str := ["value"]
theorem sc_is_count : FnScope N_is_count P_is_count (defScope st_is_count) := ⟨rfl, rfl, rfl, by decide +kernel, rfl, by decide +kernel, by decide +kernel⟩
abbrev st_is_end : Stmt := top 16
abbrev N_is_end : List Str := ["value"]
abbrev P_is_end : List Str := ["value"]
theorem sc_is_end : FnScope N_is_end P_is_end (defScope st_is_end) := ⟨rfl, rfl, rfl, by decide +kernel, rfl, by decide +kernel, by decide +kernel⟩
abbrev st_check_end : Stmt := top 24
abbrev N_check_end : List Str := ["end"]
abbrev P_check_end : List Str := ["end"]
theorem sc_check_end : FnScope N_check_end P_check_end (defScope st_check_end) := ⟨rfl, rfl, rfl, by decide +kernel, rfl, by decide +kernel, by decide +kernel⟩
abbrev st__is_up_to : Stmt := top 20
abbrev N__is_up_to : List Str := ["number", "most"]
abbrev P__is_up_to : List Str := ["number", "most"]
theorem sc__is_up_to : FnScope N__is_up_to P__is_up_to (defScope st__is_up_to) := ⟨rfl, rfl, rfl, by decide +kernel, rfl, by decide +kernel, by decide +kernel⟩
abbrev st_check_count : Stmt := top 25
abbrev N_check_count : List Str := ["count"]
abbrev P_check_count : List Str := ["count"]
theorem sc_check_count : FnScope N_check_count P_check_count (defScope st_check_count) := ⟨rfl, rfl, rfl, by decide +kernel, rfl, by decide +kernel, by decide +kernel⟩
abbrev st__check_many : Stmt := top 33
abbrev N__check_many : List Str := ["many"]
abbrev P__check_many : List Str := ["many"]
theorem sc__check_many : FnScope N__check_many P__check_many (defScope st__check_many) := ⟨rfl, rfl, rfl, by decide +kernel, rfl, by decide +kernel, by decide +kernel⟩
abbrev st_is_line_true : Stmt := top 29
abbrev N_is_line_true : List Str := ["line", "near", "near_many", "far", "far_many"]
abbrev P_is_line_true : List Str := ["line", "near", "near_many", "far", "far_many"]
theorem sc_is_line_true : FnScope N_is_line_true P_is_line_true (defScope st_is_line_true) := ⟨rfl, rfl, rfl, by decide +kernel, rfl, by decide +kernel, by decide +kernel⟩
abbrev st_wrong_line : Stmt := top 28
abbrev N_wrong_line : List Str := ["near", "near_many", "far", "far_many", "line"]
abbrev P_wrong_line : List Str := ["near", "near_many", "far", "far_many"]
theorem sc_wrong_line : FnScope N_wrong_line P_wrong_line (defScope st_wrong_line) := ⟨rfl, rfl, rfl, by decide +kernel, rfl, by decide +kernel, by decide +kernel⟩
abbrev st_totals : Stmt := top 32
abbrev N_totals : List Str := ["near", "near_many", "far", "far_many", "least", "bounds"]
abbrev P_totals : List Str := ["near", "near_many", "far", "far_many"]
theorem sc_totals : FnScope N_totals P_totals (defScope st_totals) := ⟨rfl, rfl, rfl, by decide +kernel, rfl, by decide +kernel, by decide +kernel⟩
abbrev st__law_pot_of : Stmt := top 35
abbrev N__law_pot_of : List Str := ["_law_script", "_law_k", "_law_cell"]
abbrev P__law_pot_of : List Str := ["_law_script", "_law_k"]
theorem sc__law_pot_of : FnScope N__law_pot_of P__law_pot_of (defScope st__law_pot_of) := ⟨rfl, rfl, rfl, by decide +kernel, rfl, by decide +kernel, by decide +kernel⟩
abbrev st__law_draw : Stmt := top 36
abbrev N__law_draw : List Str := ["_law_pot", "_law_some", "_law_digit"]
abbrev P__law_draw : List Str := ["_law_pot", "_law_some"]
theorem sc__law_draw : FnScope N__law_draw P__law_draw (defScope st__law_draw) := ⟨rfl, rfl, rfl, by decide +kernel, rfl, by decide +kernel, by decide +kernel⟩
abbrev st__law_pick : Stmt := top 37
abbrev N__law_pick : List Str := ["_law_pot", "_law_some"]
abbrev P__law_pick : List Str := ["_law_pot", "_law_some"]
theorem sc__law_pick : FnScope N__law_pick P__law_pick (defScope st__law_pick) := ⟨rfl, rfl, rfl, by decide +kernel, rfl, by decide +kernel, by decide +kernel⟩
abbrev st__law_numbers_in : Stmt := top 38
abbrev N__law_numbers_in : List Str := ["_law_pot", "_law_top", "_law_low", "_law_high"]
abbrev P__law_numbers_in : List Str := ["_law_pot", "_law_top"]
theorem sc__law_numbers_in : FnScope N__law_numbers_in P__law_numbers_in (defScope st__law_numbers_in) := ⟨rfl, rfl, rfl, by decide +kernel, rfl, by decide +kernel, by decide +kernel⟩
abbrev st__law_made_many : Stmt := top 39
abbrev N__law_made_many : List Str := ["_law_pair"]
abbrev P__law_made_many : List Str := ["_law_pair"]
theorem sc__law_made_many : FnScope N__law_made_many P__law_made_many (defScope st__law_made_many) := ⟨rfl, rfl, rfl, by decide +kernel, rfl, by decide +kernel, by decide +kernel⟩
abbrev st__law_lets : Stmt := top 40
abbrev N__law_lets : List Str := ["_law_pair", "_law_d"]
abbrev P__law_lets : List Str := ["_law_pair", "_law_d"]
theorem sc__law_lets : FnScope N__law_lets P__law_lets (defScope st__law_lets) := ⟨rfl, rfl, rfl, by decide +kernel, rfl, by decide +kernel, by decide +kernel⟩
abbrev st__law_nets_in : Stmt := top 41
abbrev N__law_nets_in : List Str := ["_law_a", "_law_b", "_law_spots", "_law_i", "_law_code", "_law_at", "_law_j"]
abbrev P__law_nets_in : List Str := ["_law_a", "_law_b"]
theorem sc__law_nets_in : FnScope N__law_nets_in P__law_nets_in (defScope st__law_nets_in) := ⟨rfl, rfl, rfl, by decide +kernel, rfl, by decide +kernel, by decide +kernel⟩
abbrev st__law_is_let : Stmt := top 42
abbrev N__law_is_let : List Str := ["_law_net", "_law_a", "_law_b", "_law_one", "_law_two", "_law_j", "_law_i", "_law_pair"]
abbrev P__law_is_let : List Str := ["_law_net", "_law_a", "_law_b", "_law_one", "_law_two"]
theorem sc__law_is_let : FnScope N__law_is_let P__law_is_let (defScope st__law_is_let) := ⟨rfl, rfl, rfl, by decide +kernel, rfl, by decide +kernel, by decide +kernel⟩
abbrev st__law_tables_right : Stmt := top 43
abbrev N__law_tables_right : List Str := ["_law_a", "_law_b", "_law_one", "_law_two", "_law_found", "_law_e", "_law_board", "_law_near_let", "_law_far_let", "_law_i", "_law_j"]
abbrev P__law_tables_right : List Str := ["_law_a", "_law_b", "_law_one", "_law_two", "_law_found"]
theorem sc__law_tables_right : FnScope N__law_tables_right P__law_tables_right (defScope st__law_tables_right) := ⟨rfl, rfl, rfl, by decide +kernel, rfl, by decide +kernel, by decide +kernel⟩
abbrev st__law_wider : Stmt := top 44
abbrev N__law_wider : List Str := ["_law_pot", "_law_pair", "_law_low"]
abbrev P__law_wider : List Str := ["_law_pot", "_law_pair"]
theorem sc__law_wider : FnScope N__law_wider P__law_wider (defScope st__law_wider) := ⟨rfl, rfl, rfl, by decide +kernel, rfl, by decide +kernel, by decide +kernel⟩
abbrev st__law_right : Stmt := top 45
abbrev N__law_right : List Str := ["_law_pot", "_law_a", "_law_b", "_law_one", "_law_two", "_law_found", "_law_due", "_law_shown", "_law_more", "_law_net"]
abbrev P__law_right : List Str := ["_law_pot"]
theorem sc__law_right : FnScope N__law_right P__law_right (defScope st__law_right) := ⟨rfl, rfl, rfl, by decide +kernel, rfl, by decide +kernel, by decide +kernel⟩
abbrev st_Many___init__ : Stmt := inClass (top 19) 1
abbrev N_Many___init__ : List Str := ["self", "least", "most"]
abbrev P_Many___init__ : List Str := ["self", "least", "most"]
theorem sc_Many___init__ : FnScope N_Many___init__ P_Many___init__ (defScope st_Many___init__) := ⟨rfl, rfl, rfl, by decide +kernel, rfl, by decide +kernel, by decide +kernel⟩
abbrev st_Many_least : Stmt := inClass (top 19) 2
abbrev N_Many_least : List Str := ["self"]
abbrev P_Many_least : List Str := ["self"]
theorem sc_Many_least : FnScope N_Many_least P_Many_least (defScope st_Many_least) := ⟨rfl, rfl, rfl, by decide +kernel, rfl, by decide +kernel, by decide +kernel⟩
abbrev st_Many_most : Stmt := inClass (top 19) 3
abbrev N_Many_most : List Str := ["self"]
abbrev P_Many_most : List Str := ["self"]
theorem sc_Many_most : FnScope N_Many_most P_Many_most (defScope st_Many_most) := ⟨rfl, rfl, rfl, by decide +kernel, rfl, by decide +kernel, by decide +kernel⟩
abbrev st_Table___init__ : Stmt := inClass (top 31) 0
abbrev N_Table___init__ : List Str := ["self", "near", "far", "total"]
abbrev P_Table___init__ : List Str := ["self", "near", "far", "total"]
theorem sc_Table___init__ : FnScope N_Table___init__ P_Table___init__ (defScope st_Table___init__) := ⟨rfl, rfl, rfl, by decide +kernel, rfl, by decide +kernel, by decide +kernel⟩
abbrev st_Table__size : Stmt := inClass (top 31) 12
abbrev N_Table__size : List Str := ["self", "end"]
abbrev P_Table__size : List Str := ["self", "end"]
theorem sc_Table__size : FnScope N_Table__size P_Table__size (defScope st_Table__size) := ⟨rfl, rfl, rfl, by decide +kernel, rfl, by decide +kernel, by decide +kernel⟩
abbrev st_Table__is_row : Stmt := inClass (top 31) 13
abbrev N_Table__is_row : List Str := ["self", "end", "value"]
abbrev P_Table__is_row : List Str := ["self", "end", "value"]
theorem sc_Table__is_row : FnScope N_Table__is_row P_Table__is_row (defScope st_Table__is_row) := ⟨rfl, rfl, rfl, by decide +kernel, rfl, by decide +kernel, by decide +kernel⟩
abbrev st_Table__check_row : Stmt := inClass (top 31) 14
abbrev N_Table__check_row : List Str := ["self", "end", "row"]
abbrev P_Table__check_row : List Str := ["self", "end", "row"]
theorem sc_Table__check_row : FnScope N_Table__check_row P_Table__check_row (defScope st_Table__check_row) := ⟨rfl, rfl, rfl, by decide +kernel, rfl, by decide +kernel, by decide +kernel⟩
abbrev st_Table__degree : Stmt := inClass (top 31) 15
abbrev N_Table__degree : List Str := ["self", "end", "row", "size"]
abbrev P_Table__degree : List Str := ["self", "end", "row"]
theorem sc_Table__degree : FnScope N_Table__degree P_Table__degree (defScope st_Table__degree) := ⟨rfl, rfl, rfl, by decide +kernel, rfl, by decide +kernel, by decide +kernel⟩
abbrev st_Table_degree : Stmt := inClass (top 31) 6
abbrev N_Table_degree : List Str := ["self", "end", "row"]
abbrev P_Table_degree : List Str := ["self", "end", "row"]
theorem sc_Table_degree : FnScope N_Table_degree P_Table_degree (defScope st_Table_degree) := ⟨rfl, rfl, rfl, by decide +kernel, rfl, by decide +kernel, by decide +kernel⟩
abbrev st_law : Stmt := top 46
abbrev N_law : List Str := ["_law_script", "_law_k", "_law_pot", "_law_turn"]
abbrev P_law : List Str := ["_law_script"]
theorem sc_law : FnScope N_law P_law (defScope st_law) := ⟨rfl, rfl, rfl, by decide +kernel, rfl, by decide +kernel, by decide +kernel⟩
structure Md (K : PySem.W.Frag) (mg : Str → Option Value) (C_Many C_Table T_LINES T_ENDS : Addr) : Prop where
  b_isinstance : mg "isinstance" = none
  b_int : mg "int" = none
  b_bool : mg "bool" = none
  b_max : mg "max" = none
  b_min : mg "min" = none
  b_abs : mg "abs" = none
  b_divmod : mg "divmod" = none
  b_len : mg "len" = none
  b_range : mg "range" = none
  b_all : mg "all" = none
  b_repr : mg "repr" = none
  b_str : mg "str" = none
  b_sorted : mg "sorted" = none
  b_set : mg "set" = none
  b_list : mg "list" = none
  f_is_integer : ∃ (f : Addr) (fd : FuncData), FunD K "is_integer" "is_integer" (defArgs st_is_integer) (defBody st_is_integer) (defScope st_is_integer) [] [] f fd ∧ mg "is_integer" = some (.ref f)
  f_is_count : ∃ (f : Addr) (fd : FuncData), FunD K "is_count" "is_count" (defArgs st_is_count) (defBody st_is_count) (defScope st_is_count) [] [] f fd ∧ mg "is_count" = some (.ref f)
  f_is_end : ∃ (f : Addr) (fd : FuncData), FunD K "is_end" "is_end" (defArgs st_is_end) (defBody st_is_end) (defScope st_is_end) [] [] f fd ∧ mg "is_end" = some (.ref f)
  f_check_end : ∃ (f : Addr) (fd : FuncData), FunD K "check_end" "check_end" (defArgs st_check_end) (defBody st_check_end) (defScope st_check_end) [] [] f fd ∧ mg "check_end" = some (.ref f)
  f__is_up_to : ∃ (f : Addr) (fd : FuncData), FunD K "_is_up_to" "_is_up_to" (defArgs st__is_up_to) (defBody st__is_up_to) (defScope st__is_up_to) [] [] f fd ∧ mg "_is_up_to" = some (.ref f)
  f_check_count : ∃ (f : Addr) (fd : FuncData), FunD K "check_count" "check_count" (defArgs st_check_count) (defBody st_check_count) (defScope st_check_count) [] [] f fd ∧ mg "check_count" = some (.ref f)
  f__check_many : ∃ (f : Addr) (fd : FuncData), FunD K "_check_many" "_check_many" (defArgs st__check_many) (defBody st__check_many) (defScope st__check_many) [] [] f fd ∧ mg "_check_many" = some (.ref f)
  f_is_line_true : ∃ (f : Addr) (fd : FuncData), FunD K "is_line_true" "is_line_true" (defArgs st_is_line_true) (defBody st_is_line_true) (defScope st_is_line_true) [] [] f fd ∧ mg "is_line_true" = some (.ref f)
  f_wrong_line : ∃ (f : Addr) (fd : FuncData), FunD K "wrong_line" "wrong_line" (defArgs st_wrong_line) (defBody st_wrong_line) (defScope st_wrong_line) [] [] f fd ∧ mg "wrong_line" = some (.ref f)
  f_totals : ∃ (f : Addr) (fd : FuncData), FunD K "totals" "totals" (defArgs st_totals) (defBody st_totals) (defScope st_totals) [] [] f fd ∧ mg "totals" = some (.ref f)
  f__law_pot_of : ∃ (f : Addr) (fd : FuncData), FunD K "_law_pot_of" "_law_pot_of" (defArgs st__law_pot_of) (defBody st__law_pot_of) (defScope st__law_pot_of) [] [] f fd ∧ mg "_law_pot_of" = some (.ref f)
  f__law_draw : ∃ (f : Addr) (fd : FuncData), FunD K "_law_draw" "_law_draw" (defArgs st__law_draw) (defBody st__law_draw) (defScope st__law_draw) [] [] f fd ∧ mg "_law_draw" = some (.ref f)
  f__law_pick : ∃ (f : Addr) (fd : FuncData), FunD K "_law_pick" "_law_pick" (defArgs st__law_pick) (defBody st__law_pick) (defScope st__law_pick) [] [] f fd ∧ mg "_law_pick" = some (.ref f)
  f__law_numbers_in : ∃ (f : Addr) (fd : FuncData), FunD K "_law_numbers_in" "_law_numbers_in" (defArgs st__law_numbers_in) (defBody st__law_numbers_in) (defScope st__law_numbers_in) [] [] f fd ∧ mg "_law_numbers_in" = some (.ref f)
  f__law_made_many : ∃ (f : Addr) (fd : FuncData), FunD K "_law_made_many" "_law_made_many" (defArgs st__law_made_many) (defBody st__law_made_many) (defScope st__law_made_many) [] [] f fd ∧ mg "_law_made_many" = some (.ref f)
  f__law_lets : ∃ (f : Addr) (fd : FuncData), FunD K "_law_lets" "_law_lets" (defArgs st__law_lets) (defBody st__law_lets) (defScope st__law_lets) [] [] f fd ∧ mg "_law_lets" = some (.ref f)
  f__law_nets_in : ∃ (f : Addr) (fd : FuncData), FunD K "_law_nets_in" "_law_nets_in" (defArgs st__law_nets_in) (defBody st__law_nets_in) (defScope st__law_nets_in) [] [] f fd ∧ mg "_law_nets_in" = some (.ref f)
  f__law_is_let : ∃ (f : Addr) (fd : FuncData), FunD K "_law_is_let" "_law_is_let" (defArgs st__law_is_let) (defBody st__law_is_let) (defScope st__law_is_let) [] [] f fd ∧ mg "_law_is_let" = some (.ref f)
  f__law_tables_right : ∃ (f : Addr) (fd : FuncData), FunD K "_law_tables_right" "_law_tables_right" (defArgs st__law_tables_right) (defBody st__law_tables_right) (defScope st__law_tables_right) [] [] f fd ∧ mg "_law_tables_right" = some (.ref f)
  f__law_wider : ∃ (f : Addr) (fd : FuncData), FunD K "_law_wider" "_law_wider" (defArgs st__law_wider) (defBody st__law_wider) (defScope st__law_wider) [] [] f fd ∧ mg "_law_wider" = some (.ref f)
  f__law_right : ∃ (f : Addr) (fd : FuncData), FunD K "_law_right" "_law_right" (defArgs st__law_right) (defBody st__law_right) (defScope st__law_right) [] [] f fd ∧ mg "_law_right" = some (.ref f)
  g_LINES : mg "LINES" = some (.ref T_LINES)
  q_LINES : ∀ H : Hp, SqT K H T_LINES [.int 0, .int 1, .int 2, .int 3]
  g_ENDS : mg "ENDS" = some (.ref T_ENDS)
  q_ENDS : ∀ H : Hp, SqT K H T_ENDS [.str "near", .str "far"]
  m_Many : mg "Many" = some (.ref C_Many)
  k_Many : Cls K C_Many
  i_Many : ∃ (f : Addr) (fd : FuncData), Mk K C_Many f ∧ FunD K "__init__" "Many.__init__" (defArgs st_Many___init__) (defBody st_Many___init__) (defScope st_Many___init__) [.non] [] f fd
  z_Many : ∀ {H : Hp} {a dx : Addr} {fs : List (Str × V)}, H a = some (.ins C_Many dx fs) → TyOf K H (.ref a) (.ref C_Many)
  n_Many__least : NoAttr K C_Many "_least"
  n_Many__most : NoAttr K C_Many "_most"
  n_Many__key : NoAttr K C_Many "_key"
  p_Many_least : ∃ (p f : Addr) (fd : FuncData), PropOf K C_Many "least" p f ∧ FunD K "least" "Many.least" (defArgs st_Many_least) (defBody st_Many_least) (defScope st_Many_least) [] [] f fd
  p_Many_most : ∃ (p f : Addr) (fd : FuncData), PropOf K C_Many "most" p f ∧ FunD K "most" "Many.most" (defArgs st_Many_most) (defBody st_Many_most) (defScope st_Many_most) [] [] f fd
  m_Table : mg "Table" = some (.ref C_Table)
  k_Table : Cls K C_Table
  i_Table : ∃ (f : Addr) (fd : FuncData), Mk K C_Table f ∧ FunD K "__init__" "Table.__init__" (defArgs st_Table___init__) (defBody st_Table___init__) (defScope st_Table___init__) [] [] f fd
  n_Table__near : NoAttr K C_Table "_near"
  n_Table__far : NoAttr K C_Table "_far"
  n_Table__total : NoAttr K C_Table "_total"
  e_Table__size : ∃ (f : Addr) (fd : FuncData), Meth K C_Table "_size" f ∧ FunD K "_size" "Table._size" (defArgs st_Table__size) (defBody st_Table__size) (defScope st_Table__size) [] [] f fd
  e_Table__is_row : ∃ (f : Addr) (fd : FuncData), Meth K C_Table "_is_row" f ∧ FunD K "_is_row" "Table._is_row" (defArgs st_Table__is_row) (defBody st_Table__is_row) (defScope st_Table__is_row) [] [] f fd
  e_Table__check_row : ∃ (f : Addr) (fd : FuncData), Meth K C_Table "_check_row" f ∧ FunD K "_check_row" "Table._check_row" (defArgs st_Table__check_row) (defBody st_Table__check_row) (defScope st_Table__check_row) [] [] f fd
  e_Table__degree : ∃ (f : Addr) (fd : FuncData), Meth K C_Table "_degree" f ∧ FunD K "_degree" "Table._degree" (defArgs st_Table__degree) (defBody st_Table__degree) (defScope st_Table__degree) [] [] f fd
  e_Table_degree : ∃ (f : Addr) (fd : FuncData), Meth K C_Table "degree" f ∧ FunD K "degree" "Table.degree" (defArgs st_Table_degree) (defBody st_Table_degree) (defScope st_Table_degree) [] [] f fd
end My
open My L2 PySem
open My L2 PySem
local macro_rules | `(tactic| walk_at "as") => `(tactic| with_reducible assumption)
local macro_rules | `(tactic| walk_at "hp") => `(tactic| first
  | walk_at "as" | exact upd_same
  | (rw [upd_ne (by walk_at "ne")]; walk_at "hp")
  | (refine But.get (by walk_at "as") ?hp1 ?hp2; (case hp1 => walk_at "hp"); (case hp2 => walk_at "ne"))
  | (refine My.Same.get (by walk_at "as") ?hp1; (case hp1 => walk_at "hp")))
local macro_rules | `(tactic| walk_at "ne") => `(tactic| first
  | walk_at "as" | exact Ne.symm (by walk_at "as")
  | (refine' ne_of_none ?ne1 ?ne2; (case ne2 => walk_at "as"); (case ne1 => walk_at "hp"))
  | (refine' Ne.symm (ne_of_none ?ne1 ?ne2); (case ne2 => walk_at "as"); (case ne1 => walk_at "hp"))
  | exact ne_of (by walk_at "hp") (by walk_at "hp") (by intro z; cases z))
local macro_rules | `(tactic| walk_at "sd") => `(tactic| first
  | walk_at "as" | omega | decide | exact ⟨by omega, by omega⟩ | exact .inl ⟨by omega, by omega⟩ | exact .inr ⟨by omega, by omega⟩ | exact divp_wide (by walk_at "as") (by walk_at "as") | exact Sm.cmul (by walk_at "as") (by walk_at "as") | exact cmul_small (by omega) (by omega) (by omega) (by omega) | exact ⟨by omega, by decide⟩)
local macro_rules | `(tactic| walk_at "bt") => `(tactic| first
  | walk_at "as" | exact But.refl _ _ | exact Same.but (by walk_at "as")
  | (refine But.trans ?bt1 But.at; (case bt1 => walk_at "bt"))
  | (refine But.trans ?bt1 (But.new (by first | walk_at "as" | walk_at "hp")); (case bt1 => walk_at "bt"))
  | (refine But.trans ?bt1 (by walk_at "as"); (case bt1 => walk_at "bt"))
  | (refine But.trans ?bt1 (Same.but (by walk_at "as")); (case bt1 => walk_at "bt")))
local macro_rules | `(tactic| walk_at "sm") => `(tactic| first
  | walk_at "as" | exact My.Same.rfl' _
  | (refine' My.Same.at_ ?sm1 ?sm2; (case sm1 => walk_at "as"); (case sm2 => walk_at "sm"))
  | (refine' My.Same.tr ?sm1 (My.Same.new ?sm2); (case sm2 => walk_at "as"); (case sm1 => walk_at "sm"))
  | (refine' My.Same.tr ?sm1 ?sm2; (case sm2 => walk_at "as"); (case sm1 => walk_at "sm")))
local macro_rules | `(tactic| walk_at "sz") => `(tactic| first
  | assumption | exact lt_size (by rfl) | exact le_size (by rfl) | (rw [sizeLine_eq]; omega)
  | (rw [sizeLine_eq]; simp only [List.length_append, List.length_map, List.length_cons, List.length_nil]; omega))
local macro_rules | `(tactic| walk_at "few") => `(tactic| (repeat refine few_put ?_); exact few0)
local macro_rules | `(tactic| walk_at "rd1") => `(tactic| first
  | (with_reducible show tVar _ _ _ _); refine s_var rfl ?_
  | with_reducible refine s_c ?_ | with_reducible refine s_op ?_ | with_reducible refine s_un ?_
  | with_reducible refine s_cons ?_ | with_reducible refine s_nil ?_ | with_reducible refine s_cb ?_
  | with_reducible refine s_test ?_ | with_reducible refine s_B ?_ | with_reducible refine s_not ?_ | with_reducible refine s_and ?_ | with_reducible refine s_or ?_
  | with_reducible refine s_if ?_ | with_reducible refine s_notV ?_ | with_reducible refine s_andV ?_ | with_reducible refine s_orV ?_
  | with_reducible refine s_orT ?_ | with_reducible refine s_andT ?_ | with_reducible refine s_chain ?_
  | with_reducible refine s_isi_int ?_ | with_reducible refine s_isi_int_bool ?_ | with_reducible refine s_isi_str ?_
  | with_reducible refine iteT ?_ | with_reducible refine iteF ?_ | with_reducible refine iteNT ?_ | with_reducible refine iteNF ?_
  | with_reducible refine s_isN ?_ | with_reducible refine s_notN ?_
  | ((with_reducible refine' s_2setE ?g1 ?_); (case g1 => first | (dsimp only [List.set, L2.wipe, List.map, List.foldl]; done) | (dsimp only [List.set, L2.wipe, List.map, List.foldl]; rfl)))
  | with_reducible refine s_seq ?_ | with_reducible refine s_ifS ?_ | with_reducible refine s_asg ?_ | with_reducible refine s_ret ?_ | with_reducible refine s_drop ?_ | with_reducible refine s_next ?_
  | ((with_reducible refine' s_gnameE ?g1 ?_); (case g1 => first | (dsimp only [List.set, L2.wipe, List.map, List.foldl]; done) | (dsimp only [List.set, L2.wipe, List.map, List.foldl]; rfl)))
  | with_reducible refine s_gsub ?_ | with_reducible refine s_gcons ?_ | with_reducible refine s_gnil ?_
  | (with_reducible show gTup _ _ _ _ _ _ _); refine s_gtup (by walk_at "hp") rfl ?_
  | with_reducible refine s_eqI ?_ | with_reducible refine s_neI ?_ | with_reducible refine s_eqS ?_ | with_reducible refine s_neB ?_ | with_reducible refine s_eqB ?_ | with_reducible refine s_neSr ?_ | with_reducible refine s_neS ?_
  | with_reducible refine s_I0 ?_
  | (with_reducible show rI _ _ _ _ _ _); refine s_I (by walk_at "sd") ?_
  | (with_reducible show rIxL _ _ _ _ _); refine s_ixL (by walk_at "hp") rfl ?_
  | (with_reducible show rIxT _ _ _ _ _); refine s_ixT (by walk_at "hp") rfl ?_
  | (with_reducible show rSetL _ _ _ _ _); refine s_setL (by walk_at "hp") rfl ?_
  | with_reducible refine s_prop ?_
  | (with_reducible show _ ≤ sizeLine ∧ _); refine ⟨le_size (by rfl), ?_⟩
  | with_reducible refine ite_NN ?_ | with_reducible refine ite_IN ?_ | with_reducible refine ite_nNN ?_ | with_reducible refine ite_nIN ?_ | with_reducible refine ite_RN ?_ | with_reducible refine ite_nRN ?_
  | with_reducible refine s_sfld ?_
  | ((with_reducible refine' ⟨_, _, _, _, rfl, ?fp1, ?fp2, ?fp3, ?fp4, ?_⟩); (case fp1 => walk_at "hp"); (case fp2 => assumption); (case fp3 => assumption); (case fp4 => walk_at "few"))
  | with_reducible refine s_fldE ?_
  | ((with_reducible refine' ⟨_, _, _, _, _, rfl, ?fp1, ?fp2, ?fp3, ?fp4, ?_⟩); (case fp1 => walk_at "hp"); (case fp2 => assumption); (case fp3 => assumption); (case fp4 => rfl))
  | with_reducible refine s_bm ?_ | with_reducible refine s_bm0 ?_
  | ((with_reducible refine' s_tyL ?ty1 ?_); (case ty1 => walk_at "hp"))
  | ((with_reducible refine' s_append ?ap1 ?ap2 ?_); (case ap1 => walk_at "hp"); (case ap2 => walk_at "sz"))
  | ((with_reducible refine' s_extend ?ap1 ?ap2 ?ap3 ?_); (case ap1 => walk_at "hp"); (case ap2 => walk_at "hp"); (case ap3 => walk_at "sz"))
  | with_reducible refine s_for (fun _ _ => ?_) | with_reducible refine s_lc ?_ | with_reducible refine s_iList ?_ | with_reducible refine s_iTup ?_ | with_reducible refine s_iRng1 ?_ | with_reducible refine s_iRng2 ?_
  | with_reducible refine s_yes ?_ | with_reducible refine s_par ?_
  | with_reducible refine s_make ?_ | with_reducible refine s_meth ?_
  | with_reducible refine s_tup ?_ | with_reducible refine s_lst ?_ | with_reducible refine s_call ?_
  | with_reducible refine ⟨rfl, ?_⟩
  | with_reducible refine ⟨_, rfl, ?_⟩
  | ((with_reducible refine' ⟨_, _, rfl, ?sd1, ?_⟩); (case sd1 => walk_at "sd"))
  | with_reducible refine ⟨_, _, rfl, ?_⟩
  | with_reducible refine .inl ⟨_, rfl, ?_⟩
  | dsimp only [List.set]
  | walk_at "rdx"
  | (refine fun _ _ => ?_))
local macro_rules | `(tactic| walk_at "rd") => `(tactic| repeat (first
  | (with_reducible show tVar _ _ _ _); refine s_var rfl ?_
  | with_reducible refine s_c ?_ | with_reducible refine s_op ?_ | with_reducible refine s_un ?_
  | with_reducible refine s_cons ?_ | with_reducible refine s_nil ?_ | with_reducible refine s_cb ?_
  | with_reducible refine s_test ?_ | with_reducible refine s_B ?_ | with_reducible refine s_not ?_ | with_reducible refine s_and ?_ | with_reducible refine s_or ?_
  | with_reducible refine s_if ?_ | with_reducible refine s_notV ?_ | with_reducible refine s_andV ?_ | with_reducible refine s_orV ?_
  | with_reducible refine s_orT ?_ | with_reducible refine s_andT ?_ | with_reducible refine s_chain ?_
  | with_reducible refine s_isi_int ?_ | with_reducible refine s_isi_int_bool ?_ | with_reducible refine s_isi_str ?_
  | with_reducible refine iteT ?_ | with_reducible refine iteF ?_ | with_reducible refine iteNT ?_ | with_reducible refine iteNF ?_
  | with_reducible refine s_isN ?_ | with_reducible refine s_notN ?_
  | ((with_reducible refine' s_2setE ?g1 ?_); (case g1 => first | (dsimp only [List.set, L2.wipe, List.map, List.foldl]; done) | (dsimp only [List.set, L2.wipe, List.map, List.foldl]; rfl)))
  | with_reducible refine s_seq ?_ | with_reducible refine s_ifS ?_ | with_reducible refine s_asg ?_ | with_reducible refine s_ret ?_ | with_reducible refine s_drop ?_ | with_reducible refine s_next ?_
  | ((with_reducible refine' s_gnameE ?g1 ?_); (case g1 => first | (dsimp only [List.set, L2.wipe, List.map, List.foldl]; done) | (dsimp only [List.set, L2.wipe, List.map, List.foldl]; rfl)))
  | with_reducible refine s_gsub ?_ | with_reducible refine s_gcons ?_ | with_reducible refine s_gnil ?_
  | (with_reducible show gTup _ _ _ _ _ _ _); refine s_gtup (by walk_at "hp") rfl ?_
  | with_reducible refine s_eqI ?_ | with_reducible refine s_neI ?_ | with_reducible refine s_eqS ?_ | with_reducible refine s_neB ?_ | with_reducible refine s_eqB ?_ | with_reducible refine s_neSr ?_ | with_reducible refine s_neS ?_
  | with_reducible refine s_I0 ?_
  | (with_reducible show rI _ _ _ _ _ _); refine s_I (by walk_at "sd") ?_
  | (with_reducible show rIxL _ _ _ _ _); refine s_ixL (by walk_at "hp") rfl ?_
  | (with_reducible show rIxT _ _ _ _ _); refine s_ixT (by walk_at "hp") rfl ?_
  | (with_reducible show rSetL _ _ _ _ _); refine s_setL (by walk_at "hp") rfl ?_
  | with_reducible refine s_prop ?_
  | (with_reducible show _ ≤ sizeLine ∧ _); refine ⟨le_size (by rfl), ?_⟩
  | with_reducible refine ite_NN ?_ | with_reducible refine ite_IN ?_ | with_reducible refine ite_nNN ?_ | with_reducible refine ite_nIN ?_ | with_reducible refine ite_RN ?_ | with_reducible refine ite_nRN ?_
  | with_reducible refine s_sfld ?_
  | ((with_reducible refine' ⟨_, _, _, _, rfl, ?fp1, ?fp2, ?fp3, ?fp4, ?_⟩); (case fp1 => walk_at "hp"); (case fp2 => assumption); (case fp3 => assumption); (case fp4 => walk_at "few"))
  | with_reducible refine s_fldE ?_
  | ((with_reducible refine' ⟨_, _, _, _, _, rfl, ?fp1, ?fp2, ?fp3, ?fp4, ?_⟩); (case fp1 => walk_at "hp"); (case fp2 => assumption); (case fp3 => assumption); (case fp4 => rfl))
  | with_reducible refine s_bm ?_ | with_reducible refine s_bm0 ?_
  | ((with_reducible refine' s_tyL ?ty1 ?_); (case ty1 => walk_at "hp"))
  | ((with_reducible refine' s_append ?ap1 ?ap2 ?_); (case ap1 => walk_at "hp"); (case ap2 => walk_at "sz"))
  | ((with_reducible refine' s_extend ?ap1 ?ap2 ?ap3 ?_); (case ap1 => walk_at "hp"); (case ap2 => walk_at "hp"); (case ap3 => walk_at "sz"))
  | with_reducible refine s_for (fun _ _ => ?_) | with_reducible refine s_lc ?_ | with_reducible refine s_iList ?_ | with_reducible refine s_iTup ?_ | with_reducible refine s_iRng1 ?_ | with_reducible refine s_iRng2 ?_
  | with_reducible refine s_yes ?_ | with_reducible refine s_par ?_
  | with_reducible refine s_make ?_ | with_reducible refine s_meth ?_
  | with_reducible refine s_tup ?_ | with_reducible refine s_lst ?_ | with_reducible refine s_call ?_
  | with_reducible refine ⟨rfl, ?_⟩
  | with_reducible refine ⟨_, rfl, ?_⟩
  | ((with_reducible refine' ⟨_, _, rfl, ?sd1, ?_⟩); (case sd1 => walk_at "sd"))
  | with_reducible refine ⟨_, _, rfl, ?_⟩
  | with_reducible refine .inl ⟨_, rfl, ?_⟩
  | dsimp only [List.set]
  | walk_at "rdx"
  | (refine fun _ _ => ?_)))

namespace My
open PySem L2
def ManyAt (C : Addr) (H : Hp) (x : Addr) (lo : Int) (hi : Option Int) : Prop := ∃ (dx : Addr) (t : V), H x = some (.ins C dx [("_least", .int lo), ("_most", optV hi), ("_key", t)])
theorem ManyAt.but {C r x : Addr} {H H' : Hp} {lo : Int} {hi : Option Int} (h : ManyAt C H x lo hi) (b : But r H H') (n : ∀ xs, H r ≠ some xs ∨ x ≠ r) : ManyAt C H' x lo hi := by
  obtain ⟨dx, t, e⟩ := h
  refine ⟨dx, t, b.get e ?_⟩
  rintro rfl
  rcases n _ with z | z
  · exact z e
  · exact z rfl
theorem many_fields (C dx : Addr) (a b c : V) : some (HO.ins C dx (putF "_key" c (putF "_most" b (putF "_least" a [])))) = some (HO.ins C dx [("_least", a), ("_most", b), ("_key", c)]) := by
  rw [putF_nil, putF_ne (by decide +kernel), putF_nil, putF_ne (by decide +kernel), putF_ne (by decide +kernel), putF_nil]
/-! ### promises -/
def spIsI : Sp := fun vs H Q _ => ∃ i : Int, vs = [.int i] ∧ Q (.bl true) H
def spIsC : Sp := fun vs H Q _ => ∃ i : Int, vs = [.int i] ∧ 0 ≤ i ∧ Q (.bl true) H
def spUpTo : Sp := fun vs H Q _ => ∃ (i : Int) (m : Option Int), vs = [.int i, optV m] ∧ (∀ h, m = some h → i ≤ h) ∧ Q (.bl true) H
def spInit (C : Addr) : Sp := fun vs H Q _ => ∃ (x dx : Addr) (lo : Int) (hi : Option Int), vs = [.ref x, .int lo, optV hi] ∧ H x = some (.ins C dx []) ∧ 0 ≤ lo ∧ (∀ h, hi = some h → lo ≤ h) ∧ ∀ H', But x H H' → ManyAt C H' x lo hi → Q .non H'
def spLeast (C : Addr) : Sp := fun vs H Q _ => ∃ (x : Addr) (lo : Int) (hi : Option Int), vs = [.ref x] ∧ ManyAt C H x lo hi ∧ Q (.int lo) H
def spMost (C : Addr) : Sp := fun vs H Q _ => ∃ (x : Addr) (lo : Int) (hi : Option Int), vs = [.ref x] ∧ ManyAt C H x lo hi ∧ Q (optV hi) H
def spChkC : Sp := fun vs H Q _ => ∃ i : Int, vs = [.int i] ∧ 0 ≤ i ∧ Q .non H
def spChkM (C : Addr) : Sp := fun vs H Q _ => ∃ (x : Addr) (lo : Int) (hi : Option Int), vs = [.ref x] ∧ ManyAt C H x lo hi ∧ Q .non H
def Pot (H : Hp) (r : Addr) : Prop := ∃ p q : Int, H r = some (.lst [.int p, .int q]) ∧ 0 ≤ p ∧ 0 ≤ q ∧ q < 2147483648
def spPotOf (K : PySem.W.Frag) : Sp := fun vs H Q _ => ∃ (a : Addr) (ns : List Int) (k : Int), vs = [.ref a, .int k] ∧ SqL K H a (ns.map V.int) ∧ 0 ≤ k ∧ k < 1000 ∧ ∀ r H', Same H H' → H r = none → Pot H' r → Q (.ref r) H'
def spDraw : Sp := fun vs H Q _ => ∃ (r : Addr) (n : Int), vs = [.ref r, .int n] ∧ Pot H r ∧ 0 < n ∧ n.natAbs.log2 < 9000 ∧ ∀ d H', But r H H' → Pot H' r → 0 ≤ d → d < n → Q (.int d) H'
section
variable {P : Program} {w : World} {K : PySem.W.Frag} {mg : Str → Option Value} {base : Heap} {C_Many C_Table T_LINES T_ENDS : Addr}
theorem ok_init (M : Md K mg C_Many C_Table T_LINES T_ENDS) {f : Addr} {fd : FuncData} (F : FunD K "__init__" "Many.__init__" (defArgs st_Many___init__) (defBody st_Many___init__) (defScope st_Many___init__) [.non] [] f fd)
    (c_is_count : Dn P w K mg base "is_count" 2 ["value"] [] spIsC) (c__is_up_to : Dn P w K mg base "_is_up_to" 1 ["number", "most"] [] spUpTo) : FnG P w K mg base CX0 3 f fd ["self", "least", "most"] (spInit C_Many) := by
  refine fnG_body F sc_Many___init__ (fun vs H Q E h => ?_) (fun cdv A outer s H vs Q E hr h => ?_)
  · obtain ⟨x, dx, lo, hi, rfl, _⟩ := h
    rfl
  · obtain ⟨x, dx, lo, hi, rfl, hx, h0, h1, q⟩ := h
    refine ⟨_, (pss_cons (ps_if (pt_not (pt_val (pe_callD c_is_count (hr.mono (by decide)) rfl (pa_cons (pv 1) pa_nil)))) (pss_one ps_never) pss_nil) (pss_cons (ps_if (PW.pt (pw_and (pt_cmpR op_notN (pv 2) pe_non (nomark _)) (pw_and1 (pt_not (pt_val (pe_callD c_is_count (hr.mono (by decide)) rfl (pa_cons (pv 2) pa_nil))))))) (pss_one ps_never) pss_nil) (pss_cons (ps_if (pt_not (pt_val (pe_callD c__is_up_to (hr.mono (by decide)) rfl (pa_cons (pv 1) (pa_cons (pv 2) pa_nil))))) (pss_one ps_never) pss_nil) (pss_cons (ps_fld (pv 0) (pv 1) rfl) (pss_cons (ps_fld (pv 0) (pv 2) rfl) (pss_one (ps_fld (pv 0) (pe_tup (pa_cons (pv 1) (pa_cons (pe_cmpR op_isN (pv 2) pe_non (nomark _)) (pa_cons (pe_orT (pv 2) (pe_one pe_int)) pa_nil)))) rfl))))))), ?_⟩
    refine st_eq (σ := [some _, some _, some _]) rfl ?_
    walk_at "rd"
    refine ⟨lo, rfl, h0, ?_⟩
    have kM := M.k_Many
    have n1 := M.n_Many__least
    have n2 := M.n_Many__most
    have n3 := M.n_Many__key
    cases hi with
    | none =>
      walk_at "rd"
      refine ⟨lo, none, rfl, h1, ?_⟩
      walk_at "rd"
      refine ⟨false, rfl, ?_⟩
      walk_at "rd"
      exact q _ (by walk_at "bt") ⟨dx, _, upd_same.trans (many_fields _ _ _ _ _)⟩
    | some m =>
      have h2 := h1 m rfl
      have h3 : 0 ≤ m := by omega
      walk_at "rd"
      refine ⟨m, rfl, h3, ?_⟩
      walk_at "rd"
      refine ⟨lo, some m, rfl, h1, ?_⟩
      walk_at "rd"
      refine ⟨_, rfl, ?_⟩
      refine ite_b (fun _ => ?_) (fun _ => ?_)
      all_goals
        walk_at "rd"
        exact q _ (by walk_at "bt") ⟨dx, _, upd_same.trans (many_fields _ _ _ _ _)⟩
variable (M : Md K mg C_Many C_Table T_LINES T_ENDS)
include M
theorem c_is_integer : Dn P w K mg base "is_integer" 1 ["value"] [] spIsI := by
  refine dnN M.f_is_integer (fun F => ?_) (fun _ _ _ _ _ _ us hl => match us, hl with | [_], _ => rfl)
  refine fnG_body F sc_is_integer (fun vs H Q E h => ?_) (fun cdv A outer s H vs Q E hr h => ?_)
  · obtain ⟨i, rfl, _⟩ := h
    rfl
  · obtain ⟨i, rfl, q⟩ := h
    refine ⟨_, (pss_one (ps_ret (pe_and (pe_callB call_isi (by rfl) M.b_isinstance (by decide +kernel) (pa_cons (pv 0) (pa_cons (pe_bltn (v := .ty "int") (u := .type "int") (by rfl) M.b_int (by decide +kernel) rfl) pa_nil))) (pe_one (pe_not (pe_callB call_isi (by rfl) M.b_isinstance (by decide +kernel) (pa_cons (pv 0) (pa_cons (pe_bltn (v := .ty "bool") (u := .type "bool") (by rfl) M.b_bool (by decide +kernel) rfl) pa_nil)))))))), ?_⟩
    refine st_eq (σ := [some _]) rfl ?_
    walk_at "rd"
    exact q
theorem c_is_count : Dn P w K mg base "is_count" 2 ["value"] [] spIsC := by
  refine dnN M.f_is_count (fun F => ?_) (fun _ _ _ _ _ _ us hl => match us, hl with | [_], _ => rfl)
  have c_is_integer := c_is_integer (P := P) (w := w) (base := base) M
  refine fnG_body F sc_is_count (fun vs H Q E h => ?_) (fun cdv A outer s H vs Q E hr h => ?_)
  · obtain ⟨i, rfl, _⟩ := h
    rfl
  · obtain ⟨i, rfl, h0, q⟩ := h
    refine ⟨_, (pss_one (ps_ret (pe_and (pe_callD c_is_integer (hr.mono (by decide)) rfl (pa_cons (pv 0) pa_nil)) (pe_one (pe_cmpR op_ge (pv 0) pe_int (nomark _)))))), ?_⟩
    refine st_eq (σ := [some _]) rfl ?_
    walk_at "rd"
    refine ⟨i, rfl, ?_⟩
    walk_at "rd"
    rw [decide_eq_true h0]
    exact q
theorem c__is_up_to : Dn P w K mg base "_is_up_to" 1 ["number", "most"] [] spUpTo := by
  refine dnN M.f__is_up_to (fun F => ?_) (fun _ _ _ _ _ _ us hl => match us, hl with | [_, _], _ => rfl)
  refine fnG_body F sc__is_up_to (fun vs H Q E h => ?_) (fun cdv A outer s H vs Q E hr h => ?_)
  · obtain ⟨i, m, rfl, _⟩ := h
    rfl
  · obtain ⟨i, m, rfl, h0, q⟩ := h
    refine ⟨_, (pss_one (ps_ret (pe_or (pe_cmpR op_isN (pv 1) pe_non (nomark _)) (pe_one (pe_and (pe_cmpR op_notN (pv 0) pe_non (nomark _)) (pe_one (pe_cmpR op_le (pv 0) (pv 1) (nomark _)))))))), ?_⟩
    refine st_eq (σ := [some _, some _]) rfl ?_
    walk_at "rd"
    cases m with
    | none =>
      walk_at "rd"
      exact q
    | some m =>
      walk_at "rd"
      rw [decide_eq_true (h0 m rfl)]
      exact q
theorem c_Many_2 : Mkn P w K mg base "Many" C_Many 3 ["self", "least", "most"] [] (spInit C_Many) := by
  refine mkD (dvs := [.non]) 3 1 M.i_Many M.m_Many (fun F => ok_init M F (c_is_count M) (c__is_up_to M)) (by simp) rfl (fun _ _ _ _ _ _ _ us its h1 h2 => match us, its, h1, h2 with | [_, _, _], [_], _, _ => ⟨_, rfl, rfl⟩)
theorem c_Many_1 : Mkn P w K mg base "Many" C_Many 3 ["self", "least", "most"] [.non] (spInit C_Many) := by
  refine mkD (dvs := [.non]) 2 0 M.i_Many M.m_Many (fun F => ok_init M F (c_is_count M) (c__is_up_to M)) (by simp) rfl (fun _ _ _ _ _ _ _ us its h1 h2 => match us, its, h1, h2 with | [_, _], [_], _, _ => ⟨_, rfl, rfl⟩)
theorem c_Many_least : Prn P w K mg base C_Many "least" 1 ["self"] [] (spLeast C_Many) := by
  refine prN M.p_Many_least M.k_Many (fun F => ?_) (fun _ _ _ _ _ _ us hl => match us, hl with | [_], _ => rfl)
  refine fnG_body F sc_Many_least (fun vs H Q E h => ?_) (fun cdv A outer s H vs Q E hr h => ?_)
  · obtain ⟨x, lo, hi, rfl, _⟩ := h
    rfl
  · obtain ⟨x, lo, hi, rfl, ⟨dx, t, e⟩, q⟩ := h
    refine ⟨_, (pss_one (ps_ret (pe_fld (pv 0) rfl))), ?_⟩
    refine st_eq (σ := [some _]) rfl ?_
    have kM := M.k_Many
    have n1 := M.n_Many__least
    walk_at "rd"
    exact q
theorem c_Many_most : Prn P w K mg base C_Many "most" 1 ["self"] [] (spMost C_Many) := by
  refine prN M.p_Many_most M.k_Many (fun F => ?_) (fun _ _ _ _ _ _ us hl => match us, hl with | [_], _ => rfl)
  refine fnG_body F sc_Many_most (fun vs H Q E h => ?_) (fun cdv A outer s H vs Q E hr h => ?_)
  · obtain ⟨x, lo, hi, rfl, _⟩ := h
    rfl
  · obtain ⟨x, lo, hi, rfl, ⟨dx, t, e⟩, q⟩ := h
    refine ⟨_, (pss_one (ps_ret (pe_fld (pv 0) rfl))), ?_⟩
    refine st_eq (σ := [some _]) rfl ?_
    have kM := M.k_Many
    have n1 := M.n_Many__most
    walk_at "rd"
    exact q
theorem c_check_count : Dn P w K mg base "check_count" 3 ["count"] [] spChkC := by
  have c_is_count := c_is_count (P := P) (w := w) (base := base) M
  refine dnN M.f_check_count (fun F => ?_) (fun _ _ _ _ _ _ us hl => match us, hl with | [_], _ => rfl)
  refine fnG_body F sc_check_count (fun vs H Q E h => ?_) (fun cdv A outer s H vs Q E hr h => ?_)
  · obtain ⟨i, rfl, _⟩ := h
    rfl
  · obtain ⟨i, rfl, h0, q⟩ := h
    refine ⟨_, (pss_one (ps_if (pt_not (pt_val (pe_callD c_is_count (hr.mono (by decide)) rfl (pa_cons (pv 0) pa_nil)))) (pss_one ps_never) pss_nil)), ?_⟩
    refine st_eq (σ := [some _]) rfl ?_
    walk_at "rd"
    refine ⟨i, rfl, h0, ?_⟩
    walk_at "rd"
    exact q
theorem c__check_many : Dn P w K mg base "_check_many" 1 ["many"] [] (spChkM C_Many) := by
  refine dnN M.f__check_many (fun F => ?_) (fun _ _ _ _ _ _ us hl => match us, hl with | [_], _ => rfl)
  refine fnG_body F sc__check_many (fun vs H Q E h => ?_) (fun cdv A outer s H vs Q E hr h => ?_)
  · obtain ⟨x, lo, hi, rfl, _⟩ := h
    rfl
  · obtain ⟨x, lo, hi, rfl, ⟨dx, t, e⟩, q⟩ := h
    refine ⟨_, (pss_one (ps_if (pt_not (pt_val (pe_callB call_isi (by rfl) M.b_isinstance (by decide +kernel) (pa_cons (pv 0) (pa_cons (pe_glob (v := .ref C_Many) rfl M.m_Many rfl) pa_nil))))) (pss_one ps_never) pss_nil)), ?_⟩
    refine st_eq (σ := [some _]) rfl ?_
    walk_at "rd"
    refine s_isi_own (M.z_Many e) ?_
    walk_at "rd"
    exact q
/-! ### draws -/
theorem c__law_pot_of : Dn P w K mg base "_law_pot_of" 1 ["_law_script", "_law_k"] [] (spPotOf K) := by
  refine dnN M.f__law_pot_of (fun F => ?_) (fun _ _ _ _ _ _ us hl => match us, hl with | [_, _], _ => rfl)
  refine fnG_body F sc__law_pot_of (fun vs H Q E h => ?_) (fun cdv A outer s H vs Q E hr h => ?_)
  · obtain ⟨a, ns, k, rfl, _⟩ := h
    rfl
  · obtain ⟨a, ns, k, rfl, hS, h0, h1, q⟩ := h
    refine ⟨_, (pss_cons (ps_set (i := 2) sc__law_pot_of.nd rfl (.inl rfl) (pe_ifExp (pt_cmpR op_lt (pv 1) (pe_callB call_len_seq (by rfl) M.b_len (by decide +kernel) (pa_cons (pv 0) pa_nil)) (nomark _)) (pe_ix ix_list (pv 0) (pv 1) (fun _ _ => rfl)) (pe_op op_add (pe_op op_mulW pe_int (pv 1)) pe_int))) (pss_one (ps_ret (pe_lst (pa_cons (pe_callB (call_max2 rfl) (by rfl) M.b_max (by decide +kernel) (pa_cons pe_int (pa_cons (pe_op op_sub (pe_callB call_abs (by rfl) M.b_abs (by decide +kernel) (pa_cons (pv 2) pa_nil)) (pe_op op_pow pe_int pe_int)) pa_nil))) (pa_cons (pe_op op_add (pe_op op_mod (pe_callTy call_int1 (by rfl) M.b_int (by decide +kernel) (pa_cons (pe_op op_add (pe_op op_add (pe_op op_mulW (pe_op op_mod (pe_callTy call_int1 (by rfl) M.b_int (by decide +kernel) (pa_cons (pe_callB call_abs (by rfl) M.b_abs (by decide +kernel) (pa_cons (pv 2) pa_nil)) pa_nil)) pe_int) pe_int) (pe_op op_mulW pe_int (pv 1))) pe_int) pa_nil)) pe_int) pe_int) pa_nil)))))), ?_⟩
    refine st_eq (σ := [some _, some _, none]) rfl ?_
    walk_at "rd"
    refine ⟨_, _, rfl, .inl hS, ?_⟩
    walk_at "rd"
    refine ite_d (fun hc => ?_) (fun hc => ?_)
    · obtain ⟨c, ec⟩ := atI_ints h0 hc
      walk_at "rd"
      refine ⟨_, _, _, _, rfl, rfl, hS, ec, ?_⟩
      walk_at "rd"
      refine q _ _ (Same.new (by assumption)) (by assumption) ⟨_, _, upd_same, ?_, ?_, ?_⟩
      · split <;> omega
      · omega
      · omega
    · walk_at "rd"
      refine q _ _ (Same.new (by assumption)) (by assumption) ⟨_, _, upd_same, ?_, ?_, ?_⟩
      · split <;> omega
      · omega
      · omega
theorem c__law_draw : Dn P w K mg base "_law_draw" 1 ["_law_pot", "_law_some"] [] spDraw := by
  refine dnN M.f__law_draw (fun F => ?_) (fun _ _ _ _ _ _ us hl => match us, hl with | [_, _], _ => rfl)
  refine fnG_body F sc__law_draw (fun vs H Q E h => ?_) (fun cdv A outer s H vs Q E hr h => ?_)
  · obtain ⟨r, n, rfl, _⟩ := h
    rfl
  · obtain ⟨r, n, rfl, ⟨p, y, e, hp, hy, hz⟩, h0, h1, q⟩ := h
    refine ⟨_, (pss_cons (ps_if (pt_cmpR op_gt (pe_ix ix_list (pv 0) pe_int (fun _ _ => rfl)) pe_int (nomark _)) (pss_cons (ps_asg (pe_callB call_divmodW (by rfl) M.b_divmod (by decide +kernel) (pa_cons (pe_ix ix_list (pv 0) pe_int (fun _ _ => rfl)) (pa_cons (pv 1) pa_nil))) (pg_tup (by rfl) (pgs_cons (pg_sub (pv 0) pe_int set_list) (pgs_cons (pg_name (i := 2) sc__law_draw.nd rfl (.inl rfl)) pgs_nil)))) (pss_one (ps_ret (pv 2)))) pss_nil) (pss_cons (ps_asg (pe_op op_mod (pe_callTy call_int1 (by rfl) M.b_int (by decide +kernel) (pa_cons (pe_op op_add (pe_op op_mulW (pe_ix ix_list (pv 0) pe_int (fun _ _ => rfl)) pe_int) pe_int) pa_nil)) pe_int) (pg_sub (pv 0) pe_int set_list)) (pss_one (ps_ret (pe_op op_mod (pe_callTy call_int1 (by rfl) M.b_int (by decide +kernel) (pa_cons (pe_op op_fdivW (pe_op op_mod (pe_callTy call_int1 (by rfl) M.b_int (by decide +kernel) (pa_cons (pe_op op_mulW (pe_ix ix_list (pv 0) pe_int (fun _ _ => rfl)) (pe_ix ix_list (pv 0) pe_int (fun _ _ => rfl))) pa_nil)) pe_int) pe_int) pa_nil)) (pv 1)))))), ?_⟩
    refine st_eq (σ := [some _, some _, none]) rfl ?_
    walk_at "rd"
    refine ite_d (fun hc => ?_) (fun hc => ?_)
    · walk_at "rd"
      refine q _ _ ((But.new (by assumption)).trans But.at) ⟨_, _, upd_same, ?_, hy, hz⟩ (Int.emod_nonneg _ (by omega)) (Int.emod_lt_of_pos _ h0)
      exact Int.ediv_nonneg hp (by omega)
    · walk_at "rd"
      refine q _ _ But.at ⟨_, _, upd_same, hp, by omega, by omega⟩ (Int.emod_nonneg _ (by omega)) (Int.emod_lt_of_pos _ h0)
end
end My

namespace My
def OSm (k : Nat) : Option Int → Prop
  | none => True
  | some x => Sm k x
/-! ### the lines of [33] -/
def lin0 (a p b : Int) : Option Int → Bool
  | none => true
  | some s => decide (a * p ≤ b * s)
def lin2 (a p b : Int) : Bool := decide (a = 0) || decide (b ≥ p)
def lines (a p : Int) (q : Option Int) (b r : Int) (s : Option Int) : Bool := lin0 a p b s && lin0 b r a q && lin2 a p b && lin2 b r a
def ups (a : Int) : Option Int → List Int
  | none => []
  | some q => [a * q]
def bnds (a : Int) (q : Option Int) (b : Int) (s : Option Int) : List Int := a * b :: (ups a q ++ ups b s)
def lowB (a p b r : Int) : Int := if b * r > a * p then b * r else a * p
/-- h is the least of xs -/
def IsMin (xs : List Int) (h : Int) : Prop := h ∈ xs ∧ ∀ y, y ∈ xs → h ≤ y
theorem IsMin.uniq {xs ys : List Int} {g h : Int} (a : IsMin xs g) (b : IsMin ys h) (e : ∀ y, y ∈ xs ↔ y ∈ ys) : g = h := by
  have := a.2 h ((e h).2 b.1)
  have := b.2 g ((e g).1 a.1)
  omega
/-- what totals tells -/
def Tot (a p : Int) (q : Option Int) (b r : Int) (s : Option Int) : Option (Int × Int) → Prop
  | none => lines a p q b r s = false
  | some (l, h) => lines a p q b r s = true ∧ l = lowB a p b r ∧ IsMin (bnds a q b s) h
theorem lines_swap (a p : Int) (q : Option Int) (b r : Int) (s : Option Int) : lines b r s a p q = lines a p q b r s := by
  unfold lines
  cases lin0 a p b s <;> cases lin0 b r a q <;> cases lin2 a p b <;> cases lin2 b r a <;> rfl
theorem low_swap (a p b r : Int) : lowB b r a p = lowB a p b r := by
  unfold lowB
  split <;> split <;> omega
theorem bnds_swap (a : Int) (q : Option Int) (b : Int) (s : Option Int) (y : Int) : y ∈ bnds b s a q ↔ y ∈ bnds a q b s := by
  unfold bnds
  rw [Int.mul_comm b a]
  simp only [List.mem_cons, List.mem_append]
  constructor <;> (rintro (h | h | h)) <;> simp [h]
theorem Tot.swap {a p : Int} {q : Option Int} {b r : Int} {s : Option Int} {t : Option (Int × Int)} (h : Tot a p q b r s t) : Tot b r s a p q t := by
  cases t with
  | none => exact (lines_swap a p q b r s).trans h
  | some x =>
    obtain ⟨l, g⟩ := x
    obtain ⟨h1, h2, h3, h4⟩ := h
    exact ⟨(lines_swap a p q b r s).trans h1, h2.trans (low_swap a p b r).symm, (bnds_swap a q b s g).2 h3, fun y hy => h4 y ((bnds_swap a q b s y).1 hy)⟩
theorem Tot.uniq {a p : Int} {q : Option Int} {b r : Int} {s : Option Int} {t u : Option (Int × Int)} (h : Tot a p q b r s t) (g : Tot a p q b r s u) : t = u := by
  cases t with
  | none => cases u with
    | none => rfl
    | some y =>
      have e : lines a p q b r s = false := h
      have e2 := g.1
      rw [e] at e2
      cases e2
  | some x => cases u with
    | none =>
      have e : lines a p q b r s = false := g
      have e2 := h.1
      rw [e] at e2
      cases e2
    | some y =>
      obtain ⟨l, x⟩ := x
      obtain ⟨l', y⟩ := y
      obtain ⟨_, h2, h3⟩ := h
      obtain ⟨_, g2, g3⟩ := g
      have e1 := h2.trans g2.symm
      have e2 := h3.uniq g3 fun _ => Iff.rfl
      rw [e1, e2]
theorem low_ge (a p b r : Int) : a * p ≤ lowB a p b r ∧ b * r ≤ lowB a p b r := by
  unfold lowB
  split <;> omega
theorem low_le {a p b r m : Int} (h : a * p ≤ m) (g : b * r ≤ m) : lowB a p b r ≤ m := by
  unfold lowB
  split <;> omega
/-- the lines as inequalities -/
structure Lns (a p : Int) (q : Option Int) (b r : Int) (s : Option Int) : Prop where
  l0 : ∀ x, s = some x → a * p ≤ b * x
  l1 : ∀ x, q = some x → b * r ≤ a * x
  l2 : a = 0 ∨ p ≤ b
  l3 : b = 0 ∨ r ≤ a
theorem lns_iff {a p : Int} {q : Option Int} {b r : Int} {s : Option Int} : lines a p q b r s = true ↔ Lns a p q b r s := by
  unfold lines
  simp only [Bool.and_eq_true]
  constructor
  · rintro ⟨⟨⟨h0, h1⟩, h2⟩, h3⟩
    refine ⟨?_, ?_, ?_, ?_⟩
    · rintro x rfl
      exact of_decide_eq_true h0
    · rintro x rfl
      exact of_decide_eq_true h1
    · simpa [lin2] using h2
    · simpa [lin2] using h3
  · rintro ⟨h0, h1, h2, h3⟩
    refine ⟨⟨⟨?_, ?_⟩, ?_⟩, ?_⟩
    · cases s with
      | none => rfl
      | some x => exact decide_eq_true (h0 x rfl)
    · cases q with
      | none => rfl
      | some x => exact decide_eq_true (h1 x rfl)
    · simpa [lin2] using h2
    · simpa [lin2] using h3
theorem mem_bnds {a : Int} {q : Option Int} {b : Int} {s : Option Int} {y : Int} : y ∈ bnds a q b s ↔ y = a * b ∨ (∃ x, q = some x ∧ y = a * x) ∨ ∃ x, s = some x ∧ y = b * x := by
  unfold bnds
  cases q <;> cases s <;> simp [ups]
/-- so many times both sizes -/
theorem Tot.scale {a p : Int} {q : Option Int} {b r : Int} {s : Option Int} {k l h : Int} {t : Option (Int × Int)} (ha : 0 ≤ a) (hb : 0 ≤ b) (hp : 0 ≤ p) (hr : 0 ≤ r) (hk : 1 ≤ k)
    (x : Tot a p q b r s (some (l, h))) (y : Tot (a * k) p q (b * k) r s t) : ∃ l' h', t = some (l', h') ∧ l' ≤ l * k ∧ h * k ≤ h' := by
  obtain ⟨x1, rfl, x2, x3⟩ := x
  have L := lns_iff.1 x1
  have mk : ∀ {u v : Int}, u ≤ v → u * k ≤ v * k := fun z => Int.mul_le_mul_of_nonneg_right z (by omega)
  have sw : ∀ u v : Int, u * k * v = u * v * k := fun u v => by rw [Int.mul_assoc, Int.mul_comm k v, Int.mul_assoc]
  have up : ∀ {u : Int}, 0 ≤ u → u ≤ u * k := fun {u} z => by
    have := Int.mul_le_mul_of_nonneg_left hk z
    omega
  have L2 : Lns (a * k) p q (b * k) r s := by
    refine ⟨?_, ?_, ?_, ?_⟩
    · intro x e
      rw [sw, sw]
      exact mk (L.l0 x e)
    · intro x e
      rw [sw, sw]
      exact mk (L.l1 x e)
    · rcases L.l2 with e | e
      · left
        rw [e, Int.zero_mul]
      · right
        have := up hb
        omega
    · rcases L.l3 with e | e
      · left
        rw [e, Int.zero_mul]
      · right
        have := up ha
        omega
  cases t with
  | none =>
    have e : lines (a * k) p q (b * k) r s = false := y
    rw [lns_iff.2 L2] at e
    cases e
  | some z =>
    obtain ⟨l', h'⟩ := z
    obtain ⟨_, rfl, y2, y3⟩ := y
    refine ⟨_, _, rfl, low_le ?_ ?_, ?_⟩
    · rw [sw]
      exact mk (low_ge a p b r).1
    · rw [sw]
      exact mk (low_ge a p b r).2
    · rcases mem_bnds.1 y2 with e | ⟨x, e, e2⟩ | ⟨x, e, e2⟩
      · have h1 := mk (x3 _ (mem_bnds.2 (.inl rfl)))
        have h2 : a * b * k ≤ a * b * k * k := up (Int.mul_nonneg (Int.mul_nonneg ha hb) (by omega))
        have h3 : a * k * (b * k) = a * b * k * k := by rw [sw, ← Int.mul_assoc]
        omega
      · have h1 := mk (x3 _ (mem_bnds.2 (.inr (.inl ⟨x, e, rfl⟩))))
        have := sw a x
        omega
      · have h1 := mk (x3 _ (mem_bnds.2 (.inr (.inr ⟨x, e, rfl⟩))))
        have := sw b x
        omega
/-- sums of sizes -/
theorem Tot.sum {a p : Int} {q : Option Int} {b r : Int} {s : Option Int} {c d l h l2 h2 : Int} {t : Option (Int × Int)} (ha : 0 ≤ a) (hb : 0 ≤ b) (hc : 0 ≤ c) (hd : 0 ≤ d) (hp : 0 ≤ p) (hr : 0 ≤ r)
    (x : Tot a p q b r s (some (l, h))) (z : Tot c p q d r s (some (l2, h2))) (y : Tot (a + c) p q (b + d) r s t) : ∃ l' h', t = some (l', h') ∧ l' ≤ l + l2 ∧ h + h2 ≤ h' := by
  obtain ⟨x1, rfl, x2, x3⟩ := x
  obtain ⟨z1, rfl, z2, z3⟩ := z
  have L := lns_iff.1 x1
  have M := lns_iff.1 z1
  have L2 : Lns (a + c) p q (b + d) r s := by
    refine ⟨?_, ?_, ?_, ?_⟩
    · intro x e
      have h1 := L.l0 x e
      have h2 := M.l0 x e
      rw [Int.add_mul, Int.add_mul]
      omega
    · intro x e
      have h1 := L.l1 x e
      have h2 := M.l1 x e
      rw [Int.add_mul, Int.add_mul]
      omega
    · rcases L.l2 with e | e
      · rcases M.l2 with f | f
        · left
          omega
        · right
          omega
      · right
        omega
    · rcases L.l3 with e | e
      · rcases M.l3 with f | f
        · left
          omega
        · right
          omega
      · right
        omega
  cases t with
  | none =>
    have e : lines (a + c) p q (b + d) r s = false := y
    rw [lns_iff.2 L2] at e
    cases e
  | some w =>
    obtain ⟨l', h'⟩ := w
    obtain ⟨_, rfl, y2, y3⟩ := y
    refine ⟨_, _, rfl, low_le ?_ ?_, ?_⟩
    · rw [Int.add_mul]
      have := (low_ge a p b r).1
      have := (low_ge c p d r).1
      omega
    · rw [Int.add_mul]
      have := (low_ge a p b r).2
      have := (low_ge c p d r).2
      omega
    · rcases mem_bnds.1 y2 with e | ⟨x, e, e2⟩ | ⟨x, e, e2⟩
      · have h1 := x3 _ (mem_bnds.2 (.inl rfl))
        have h2 := z3 _ (mem_bnds.2 (.inl rfl))
        have h3 := Int.mul_nonneg ha hd
        have h4 := Int.mul_nonneg hc hb
        rw [Int.add_mul, Int.mul_add, Int.mul_add] at e
        omega
      · have h1 := x3 _ (mem_bnds.2 (.inr (.inl ⟨x, e, rfl⟩)))
        have h2 := z3 _ (mem_bnds.2 (.inr (.inl ⟨x, e, rfl⟩)))
        rw [Int.add_mul] at e2
        omega
      · have h1 := x3 _ (mem_bnds.2 (.inr (.inr ⟨x, e, rfl⟩)))
        have h2 := z3 _ (mem_bnds.2 (.inr (.inr ⟨x, e, rfl⟩)))
        rw [Int.add_mul] at e2
        omega
end My

open My L2 PySem
open My L2 PySem
local macro_rules | `(tactic| walk_at "as") => `(tactic| with_reducible assumption)
local macro_rules | `(tactic| walk_at "hp") => `(tactic| first
  | walk_at "as" | exact upd_same
  | (rw [upd_ne (by walk_at "ne")]; walk_at "hp")
  | (refine But.get (by walk_at "as") ?hp1 ?hp2; (case hp1 => walk_at "hp"); (case hp2 => walk_at "ne"))
  | (refine My.Same.get (by walk_at "as") ?hp1; (case hp1 => walk_at "hp")))
local macro_rules | `(tactic| walk_at "ne") => `(tactic| first
  | walk_at "as" | exact Ne.symm (by walk_at "as")
  | (refine' ne_of_none ?ne1 ?ne2; (case ne2 => walk_at "as"); (case ne1 => walk_at "hp"))
  | (refine' Ne.symm (ne_of_none ?ne1 ?ne2); (case ne2 => walk_at "as"); (case ne1 => walk_at "hp"))
  | exact ne_of (by walk_at "hp") (by walk_at "hp") (by intro z; cases z))
local macro_rules | `(tactic| walk_at "sd") => `(tactic| first
  | walk_at "as" | omega | decide | exact ⟨by omega, by omega⟩ | exact .inl ⟨by omega, by omega⟩ | exact .inr ⟨by omega, by omega⟩ | exact divp_wide (by walk_at "as") (by walk_at "as") | exact Sm.cmul (by walk_at "as") (by walk_at "as") | exact cmul_small (by omega) (by omega) (by omega) (by omega) | exact ⟨by omega, by decide⟩)
local macro_rules | `(tactic| walk_at "bt") => `(tactic| first
  | walk_at "as" | exact But.refl _ _ | exact Same.but (by walk_at "as")
  | (refine But.trans ?bt1 But.at; (case bt1 => walk_at "bt"))
  | (refine But.trans ?bt1 (But.new (by first | walk_at "as" | walk_at "hp")); (case bt1 => walk_at "bt"))
  | (refine But.trans ?bt1 (by walk_at "as"); (case bt1 => walk_at "bt"))
  | (refine But.trans ?bt1 (Same.but (by walk_at "as")); (case bt1 => walk_at "bt")))
local macro_rules | `(tactic| walk_at "sm") => `(tactic| first
  | walk_at "as" | exact My.Same.rfl' _
  | (refine' My.Same.at_ ?sm1 ?sm2; (case sm1 => walk_at "as"); (case sm2 => walk_at "sm"))
  | (refine' My.Same.tr ?sm1 (My.Same.new ?sm2); (case sm2 => walk_at "as"); (case sm1 => walk_at "sm"))
  | (refine' My.Same.tr ?sm1 ?sm2; (case sm2 => walk_at "as"); (case sm1 => walk_at "sm")))
local macro_rules | `(tactic| walk_at "sz") => `(tactic| first
  | assumption | exact lt_size (by rfl) | exact le_size (by rfl) | (rw [sizeLine_eq]; omega)
  | (rw [sizeLine_eq]; simp only [List.length_append, List.length_map, List.length_cons, List.length_nil]; omega))
local macro_rules | `(tactic| walk_at "few") => `(tactic| (repeat refine few_put ?_); exact few0)
local macro_rules | `(tactic| walk_at "rd1") => `(tactic| first
  | (with_reducible show tVar _ _ _ _); refine s_var rfl ?_
  | with_reducible refine s_c ?_ | with_reducible refine s_op ?_ | with_reducible refine s_un ?_
  | with_reducible refine s_cons ?_ | with_reducible refine s_nil ?_ | with_reducible refine s_cb ?_
  | with_reducible refine s_test ?_ | with_reducible refine s_B ?_ | with_reducible refine s_not ?_ | with_reducible refine s_and ?_ | with_reducible refine s_or ?_
  | with_reducible refine s_if ?_ | with_reducible refine s_notV ?_ | with_reducible refine s_andV ?_ | with_reducible refine s_orV ?_
  | with_reducible refine s_orT ?_ | with_reducible refine s_andT ?_ | with_reducible refine s_chain ?_
  | with_reducible refine s_isi_int ?_ | with_reducible refine s_isi_int_bool ?_ | with_reducible refine s_isi_str ?_
  | with_reducible refine iteT ?_ | with_reducible refine iteF ?_ | with_reducible refine iteNT ?_ | with_reducible refine iteNF ?_
  | with_reducible refine s_isN ?_ | with_reducible refine s_notN ?_
  | ((with_reducible refine' s_2setE ?g1 ?_); (case g1 => first | (dsimp only [List.set, L2.wipe, List.map, List.foldl]; done) | (dsimp only [List.set, L2.wipe, List.map, List.foldl]; rfl)))
  | with_reducible refine s_seq ?_ | with_reducible refine s_ifS ?_ | with_reducible refine s_asg ?_ | with_reducible refine s_ret ?_ | with_reducible refine s_drop ?_ | with_reducible refine s_next ?_
  | ((with_reducible refine' s_gnameE ?g1 ?_); (case g1 => first | (dsimp only [List.set, L2.wipe, List.map, List.foldl]; done) | (dsimp only [List.set, L2.wipe, List.map, List.foldl]; rfl)))
  | with_reducible refine s_gsub ?_ | with_reducible refine s_gcons ?_ | with_reducible refine s_gnil ?_
  | (with_reducible show gTup _ _ _ _ _ _ _); refine s_gtup (by walk_at "hp") rfl ?_
  | with_reducible refine s_eqI ?_ | with_reducible refine s_neI ?_ | with_reducible refine s_eqS ?_ | with_reducible refine s_neB ?_ | with_reducible refine s_eqB ?_ | with_reducible refine s_neSr ?_ | with_reducible refine s_neS ?_
  | with_reducible refine s_I0 ?_
  | (with_reducible show rI _ _ _ _ _ _); refine s_I (by walk_at "sd") ?_
  | (with_reducible show rIxL _ _ _ _ _); refine s_ixL (by walk_at "hp") rfl ?_
  | (with_reducible show rIxT _ _ _ _ _); refine s_ixT (by walk_at "hp") rfl ?_
  | (with_reducible show rSetL _ _ _ _ _); refine s_setL (by walk_at "hp") rfl ?_
  | with_reducible refine s_prop ?_
  | (with_reducible show _ ≤ sizeLine ∧ _); refine ⟨le_size (by rfl), ?_⟩
  | with_reducible refine ite_NN ?_ | with_reducible refine ite_IN ?_ | with_reducible refine ite_nNN ?_ | with_reducible refine ite_nIN ?_ | with_reducible refine ite_RN ?_ | with_reducible refine ite_nRN ?_
  | with_reducible refine s_sfld ?_
  | ((with_reducible refine' ⟨_, _, _, _, rfl, ?fp1, ?fp2, ?fp3, ?fp4, ?_⟩); (case fp1 => walk_at "hp"); (case fp2 => assumption); (case fp3 => assumption); (case fp4 => walk_at "few"))
  | with_reducible refine s_fldE ?_
  | ((with_reducible refine' ⟨_, _, _, _, _, rfl, ?fp1, ?fp2, ?fp3, ?fp4, ?_⟩); (case fp1 => walk_at "hp"); (case fp2 => assumption); (case fp3 => assumption); (case fp4 => rfl))
  | with_reducible refine s_bm ?_ | with_reducible refine s_bm0 ?_
  | ((with_reducible refine' s_tyL ?ty1 ?_); (case ty1 => walk_at "hp"))
  | ((with_reducible refine' s_append ?ap1 ?ap2 ?_); (case ap1 => walk_at "hp"); (case ap2 => walk_at "sz"))
  | ((with_reducible refine' s_extend ?ap1 ?ap2 ?ap3 ?_); (case ap1 => walk_at "hp"); (case ap2 => walk_at "hp"); (case ap3 => walk_at "sz"))
  | with_reducible refine s_for (fun _ _ => ?_) | with_reducible refine s_lc ?_ | with_reducible refine s_iList ?_ | with_reducible refine s_iTup ?_ | with_reducible refine s_iRng1 ?_ | with_reducible refine s_iRng2 ?_
  | with_reducible refine s_yes ?_ | with_reducible refine s_par ?_
  | with_reducible refine s_make ?_ | with_reducible refine s_meth ?_
  | with_reducible refine s_tup ?_ | with_reducible refine s_lst ?_ | with_reducible refine s_call ?_
  | with_reducible refine ⟨rfl, ?_⟩
  | with_reducible refine ⟨_, rfl, ?_⟩
  | ((with_reducible refine' ⟨_, _, rfl, ?sd1, ?_⟩); (case sd1 => walk_at "sd"))
  | with_reducible refine ⟨_, _, rfl, ?_⟩
  | with_reducible refine .inl ⟨_, rfl, ?_⟩
  | dsimp only [List.set]
  | walk_at "rdx"
  | (refine fun _ _ => ?_))
local macro_rules | `(tactic| walk_at "rd") => `(tactic| repeat (first
  | (with_reducible show tVar _ _ _ _); refine s_var rfl ?_
  | with_reducible refine s_c ?_ | with_reducible refine s_op ?_ | with_reducible refine s_un ?_
  | with_reducible refine s_cons ?_ | with_reducible refine s_nil ?_ | with_reducible refine s_cb ?_
  | with_reducible refine s_test ?_ | with_reducible refine s_B ?_ | with_reducible refine s_not ?_ | with_reducible refine s_and ?_ | with_reducible refine s_or ?_
  | with_reducible refine s_if ?_ | with_reducible refine s_notV ?_ | with_reducible refine s_andV ?_ | with_reducible refine s_orV ?_
  | with_reducible refine s_orT ?_ | with_reducible refine s_andT ?_ | with_reducible refine s_chain ?_
  | with_reducible refine s_isi_int ?_ | with_reducible refine s_isi_int_bool ?_ | with_reducible refine s_isi_str ?_
  | with_reducible refine iteT ?_ | with_reducible refine iteF ?_ | with_reducible refine iteNT ?_ | with_reducible refine iteNF ?_
  | with_reducible refine s_isN ?_ | with_reducible refine s_notN ?_
  | ((with_reducible refine' s_2setE ?g1 ?_); (case g1 => first | (dsimp only [List.set, L2.wipe, List.map, List.foldl]; done) | (dsimp only [List.set, L2.wipe, List.map, List.foldl]; rfl)))
  | with_reducible refine s_seq ?_ | with_reducible refine s_ifS ?_ | with_reducible refine s_asg ?_ | with_reducible refine s_ret ?_ | with_reducible refine s_drop ?_ | with_reducible refine s_next ?_
  | ((with_reducible refine' s_gnameE ?g1 ?_); (case g1 => first | (dsimp only [List.set, L2.wipe, List.map, List.foldl]; done) | (dsimp only [List.set, L2.wipe, List.map, List.foldl]; rfl)))
  | with_reducible refine s_gsub ?_ | with_reducible refine s_gcons ?_ | with_reducible refine s_gnil ?_
  | (with_reducible show gTup _ _ _ _ _ _ _); refine s_gtup (by walk_at "hp") rfl ?_
  | with_reducible refine s_eqI ?_ | with_reducible refine s_neI ?_ | with_reducible refine s_eqS ?_ | with_reducible refine s_neB ?_ | with_reducible refine s_eqB ?_ | with_reducible refine s_neSr ?_ | with_reducible refine s_neS ?_
  | with_reducible refine s_I0 ?_
  | (with_reducible show rI _ _ _ _ _ _); refine s_I (by walk_at "sd") ?_
  | (with_reducible show rIxL _ _ _ _ _); refine s_ixL (by walk_at "hp") rfl ?_
  | (with_reducible show rIxT _ _ _ _ _); refine s_ixT (by walk_at "hp") rfl ?_
  | (with_reducible show rSetL _ _ _ _ _); refine s_setL (by walk_at "hp") rfl ?_
  | with_reducible refine s_prop ?_
  | (with_reducible show _ ≤ sizeLine ∧ _); refine ⟨le_size (by rfl), ?_⟩
  | with_reducible refine ite_NN ?_ | with_reducible refine ite_IN ?_ | with_reducible refine ite_nNN ?_ | with_reducible refine ite_nIN ?_ | with_reducible refine ite_RN ?_ | with_reducible refine ite_nRN ?_
  | with_reducible refine s_sfld ?_
  | ((with_reducible refine' ⟨_, _, _, _, rfl, ?fp1, ?fp2, ?fp3, ?fp4, ?_⟩); (case fp1 => walk_at "hp"); (case fp2 => assumption); (case fp3 => assumption); (case fp4 => walk_at "few"))
  | with_reducible refine s_fldE ?_
  | ((with_reducible refine' ⟨_, _, _, _, _, rfl, ?fp1, ?fp2, ?fp3, ?fp4, ?_⟩); (case fp1 => walk_at "hp"); (case fp2 => assumption); (case fp3 => assumption); (case fp4 => rfl))
  | with_reducible refine s_bm ?_ | with_reducible refine s_bm0 ?_
  | ((with_reducible refine' s_tyL ?ty1 ?_); (case ty1 => walk_at "hp"))
  | ((with_reducible refine' s_append ?ap1 ?ap2 ?_); (case ap1 => walk_at "hp"); (case ap2 => walk_at "sz"))
  | ((with_reducible refine' s_extend ?ap1 ?ap2 ?ap3 ?_); (case ap1 => walk_at "hp"); (case ap2 => walk_at "hp"); (case ap3 => walk_at "sz"))
  | with_reducible refine s_for (fun _ _ => ?_) | with_reducible refine s_lc ?_ | with_reducible refine s_iList ?_ | with_reducible refine s_iTup ?_ | with_reducible refine s_iRng1 ?_ | with_reducible refine s_iRng2 ?_
  | with_reducible refine s_yes ?_ | with_reducible refine s_par ?_
  | with_reducible refine s_make ?_ | with_reducible refine s_meth ?_
  | with_reducible refine s_tup ?_ | with_reducible refine s_lst ?_ | with_reducible refine s_call ?_
  | with_reducible refine ⟨rfl, ?_⟩
  | with_reducible refine ⟨_, rfl, ?_⟩
  | ((with_reducible refine' ⟨_, _, rfl, ?sd1, ?_⟩); (case sd1 => walk_at "sd"))
  | with_reducible refine ⟨_, _, rfl, ?_⟩
  | with_reducible refine .inl ⟨_, rfl, ?_⟩
  | dsimp only [List.set]
  | walk_at "rdx"
  | (refine fun _ _ => ?_)))

namespace My
open PySem L2
section
variable {P : Program} {w : World} {K : PySem.W.Frag} {mg : Str → Option Value} {base : Heap} {C_Many C_Table T_LINES T_ENDS : Addr} (M : Md K mg C_Many C_Table T_LINES T_ENDS)
include M
omit M
def lineB (n a p : Int) (q : Option Int) (b r : Int) (s : Option Int) : Bool := if n = 0 then lin0 a p b s else if n = 1 then lin0 b r a q else if n = 2 then lin2 a p b else lin2 b r a
/-- sizes and numbers of partners as they are asked for -/
structure Szs (a p : Int) (q : Option Int) (b r : Int) (s : Option Int) : Prop where
  sa : Sm 250 a
  sb : Sm 250 b
  sp : Sm 70 p
  sq : ∀ x, q = some x → Sm 70 x
  sr : Sm 70 r
  ss : ∀ x, s = some x → Sm 70 x
  a0 : 0 ≤ a
  b0 : 0 ≤ b
def spLine (C : Addr) : Sp := fun vs H Q _ => ∃ (n a : Int) (x : Addr) (b : Int) (y : Addr) (p : Int) (q : Option Int) (r : Int) (s : Option Int), vs = [.int n, .int a, .ref x, .int b, .ref y] ∧ ManyAt C H x p q ∧ ManyAt C H y r s ∧ Szs a p q b r s ∧ Q (.bl (lineB n a p q b r s)) H
def spWrong (C : Addr) : Sp := fun vs H Q _ => ∃ (a : Int) (x : Addr) (b : Int) (y : Addr) (p : Int) (q : Option Int) (r : Int) (s : Option Int), vs = [.int a, .ref x, .int b, .ref y] ∧ ManyAt C H x p q ∧ ManyAt C H y r s ∧ Szs a p q b r s ∧ (lines a p q b r s = true → Q .non H) ∧ (lines a p q b r s = false → ∀ n, Q (.int n) H)
theorem p_most {C a : Addr} {H : Hp} {lo : Int} {hi : Option Int} {Q : VK} {E : XK} (h : ManyAt C H a lo hi) (q : Q (optV hi) H) : ∃ a' dx fs, V.ref a = .ref a' ∧ H a' = some (.ins C dx fs) ∧ spMost C (.ref a' :: []) H Q E := by
  obtain ⟨dx, t, e⟩ := h
  exact ⟨a, dx, _, rfl, e, a, lo, hi, rfl, ⟨dx, t, e⟩, q⟩
theorem p_least {C a : Addr} {H : Hp} {lo : Int} {hi : Option Int} {Q : VK} {E : XK} (h : ManyAt C H a lo hi) (q : Q (.int lo) H) : ∃ a' dx fs, V.ref a = .ref a' ∧ H a' = some (.ins C dx fs) ∧ spLeast C (.ref a' :: []) H Q E := by
  obtain ⟨dx, t, e⟩ := h
  exact ⟨a, dx, _, rfl, e, a, lo, hi, rfl, ⟨dx, t, e⟩, q⟩
local macro_rules | `(tactic| walk_at "rdx") => `(tactic| first | with_reducible refine p_most (by assumption) ?_ | with_reducible refine p_least (by assumption) ?_)
include M
theorem c_is_line_true : Dn P w K mg base "is_line_true" 3 ["line", "near", "near_many", "far", "far_many"] [] (spLine C_Many) := by
  have c_Many_most := c_Many_most (P := P) (w := w) (base := base) M
  have c_Many_least := c_Many_least (P := P) (w := w) (base := base) M
  refine dnN M.f_is_line_true (fun F => ?_) (fun _ _ _ _ _ _ us hl => match us, hl with | [_, _, _, _, _], _ => rfl)
  refine fnG_body F sc_is_line_true (fun vs H Q E h => ?_) (fun cdv A outer s H vs Q E hr h => ?_)
  · obtain ⟨n, a, x, b, y, p, q, r, s, rfl, _⟩ := h
    rfl
  · obtain ⟨n, a, x, b, y, p, q, r, s, rfl, hx, hy, z, k⟩ := h
    have za := z.sa
    have zb := z.sb
    have zp := z.sp
    have zr := z.sr
    have m1 : CMulW a p := za.cmul zp
    have m2 : CMulW b r := zb.cmul zr
    have m3 : ∀ x, s = some x → CMulW b x := fun x e => zb.cmul (z.ss x e)
    have m4 : ∀ x, q = some x → CMulW a x := fun x e => za.cmul (z.sq x e)
    refine ⟨_, (pss_cons (ps_if (pt_cmpR op_eq (pv 0) pe_int (nomark _)) (pss_one (ps_ret (pe_or (pe_cmpR op_isN (pe_propD c_Many_most (pv 4) (hr.mono (by decide)) rfl) pe_non (nomark _)) (pe_one (pe_cmpR op_le (pe_op op_mulW (pv 1) (pe_propD c_Many_least (pv 2) (hr.mono (by decide)) rfl)) (pe_op op_mulW (pv 3) (pe_propD c_Many_most (pv 4) (hr.mono (by decide)) rfl)) (nomark _)))))) pss_nil) (pss_cons (ps_if (pt_cmpR op_eq (pv 0) pe_int (nomark _)) (pss_one (ps_ret (pe_or (pe_cmpR op_isN (pe_propD c_Many_most (pv 2) (hr.mono (by decide)) rfl) pe_non (nomark _)) (pe_one (pe_cmpR op_le (pe_op op_mulW (pv 3) (pe_propD c_Many_least (pv 4) (hr.mono (by decide)) rfl)) (pe_op op_mulW (pv 1) (pe_propD c_Many_most (pv 2) (hr.mono (by decide)) rfl)) (nomark _)))))) pss_nil) (pss_cons (ps_if (pt_cmpR op_eq (pv 0) pe_int (nomark _)) (pss_one (ps_ret (pe_or (pe_cmpR op_eq (pv 1) pe_int (nomark _)) (pe_one (pe_cmpR op_ge (pv 3) (pe_propD c_Many_least (pv 2) (hr.mono (by decide)) rfl) (nomark _)))))) pss_nil) (pss_one (ps_ret (pe_or (pe_cmpR op_eq (pv 3) pe_int (nomark _)) (pe_one (pe_cmpR op_ge (pv 1) (pe_propD c_Many_least (pv 4) (hr.mono (by decide)) rfl) (nomark _))))))))), ?_⟩
    refine st_eq (σ := [some _, some _, some _, some _, some _]) rfl ?_
    walk_at "rd"
    refine ite_d (fun e => ?_) (fun e0 => ?_)
    · cases e
      walk_at "rd"
      cases s with
      | none =>
        walk_at "rd"
        exact k
      | some s =>
        have := m3 _ rfl
        walk_at "rd"
        exact k
    walk_at "rd"
    refine ite_d (fun e => ?_) (fun e1 => ?_)
    · cases e
      walk_at "rd"
      cases q with
      | none =>
        walk_at "rd"
        exact k
      | some s =>
        have := m4 _ rfl
        walk_at "rd"
        exact k
    walk_at "rd"
    refine ite_d (fun e => ?_) (fun e2 => ?_)
    · cases e
      walk_at "rd"
      have k' : Q (V.bl (lin2 a p b)) H := k
      unfold lin2 at k'
      refine ite_d (fun e => ?_) (fun e => ?_)
      · rw [decide_eq_true e] at k'
        exact k'
      · rw [decide_eq_false e] at k'
        walk_at "rd"
        exact k'
    · walk_at "rd"
      have k' : Q (V.bl (lin2 b r a)) H := by
        unfold lineB at k
        rw [if_neg e0, if_neg e1, if_neg e2] at k
        exact k
      unfold lin2 at k'
      refine ite_d (fun e => ?_) (fun e => ?_)
      · rw [decide_eq_true e] at k'
        exact k'
      · rw [decide_eq_false e] at k'
        walk_at "rd"
        exact k'
omit M in
theorem lines_of {a p : Int} {q : Option Int} {b r : Int} {s : Option Int} (h0 : lineB 0 a p q b r s = true) (h1 : lineB 1 a p q b r s = true) (h2 : lineB 2 a p q b r s = true) (h3 : lineB 3 a p q b r s = true) : lines a p q b r s = true := by
  have e0 : lin0 a p b s = true := h0
  have e1 : lin0 b r a q = true := h1
  have e2 : lin2 a p b = true := h2
  have e3 : lin2 b r a = true := h3
  unfold lines
  rw [e0, e1, e2, e3]
  rfl
omit M in
theorem lineB_of {a p : Int} {q : Option Int} {b r : Int} {s : Option Int} (h : lines a p q b r s = true) (i : Nat) (hi : i < 4) : lineB i a p q b r s = true := by
  unfold lines at h
  simp only [Bool.and_eq_true] at h
  match i, hi with
  | 0, _ => exact h.1.1.1
  | 1, _ => exact h.1.1.2
  | 2, _ => exact h.1.2
  | 3, _ => exact h.2
omit M in
theorem xs4 {x : V} {i : Nat} (h : [V.int 0, V.int 1, V.int 2, V.int 3][i]? = some x) : x = .int i := by
  match i, h with
  | 0, h => exact (Option.some.inj h).symm
  | 1, h => exact (Option.some.inj h).symm
  | 2, h => exact (Option.some.inj h).symm
  | 3, h => exact (Option.some.inj h).symm
  | n + 4, h => cases h
theorem c_wrong_line : Dn P w K mg base "wrong_line" 4 ["near", "near_many", "far", "far_many"] [] (spWrong C_Many) := by
  have c_is_line_true := c_is_line_true (P := P) (w := w) (base := base) M
  refine dnN M.f_wrong_line (fun F => ?_) (fun _ _ _ _ _ _ us hl => match us, hl with | [_, _, _, _], _ => rfl)
  refine fnG_body F sc_wrong_line (fun vs H Q E h => ?_) (fun cdv A outer s H vs Q E hr h => ?_)
  · obtain ⟨a, x, b, y, p, q, r, s, rfl, _⟩ := h
    rfl
  · obtain ⟨a, x, b, y, p, q, r, s, rfl, hx, hy, z, k0, k1⟩ := h
    refine ⟨_, (pss_cons (ps_for (passes_of rfl) rfl (pi_tup (pe_glob (v := .ref T_LINES) rfl M.g_LINES rfl)) (pg_name (i := 4) sc_wrong_line.nd rfl (.inl rfl)) (pss_one (ps_if (pt_not (pt_val (pe_callD c_is_line_true (hr.mono (by decide)) rfl (pa_cons (pv 4) (pa_cons (pv 0) (pa_cons (pv 1) (pa_cons (pv 2) (pa_cons (pv 3) pa_nil)))))))) (pss_one (ps_ret (pv 4))) pss_nil))) (pss_one (ps_ret pe_non))), ?_⟩
    refine st_eq (σ := [some _, some _, some _, some _, none]) rfl ?_
    walk_at "rd"
    refine ⟨⟨_, M.q_LINES _⟩, for_tup (K := K) (a := T_LINES) (xs := [.int 0, .int 1, .int 2, .int 3]) (fun i σ H' => H' = H ∧ (∃ v, σ = [some (.int a), some (.ref x), some (.int b), some (.ref y), v]) ∧ ∀ j : Nat, j < i → lineB j a p q b r s = true) ?_ ?_ ?_ ?_⟩
    · exact ⟨rfl, ⟨_, rfl⟩, fun j h => absurd h (Nat.not_lt_zero _)⟩
    · intro i σ H' _ _
      exact M.q_LINES _
    · subst_vars
      rintro i v σ H' hi ⟨rfl, ⟨u, rfl⟩, hj⟩
      have e := xs4 hi
      subst e
      walk_at "rd"
      refine ⟨_, a, x, b, y, p, q, r, s, rfl, hx, hy, z, ?_⟩
      walk_at "rd"
      refine ite_nb (fun e => ?_) (fun e => ?_)
      · walk_at "rd"
        refine k1 ?_ _
        have hi4 : i < 4 := (List.getElem?_eq_some_iff.mp hi).1
        cases el : lines a p q b r s with
        | false => rfl
        | true =>
          have := lineB_of el i hi4
          rw [e] at this
          cases this
      · walk_at "rd"
        refine ⟨⟨_, rfl⟩, fun j hj' => ?_⟩
        rcases Nat.lt_succ_iff_lt_or_eq.mp hj' with h | h
        · exact hj j h
        · rw [h]
          exact e
    · subst_vars
      rintro σ H' ⟨rfl, ⟨u, rfl⟩, hj⟩
      walk_at "rd"
      exact k0 (lines_of (hj 0 (by decide)) (hj 1 (by decide)) (hj 2 (by decide)) (hj 3 (by decide)))
end
end My

open My L2 PySem
open My L2 PySem
local macro_rules | `(tactic| walk_at "as") => `(tactic| with_reducible assumption)
local macro_rules | `(tactic| walk_at "hp") => `(tactic| first
  | walk_at "as" | exact upd_same
  | (rw [upd_ne (by walk_at "ne")]; walk_at "hp")
  | (refine But.get (by walk_at "as") ?hp1 ?hp2; (case hp1 => walk_at "hp"); (case hp2 => walk_at "ne"))
  | (refine My.Same.get (by walk_at "as") ?hp1; (case hp1 => walk_at "hp")))
local macro_rules | `(tactic| walk_at "ne") => `(tactic| first
  | walk_at "as" | exact Ne.symm (by walk_at "as")
  | (refine' ne_of_none ?ne1 ?ne2; (case ne2 => walk_at "as"); (case ne1 => walk_at "hp"))
  | (refine' Ne.symm (ne_of_none ?ne1 ?ne2); (case ne2 => walk_at "as"); (case ne1 => walk_at "hp"))
  | exact ne_of (by walk_at "hp") (by walk_at "hp") (by intro z; cases z))
local macro_rules | `(tactic| walk_at "sd") => `(tactic| first
  | walk_at "as" | omega | decide | exact ⟨by omega, by omega⟩ | exact .inl ⟨by omega, by omega⟩ | exact .inr ⟨by omega, by omega⟩ | exact divp_wide (by walk_at "as") (by walk_at "as") | exact Sm.cmul (by walk_at "as") (by walk_at "as") | exact cmul_small (by omega) (by omega) (by omega) (by omega) | exact ⟨by omega, by decide⟩)
local macro_rules | `(tactic| walk_at "bt") => `(tactic| first
  | walk_at "as" | exact But.refl _ _ | exact Same.but (by walk_at "as")
  | (refine But.trans ?bt1 But.at; (case bt1 => walk_at "bt"))
  | (refine But.trans ?bt1 (But.new (by first | walk_at "as" | walk_at "hp")); (case bt1 => walk_at "bt"))
  | (refine But.trans ?bt1 (by walk_at "as"); (case bt1 => walk_at "bt"))
  | (refine But.trans ?bt1 (Same.but (by walk_at "as")); (case bt1 => walk_at "bt")))
local macro_rules | `(tactic| walk_at "sm") => `(tactic| first
  | walk_at "as" | exact My.Same.rfl' _
  | (refine' My.Same.at_ ?sm1 ?sm2; (case sm1 => walk_at "as"); (case sm2 => walk_at "sm"))
  | (refine' My.Same.tr ?sm1 (My.Same.new ?sm2); (case sm2 => walk_at "as"); (case sm1 => walk_at "sm"))
  | (refine' My.Same.tr ?sm1 ?sm2; (case sm2 => walk_at "as"); (case sm1 => walk_at "sm")))
local macro_rules | `(tactic| walk_at "sz") => `(tactic| first
  | assumption | exact lt_size (by rfl) | exact le_size (by rfl) | (rw [sizeLine_eq]; omega)
  | (rw [sizeLine_eq]; simp only [List.length_append, List.length_map, List.length_cons, List.length_nil]; omega))
local macro_rules | `(tactic| walk_at "few") => `(tactic| (repeat refine few_put ?_); exact few0)
local macro_rules | `(tactic| walk_at "rd1") => `(tactic| first
  | (with_reducible show tVar _ _ _ _); refine s_var rfl ?_
  | with_reducible refine s_c ?_ | with_reducible refine s_op ?_ | with_reducible refine s_un ?_
  | with_reducible refine s_cons ?_ | with_reducible refine s_nil ?_ | with_reducible refine s_cb ?_
  | with_reducible refine s_test ?_ | with_reducible refine s_B ?_ | with_reducible refine s_not ?_ | with_reducible refine s_and ?_ | with_reducible refine s_or ?_
  | with_reducible refine s_if ?_ | with_reducible refine s_notV ?_ | with_reducible refine s_andV ?_ | with_reducible refine s_orV ?_
  | with_reducible refine s_orT ?_ | with_reducible refine s_andT ?_ | with_reducible refine s_chain ?_
  | with_reducible refine s_isi_int ?_ | with_reducible refine s_isi_int_bool ?_ | with_reducible refine s_isi_str ?_
  | with_reducible refine iteT ?_ | with_reducible refine iteF ?_ | with_reducible refine iteNT ?_ | with_reducible refine iteNF ?_
  | with_reducible refine s_isN ?_ | with_reducible refine s_notN ?_
  | ((with_reducible refine' s_2setE ?g1 ?_); (case g1 => first | (dsimp only [List.set, L2.wipe, List.map, List.foldl]; done) | (dsimp only [List.set, L2.wipe, List.map, List.foldl]; rfl)))
  | with_reducible refine s_seq ?_ | with_reducible refine s_ifS ?_ | with_reducible refine s_asg ?_ | with_reducible refine s_ret ?_ | with_reducible refine s_drop ?_ | with_reducible refine s_next ?_
  | ((with_reducible refine' s_gnameE ?g1 ?_); (case g1 => first | (dsimp only [List.set, L2.wipe, List.map, List.foldl]; done) | (dsimp only [List.set, L2.wipe, List.map, List.foldl]; rfl)))
  | with_reducible refine s_gsub ?_ | with_reducible refine s_gcons ?_ | with_reducible refine s_gnil ?_
  | (with_reducible show gTup _ _ _ _ _ _ _); refine s_gtup (by walk_at "hp") rfl ?_
  | with_reducible refine s_eqI ?_ | with_reducible refine s_neI ?_ | with_reducible refine s_eqS ?_ | with_reducible refine s_neB ?_ | with_reducible refine s_eqB ?_ | with_reducible refine s_neSr ?_ | with_reducible refine s_neS ?_
  | with_reducible refine s_I0 ?_
  | (with_reducible show rI _ _ _ _ _ _); refine s_I (by walk_at "sd") ?_
  | (with_reducible show rIxL _ _ _ _ _); refine s_ixL (by walk_at "hp") rfl ?_
  | (with_reducible show rIxT _ _ _ _ _); refine s_ixT (by walk_at "hp") rfl ?_
  | (with_reducible show rSetL _ _ _ _ _); refine s_setL (by walk_at "hp") rfl ?_
  | with_reducible refine s_prop ?_
  | (with_reducible show _ ≤ sizeLine ∧ _); refine ⟨le_size (by rfl), ?_⟩
  | with_reducible refine ite_NN ?_ | with_reducible refine ite_IN ?_ | with_reducible refine ite_nNN ?_ | with_reducible refine ite_nIN ?_ | with_reducible refine ite_RN ?_ | with_reducible refine ite_nRN ?_
  | with_reducible refine s_sfld ?_
  | ((with_reducible refine' ⟨_, _, _, _, rfl, ?fp1, ?fp2, ?fp3, ?fp4, ?_⟩); (case fp1 => walk_at "hp"); (case fp2 => assumption); (case fp3 => assumption); (case fp4 => walk_at "few"))
  | with_reducible refine s_fldE ?_
  | ((with_reducible refine' ⟨_, _, _, _, _, rfl, ?fp1, ?fp2, ?fp3, ?fp4, ?_⟩); (case fp1 => walk_at "hp"); (case fp2 => assumption); (case fp3 => assumption); (case fp4 => rfl))
  | with_reducible refine s_bm ?_ | with_reducible refine s_bm0 ?_
  | ((with_reducible refine' s_tyL ?ty1 ?_); (case ty1 => walk_at "hp"))
  | ((with_reducible refine' s_append ?ap1 ?ap2 ?_); (case ap1 => walk_at "hp"); (case ap2 => walk_at "sz"))
  | ((with_reducible refine' s_extend ?ap1 ?ap2 ?ap3 ?_); (case ap1 => walk_at "hp"); (case ap2 => walk_at "hp"); (case ap3 => walk_at "sz"))
  | with_reducible refine s_for (fun _ _ => ?_) | with_reducible refine s_lc ?_ | with_reducible refine s_iList ?_ | with_reducible refine s_iTup ?_ | with_reducible refine s_iRng1 ?_ | with_reducible refine s_iRng2 ?_
  | with_reducible refine s_yes ?_ | with_reducible refine s_par ?_
  | with_reducible refine s_make ?_ | with_reducible refine s_meth ?_
  | with_reducible refine s_tup ?_ | with_reducible refine s_lst ?_ | with_reducible refine s_call ?_
  | with_reducible refine ⟨rfl, ?_⟩
  | with_reducible refine ⟨_, rfl, ?_⟩
  | ((with_reducible refine' ⟨_, _, rfl, ?sd1, ?_⟩); (case sd1 => walk_at "sd"))
  | with_reducible refine ⟨_, _, rfl, ?_⟩
  | with_reducible refine .inl ⟨_, rfl, ?_⟩
  | dsimp only [List.set]
  | walk_at "rdx"
  | (refine fun _ _ => ?_))
local macro_rules | `(tactic| walk_at "rd") => `(tactic| repeat (first
  | (with_reducible show tVar _ _ _ _); refine s_var rfl ?_
  | with_reducible refine s_c ?_ | with_reducible refine s_op ?_ | with_reducible refine s_un ?_
  | with_reducible refine s_cons ?_ | with_reducible refine s_nil ?_ | with_reducible refine s_cb ?_
  | with_reducible refine s_test ?_ | with_reducible refine s_B ?_ | with_reducible refine s_not ?_ | with_reducible refine s_and ?_ | with_reducible refine s_or ?_
  | with_reducible refine s_if ?_ | with_reducible refine s_notV ?_ | with_reducible refine s_andV ?_ | with_reducible refine s_orV ?_
  | with_reducible refine s_orT ?_ | with_reducible refine s_andT ?_ | with_reducible refine s_chain ?_
  | with_reducible refine s_isi_int ?_ | with_reducible refine s_isi_int_bool ?_ | with_reducible refine s_isi_str ?_
  | with_reducible refine iteT ?_ | with_reducible refine iteF ?_ | with_reducible refine iteNT ?_ | with_reducible refine iteNF ?_
  | with_reducible refine s_isN ?_ | with_reducible refine s_notN ?_
  | ((with_reducible refine' s_2setE ?g1 ?_); (case g1 => first | (dsimp only [List.set, L2.wipe, List.map, List.foldl]; done) | (dsimp only [List.set, L2.wipe, List.map, List.foldl]; rfl)))
  | with_reducible refine s_seq ?_ | with_reducible refine s_ifS ?_ | with_reducible refine s_asg ?_ | with_reducible refine s_ret ?_ | with_reducible refine s_drop ?_ | with_reducible refine s_next ?_
  | ((with_reducible refine' s_gnameE ?g1 ?_); (case g1 => first | (dsimp only [List.set, L2.wipe, List.map, List.foldl]; done) | (dsimp only [List.set, L2.wipe, List.map, List.foldl]; rfl)))
  | with_reducible refine s_gsub ?_ | with_reducible refine s_gcons ?_ | with_reducible refine s_gnil ?_
  | (with_reducible show gTup _ _ _ _ _ _ _); refine s_gtup (by walk_at "hp") rfl ?_
  | with_reducible refine s_eqI ?_ | with_reducible refine s_neI ?_ | with_reducible refine s_eqS ?_ | with_reducible refine s_neB ?_ | with_reducible refine s_eqB ?_ | with_reducible refine s_neSr ?_ | with_reducible refine s_neS ?_
  | with_reducible refine s_I0 ?_
  | (with_reducible show rI _ _ _ _ _ _); refine s_I (by walk_at "sd") ?_
  | (with_reducible show rIxL _ _ _ _ _); refine s_ixL (by walk_at "hp") rfl ?_
  | (with_reducible show rIxT _ _ _ _ _); refine s_ixT (by walk_at "hp") rfl ?_
  | (with_reducible show rSetL _ _ _ _ _); refine s_setL (by walk_at "hp") rfl ?_
  | with_reducible refine s_prop ?_
  | (with_reducible show _ ≤ sizeLine ∧ _); refine ⟨le_size (by rfl), ?_⟩
  | with_reducible refine ite_NN ?_ | with_reducible refine ite_IN ?_ | with_reducible refine ite_nNN ?_ | with_reducible refine ite_nIN ?_ | with_reducible refine ite_RN ?_ | with_reducible refine ite_nRN ?_
  | with_reducible refine s_sfld ?_
  | ((with_reducible refine' ⟨_, _, _, _, rfl, ?fp1, ?fp2, ?fp3, ?fp4, ?_⟩); (case fp1 => walk_at "hp"); (case fp2 => assumption); (case fp3 => assumption); (case fp4 => walk_at "few"))
  | with_reducible refine s_fldE ?_
  | ((with_reducible refine' ⟨_, _, _, _, _, rfl, ?fp1, ?fp2, ?fp3, ?fp4, ?_⟩); (case fp1 => walk_at "hp"); (case fp2 => assumption); (case fp3 => assumption); (case fp4 => rfl))
  | with_reducible refine s_bm ?_ | with_reducible refine s_bm0 ?_
  | ((with_reducible refine' s_tyL ?ty1 ?_); (case ty1 => walk_at "hp"))
  | ((with_reducible refine' s_append ?ap1 ?ap2 ?_); (case ap1 => walk_at "hp"); (case ap2 => walk_at "sz"))
  | ((with_reducible refine' s_extend ?ap1 ?ap2 ?ap3 ?_); (case ap1 => walk_at "hp"); (case ap2 => walk_at "hp"); (case ap3 => walk_at "sz"))
  | with_reducible refine s_for (fun _ _ => ?_) | with_reducible refine s_lc ?_ | with_reducible refine s_iList ?_ | with_reducible refine s_iTup ?_ | with_reducible refine s_iRng1 ?_ | with_reducible refine s_iRng2 ?_
  | with_reducible refine s_yes ?_ | with_reducible refine s_par ?_
  | with_reducible refine s_make ?_ | with_reducible refine s_meth ?_
  | with_reducible refine s_tup ?_ | with_reducible refine s_lst ?_ | with_reducible refine s_call ?_
  | with_reducible refine ⟨rfl, ?_⟩
  | with_reducible refine ⟨_, rfl, ?_⟩
  | ((with_reducible refine' ⟨_, _, rfl, ?sd1, ?_⟩); (case sd1 => walk_at "sd"))
  | with_reducible refine ⟨_, _, rfl, ?_⟩
  | with_reducible refine .inl ⟨_, rfl, ?_⟩
  | dsimp only [List.set]
  | walk_at "rdx"
  | (refine fun _ _ => ?_)))

namespace My
open PySem L2
section
variable {P : Program} {w : World} {K : PySem.W.Frag} {mg : Str → Option Value} {base : Heap} {C_Many C_Table T_LINES T_ENDS : Addr} (M : Md K mg C_Many C_Table T_LINES T_ENDS)
include M
omit M
def TotV (H : Hp) (v : V) : Option (Int × Int) → Prop
  | none => v = .non
  | some x => ∃ T : Addr, v = .ref T ∧ H T = some (.tup [.int x.1, .int x.2])
def spTot (C : Addr) : Sp := fun vs H Q _ => ∃ (a : Int) (x : Addr) (b : Int) (y : Addr) (p : Int) (q : Option Int) (r : Int) (s : Option Int), vs = [.int a, .ref x, .int b, .ref y] ∧ ManyAt C H x p q ∧ ManyAt C H y r s ∧ Szs a p q b r s ∧
  ∀ t v H', Tot a p q b r s t → Same H H' → TotV H' v t → Q v H'
theorem q_most {C a dx : Addr} {t : V} {H : Hp} {lo : Int} {hi : Option Int} {Q : VK} {E : XK} (e : H a = some (.ins C dx [("_least", .int lo), ("_most", optV hi), ("_key", t)])) (q : Q (optV hi) H) : ∃ a' dx fs, V.ref a = .ref a' ∧ H a' = some (.ins C dx fs) ∧ spMost C (.ref a' :: []) H Q E :=
  p_most ⟨dx, t, e⟩ q
theorem q_least {C a dx : Addr} {t : V} {H : Hp} {lo : Int} {hi : Option Int} {Q : VK} {E : XK} (e : H a = some (.ins C dx [("_least", .int lo), ("_most", optV hi), ("_key", t)])) (q : Q (.int lo) H) : ∃ a' dx fs, V.ref a = .ref a' ∧ H a' = some (.ins C dx fs) ∧ spLeast C (.ref a' :: []) H Q E :=
  p_least ⟨dx, t, e⟩ q
local macro_rules | `(tactic| walk_at "rdx") => `(tactic| first
  | ((with_reducible refine' q_most ?x1 ?_); (case x1 => walk_at "hp"))
  | ((with_reducible refine' q_least ?x1 ?_); (case x1 => walk_at "hp"))
  | (with_reducible show spChkC _ _ _ _); refine ⟨_, rfl, by assumption, ?_⟩
  | (with_reducible show spChkM _ _ _ _ _); refine ⟨_, _, _, rfl, by assumption, ?_⟩)
include M
theorem c_totals : Dn P w K mg base "totals" 5 ["near", "near_many", "far", "far_many"] [] (spTot C_Many) := by
  have c_wrong_line := c_wrong_line (P := P) (w := w) (base := base) M
  have c_check_count := c_check_count (P := P) (w := w) (base := base) M
  have c__check_many := c__check_many (P := P) (w := w) (base := base) M
  have c_Many_most := c_Many_most (P := P) (w := w) (base := base) M
  have c_Many_least := c_Many_least (P := P) (w := w) (base := base) M
  refine dnN M.f_totals (fun F => ?_) (fun _ _ _ _ _ _ us hl => match us, hl with | [_, _, _, _], _ => rfl)
  refine fnG_body F sc_totals (fun vs H Q E h => ?_) (fun cdv A outer s H vs Q E hr h => ?_)
  · obtain ⟨a, x, b, y, p, q, r, s, rfl, _⟩ := h
    rfl
  · obtain ⟨a, x, b, y, p, q, r, s, rfl, hx, hy, z, k⟩ := h
    have za := z.sa
    have zb := z.sb
    have zp := z.sp
    have zr := z.sr
    have a0 := z.a0
    have b0 := z.b0
    have m1 : CMulW a p := za.cmul zp
    have m2 : CMulW b r := zb.cmul zr
    have m5 : CMulW a b := za.cmul zb
    have m3 : ∀ x, s = some x → CMulW b x := fun x e => zb.cmul (z.ss x e)
    have m4 : ∀ x, q = some x → CMulW a x := fun x e => za.cmul (z.sq x e)
    refine ⟨_, (pss_cons (ps_expr (pe_callD c_check_count (hr.mono (by decide)) rfl (pa_cons (pv 0) pa_nil))) (pss_cons (ps_expr (pe_callD c__check_many (hr.mono (by decide)) rfl (pa_cons (pv 1) pa_nil))) (pss_cons (ps_expr (pe_callD c_check_count (hr.mono (by decide)) rfl (pa_cons (pv 2) pa_nil))) (pss_cons (ps_expr (pe_callD c__check_many (hr.mono (by decide)) rfl (pa_cons (pv 3) pa_nil))) (pss_cons (ps_if (pt_cmpR op_notN (pe_callD c_wrong_line (hr.mono (by decide)) rfl (pa_cons (pv 0) (pa_cons (pv 1) (pa_cons (pv 2) (pa_cons (pv 3) pa_nil))))) pe_non (nomark _)) (pss_one (ps_ret pe_non)) pss_nil) (pss_cons (ps_set (i := 4) sc_totals.nd rfl (.inl rfl) (pe_callB (call_max2 rfl) (by rfl) M.b_max (by decide +kernel) (pa_cons (pe_op op_mulW (pv 0) (pe_propD c_Many_least (pv 1) (hr.mono (by decide)) rfl)) (pa_cons (pe_op op_mulW (pv 2) (pe_propD c_Many_least (pv 3) (hr.mono (by decide)) rfl)) pa_nil)))) (pss_cons (ps_set (i := 5) sc_totals.nd rfl (.inl rfl) (pe_lst (pa_cons (pe_op op_mulW (pv 0) (pv 2)) pa_nil))) (pss_cons (ps_if (pt_cmpR op_notN (pe_propD c_Many_most (pv 1) (hr.mono (by decide)) rfl) pe_non (nomark _)) (pss_one (ps_expr (pe_bm PySem.F.plainAttrs_list PySem.F.slot_list_append PySem.F.type_list_append mt_append (pv 5) (pa_cons (pe_op op_mulW (pv 0) (pe_propD c_Many_most (pv 1) (hr.mono (by decide)) rfl)) pa_nil)))) pss_nil) (pss_cons (ps_if (pt_cmpR op_notN (pe_propD c_Many_most (pv 3) (hr.mono (by decide)) rfl) pe_non (nomark _)) (pss_one (ps_expr (pe_bm PySem.F.plainAttrs_list PySem.F.slot_list_append PySem.F.type_list_append mt_append (pv 5) (pa_cons (pe_op op_mulW (pv 2) (pe_propD c_Many_most (pv 3) (hr.mono (by decide)) rfl)) pa_nil)))) pss_nil) (pss_one (ps_ret (pe_tup (pa_cons (pv 4) (pa_cons (pe_callB (cr_min rfl) (by rfl) M.b_min (by decide +kernel) (pa_cons (pv 5) pa_nil)) pa_nil)))))))))))))), ?_⟩
    refine st_eq (σ := [some _, some _, some _, some _, none, none]) rfl ?_
    walk_at "rd"
    refine ⟨a, x, b, y, p, q, r, s, rfl, hx, hy, z, fun e => ?_, fun e n => ?_⟩
    · obtain ⟨dx, tx, ex⟩ := id hx
      obtain ⟨dy, ty, ey⟩ := id hy
      cases q with
      | none =>
        cases s with
        | none =>
          walk_at "rd"
          refine ⟨_, [a * b], rfl, SqL.of (by walk_at "hp"), by simp, fun m hm hle => ?_⟩
          walk_at "rd"
          exact k (some (lowB a p b r, m)) (.ref _) _ ⟨e, rfl, hm, hle⟩ (by walk_at "sm") ⟨_, rfl, upd_same⟩
        | some s =>
          have m3' := m3 s rfl
          walk_at "rd"
          refine ⟨_, [a * b, b * s], rfl, SqL.of (by walk_at "hp"), by simp, fun m hm hle => ?_⟩
          walk_at "rd"
          exact k (some (lowB a p b r, m)) (.ref _) _ ⟨e, rfl, hm, hle⟩ (by walk_at "sm") ⟨_, rfl, upd_same⟩
      | some q =>
        have m4' := m4 q rfl
        cases s with
        | none =>
          walk_at "rd"
          refine ⟨_, [a * b, a * q], rfl, SqL.of (by walk_at "hp"), by simp, fun m hm hle => ?_⟩
          walk_at "rd"
          exact k (some (lowB a p b r, m)) (.ref _) _ ⟨e, rfl, hm, hle⟩ (by walk_at "sm") ⟨_, rfl, upd_same⟩
        | some s =>
          have m3' := m3 s rfl
          walk_at "rd"
          refine ⟨_, [a * b, a * q, b * s], rfl, SqL.of (by walk_at "hp"), by simp, fun m hm hle => ?_⟩
          walk_at "rd"
          exact k (some (lowB a p b r, m)) (.ref _) _ ⟨e, rfl, hm, hle⟩ (by walk_at "sm") ⟨_, rfl, upd_same⟩
    · walk_at "rd"
      exact k none .non H e (My.Same.rfl' H) rfl
end
end My

open My L2 PySem
open My L2 PySem
local macro_rules | `(tactic| walk_at "as") => `(tactic| with_reducible assumption)
local macro_rules | `(tactic| walk_at "hp") => `(tactic| first
  | walk_at "as" | exact upd_same
  | (rw [upd_ne (by walk_at "ne")]; walk_at "hp")
  | (refine But.get (by walk_at "as") ?hp1 ?hp2; (case hp1 => walk_at "hp"); (case hp2 => walk_at "ne"))
  | (refine My.Same.get (by walk_at "as") ?hp1; (case hp1 => walk_at "hp")))
local macro_rules | `(tactic| walk_at "ne") => `(tactic| first
  | walk_at "as" | exact Ne.symm (by walk_at "as")
  | (refine' ne_of_none ?ne1 ?ne2; (case ne2 => walk_at "as"); (case ne1 => walk_at "hp"))
  | (refine' Ne.symm (ne_of_none ?ne1 ?ne2); (case ne2 => walk_at "as"); (case ne1 => walk_at "hp"))
  | exact ne_of (by walk_at "hp") (by walk_at "hp") (by intro z; cases z))
local macro_rules | `(tactic| walk_at "sd") => `(tactic| first
  | walk_at "as" | omega | decide | exact ⟨by omega, by omega⟩ | exact .inl ⟨by omega, by omega⟩ | exact .inr ⟨by omega, by omega⟩ | exact divp_wide (by walk_at "as") (by walk_at "as") | exact Sm.cmul (by walk_at "as") (by walk_at "as") | exact cmul_small (by omega) (by omega) (by omega) (by omega) | exact ⟨by omega, by decide⟩)
local macro_rules | `(tactic| walk_at "bt") => `(tactic| first
  | walk_at "as" | exact But.refl _ _ | exact Same.but (by walk_at "as")
  | (refine But.trans ?bt1 But.at; (case bt1 => walk_at "bt"))
  | (refine But.trans ?bt1 (But.new (by first | walk_at "as" | walk_at "hp")); (case bt1 => walk_at "bt"))
  | (refine But.trans ?bt1 (by walk_at "as"); (case bt1 => walk_at "bt"))
  | (refine But.trans ?bt1 (Same.but (by walk_at "as")); (case bt1 => walk_at "bt")))
local macro_rules | `(tactic| walk_at "sm") => `(tactic| first
  | walk_at "as" | exact My.Same.rfl' _
  | (refine' My.Same.at_ ?sm1 ?sm2; (case sm1 => walk_at "as"); (case sm2 => walk_at "sm"))
  | (refine' My.Same.tr ?sm1 (My.Same.new ?sm2); (case sm2 => walk_at "as"); (case sm1 => walk_at "sm"))
  | (refine' My.Same.tr ?sm1 ?sm2; (case sm2 => walk_at "as"); (case sm1 => walk_at "sm")))
local macro_rules | `(tactic| walk_at "sz") => `(tactic| first
  | assumption | exact lt_size (by rfl) | exact le_size (by rfl) | (rw [sizeLine_eq]; omega)
  | (rw [sizeLine_eq]; simp only [List.length_append, List.length_map, List.length_cons, List.length_nil]; omega))
local macro_rules | `(tactic| walk_at "few") => `(tactic| (repeat refine few_put ?_); exact few0)
local macro_rules | `(tactic| walk_at "rd1") => `(tactic| first
  | (with_reducible show tVar _ _ _ _); refine s_var rfl ?_
  | with_reducible refine s_c ?_ | with_reducible refine s_op ?_ | with_reducible refine s_un ?_
  | with_reducible refine s_cons ?_ | with_reducible refine s_nil ?_ | with_reducible refine s_cb ?_
  | with_reducible refine s_test ?_ | with_reducible refine s_B ?_ | with_reducible refine s_not ?_ | with_reducible refine s_and ?_ | with_reducible refine s_or ?_
  | with_reducible refine s_if ?_ | with_reducible refine s_notV ?_ | with_reducible refine s_andV ?_ | with_reducible refine s_orV ?_
  | with_reducible refine s_orT ?_ | with_reducible refine s_andT ?_ | with_reducible refine s_chain ?_
  | with_reducible refine s_isi_int ?_ | with_reducible refine s_isi_int_bool ?_ | with_reducible refine s_isi_str ?_
  | with_reducible refine iteT ?_ | with_reducible refine iteF ?_ | with_reducible refine iteNT ?_ | with_reducible refine iteNF ?_
  | with_reducible refine s_isN ?_ | with_reducible refine s_notN ?_
  | ((with_reducible refine' s_2setE ?g1 ?_); (case g1 => first | (dsimp only [List.set, L2.wipe, List.map, List.foldl]; done) | (dsimp only [List.set, L2.wipe, List.map, List.foldl]; rfl)))
  | with_reducible refine s_seq ?_ | with_reducible refine s_ifS ?_ | with_reducible refine s_asg ?_ | with_reducible refine s_ret ?_ | with_reducible refine s_drop ?_ | with_reducible refine s_next ?_
  | ((with_reducible refine' s_gnameE ?g1 ?_); (case g1 => first | (dsimp only [List.set, L2.wipe, List.map, List.foldl]; done) | (dsimp only [List.set, L2.wipe, List.map, List.foldl]; rfl)))
  | with_reducible refine s_gsub ?_ | with_reducible refine s_gcons ?_ | with_reducible refine s_gnil ?_
  | (with_reducible show gTup _ _ _ _ _ _ _); refine s_gtup (by walk_at "hp") rfl ?_
  | with_reducible refine s_eqI ?_ | with_reducible refine s_neI ?_ | with_reducible refine s_eqS ?_ | with_reducible refine s_neB ?_ | with_reducible refine s_eqB ?_ | with_reducible refine s_neSr ?_ | with_reducible refine s_neS ?_
  | with_reducible refine s_I0 ?_
  | (with_reducible show rI _ _ _ _ _ _); refine s_I (by walk_at "sd") ?_
  | (with_reducible show rIxL _ _ _ _ _); refine s_ixL (by walk_at "hp") rfl ?_
  | (with_reducible show rIxT _ _ _ _ _); refine s_ixT (by walk_at "hp") rfl ?_
  | (with_reducible show rSetL _ _ _ _ _); refine s_setL (by walk_at "hp") rfl ?_
  | with_reducible refine s_prop ?_
  | (with_reducible show _ ≤ sizeLine ∧ _); refine ⟨le_size (by rfl), ?_⟩
  | with_reducible refine ite_NN ?_ | with_reducible refine ite_IN ?_ | with_reducible refine ite_nNN ?_ | with_reducible refine ite_nIN ?_ | with_reducible refine ite_RN ?_ | with_reducible refine ite_nRN ?_
  | with_reducible refine s_sfld ?_
  | ((with_reducible refine' ⟨_, _, _, _, rfl, ?fp1, ?fp2, ?fp3, ?fp4, ?_⟩); (case fp1 => walk_at "hp"); (case fp2 => assumption); (case fp3 => assumption); (case fp4 => walk_at "few"))
  | with_reducible refine s_fldE ?_
  | ((with_reducible refine' ⟨_, _, _, _, _, rfl, ?fp1, ?fp2, ?fp3, ?fp4, ?_⟩); (case fp1 => walk_at "hp"); (case fp2 => assumption); (case fp3 => assumption); (case fp4 => rfl))
  | with_reducible refine s_bm ?_ | with_reducible refine s_bm0 ?_
  | ((with_reducible refine' s_tyL ?ty1 ?_); (case ty1 => walk_at "hp"))
  | ((with_reducible refine' s_append ?ap1 ?ap2 ?_); (case ap1 => walk_at "hp"); (case ap2 => walk_at "sz"))
  | ((with_reducible refine' s_extend ?ap1 ?ap2 ?ap3 ?_); (case ap1 => walk_at "hp"); (case ap2 => walk_at "hp"); (case ap3 => walk_at "sz"))
  | with_reducible refine s_for (fun _ _ => ?_) | with_reducible refine s_lc ?_ | with_reducible refine s_iList ?_ | with_reducible refine s_iTup ?_ | with_reducible refine s_iRng1 ?_ | with_reducible refine s_iRng2 ?_
  | with_reducible refine s_yes ?_ | with_reducible refine s_par ?_
  | with_reducible refine s_make ?_ | with_reducible refine s_meth ?_
  | with_reducible refine s_tup ?_ | with_reducible refine s_lst ?_ | with_reducible refine s_call ?_
  | with_reducible refine ⟨rfl, ?_⟩
  | with_reducible refine ⟨_, rfl, ?_⟩
  | ((with_reducible refine' ⟨_, _, rfl, ?sd1, ?_⟩); (case sd1 => walk_at "sd"))
  | with_reducible refine ⟨_, _, rfl, ?_⟩
  | with_reducible refine .inl ⟨_, rfl, ?_⟩
  | dsimp only [List.set]
  | walk_at "rdx"
  | (refine fun _ _ => ?_))
local macro_rules | `(tactic| walk_at "rd") => `(tactic| repeat (first
  | (with_reducible show tVar _ _ _ _); refine s_var rfl ?_
  | with_reducible refine s_c ?_ | with_reducible refine s_op ?_ | with_reducible refine s_un ?_
  | with_reducible refine s_cons ?_ | with_reducible refine s_nil ?_ | with_reducible refine s_cb ?_
  | with_reducible refine s_test ?_ | with_reducible refine s_B ?_ | with_reducible refine s_not ?_ | with_reducible refine s_and ?_ | with_reducible refine s_or ?_
  | with_reducible refine s_if ?_ | with_reducible refine s_notV ?_ | with_reducible refine s_andV ?_ | with_reducible refine s_orV ?_
  | with_reducible refine s_orT ?_ | with_reducible refine s_andT ?_ | with_reducible refine s_chain ?_
  | with_reducible refine s_isi_int ?_ | with_reducible refine s_isi_int_bool ?_ | with_reducible refine s_isi_str ?_
  | with_reducible refine iteT ?_ | with_reducible refine iteF ?_ | with_reducible refine iteNT ?_ | with_reducible refine iteNF ?_
  | with_reducible refine s_isN ?_ | with_reducible refine s_notN ?_
  | ((with_reducible refine' s_2setE ?g1 ?_); (case g1 => first | (dsimp only [List.set, L2.wipe, List.map, List.foldl]; done) | (dsimp only [List.set, L2.wipe, List.map, List.foldl]; rfl)))
  | with_reducible refine s_seq ?_ | with_reducible refine s_ifS ?_ | with_reducible refine s_asg ?_ | with_reducible refine s_ret ?_ | with_reducible refine s_drop ?_ | with_reducible refine s_next ?_
  | ((with_reducible refine' s_gnameE ?g1 ?_); (case g1 => first | (dsimp only [List.set, L2.wipe, List.map, List.foldl]; done) | (dsimp only [List.set, L2.wipe, List.map, List.foldl]; rfl)))
  | with_reducible refine s_gsub ?_ | with_reducible refine s_gcons ?_ | with_reducible refine s_gnil ?_
  | (with_reducible show gTup _ _ _ _ _ _ _); refine s_gtup (by walk_at "hp") rfl ?_
  | with_reducible refine s_eqI ?_ | with_reducible refine s_neI ?_ | with_reducible refine s_eqS ?_ | with_reducible refine s_neB ?_ | with_reducible refine s_eqB ?_ | with_reducible refine s_neSr ?_ | with_reducible refine s_neS ?_
  | with_reducible refine s_I0 ?_
  | (with_reducible show rI _ _ _ _ _ _); refine s_I (by walk_at "sd") ?_
  | (with_reducible show rIxL _ _ _ _ _); refine s_ixL (by walk_at "hp") rfl ?_
  | (with_reducible show rIxT _ _ _ _ _); refine s_ixT (by walk_at "hp") rfl ?_
  | (with_reducible show rSetL _ _ _ _ _); refine s_setL (by walk_at "hp") rfl ?_
  | with_reducible refine s_prop ?_
  | (with_reducible show _ ≤ sizeLine ∧ _); refine ⟨le_size (by rfl), ?_⟩
  | with_reducible refine ite_NN ?_ | with_reducible refine ite_IN ?_ | with_reducible refine ite_nNN ?_ | with_reducible refine ite_nIN ?_ | with_reducible refine ite_RN ?_ | with_reducible refine ite_nRN ?_
  | with_reducible refine s_sfld ?_
  | ((with_reducible refine' ⟨_, _, _, _, rfl, ?fp1, ?fp2, ?fp3, ?fp4, ?_⟩); (case fp1 => walk_at "hp"); (case fp2 => assumption); (case fp3 => assumption); (case fp4 => walk_at "few"))
  | with_reducible refine s_fldE ?_
  | ((with_reducible refine' ⟨_, _, _, _, _, rfl, ?fp1, ?fp2, ?fp3, ?fp4, ?_⟩); (case fp1 => walk_at "hp"); (case fp2 => assumption); (case fp3 => assumption); (case fp4 => rfl))
  | with_reducible refine s_bm ?_ | with_reducible refine s_bm0 ?_
  | ((with_reducible refine' s_tyL ?ty1 ?_); (case ty1 => walk_at "hp"))
  | ((with_reducible refine' s_append ?ap1 ?ap2 ?_); (case ap1 => walk_at "hp"); (case ap2 => walk_at "sz"))
  | ((with_reducible refine' s_extend ?ap1 ?ap2 ?ap3 ?_); (case ap1 => walk_at "hp"); (case ap2 => walk_at "hp"); (case ap3 => walk_at "sz"))
  | with_reducible refine s_for (fun _ _ => ?_) | with_reducible refine s_lc ?_ | with_reducible refine s_iList ?_ | with_reducible refine s_iTup ?_ | with_reducible refine s_iRng1 ?_ | with_reducible refine s_iRng2 ?_
  | with_reducible refine s_yes ?_ | with_reducible refine s_par ?_
  | with_reducible refine s_make ?_ | with_reducible refine s_meth ?_
  | with_reducible refine s_tup ?_ | with_reducible refine s_lst ?_ | with_reducible refine s_call ?_
  | with_reducible refine ⟨rfl, ?_⟩
  | with_reducible refine ⟨_, rfl, ?_⟩
  | ((with_reducible refine' ⟨_, _, rfl, ?sd1, ?_⟩); (case sd1 => walk_at "sd"))
  | with_reducible refine ⟨_, _, rfl, ?_⟩
  | with_reducible refine .inl ⟨_, rfl, ?_⟩
  | dsimp only [List.set]
  | walk_at "rdx"
  | (refine fun _ _ => ?_)))

namespace My
open PySem L2
section
variable {P : Program} {w : World} {K : PySem.W.Frag} {mg : Str → Option Value} {base : Heap} {C_Many C_Table T_LINES T_ENDS : Addr} (M : Md K mg C_Many C_Table T_LINES T_ENDS)
include M
omit M
theorem Pot.up {H : Hp} {r p : Addr} {o : HO} (h : Pot H r) (n : H p = none) : Pot (upd H p o) r := by
  obtain ⟨x, y, e, h⟩ := h
  exact ⟨x, y, by rw [upd_ne (ne_of_none e n)]; exact e, h⟩
theorem Pot.ne {H : Hp} {r p : Addr} (h : Pot H r) (n : H p = none) : p ≠ r := by
  obtain ⟨x, y, e, h⟩ := h
  exact (ne_of_none e n).symm
def spPick : Sp := fun vs H Q _ => ∃ (r l : Addr) (xs : List V), vs = [.ref r, .ref l] ∧ H l = some (.lst xs) ∧ l ≠ r ∧ 0 < xs.length ∧ xs.length < 100000 ∧ Pot H r ∧ ∀ v H', v ∈ xs → But r H H' → Pot H' r → Q v H'
def spMade (C : Addr) : Sp := fun vs H Q _ => ∃ (t : Addr) (p : Int) (q : Option Int), vs = [.ref t] ∧ H t = some (.tup [.int p, optV q]) ∧ 0 ≤ p ∧ (∀ h, q = some h → p ≤ h) ∧ ∀ x H', Same H H' → ManyAt C H' x p q → Q (.ref x) H'
local macro_rules | `(tactic| walk_at "pot") => `(tactic| first | walk_at "as" | (refine' Pot.up ?pt1 ?pt2; (case pt2 => walk_at "as"); (case pt1 => walk_at "pot")))
include M
theorem c__law_pick : Dn P w K mg base "_law_pick" 2 ["_law_pot", "_law_some"] [] spPick := by
  have c__law_draw := c__law_draw (P := P) (w := w) (base := base) M
  refine dnN M.f__law_pick (fun F => ?_) (fun _ _ _ _ _ _ us hl => match us, hl with | [_, _], _ => rfl)
  refine fnG_body F sc__law_pick (fun vs H Q E h => ?_) (fun cdv A outer s H vs Q E hr h => ?_)
  · obtain ⟨r, l, xs, rfl, _⟩ := h
    rfl
  · obtain ⟨r, l, xs, rfl, hl, hn, h0, h1, hp, q⟩ := h
    refine ⟨_, (pss_one (ps_ret (pe_ix ix_list (pv 1) (pe_callD c__law_draw (hr.mono (by decide)) rfl (pa_cons (pv 0) (pa_cons (pe_callB call_len_seq (by rfl) M.b_len (by decide +kernel) (pa_cons (pv 1) pa_nil)) pa_nil))) (fun _ _ => rfl)))), ?_⟩
    refine st_eq (σ := [some _, some _]) rfl ?_
    walk_at "rd"
    refine ⟨_, _, rfl, .inl (SqL.of hl), ?_⟩
    walk_at "rd"
    refine ⟨r, _, rfl, hp, by omega, ?_, fun d H' hb hp' d0 d1 => ?_⟩
    · exact lg (sm62 (by omega) (by omega))
    · obtain ⟨j, rfl⟩ : ∃ j : Nat, d = j := ⟨d.toNat, by omega⟩
      have hj : j < xs.length := by omega
      walk_at "rd"
      refine s_ixL (v := xs[j]) (hb.get hl hn) (atI_nat (by simp [hj])) ?_
      exact q _ _ (List.getElem_mem hj) hb hp'
theorem c__law_made_many : Dn P w K mg base "_law_made_many" 5 ["_law_pair"] [] (spMade C_Many) := by
  have c_Many_1 := c_Many_1 (P := P) (w := w) (base := base) M
  have c_Many_2 := c_Many_2 (P := P) (w := w) (base := base) M
  refine dnN M.f__law_made_many (fun F => ?_) (fun _ _ _ _ _ _ us hl => match us, hl with | [_], _ => rfl)
  refine fnG_body F sc__law_made_many (fun vs H Q E h => ?_) (fun cdv A outer s H vs Q E hr h => ?_)
  · obtain ⟨t, p, q, rfl, _⟩ := h
    rfl
  · obtain ⟨t, p, q, rfl, ht, h0, h1, k⟩ := h
    refine ⟨_, (pss_one (ps_ret (pe_ifExp (pt_cmpR op_isN (pe_ix ix_tup (pv 0) pe_int (fun _ _ => rfl)) pe_non (nomark _)) (pe_makeD c_Many_1 (hr.mono (by decide)) rfl (pa_cons (pe_ix ix_tup (pv 0) pe_int (fun _ _ => rfl)) pa_nil)) (pe_makeD c_Many_2 (hr.mono (by decide)) rfl (pa_cons (pe_ix ix_tup (pv 0) pe_int (fun _ _ => rfl)) (pa_cons (pe_ix ix_tup (pv 0) pe_int (fun _ _ => rfl)) pa_nil)))))), ?_⟩
    refine st_eq (σ := [some _]) rfl ?_
    cases q with
    | none =>
      walk_at "rd"
      refine fun _ => ⟨_, _, p, none, rfl, upd_same, h0, h1, fun H' hb hm => ⟨rfl, ?_⟩⟩
      exact k _ _ (hb.same (by walk_at "sm") (by assumption)) hm
    | some q =>
      walk_at "rd"
      refine fun _ => ⟨_, _, p, some q, rfl, upd_same, h0, h1, fun H' hb hm => ⟨rfl, ?_⟩⟩
      exact k _ _ (hb.same (by walk_at "sm") (by assumption)) hm
end
end My

open My L2 PySem
open My L2 PySem
local macro_rules | `(tactic| walk_at "as") => `(tactic| with_reducible assumption)
local macro_rules | `(tactic| walk_at "hp") => `(tactic| first
  | walk_at "as" | exact upd_same
  | (rw [upd_ne (by walk_at "ne")]; walk_at "hp")
  | (refine But.get (by walk_at "as") ?hp1 ?hp2; (case hp1 => walk_at "hp"); (case hp2 => walk_at "ne"))
  | (refine My.Same.get (by walk_at "as") ?hp1; (case hp1 => walk_at "hp")))
local macro_rules | `(tactic| walk_at "ne") => `(tactic| first
  | walk_at "as" | exact Ne.symm (by walk_at "as")
  | (refine' ne_of_none ?ne1 ?ne2; (case ne2 => walk_at "as"); (case ne1 => walk_at "hp"))
  | (refine' Ne.symm (ne_of_none ?ne1 ?ne2); (case ne2 => walk_at "as"); (case ne1 => walk_at "hp"))
  | exact ne_of (by walk_at "hp") (by walk_at "hp") (by intro z; cases z))
local macro_rules | `(tactic| walk_at "sd") => `(tactic| first
  | walk_at "as" | omega | decide | exact ⟨by omega, by omega⟩ | exact .inl ⟨by omega, by omega⟩ | exact .inr ⟨by omega, by omega⟩ | exact divp_wide (by walk_at "as") (by walk_at "as") | exact Sm.cmul (by walk_at "as") (by walk_at "as") | exact cmul_small (by omega) (by omega) (by omega) (by omega) | exact ⟨by omega, by decide⟩)
local macro_rules | `(tactic| walk_at "bt") => `(tactic| first
  | walk_at "as" | exact But.refl _ _ | exact Same.but (by walk_at "as")
  | (refine But.trans ?bt1 But.at; (case bt1 => walk_at "bt"))
  | (refine But.trans ?bt1 (But.new (by first | walk_at "as" | walk_at "hp")); (case bt1 => walk_at "bt"))
  | (refine But.trans ?bt1 (by walk_at "as"); (case bt1 => walk_at "bt"))
  | (refine But.trans ?bt1 (Same.but (by walk_at "as")); (case bt1 => walk_at "bt")))
local macro_rules | `(tactic| walk_at "sm") => `(tactic| first
  | walk_at "as" | exact My.Same.rfl' _
  | (refine' My.Same.at_ ?sm1 ?sm2; (case sm1 => walk_at "as"); (case sm2 => walk_at "sm"))
  | (refine' My.Same.tr ?sm1 (My.Same.new ?sm2); (case sm2 => walk_at "as"); (case sm1 => walk_at "sm"))
  | (refine' My.Same.tr ?sm1 ?sm2; (case sm2 => walk_at "as"); (case sm1 => walk_at "sm")))
local macro_rules | `(tactic| walk_at "sz") => `(tactic| first
  | assumption | exact lt_size (by rfl) | exact le_size (by rfl) | (rw [sizeLine_eq]; omega)
  | (rw [sizeLine_eq]; simp only [List.length_append, List.length_map, List.length_cons, List.length_nil]; omega))
local macro_rules | `(tactic| walk_at "few") => `(tactic| (repeat refine few_put ?_); exact few0)
local macro_rules | `(tactic| walk_at "rd1") => `(tactic| first
  | (with_reducible show tVar _ _ _ _); refine s_var rfl ?_
  | with_reducible refine s_c ?_ | with_reducible refine s_op ?_ | with_reducible refine s_un ?_
  | with_reducible refine s_cons ?_ | with_reducible refine s_nil ?_ | with_reducible refine s_cb ?_
  | with_reducible refine s_test ?_ | with_reducible refine s_B ?_ | with_reducible refine s_not ?_ | with_reducible refine s_and ?_ | with_reducible refine s_or ?_
  | with_reducible refine s_if ?_ | with_reducible refine s_notV ?_ | with_reducible refine s_andV ?_ | with_reducible refine s_orV ?_
  | with_reducible refine s_orT ?_ | with_reducible refine s_andT ?_ | with_reducible refine s_chain ?_
  | with_reducible refine s_isi_int ?_ | with_reducible refine s_isi_int_bool ?_ | with_reducible refine s_isi_str ?_
  | with_reducible refine iteT ?_ | with_reducible refine iteF ?_ | with_reducible refine iteNT ?_ | with_reducible refine iteNF ?_
  | with_reducible refine s_isN ?_ | with_reducible refine s_notN ?_
  | ((with_reducible refine' s_2setE ?g1 ?_); (case g1 => first | (dsimp only [List.set, L2.wipe, List.map, List.foldl]; done) | (dsimp only [List.set, L2.wipe, List.map, List.foldl]; rfl)))
  | with_reducible refine s_seq ?_ | with_reducible refine s_ifS ?_ | with_reducible refine s_asg ?_ | with_reducible refine s_ret ?_ | with_reducible refine s_drop ?_ | with_reducible refine s_next ?_
  | ((with_reducible refine' s_gnameE ?g1 ?_); (case g1 => first | (dsimp only [List.set, L2.wipe, List.map, List.foldl]; done) | (dsimp only [List.set, L2.wipe, List.map, List.foldl]; rfl)))
  | with_reducible refine s_gsub ?_ | with_reducible refine s_gcons ?_ | with_reducible refine s_gnil ?_
  | (with_reducible show gTup _ _ _ _ _ _ _); refine s_gtup (by walk_at "hp") rfl ?_
  | with_reducible refine s_eqI ?_ | with_reducible refine s_neI ?_ | with_reducible refine s_eqS ?_ | with_reducible refine s_neB ?_ | with_reducible refine s_eqB ?_ | with_reducible refine s_neSr ?_ | with_reducible refine s_neS ?_
  | with_reducible refine s_I0 ?_
  | (with_reducible show rI _ _ _ _ _ _); refine s_I (by walk_at "sd") ?_
  | (with_reducible show rIxL _ _ _ _ _); refine s_ixL (by walk_at "hp") rfl ?_
  | (with_reducible show rIxT _ _ _ _ _); refine s_ixT (by walk_at "hp") rfl ?_
  | (with_reducible show rSetL _ _ _ _ _); refine s_setL (by walk_at "hp") rfl ?_
  | with_reducible refine s_prop ?_
  | (with_reducible show _ ≤ sizeLine ∧ _); refine ⟨le_size (by rfl), ?_⟩
  | with_reducible refine ite_NN ?_ | with_reducible refine ite_IN ?_ | with_reducible refine ite_nNN ?_ | with_reducible refine ite_nIN ?_ | with_reducible refine ite_RN ?_ | with_reducible refine ite_nRN ?_
  | with_reducible refine s_sfld ?_
  | ((with_reducible refine' ⟨_, _, _, _, rfl, ?fp1, ?fp2, ?fp3, ?fp4, ?_⟩); (case fp1 => walk_at "hp"); (case fp2 => assumption); (case fp3 => assumption); (case fp4 => walk_at "few"))
  | with_reducible refine s_fldE ?_
  | ((with_reducible refine' ⟨_, _, _, _, _, rfl, ?fp1, ?fp2, ?fp3, ?fp4, ?_⟩); (case fp1 => walk_at "hp"); (case fp2 => assumption); (case fp3 => assumption); (case fp4 => rfl))
  | with_reducible refine s_bm ?_ | with_reducible refine s_bm0 ?_
  | ((with_reducible refine' s_tyL ?ty1 ?_); (case ty1 => walk_at "hp"))
  | ((with_reducible refine' s_append ?ap1 ?ap2 ?_); (case ap1 => walk_at "hp"); (case ap2 => walk_at "sz"))
  | ((with_reducible refine' s_extend ?ap1 ?ap2 ?ap3 ?_); (case ap1 => walk_at "hp"); (case ap2 => walk_at "hp"); (case ap3 => walk_at "sz"))
  | with_reducible refine s_for (fun _ _ => ?_) | with_reducible refine s_lc ?_ | with_reducible refine s_iList ?_ | with_reducible refine s_iTup ?_ | with_reducible refine s_iRng1 ?_ | with_reducible refine s_iRng2 ?_
  | with_reducible refine s_yes ?_ | with_reducible refine s_par ?_
  | with_reducible refine s_make ?_ | with_reducible refine s_meth ?_
  | with_reducible refine s_tup ?_ | with_reducible refine s_lst ?_ | with_reducible refine s_call ?_
  | with_reducible refine ⟨rfl, ?_⟩
  | with_reducible refine ⟨_, rfl, ?_⟩
  | ((with_reducible refine' ⟨_, _, rfl, ?sd1, ?_⟩); (case sd1 => walk_at "sd"))
  | with_reducible refine ⟨_, _, rfl, ?_⟩
  | with_reducible refine .inl ⟨_, rfl, ?_⟩
  | dsimp only [List.set]
  | walk_at "rdx"
  | (refine fun _ _ => ?_))
local macro_rules | `(tactic| walk_at "rd") => `(tactic| repeat (first
  | (with_reducible show tVar _ _ _ _); refine s_var rfl ?_
  | with_reducible refine s_c ?_ | with_reducible refine s_op ?_ | with_reducible refine s_un ?_
  | with_reducible refine s_cons ?_ | with_reducible refine s_nil ?_ | with_reducible refine s_cb ?_
  | with_reducible refine s_test ?_ | with_reducible refine s_B ?_ | with_reducible refine s_not ?_ | with_reducible refine s_and ?_ | with_reducible refine s_or ?_
  | with_reducible refine s_if ?_ | with_reducible refine s_notV ?_ | with_reducible refine s_andV ?_ | with_reducible refine s_orV ?_
  | with_reducible refine s_orT ?_ | with_reducible refine s_andT ?_ | with_reducible refine s_chain ?_
  | with_reducible refine s_isi_int ?_ | with_reducible refine s_isi_int_bool ?_ | with_reducible refine s_isi_str ?_
  | with_reducible refine iteT ?_ | with_reducible refine iteF ?_ | with_reducible refine iteNT ?_ | with_reducible refine iteNF ?_
  | with_reducible refine s_isN ?_ | with_reducible refine s_notN ?_
  | ((with_reducible refine' s_2setE ?g1 ?_); (case g1 => first | (dsimp only [List.set, L2.wipe, List.map, List.foldl]; done) | (dsimp only [List.set, L2.wipe, List.map, List.foldl]; rfl)))
  | with_reducible refine s_seq ?_ | with_reducible refine s_ifS ?_ | with_reducible refine s_asg ?_ | with_reducible refine s_ret ?_ | with_reducible refine s_drop ?_ | with_reducible refine s_next ?_
  | ((with_reducible refine' s_gnameE ?g1 ?_); (case g1 => first | (dsimp only [List.set, L2.wipe, List.map, List.foldl]; done) | (dsimp only [List.set, L2.wipe, List.map, List.foldl]; rfl)))
  | with_reducible refine s_gsub ?_ | with_reducible refine s_gcons ?_ | with_reducible refine s_gnil ?_
  | (with_reducible show gTup _ _ _ _ _ _ _); refine s_gtup (by walk_at "hp") rfl ?_
  | with_reducible refine s_eqI ?_ | with_reducible refine s_neI ?_ | with_reducible refine s_eqS ?_ | with_reducible refine s_neB ?_ | with_reducible refine s_eqB ?_ | with_reducible refine s_neSr ?_ | with_reducible refine s_neS ?_
  | with_reducible refine s_I0 ?_
  | (with_reducible show rI _ _ _ _ _ _); refine s_I (by walk_at "sd") ?_
  | (with_reducible show rIxL _ _ _ _ _); refine s_ixL (by walk_at "hp") rfl ?_
  | (with_reducible show rIxT _ _ _ _ _); refine s_ixT (by walk_at "hp") rfl ?_
  | (with_reducible show rSetL _ _ _ _ _); refine s_setL (by walk_at "hp") rfl ?_
  | with_reducible refine s_prop ?_
  | (with_reducible show _ ≤ sizeLine ∧ _); refine ⟨le_size (by rfl), ?_⟩
  | with_reducible refine ite_NN ?_ | with_reducible refine ite_IN ?_ | with_reducible refine ite_nNN ?_ | with_reducible refine ite_nIN ?_ | with_reducible refine ite_RN ?_ | with_reducible refine ite_nRN ?_
  | with_reducible refine s_sfld ?_
  | ((with_reducible refine' ⟨_, _, _, _, rfl, ?fp1, ?fp2, ?fp3, ?fp4, ?_⟩); (case fp1 => walk_at "hp"); (case fp2 => assumption); (case fp3 => assumption); (case fp4 => walk_at "few"))
  | with_reducible refine s_fldE ?_
  | ((with_reducible refine' ⟨_, _, _, _, _, rfl, ?fp1, ?fp2, ?fp3, ?fp4, ?_⟩); (case fp1 => walk_at "hp"); (case fp2 => assumption); (case fp3 => assumption); (case fp4 => rfl))
  | with_reducible refine s_bm ?_ | with_reducible refine s_bm0 ?_
  | ((with_reducible refine' s_tyL ?ty1 ?_); (case ty1 => walk_at "hp"))
  | ((with_reducible refine' s_append ?ap1 ?ap2 ?_); (case ap1 => walk_at "hp"); (case ap2 => walk_at "sz"))
  | ((with_reducible refine' s_extend ?ap1 ?ap2 ?ap3 ?_); (case ap1 => walk_at "hp"); (case ap2 => walk_at "hp"); (case ap3 => walk_at "sz"))
  | with_reducible refine s_for (fun _ _ => ?_) | with_reducible refine s_lc ?_ | with_reducible refine s_iList ?_ | with_reducible refine s_iTup ?_ | with_reducible refine s_iRng1 ?_ | with_reducible refine s_iRng2 ?_
  | with_reducible refine s_yes ?_ | with_reducible refine s_par ?_
  | with_reducible refine s_make ?_ | with_reducible refine s_meth ?_
  | with_reducible refine s_tup ?_ | with_reducible refine s_lst ?_ | with_reducible refine s_call ?_
  | with_reducible refine ⟨rfl, ?_⟩
  | with_reducible refine ⟨_, rfl, ?_⟩
  | ((with_reducible refine' ⟨_, _, rfl, ?sd1, ?_⟩); (case sd1 => walk_at "sd"))
  | with_reducible refine ⟨_, _, rfl, ?_⟩
  | with_reducible refine .inl ⟨_, rfl, ?_⟩
  | dsimp only [List.set]
  | walk_at "rdx"
  | (refine fun _ _ => ?_)))

namespace My
open PySem L2
section
variable {P : Program} {w : World} {K : PySem.W.Frag} {mg : Str → Option Value} {base : Heap} {C_Many C_Table T_LINES T_ENDS : Addr} (M : Md K mg C_Many C_Table T_LINES T_ENDS)
include M
omit M
def sideS : Bool → Str
  | true => "near"
  | false => "far"
def TabAt (C : Addr) (H : Hp) (x : Addr) (a b e : Int) : Prop := ∃ dx : Addr, H x = some (.ins C dx [("_near", .int a), ("_far", .int b), ("_total", .int e)])
def sz (f : Bool) (a b : Int) : Int := if f = true then a else b
theorem tab_fields (C dx : Addr) (a b c : V) : some (HO.ins C dx (putF "_total" c (putF "_far" b (putF "_near" a [])))) = some (HO.ins C dx [("_near", a), ("_far", b), ("_total", c)]) := by
  rw [putF_nil, putF_ne (by decide +kernel), putF_nil, putF_ne (by decide +kernel), putF_ne (by decide +kernel), putF_nil]
def spIsEnd : Sp := fun vs H Q _ => ∃ f : Bool, vs = [.str (sideS f)] ∧ Q (.bl true) H
def spChkE : Sp := fun vs H Q _ => ∃ f : Bool, vs = [.str (sideS f)] ∧ Q .non H
def spTInit (C : Addr) : Sp := fun vs H Q _ => ∃ (x dx : Addr) (a b e : Int), vs = [.ref x, .int a, .int b, .int e] ∧ H x = some (.ins C dx []) ∧ 0 ≤ a ∧ 0 ≤ b ∧ 0 ≤ e ∧ e ≤ a * b ∧ CMulW a b ∧ ∀ H', But x H H' → TabAt C H' x a b e → Q .non H'
def spSize (C : Addr) : Sp := fun vs H Q _ => ∃ (x : Addr) (f : Bool) (a b e : Int), vs = [.ref x, .str (sideS f)] ∧ TabAt C H x a b e ∧ Q (.int (sz f a b)) H
def spIsRow (C : Addr) : Sp := fun vs H Q _ => ∃ (x : Addr) (f : Bool) (i a b e : Int), vs = [.ref x, .str (sideS f), .int i] ∧ TabAt C H x a b e ∧ 0 ≤ i ∧ i < sz f a b ∧ Q (.bl true) H
def spChkR (C : Addr) : Sp := fun vs H Q _ => ∃ (x : Addr) (f : Bool) (i a b e : Int), vs = [.ref x, .str (sideS f), .int i] ∧ TabAt C H x a b e ∧ 0 ≤ i ∧ i < sz f a b ∧ Q .non H
def spDeg (C : Addr) : Sp := fun vs H Q _ => ∃ (x : Addr) (f : Bool) (i a b e : Int), vs = [.ref x, .str (sideS f), .int i] ∧ TabAt C H x a b e ∧ 0 ≤ i ∧ i < sz f a b ∧ (sz f a b).natAbs.log2 < 9000 ∧ Q (.int (e / sz f a b + if i < e % sz f a b then 1 else 0)) H
include M
theorem c_is_end : Dn P w K mg base "is_end" 1 ["value"] [] spIsEnd := by
  refine dnN M.f_is_end (fun F => ?_) (fun _ _ _ _ _ _ us hl => match us, hl with | [_], _ => rfl)
  refine fnG_body F sc_is_end (fun vs H Q E h => ?_) (fun cdv A outer s H vs Q E hr h => ?_)
  · obtain ⟨f, rfl, _⟩ := h
    rfl
  · obtain ⟨f, rfl, q⟩ := h
    refine ⟨_, (pss_one (ps_ret (pe_and (pe_callB call_isi (by rfl) M.b_isinstance (by decide +kernel) (pa_cons (pv 0) (pa_cons (pe_bltn (v := .ty "str") (u := .type "str") (by rfl) M.b_str (by decide +kernel) rfl) pa_nil))) (pe_one (pe_cmpR op_in_seq (pv 0) (pe_glob (v := .ref T_ENDS) rfl M.g_ENDS rfl) (by first | exact nomark _ | rfl)))))), ?_⟩
    refine st_eq (σ := [some _]) rfl ?_
    walk_at "rd"
    refine ⟨_, _, rfl, .inr (M.q_ENDS _), rfl, rfl, ?_⟩
    cases f with
    | true => exact q
    | false => exact q
theorem c_check_end (c_is_end : Dn P w K mg base "is_end" 1 ["value"] [] spIsEnd) : Dn P w K mg base "check_end" 2 ["end"] [] spChkE := by
  refine dnN M.f_check_end (fun F => ?_) (fun _ _ _ _ _ _ us hl => match us, hl with | [_], _ => rfl)
  refine fnG_body F sc_check_end (fun vs H Q E h => ?_) (fun cdv A outer s H vs Q E hr h => ?_)
  · obtain ⟨f, rfl, _⟩ := h
    rfl
  · obtain ⟨f, rfl, q⟩ := h
    refine ⟨_, (pss_one (ps_if (pt_not (pt_val (pe_callD c_is_end (hr.mono (by decide)) rfl (pa_cons (pv 0) pa_nil)))) (pss_one ps_never) pss_nil)), ?_⟩
    refine st_eq (σ := [some _]) rfl ?_
    walk_at "rd"
    refine ⟨f, rfl, ?_⟩
    walk_at "rd"
    exact q
theorem c_Table_3 : Mkn P w K mg base "Table" C_Table 4 ["self", "near", "far", "total"] [] (spTInit C_Table) := by
  have c_check_count := c_check_count (P := P) (w := w) (base := base) M
  have c_is_count := c_is_count (P := P) (w := w) (base := base) M
  refine mkN M.i_Table M.m_Table (fun F => ?_) (fun _ _ _ _ _ _ us hl => match us, hl with | [_, _, _, _], _ => rfl)
  refine fnG_body F sc_Table___init__ (fun vs H Q E h => ?_) (fun cdv A outer s H vs Q E hr h => ?_)
  · obtain ⟨x, dx, a, b, e, rfl, _⟩ := h
    rfl
  · obtain ⟨x, dx, a, b, e, rfl, hx, a0, b0, e0, e1, m1, q⟩ := h
    have kM := M.k_Table
    have n1 := M.n_Table__near
    have n2 := M.n_Table__far
    have n3 := M.n_Table__total
    refine ⟨_, (pss_cons (ps_expr (pe_callD c_check_count (hr.mono (by decide)) rfl (pa_cons (pv 1) pa_nil))) (pss_cons (ps_expr (pe_callD c_check_count (hr.mono (by decide)) rfl (pa_cons (pv 2) pa_nil))) (pss_cons (ps_if (PW.pt (pw_or (pt_not (pt_val (pe_callD c_is_count (hr.mono (by decide)) rfl (pa_cons (pv 3) pa_nil)))) (pw_or1 (pt_cmpR op_gt (pv 3) (pe_op op_mulW (pv 1) (pv 2)) (nomark _))))) (pss_one ps_never) pss_nil) (pss_cons (ps_fld (pv 0) (pv 1) rfl) (pss_cons (ps_fld (pv 0) (pv 2) rfl) (pss_one (ps_fld (pv 0) (pv 3) rfl))))))), ?_⟩
    refine st_eq (σ := [some _, some _, some _, some _]) rfl ?_
    walk_at "rd"
    refine ⟨a, rfl, a0, ?_⟩
    walk_at "rd"
    refine ⟨b, rfl, b0, ?_⟩
    walk_at "rd"
    refine ⟨e, rfl, e0, ?_⟩
    walk_at "rd"
    refine ite_d (fun hc => absurd hc (by omega)) (fun hc => ?_)
    walk_at "rd"
    exact q _ (by walk_at "bt") ⟨dx, upd_same.trans (tab_fields _ _ _ _ _)⟩
theorem c_Table__size : Mtn P w K mg base C_Table "_size" 1 ["self", "end"] [] (spSize C_Table) := by
  refine mtN M.e_Table__size M.k_Table (fun F => ?_) (fun _ _ _ _ _ _ us hl => match us, hl with | [_, _], _ => rfl)
  refine fnG_body F sc_Table__size (fun vs H Q E h => ?_) (fun cdv A outer s H vs Q E hr h => ?_)
  · obtain ⟨x, f, a, b, e, rfl, _⟩ := h
    rfl
  · obtain ⟨x, f, a, b, e, rfl, ⟨dx, hx⟩, q⟩ := h
    have kM := M.k_Table
    have n1 := M.n_Table__near
    have n2 := M.n_Table__far
    refine ⟨_, (pss_one (ps_ret (pe_ifExp (pt_cmpR op_eq (pv 1) pe_str (nomark _)) (pe_fld (pv 0) rfl) (pe_fld (pv 0) rfl)))), ?_⟩
    refine st_eq (σ := [some _, some _]) rfl ?_
    cases f with
    | true =>
      walk_at "rd"
      refine ite_d (fun hc => ?_) (fun hc => absurd rfl hc)
      walk_at "rd"
      exact q
    | false =>
      walk_at "rd"
      refine ite_d (fun hc => absurd hc (by decide +kernel)) (fun hc => ?_)
      walk_at "rd"
      exact q
theorem c_Table__is_row : Mtn P w K mg base C_Table "_is_row" 3 ["self", "end", "value"] [] (spIsRow C_Table) := by
  have c_is_count := c_is_count (P := P) (w := w) (base := base) M
  have c_Table__size := c_Table__size (P := P) (w := w) (base := base) M
  refine mtN M.e_Table__is_row M.k_Table (fun F => ?_) (fun _ _ _ _ _ _ us hl => match us, hl with | [_, _, _], _ => rfl)
  refine fnG_body F sc_Table__is_row (fun vs H Q E h => ?_) (fun cdv A outer s H vs Q E hr h => ?_)
  · obtain ⟨x, f, i, a, b, e, rfl, _⟩ := h
    rfl
  · obtain ⟨x, f, i, a, b, e, rfl, ⟨dx, hx⟩, i0, i1, q⟩ := h
    refine ⟨_, (pss_one (ps_ret (pe_and (pe_callD c_is_count (hr.mono (by decide)) rfl (pa_cons (pv 2) pa_nil)) (pe_one (pe_cmpR op_lt (pv 2) (pe_methD c_Table__size (pv 0) (hr.mono (by decide)) (pa_cons (pv 1) pa_nil)) (nomark _)))))), ?_⟩
    refine st_eq (σ := [some _, some _, some _]) rfl ?_
    walk_at "rd"
    refine ⟨i, rfl, i0, ?_⟩
    walk_at "rd"
    refine ⟨_, _, _, rfl, hx, by rfl, ?_⟩
    walk_at "rd"
    refine ⟨x, f, a, b, e, rfl, ⟨dx, hx⟩, ?_⟩
    walk_at "rd"
    rw [decide_eq_true i1]
    exact q
theorem c_Table__check_row : Mtn P w K mg base C_Table "_check_row" 4 ["self", "end", "row"] [] (spChkR C_Table) := by
  have c_Table__is_row := c_Table__is_row (P := P) (w := w) (base := base) M
  refine mtN M.e_Table__check_row M.k_Table (fun F => ?_) (fun _ _ _ _ _ _ us hl => match us, hl with | [_, _, _], _ => rfl)
  refine fnG_body F sc_Table__check_row (fun vs H Q E h => ?_) (fun cdv A outer s H vs Q E hr h => ?_)
  · obtain ⟨x, f, i, a, b, e, rfl, _⟩ := h
    rfl
  · obtain ⟨x, f, i, a, b, e, rfl, ⟨dx, hx⟩, i0, i1, q⟩ := h
    refine ⟨_, (pss_one (ps_if (pt_not (pt_val (pe_methD c_Table__is_row (pv 0) (hr.mono (by decide)) (pa_cons (pv 1) (pa_cons (pv 2) pa_nil))))) (pss_one ps_never) pss_nil)), ?_⟩
    refine st_eq (σ := [some _, some _, some _]) rfl ?_
    walk_at "rd"
    refine ⟨_, _, _, rfl, hx, by rfl, ?_⟩
    walk_at "rd"
    refine ⟨x, f, i, a, b, e, rfl, ⟨dx, hx⟩, i0, i1, ?_⟩
    walk_at "rd"
    exact q
theorem c_Table__degree : Mtn P w K mg base C_Table "_degree" 2 ["self", "end", "row"] [] (spDeg C_Table) := by
  have c_Table__size := c_Table__size (P := P) (w := w) (base := base) M
  refine mtN M.e_Table__degree M.k_Table (fun F => ?_) (fun _ _ _ _ _ _ us hl => match us, hl with | [_, _, _], _ => rfl)
  refine fnG_body F sc_Table__degree (fun vs H Q E h => ?_) (fun cdv A outer s H vs Q E hr h => ?_)
  · obtain ⟨x, f, i, a, b, e, rfl, _⟩ := h
    rfl
  · obtain ⟨x, f, i, a, b, e, rfl, ⟨dx, hx⟩, i0, i1, hl, q⟩ := h
    have kM := M.k_Table
    have n3 := M.n_Table__total
    have n0 : 0 < sz f a b := by omega
    have cd : CDivW e (sz f a b) := ⟨n0, hl⟩
    refine ⟨_, (pss_cons (ps_set (i := 3) sc_Table__degree.nd rfl (.inl rfl) (pe_methD c_Table__size (pv 0) (hr.mono (by decide)) (pa_cons (pv 1) pa_nil))) (pss_one (ps_ret (pe_op op_add (pe_op op_fdivW (pe_fld (pv 0) rfl) (pv 3)) (pe_callTy call_int1 (by rfl) M.b_int (by decide +kernel) (pa_cons (pe_cmpR op_lt (pv 2) (pe_op op_mod (pe_fld (pv 0) rfl) (pv 3)) (nomark _)) pa_nil)))))), ?_⟩
    refine st_eq (σ := [some _, some _, some _, none]) rfl ?_
    walk_at "rd"
    refine ⟨_, _, _, rfl, hx, by rfl, ?_⟩
    walk_at "rd"
    refine ⟨x, f, a, b, e, rfl, ⟨dx, hx⟩, ?_⟩
    walk_at "rd"
    refine .inr ⟨_, rfl, ?_⟩
    walk_at "rd"
    rw [show (if decide (i < e % sz f a b) = true then (1 : Int) else 0) = if i < e % sz f a b then 1 else 0 from by simp]
    exact q
theorem c_Table_degree : Mtn P w K mg base C_Table "degree" 5 ["self", "end", "row"] [] (spDeg C_Table) := by
  have c_check_end := c_check_end (P := P) (w := w) (base := base) M (c_is_end M)
  have c_Table__check_row := c_Table__check_row (P := P) (w := w) (base := base) M
  have c_Table__degree := c_Table__degree (P := P) (w := w) (base := base) M
  refine mtN M.e_Table_degree M.k_Table (fun F => ?_) (fun _ _ _ _ _ _ us hl => match us, hl with | [_, _, _], _ => rfl)
  refine fnG_body F sc_Table_degree (fun vs H Q E h => ?_) (fun cdv A outer s H vs Q E hr h => ?_)
  · obtain ⟨x, f, i, a, b, e, rfl, _⟩ := h
    rfl
  · obtain ⟨x, f, i, a, b, e, rfl, ⟨dx, hx⟩, i0, i1, hl, q⟩ := h
    refine ⟨_, (pss_cons (ps_expr (pe_callD c_check_end (hr.mono (by decide)) rfl (pa_cons (pv 1) pa_nil))) (pss_cons (ps_expr (pe_methD c_Table__check_row (pv 0) (hr.mono (by decide)) (pa_cons (pv 1) (pa_cons (pv 2) pa_nil)))) (pss_one (ps_ret (pe_methD c_Table__degree (pv 0) (hr.mono (by decide)) (pa_cons (pv 1) (pa_cons (pv 2) pa_nil))))))), ?_⟩
    refine st_eq (σ := [some _, some _, some _]) rfl ?_
    walk_at "rd"
    refine ⟨f, rfl, ?_⟩
    walk_at "rd"
    refine ⟨_, _, _, rfl, hx, by rfl, ?_⟩
    walk_at "rd"
    refine ⟨x, f, i, a, b, e, rfl, ⟨dx, hx⟩, i0, i1, ?_⟩
    walk_at "rd"
    refine ⟨_, _, _, rfl, hx, by rfl, ?_⟩
    walk_at "rd"
    exact ⟨x, f, i, a, b, e, rfl, ⟨dx, hx⟩, i0, i1, hl, q⟩
end
end My

open My L2 PySem
open My L2 PySem
local macro_rules | `(tactic| walk_at "as") => `(tactic| with_reducible assumption)
local macro_rules | `(tactic| walk_at "hp") => `(tactic| first
  | walk_at "as" | exact upd_same
  | (rw [upd_ne (by walk_at "ne")]; walk_at "hp")
  | (refine But.get (by walk_at "as") ?hp1 ?hp2; (case hp1 => walk_at "hp"); (case hp2 => walk_at "ne"))
  | (refine My.Same.get (by walk_at "as") ?hp1; (case hp1 => walk_at "hp")))
local macro_rules | `(tactic| walk_at "ne") => `(tactic| first
  | walk_at "as" | exact Ne.symm (by walk_at "as")
  | (refine' ne_of_none ?ne1 ?ne2; (case ne2 => walk_at "as"); (case ne1 => walk_at "hp"))
  | (refine' Ne.symm (ne_of_none ?ne1 ?ne2); (case ne2 => walk_at "as"); (case ne1 => walk_at "hp"))
  | exact ne_of (by walk_at "hp") (by walk_at "hp") (by intro z; cases z))
local macro_rules | `(tactic| walk_at "sd") => `(tactic| first
  | walk_at "as" | omega | decide | exact ⟨by omega, by omega⟩ | exact .inl ⟨by omega, by omega⟩ | exact .inr ⟨by omega, by omega⟩ | exact divp_wide (by walk_at "as") (by walk_at "as") | exact Sm.cmul (by walk_at "as") (by walk_at "as") | exact cmul_small (by omega) (by omega) (by omega) (by omega) | exact ⟨by omega, by decide⟩)
local macro_rules | `(tactic| walk_at "bt") => `(tactic| first
  | walk_at "as" | exact But.refl _ _ | exact Same.but (by walk_at "as")
  | (refine But.trans ?bt1 But.at; (case bt1 => walk_at "bt"))
  | (refine But.trans ?bt1 (But.new (by first | walk_at "as" | walk_at "hp")); (case bt1 => walk_at "bt"))
  | (refine But.trans ?bt1 (by walk_at "as"); (case bt1 => walk_at "bt"))
  | (refine But.trans ?bt1 (Same.but (by walk_at "as")); (case bt1 => walk_at "bt")))
local macro_rules | `(tactic| walk_at "sm") => `(tactic| first
  | walk_at "as" | exact My.Same.rfl' _
  | (refine' My.Same.at_ ?sm1 ?sm2; (case sm1 => walk_at "as"); (case sm2 => walk_at "sm"))
  | (refine' My.Same.tr ?sm1 (My.Same.new ?sm2); (case sm2 => walk_at "as"); (case sm1 => walk_at "sm"))
  | (refine' My.Same.tr ?sm1 ?sm2; (case sm2 => walk_at "as"); (case sm1 => walk_at "sm")))
local macro_rules | `(tactic| walk_at "sz") => `(tactic| first
  | assumption | exact lt_size (by rfl) | exact le_size (by rfl) | (rw [sizeLine_eq]; omega)
  | (rw [sizeLine_eq]; simp only [List.length_append, List.length_map, List.length_cons, List.length_nil]; omega))
local macro_rules | `(tactic| walk_at "few") => `(tactic| (repeat refine few_put ?_); exact few0)
local macro_rules | `(tactic| walk_at "rd1") => `(tactic| first
  | (with_reducible show tVar _ _ _ _); refine s_var rfl ?_
  | with_reducible refine s_c ?_ | with_reducible refine s_op ?_ | with_reducible refine s_un ?_
  | with_reducible refine s_cons ?_ | with_reducible refine s_nil ?_ | with_reducible refine s_cb ?_
  | with_reducible refine s_test ?_ | with_reducible refine s_B ?_ | with_reducible refine s_not ?_ | with_reducible refine s_and ?_ | with_reducible refine s_or ?_
  | with_reducible refine s_if ?_ | with_reducible refine s_notV ?_ | with_reducible refine s_andV ?_ | with_reducible refine s_orV ?_
  | with_reducible refine s_orT ?_ | with_reducible refine s_andT ?_ | with_reducible refine s_chain ?_
  | with_reducible refine s_isi_int ?_ | with_reducible refine s_isi_int_bool ?_ | with_reducible refine s_isi_str ?_
  | with_reducible refine iteT ?_ | with_reducible refine iteF ?_ | with_reducible refine iteNT ?_ | with_reducible refine iteNF ?_
  | with_reducible refine s_isN ?_ | with_reducible refine s_notN ?_
  | ((with_reducible refine' s_2setE ?g1 ?_); (case g1 => first | (dsimp only [List.set, L2.wipe, List.map, List.foldl]; done) | (dsimp only [List.set, L2.wipe, List.map, List.foldl]; rfl)))
  | with_reducible refine s_seq ?_ | with_reducible refine s_ifS ?_ | with_reducible refine s_asg ?_ | with_reducible refine s_ret ?_ | with_reducible refine s_drop ?_ | with_reducible refine s_next ?_
  | ((with_reducible refine' s_gnameE ?g1 ?_); (case g1 => first | (dsimp only [List.set, L2.wipe, List.map, List.foldl]; done) | (dsimp only [List.set, L2.wipe, List.map, List.foldl]; rfl)))
  | with_reducible refine s_gsub ?_ | with_reducible refine s_gcons ?_ | with_reducible refine s_gnil ?_
  | (with_reducible show gTup _ _ _ _ _ _ _); refine s_gtup (by walk_at "hp") rfl ?_
  | with_reducible refine s_eqI ?_ | with_reducible refine s_neI ?_ | with_reducible refine s_eqS ?_ | with_reducible refine s_neB ?_ | with_reducible refine s_eqB ?_ | with_reducible refine s_neSr ?_ | with_reducible refine s_neS ?_
  | with_reducible refine s_I0 ?_
  | (with_reducible show rI _ _ _ _ _ _); refine s_I (by walk_at "sd") ?_
  | (with_reducible show rIxL _ _ _ _ _); refine s_ixL (by walk_at "hp") rfl ?_
  | (with_reducible show rIxT _ _ _ _ _); refine s_ixT (by walk_at "hp") rfl ?_
  | (with_reducible show rSetL _ _ _ _ _); refine s_setL (by walk_at "hp") rfl ?_
  | with_reducible refine s_prop ?_
  | (with_reducible show _ ≤ sizeLine ∧ _); refine ⟨le_size (by rfl), ?_⟩
  | with_reducible refine ite_NN ?_ | with_reducible refine ite_IN ?_ | with_reducible refine ite_nNN ?_ | with_reducible refine ite_nIN ?_ | with_reducible refine ite_RN ?_ | with_reducible refine ite_nRN ?_
  | with_reducible refine s_sfld ?_
  | ((with_reducible refine' ⟨_, _, _, _, rfl, ?fp1, ?fp2, ?fp3, ?fp4, ?_⟩); (case fp1 => walk_at "hp"); (case fp2 => assumption); (case fp3 => assumption); (case fp4 => walk_at "few"))
  | with_reducible refine s_fldE ?_
  | ((with_reducible refine' ⟨_, _, _, _, _, rfl, ?fp1, ?fp2, ?fp3, ?fp4, ?_⟩); (case fp1 => walk_at "hp"); (case fp2 => assumption); (case fp3 => assumption); (case fp4 => rfl))
  | with_reducible refine s_bm ?_ | with_reducible refine s_bm0 ?_
  | ((with_reducible refine' s_tyL ?ty1 ?_); (case ty1 => walk_at "hp"))
  | ((with_reducible refine' s_append ?ap1 ?ap2 ?_); (case ap1 => walk_at "hp"); (case ap2 => walk_at "sz"))
  | ((with_reducible refine' s_extend ?ap1 ?ap2 ?ap3 ?_); (case ap1 => walk_at "hp"); (case ap2 => walk_at "hp"); (case ap3 => walk_at "sz"))
  | with_reducible refine s_for (fun _ _ => ?_) | with_reducible refine s_lc ?_ | with_reducible refine s_iList ?_ | with_reducible refine s_iTup ?_ | with_reducible refine s_iRng1 ?_ | with_reducible refine s_iRng2 ?_
  | with_reducible refine s_yes ?_ | with_reducible refine s_par ?_
  | with_reducible refine s_make ?_ | with_reducible refine s_meth ?_
  | with_reducible refine s_tup ?_ | with_reducible refine s_lst ?_ | with_reducible refine s_call ?_
  | with_reducible refine ⟨rfl, ?_⟩
  | with_reducible refine ⟨_, rfl, ?_⟩
  | ((with_reducible refine' ⟨_, _, rfl, ?sd1, ?_⟩); (case sd1 => walk_at "sd"))
  | with_reducible refine ⟨_, _, rfl, ?_⟩
  | with_reducible refine .inl ⟨_, rfl, ?_⟩
  | dsimp only [List.set]
  | walk_at "rdx"
  | (refine fun _ _ => ?_))
local macro_rules | `(tactic| walk_at "rd") => `(tactic| repeat (first
  | (with_reducible show tVar _ _ _ _); refine s_var rfl ?_
  | with_reducible refine s_c ?_ | with_reducible refine s_op ?_ | with_reducible refine s_un ?_
  | with_reducible refine s_cons ?_ | with_reducible refine s_nil ?_ | with_reducible refine s_cb ?_
  | with_reducible refine s_test ?_ | with_reducible refine s_B ?_ | with_reducible refine s_not ?_ | with_reducible refine s_and ?_ | with_reducible refine s_or ?_
  | with_reducible refine s_if ?_ | with_reducible refine s_notV ?_ | with_reducible refine s_andV ?_ | with_reducible refine s_orV ?_
  | with_reducible refine s_orT ?_ | with_reducible refine s_andT ?_ | with_reducible refine s_chain ?_
  | with_reducible refine s_isi_int ?_ | with_reducible refine s_isi_int_bool ?_ | with_reducible refine s_isi_str ?_
  | with_reducible refine iteT ?_ | with_reducible refine iteF ?_ | with_reducible refine iteNT ?_ | with_reducible refine iteNF ?_
  | with_reducible refine s_isN ?_ | with_reducible refine s_notN ?_
  | ((with_reducible refine' s_2setE ?g1 ?_); (case g1 => first | (dsimp only [List.set, L2.wipe, List.map, List.foldl]; done) | (dsimp only [List.set, L2.wipe, List.map, List.foldl]; rfl)))
  | with_reducible refine s_seq ?_ | with_reducible refine s_ifS ?_ | with_reducible refine s_asg ?_ | with_reducible refine s_ret ?_ | with_reducible refine s_drop ?_ | with_reducible refine s_next ?_
  | ((with_reducible refine' s_gnameE ?g1 ?_); (case g1 => first | (dsimp only [List.set, L2.wipe, List.map, List.foldl]; done) | (dsimp only [List.set, L2.wipe, List.map, List.foldl]; rfl)))
  | with_reducible refine s_gsub ?_ | with_reducible refine s_gcons ?_ | with_reducible refine s_gnil ?_
  | (with_reducible show gTup _ _ _ _ _ _ _); refine s_gtup (by walk_at "hp") rfl ?_
  | with_reducible refine s_eqI ?_ | with_reducible refine s_neI ?_ | with_reducible refine s_eqS ?_ | with_reducible refine s_neB ?_ | with_reducible refine s_eqB ?_ | with_reducible refine s_neSr ?_ | with_reducible refine s_neS ?_
  | with_reducible refine s_I0 ?_
  | (with_reducible show rI _ _ _ _ _ _); refine s_I (by walk_at "sd") ?_
  | (with_reducible show rIxL _ _ _ _ _); refine s_ixL (by walk_at "hp") rfl ?_
  | (with_reducible show rIxT _ _ _ _ _); refine s_ixT (by walk_at "hp") rfl ?_
  | (with_reducible show rSetL _ _ _ _ _); refine s_setL (by walk_at "hp") rfl ?_
  | with_reducible refine s_prop ?_
  | (with_reducible show _ ≤ sizeLine ∧ _); refine ⟨le_size (by rfl), ?_⟩
  | with_reducible refine ite_NN ?_ | with_reducible refine ite_IN ?_ | with_reducible refine ite_nNN ?_ | with_reducible refine ite_nIN ?_ | with_reducible refine ite_RN ?_ | with_reducible refine ite_nRN ?_
  | with_reducible refine s_sfld ?_
  | ((with_reducible refine' ⟨_, _, _, _, rfl, ?fp1, ?fp2, ?fp3, ?fp4, ?_⟩); (case fp1 => walk_at "hp"); (case fp2 => assumption); (case fp3 => assumption); (case fp4 => walk_at "few"))
  | with_reducible refine s_fldE ?_
  | ((with_reducible refine' ⟨_, _, _, _, _, rfl, ?fp1, ?fp2, ?fp3, ?fp4, ?_⟩); (case fp1 => walk_at "hp"); (case fp2 => assumption); (case fp3 => assumption); (case fp4 => rfl))
  | with_reducible refine s_bm ?_ | with_reducible refine s_bm0 ?_
  | ((with_reducible refine' s_tyL ?ty1 ?_); (case ty1 => walk_at "hp"))
  | ((with_reducible refine' s_append ?ap1 ?ap2 ?_); (case ap1 => walk_at "hp"); (case ap2 => walk_at "sz"))
  | ((with_reducible refine' s_extend ?ap1 ?ap2 ?ap3 ?_); (case ap1 => walk_at "hp"); (case ap2 => walk_at "hp"); (case ap3 => walk_at "sz"))
  | with_reducible refine s_for (fun _ _ => ?_) | with_reducible refine s_lc ?_ | with_reducible refine s_iList ?_ | with_reducible refine s_iTup ?_ | with_reducible refine s_iRng1 ?_ | with_reducible refine s_iRng2 ?_
  | with_reducible refine s_yes ?_ | with_reducible refine s_par ?_
  | with_reducible refine s_make ?_ | with_reducible refine s_meth ?_
  | with_reducible refine s_tup ?_ | with_reducible refine s_lst ?_ | with_reducible refine s_call ?_
  | with_reducible refine ⟨rfl, ?_⟩
  | with_reducible refine ⟨_, rfl, ?_⟩
  | ((with_reducible refine' ⟨_, _, rfl, ?sd1, ?_⟩); (case sd1 => walk_at "sd"))
  | with_reducible refine ⟨_, _, rfl, ?_⟩
  | with_reducible refine .inl ⟨_, rfl, ?_⟩
  | dsimp only [List.set]
  | walk_at "rdx"
  | (refine fun _ _ => ?_)))

namespace My
open PySem L2
section
variable {P : Program} {w : World} {K : PySem.W.Frag} {mg : Str → Option Value} {base : Heap} {C_Many C_Table T_LINES T_ENDS : Addr} (M : Md K mg C_Many C_Table T_LINES T_ENDS)
include M
omit M
def letB (p : Int) (q : Option Int) (d : Int) : Bool := decide (p ≤ d) && (match q with | none => true | some h => decide (d ≤ h))
def spLets : Sp := fun vs H Q _ => ∃ (t : Addr) (p : Int) (q : Option Int) (d : Int), vs = [.ref t, .int d] ∧ H t = some (.tup [.int p, optV q]) ∧ Q (.bl (letB p q d)) H
/-- a drawn pair of numbers, both up to 4 -/
def Nm (p : Int) (q : Option Int) : Prop := 0 ≤ p ∧ p ≤ 4 ∧ ∀ h, q = some h → p ≤ h ∧ h ≤ 4
def spNm : Sp := fun vs H Q _ => ∃ r : Addr, vs = [.ref r, .int 4] ∧ Pot H r ∧ ∀ (t : Addr) (p : Int) (q : Option Int) H', H' t = some (.tup [.int p, optV q]) → Nm p q → But r H H' → Pot H' r → Q (.ref t) H'
def spWider : Sp := fun vs H Q _ => ∃ (r t : Addr) (p : Int) (q : Option Int), vs = [.ref r, .ref t] ∧ Pot H r ∧ H t = some (.tup [.int p, optV q]) ∧ 0 ≤ p ∧ p ≤ 4 ∧ (∀ h, q = some h → p ≤ h ∧ h ≤ 4) ∧
  ∀ (u : Addr) (p' : Int) (q' : Option Int) H', H' u = some (.tup [.int p', optV q']) → 0 ≤ p' → p' ≤ p → (∀ h, q' = some h → p' ≤ h ∧ h ≤ 5) → (q' = none ∨ ∃ h h', q = some h ∧ q' = some h' ∧ h ≤ h') → But r H H' → Pot H' r → Q (.ref u) H'
local macro_rules | `(tactic| walk_at "pot") => `(tactic| first | walk_at "as" | (refine' Pot.up ?pt1 ?pt2; (case pt2 => walk_at "as"); (case pt1 => walk_at "pot")))
include M
theorem c__law_lets : Dn P w K mg base "_law_lets" 1 ["_law_pair", "_law_d"] [] spLets := by
  refine dnN M.f__law_lets (fun F => ?_) (fun _ _ _ _ _ _ us hl => match us, hl with | [_, _], _ => rfl)
  refine fnG_body F sc__law_lets (fun vs H Q E h => ?_) (fun cdv A outer s H vs Q E hr h => ?_)
  · obtain ⟨t, p, q, d, rfl, _⟩ := h
    rfl
  · obtain ⟨t, p, q, d, rfl, ht, k⟩ := h
    unfold letB at k
    refine ⟨_, (pss_one (ps_ret (pe_and (pe_cmpR op_le (pe_ix ix_tup (pv 0) pe_int (fun _ _ => rfl)) (pv 1) (nomark _)) (pe_one (pe_or (pe_cmpR op_isN (pe_ix ix_tup (pv 0) pe_int (fun _ _ => rfl)) pe_non (nomark _)) (pe_one (pe_cmpR op_le (pv 1) (pe_ix ix_tup (pv 0) pe_int (fun _ _ => rfl)) (nomark _)))))))), ?_⟩
    refine st_eq (σ := [some _, some _]) rfl ?_
    walk_at "rd"
    refine ite_d (fun hc => ?_) (fun hc => ?_)
    · rw [decide_eq_true hc] at k
      cases q with
      | none =>
        walk_at "rd"
        exact k
      | some h =>
        walk_at "rd"
        exact k
    · rw [decide_eq_false hc] at k
      exact k
theorem c__law_numbers_in : Dn P w K mg base "_law_numbers_in" 3 ["_law_pot", "_law_top"] [] spNm := by
  have c__law_draw := c__law_draw (P := P) (w := w) (base := base) M
  have c__law_pick := c__law_pick (P := P) (w := w) (base := base) M
  refine dnN M.f__law_numbers_in (fun F => ?_) (fun _ _ _ _ _ _ us hl => match us, hl with | [_, _], _ => rfl)
  refine fnG_body F sc__law_numbers_in (fun vs H Q E h => ?_) (fun cdv A outer s H vs Q E hr h => ?_)
  · obtain ⟨r, rfl, _⟩ := h
    rfl
  · obtain ⟨r, rfl, hp, k⟩ := h
    refine ⟨_, (pss_cons (ps_set (i := 2) sc__law_numbers_in.nd rfl (.inl rfl) (pe_callD c__law_draw (hr.mono (by decide)) rfl (pa_cons (pv 0) (pa_cons (pe_op op_add (pv 1) pe_int) pa_nil)))) (pss_cons (ps_set (i := 3) sc__law_numbers_in.nd rfl (.inl rfl) (pe_op op_add (pv 2) (pe_callD c__law_draw (hr.mono (by decide)) rfl (pa_cons (pv 0) (pa_cons (pe_op op_add (pe_op op_sub (pv 1) (pv 2)) pe_int) pa_nil))))) (pss_one (ps_ret (pe_callD c__law_pick (hr.mono (by decide)) rfl (pa_cons (pv 0) (pa_cons (pe_lst (pa_cons (pe_tup (pa_cons (pv 2) (pa_cons (pv 3) pa_nil))) (pa_cons (pe_tup (pa_cons (pv 2) (pa_cons (pv 3) pa_nil))) (pa_cons (pe_tup (pa_cons (pv 2) (pa_cons (pv 2) pa_nil))) (pa_cons (pe_tup (pa_cons (pv 2) (pa_cons pe_non pa_nil))) (pa_cons (pe_tup (pa_cons pe_int (pa_cons (pv 3) pa_nil))) (pa_cons (pe_tup (pa_cons pe_int (pa_cons pe_non pa_nil))) pa_nil))))))) pa_nil))))))), ?_⟩
    refine st_eq (σ := [some _, some _, none, none]) rfl ?_
    walk_at "rd"
    refine ⟨r, _, rfl, hp, by decide, by decide, fun d H1 b1 hp1 d0 d1 => ?_⟩
    walk_at "rd"
    refine ⟨r, _, rfl, hp1, by omega, lg (sm62 (by omega) (by omega)), fun g H2 b2 hp2 g0 g1 => ?_⟩
    walk_at "rd"
    rename_i a1 n1 a2 n2 a3 n3 a4 n4 a5 n5 a6 n6 l nl
    have r1 := hp2.ne n1
    have r2 := (hp2.up n1).ne n2
    have r3 := ((hp2.up n1).up n2).ne n3
    have r4 := (((hp2.up n1).up n2).up n3).ne n4
    have r5 := ((((hp2.up n1).up n2).up n3).up n4).ne n5
    have r6 := (((((hp2.up n1).up n2).up n3).up n4).up n5).ne n6
    have r7 := ((((((hp2.up n1).up n2).up n3).up n4).up n5).up n6).ne nl
    refine ⟨r, _, _, rfl, upd_same, r7, by simp, by simp, by walk_at "pot", fun v H3 hv hb hp3 => ?_⟩
    simp at hv
    rcases hv with rfl | rfl | rfl | rfl | rfl | rfl
    · exact k a1 d (some (d + g)) H3 (by walk_at "hp") ⟨d0, by omega, fun h z => by cases z; omega⟩ (by walk_at "bt") hp3
    · exact k a2 d (some (d + g)) H3 (by walk_at "hp") ⟨d0, by omega, fun h z => by cases z; omega⟩ (by walk_at "bt") hp3
    · exact k a3 d (some d) H3 (by walk_at "hp") ⟨d0, by omega, fun h z => by cases z; omega⟩ (by walk_at "bt") hp3
    · exact k a4 d none H3 (by walk_at "hp") ⟨d0, by omega, fun h z => nomatch z⟩ (by walk_at "bt") hp3
    · exact k a5 0 (some (d + g)) H3 (by walk_at "hp") ⟨by omega, by omega, fun h z => by cases z; omega⟩ (by walk_at "bt") hp3
    · exact k a6 0 none H3 (by walk_at "hp") ⟨by omega, by omega, fun h z => nomatch z⟩ (by walk_at "bt") hp3
theorem c__law_wider : Dn P w K mg base "_law_wider" 3 ["_law_pot", "_law_pair"] [] spWider := by
  have c__law_draw := c__law_draw (P := P) (w := w) (base := base) M
  have c__law_pick := c__law_pick (P := P) (w := w) (base := base) M
  refine dnN M.f__law_wider (fun F => ?_) (fun _ _ _ _ _ _ us hl => match us, hl with | [_, _], _ => rfl)
  refine fnG_body F sc__law_wider (fun vs H Q E h => ?_) (fun cdv A outer s H vs Q E hr h => ?_)
  · obtain ⟨r, t, p, q, rfl, _⟩ := h
    rfl
  · obtain ⟨r, t, p, q, rfl, hp, ht, p0, p1, hq, k⟩ := h
    have tr : t ≠ r := by
      obtain ⟨x, y, e, _⟩ := hp
      exact ne_of ht e (by intro z; cases z)
    refine ⟨_, (pss_cons (ps_set (i := 2) sc__law_wider.nd rfl (.inl rfl) (pe_callD c__law_draw (hr.mono (by decide)) rfl (pa_cons (pv 0) (pa_cons (pe_op op_add (pe_ix ix_tup (pv 1) pe_int (fun _ _ => rfl)) pe_int) pa_nil)))) (pss_one (ps_ret (pe_tup (pa_cons (pv 2) (pa_cons (pe_ifExp (pt_cmpR op_isN (pe_ix ix_tup (pv 1) pe_int (fun _ _ => rfl)) pe_non (nomark _)) pe_non (pe_callD c__law_pick (hr.mono (by decide)) rfl (pa_cons (pv 0) (pa_cons (pe_lst (pa_cons (pe_ix ix_tup (pv 1) pe_int (fun _ _ => rfl)) (pa_cons (pe_op op_add (pe_ix ix_tup (pv 1) pe_int (fun _ _ => rfl)) pe_int) (pa_cons pe_non pa_nil)))) pa_nil)))) pa_nil)))))), ?_⟩
    refine st_eq (σ := [some _, some _, none]) rfl ?_
    walk_at "rd"
    refine ⟨r, _, rfl, hp, by omega, lg (sm62 (by omega) (by omega)), fun d H1 b1 hp1 d0 d1 => ?_⟩
    have ht1 := b1.get ht tr
    cases q with
    | none =>
      walk_at "rd"
      exact k _ d none _ upd_same d0 (by omega) (fun h z => nomatch z) (.inl rfl) (by walk_at "bt") (by walk_at "pot")
    | some q =>
      have hq' := hq q rfl
      walk_at "rd"
      rename_i l nl
      refine ⟨r, _, _, rfl, upd_same, hp1.ne nl, by simp, by simp, by walk_at "pot", fun v H2 hv hb hp2 => ?_⟩
      simp at hv
      rcases hv with rfl | rfl | rfl
      · walk_at "rd"
        exact k _ d (some q) _ upd_same d0 (by omega) (fun h z => by cases z; omega) (.inr ⟨q, q, rfl, rfl, Int.le_refl _⟩) (by walk_at "bt") (by walk_at "pot")
      · walk_at "rd"
        exact k _ d (some (q + 1)) _ upd_same d0 (by omega) (fun h z => by cases z; omega) (.inr ⟨q, q + 1, rfl, rfl, by omega⟩) (by walk_at "bt") (by walk_at "pot")
      · walk_at "rd"
        exact k _ d none _ upd_same d0 (by omega) (fun h z => nomatch z) (.inl rfl) (by walk_at "bt") (by walk_at "pot")
end
end My

open My L2 PySem
open My L2 PySem
local macro_rules | `(tactic| walk_at "as") => `(tactic| with_reducible assumption)
local macro_rules | `(tactic| walk_at "hp") => `(tactic| first
  | walk_at "as" | exact upd_same
  | (rw [upd_ne (by walk_at "ne")]; walk_at "hp")
  | (refine But.get (by walk_at "as") ?hp1 ?hp2; (case hp1 => walk_at "hp"); (case hp2 => walk_at "ne"))
  | (refine My.Same.get (by walk_at "as") ?hp1; (case hp1 => walk_at "hp")))
local macro_rules | `(tactic| walk_at "ne") => `(tactic| first
  | walk_at "as" | exact Ne.symm (by walk_at "as")
  | (refine' ne_of_none ?ne1 ?ne2; (case ne2 => walk_at "as"); (case ne1 => walk_at "hp"))
  | (refine' Ne.symm (ne_of_none ?ne1 ?ne2); (case ne2 => walk_at "as"); (case ne1 => walk_at "hp"))
  | exact ne_of (by walk_at "hp") (by walk_at "hp") (by intro z; cases z))
local macro_rules | `(tactic| walk_at "sd") => `(tactic| first
  | walk_at "as" | omega | decide | exact ⟨by omega, by omega⟩ | exact .inl ⟨by omega, by omega⟩ | exact .inr ⟨by omega, by omega⟩ | exact divp_wide (by walk_at "as") (by walk_at "as") | exact Sm.cmul (by walk_at "as") (by walk_at "as") | exact cmul_small (by omega) (by omega) (by omega) (by omega) | exact ⟨by omega, by decide⟩)
local macro_rules | `(tactic| walk_at "bt") => `(tactic| first
  | walk_at "as" | exact But.refl _ _ | exact Same.but (by walk_at "as")
  | (refine But.trans ?bt1 But.at; (case bt1 => walk_at "bt"))
  | (refine But.trans ?bt1 (But.new (by first | walk_at "as" | walk_at "hp")); (case bt1 => walk_at "bt"))
  | (refine But.trans ?bt1 (by walk_at "as"); (case bt1 => walk_at "bt"))
  | (refine But.trans ?bt1 (Same.but (by walk_at "as")); (case bt1 => walk_at "bt")))
local macro_rules | `(tactic| walk_at "sm") => `(tactic| first
  | walk_at "as" | exact My.Same.rfl' _
  | (refine' My.Same.at_ ?sm1 ?sm2; (case sm1 => walk_at "as"); (case sm2 => walk_at "sm"))
  | (refine' My.Same.tr ?sm1 (My.Same.new ?sm2); (case sm2 => walk_at "as"); (case sm1 => walk_at "sm"))
  | (refine' My.Same.tr ?sm1 ?sm2; (case sm2 => walk_at "as"); (case sm1 => walk_at "sm")))
local macro_rules | `(tactic| walk_at "sz") => `(tactic| first
  | assumption | exact lt_size (by rfl) | exact le_size (by rfl) | (rw [sizeLine_eq]; omega)
  | (rw [sizeLine_eq]; simp only [List.length_append, List.length_map, List.length_cons, List.length_nil]; omega))
local macro_rules | `(tactic| walk_at "few") => `(tactic| (repeat refine few_put ?_); exact few0)
local macro_rules | `(tactic| walk_at "rd1") => `(tactic| first
  | (with_reducible show tVar _ _ _ _); refine s_var rfl ?_
  | with_reducible refine s_c ?_ | with_reducible refine s_op ?_ | with_reducible refine s_un ?_
  | with_reducible refine s_cons ?_ | with_reducible refine s_nil ?_ | with_reducible refine s_cb ?_
  | with_reducible refine s_test ?_ | with_reducible refine s_B ?_ | with_reducible refine s_not ?_ | with_reducible refine s_and ?_ | with_reducible refine s_or ?_
  | with_reducible refine s_if ?_ | with_reducible refine s_notV ?_ | with_reducible refine s_andV ?_ | with_reducible refine s_orV ?_
  | with_reducible refine s_orT ?_ | with_reducible refine s_andT ?_ | with_reducible refine s_chain ?_
  | with_reducible refine s_isi_int ?_ | with_reducible refine s_isi_int_bool ?_ | with_reducible refine s_isi_str ?_
  | with_reducible refine iteT ?_ | with_reducible refine iteF ?_ | with_reducible refine iteNT ?_ | with_reducible refine iteNF ?_
  | with_reducible refine s_isN ?_ | with_reducible refine s_notN ?_
  | ((with_reducible refine' s_2setE ?g1 ?_); (case g1 => first | (dsimp only [List.set, L2.wipe, List.map, List.foldl]; done) | (dsimp only [List.set, L2.wipe, List.map, List.foldl]; rfl)))
  | with_reducible refine s_seq ?_ | with_reducible refine s_ifS ?_ | with_reducible refine s_asg ?_ | with_reducible refine s_ret ?_ | with_reducible refine s_drop ?_ | with_reducible refine s_next ?_
  | ((with_reducible refine' s_gnameE ?g1 ?_); (case g1 => first | (dsimp only [List.set, L2.wipe, List.map, List.foldl]; done) | (dsimp only [List.set, L2.wipe, List.map, List.foldl]; rfl)))
  | with_reducible refine s_gsub ?_ | with_reducible refine s_gcons ?_ | with_reducible refine s_gnil ?_
  | (with_reducible show gTup _ _ _ _ _ _ _); refine s_gtup (by walk_at "hp") rfl ?_
  | with_reducible refine s_eqI ?_ | with_reducible refine s_neI ?_ | with_reducible refine s_eqS ?_ | with_reducible refine s_neB ?_ | with_reducible refine s_eqB ?_ | with_reducible refine s_neSr ?_ | with_reducible refine s_neS ?_
  | with_reducible refine s_I0 ?_
  | (with_reducible show rI _ _ _ _ _ _); refine s_I (by walk_at "sd") ?_
  | (with_reducible show rIxL _ _ _ _ _); refine s_ixL (by walk_at "hp") rfl ?_
  | (with_reducible show rIxT _ _ _ _ _); refine s_ixT (by walk_at "hp") rfl ?_
  | (with_reducible show rSetL _ _ _ _ _); refine s_setL (by walk_at "hp") rfl ?_
  | with_reducible refine s_prop ?_
  | (with_reducible show _ ≤ sizeLine ∧ _); refine ⟨le_size (by rfl), ?_⟩
  | with_reducible refine ite_NN ?_ | with_reducible refine ite_IN ?_ | with_reducible refine ite_nNN ?_ | with_reducible refine ite_nIN ?_ | with_reducible refine ite_RN ?_ | with_reducible refine ite_nRN ?_
  | with_reducible refine s_sfld ?_
  | ((with_reducible refine' ⟨_, _, _, _, rfl, ?fp1, ?fp2, ?fp3, ?fp4, ?_⟩); (case fp1 => walk_at "hp"); (case fp2 => assumption); (case fp3 => assumption); (case fp4 => walk_at "few"))
  | with_reducible refine s_fldE ?_
  | ((with_reducible refine' ⟨_, _, _, _, _, rfl, ?fp1, ?fp2, ?fp3, ?fp4, ?_⟩); (case fp1 => walk_at "hp"); (case fp2 => assumption); (case fp3 => assumption); (case fp4 => rfl))
  | with_reducible refine s_bm ?_ | with_reducible refine s_bm0 ?_
  | ((with_reducible refine' s_tyL ?ty1 ?_); (case ty1 => walk_at "hp"))
  | ((with_reducible refine' s_append ?ap1 ?ap2 ?_); (case ap1 => walk_at "hp"); (case ap2 => walk_at "sz"))
  | ((with_reducible refine' s_extend ?ap1 ?ap2 ?ap3 ?_); (case ap1 => walk_at "hp"); (case ap2 => walk_at "hp"); (case ap3 => walk_at "sz"))
  | with_reducible refine s_for (fun _ _ => ?_) | with_reducible refine s_lc ?_ | with_reducible refine s_iList ?_ | with_reducible refine s_iTup ?_ | with_reducible refine s_iRng1 ?_ | with_reducible refine s_iRng2 ?_
  | with_reducible refine s_yes ?_ | with_reducible refine s_par ?_
  | with_reducible refine s_make ?_ | with_reducible refine s_meth ?_
  | with_reducible refine s_tup ?_ | with_reducible refine s_lst ?_ | with_reducible refine s_call ?_
  | with_reducible refine ⟨rfl, ?_⟩
  | with_reducible refine ⟨_, rfl, ?_⟩
  | ((with_reducible refine' ⟨_, _, rfl, ?sd1, ?_⟩); (case sd1 => walk_at "sd"))
  | with_reducible refine ⟨_, _, rfl, ?_⟩
  | with_reducible refine .inl ⟨_, rfl, ?_⟩
  | dsimp only [List.set]
  | walk_at "rdx"
  | (refine fun _ _ => ?_))
local macro_rules | `(tactic| walk_at "rd") => `(tactic| repeat (first
  | (with_reducible show tVar _ _ _ _); refine s_var rfl ?_
  | with_reducible refine s_c ?_ | with_reducible refine s_op ?_ | with_reducible refine s_un ?_
  | with_reducible refine s_cons ?_ | with_reducible refine s_nil ?_ | with_reducible refine s_cb ?_
  | with_reducible refine s_test ?_ | with_reducible refine s_B ?_ | with_reducible refine s_not ?_ | with_reducible refine s_and ?_ | with_reducible refine s_or ?_
  | with_reducible refine s_if ?_ | with_reducible refine s_notV ?_ | with_reducible refine s_andV ?_ | with_reducible refine s_orV ?_
  | with_reducible refine s_orT ?_ | with_reducible refine s_andT ?_ | with_reducible refine s_chain ?_
  | with_reducible refine s_isi_int ?_ | with_reducible refine s_isi_int_bool ?_ | with_reducible refine s_isi_str ?_
  | with_reducible refine iteT ?_ | with_reducible refine iteF ?_ | with_reducible refine iteNT ?_ | with_reducible refine iteNF ?_
  | with_reducible refine s_isN ?_ | with_reducible refine s_notN ?_
  | ((with_reducible refine' s_2setE ?g1 ?_); (case g1 => first | (dsimp only [List.set, L2.wipe, List.map, List.foldl]; done) | (dsimp only [List.set, L2.wipe, List.map, List.foldl]; rfl)))
  | with_reducible refine s_seq ?_ | with_reducible refine s_ifS ?_ | with_reducible refine s_asg ?_ | with_reducible refine s_ret ?_ | with_reducible refine s_drop ?_ | with_reducible refine s_next ?_
  | ((with_reducible refine' s_gnameE ?g1 ?_); (case g1 => first | (dsimp only [List.set, L2.wipe, List.map, List.foldl]; done) | (dsimp only [List.set, L2.wipe, List.map, List.foldl]; rfl)))
  | with_reducible refine s_gsub ?_ | with_reducible refine s_gcons ?_ | with_reducible refine s_gnil ?_
  | (with_reducible show gTup _ _ _ _ _ _ _); refine s_gtup (by walk_at "hp") rfl ?_
  | with_reducible refine s_eqI ?_ | with_reducible refine s_neI ?_ | with_reducible refine s_eqS ?_ | with_reducible refine s_neB ?_ | with_reducible refine s_eqB ?_ | with_reducible refine s_neSr ?_ | with_reducible refine s_neS ?_
  | with_reducible refine s_I0 ?_
  | (with_reducible show rI _ _ _ _ _ _); refine s_I (by walk_at "sd") ?_
  | (with_reducible show rIxL _ _ _ _ _); refine s_ixL (by walk_at "hp") rfl ?_
  | (with_reducible show rIxT _ _ _ _ _); refine s_ixT (by walk_at "hp") rfl ?_
  | (with_reducible show rSetL _ _ _ _ _); refine s_setL (by walk_at "hp") rfl ?_
  | with_reducible refine s_prop ?_
  | (with_reducible show _ ≤ sizeLine ∧ _); refine ⟨le_size (by rfl), ?_⟩
  | with_reducible refine ite_NN ?_ | with_reducible refine ite_IN ?_ | with_reducible refine ite_nNN ?_ | with_reducible refine ite_nIN ?_ | with_reducible refine ite_RN ?_ | with_reducible refine ite_nRN ?_
  | with_reducible refine s_sfld ?_
  | ((with_reducible refine' ⟨_, _, _, _, rfl, ?fp1, ?fp2, ?fp3, ?fp4, ?_⟩); (case fp1 => walk_at "hp"); (case fp2 => assumption); (case fp3 => assumption); (case fp4 => walk_at "few"))
  | with_reducible refine s_fldE ?_
  | ((with_reducible refine' ⟨_, _, _, _, _, rfl, ?fp1, ?fp2, ?fp3, ?fp4, ?_⟩); (case fp1 => walk_at "hp"); (case fp2 => assumption); (case fp3 => assumption); (case fp4 => rfl))
  | with_reducible refine s_bm ?_ | with_reducible refine s_bm0 ?_
  | ((with_reducible refine' s_tyL ?ty1 ?_); (case ty1 => walk_at "hp"))
  | ((with_reducible refine' s_append ?ap1 ?ap2 ?_); (case ap1 => walk_at "hp"); (case ap2 => walk_at "sz"))
  | ((with_reducible refine' s_extend ?ap1 ?ap2 ?ap3 ?_); (case ap1 => walk_at "hp"); (case ap2 => walk_at "hp"); (case ap3 => walk_at "sz"))
  | with_reducible refine s_for (fun _ _ => ?_) | with_reducible refine s_lc ?_ | with_reducible refine s_iList ?_ | with_reducible refine s_iTup ?_ | with_reducible refine s_iRng1 ?_ | with_reducible refine s_iRng2 ?_
  | with_reducible refine s_yes ?_ | with_reducible refine s_par ?_
  | with_reducible refine s_make ?_ | with_reducible refine s_meth ?_
  | with_reducible refine s_tup ?_ | with_reducible refine s_lst ?_ | with_reducible refine s_call ?_
  | with_reducible refine ⟨rfl, ?_⟩
  | with_reducible refine ⟨_, rfl, ?_⟩
  | ((with_reducible refine' ⟨_, _, rfl, ?sd1, ?_⟩); (case sd1 => walk_at "sd"))
  | with_reducible refine ⟨_, _, rfl, ?_⟩
  | with_reducible refine .inl ⟨_, rfl, ?_⟩
  | dsimp only [List.set]
  | walk_at "rdx"
  | (refine fun _ _ => ?_)))

namespace My
open PySem L2
section
variable {P : Program} {w : World} {K : PySem.W.Frag} {mg : Str → Option Value} {base : Heap} {C_Many C_Table T_LINES T_ENDS : Addr} (M : Md K mg C_Many C_Table T_LINES T_ENDS)
include M
omit M
/-- the list at l holds tuples of these pairs -/
def NetAt (H : Hp) (l : Addr) (ps : List (Int × Int)) : Prop := ∃ ts : List Addr, H l = some (.lst (ts.map V.ref)) ∧ ts.length = ps.length ∧ ∀ (i : Nat) (x y : Int), ps[i]? = some (x, y) → ∃ t : Addr, ts[i]? = some t ∧ H t = some (.tup [.int x, .int y])
def cntN (ps : List (Int × Int)) (i : Int) : Int := ((ps.filter fun x => decide (x.1 = i)).length : Nat)
def cntF (ps : List (Int × Int)) (i : Int) : Int := ((ps.filter fun x => decide (x.2 = i)).length : Nat)
theorem NetAt.same {H H' : Hp} {l : Addr} {ps : List (Int × Int)} (h : NetAt H l ps) (s : Same H H') : NetAt H' l ps := by
  obtain ⟨ts, e, f, g⟩ := h
  refine ⟨ts, s _ _ e, f, fun i x y hi => ?_⟩
  obtain ⟨t, h1, h2⟩ := g i x y hi
  exact ⟨t, h1, s _ _ h2⟩
theorem net_get {H : Hp} {ts : List Addr} {ps : List (Int × Int)} {j : Nat} {v : V} (hlen : ts.length = ps.length) (hts : ∀ (i : Nat) (x y : Int), ps[i]? = some (x, y) → ∃ t : Addr, ts[i]? = some t ∧ H t = some (.tup [.int x, .int y])) (hj : (ts.map V.ref)[j]? = some v) :
    ∃ (t : Addr) (px py : Int), v = .ref t ∧ ps[j]? = some (px, py) ∧ H t = some (.tup [.int px, .int py]) := by
  rw [List.getElem?_map] at hj
  cases e : ts[j]? with
  | none =>
    rw [e] at hj
    cases hj
  | some t =>
    rw [e] at hj
    have h1 : j < ps.length := by
      have := (List.getElem?_eq_some_iff.mp e).1
      omega
    obtain ⟨t', e', h2⟩ := hts j ps[j].1 ps[j].2 (by rw [List.getElem?_eq_getElem h1])
    rw [e] at e'
    cases e'
    exact ⟨t, _, _, (Option.some.inj hj).symm, by rw [List.getElem?_eq_getElem h1], h2⟩
theorem take_filter {ps : List (Int × Int)} {j : Nat} {z : Int × Int} (h : ps[j]? = some z) {f : Int × Int → Bool} : ((ps.take (j + 1)).filter f).length = ((ps.take j).filter f).length + if f z = true then 1 else 0 := by
  rw [List.take_add_one, h, List.filter_append, List.length_append]
  cases e : f z <;> simp [e]
/-- each row has a number of partners that is let -/
def lets (a b : Nat) (p : Int) (q : Option Int) (r : Int) (s : Option Int) (ps : List (Int × Int)) : Bool :=
  (List.range a).all (fun i => letB p q (cntN ps i)) && (List.range b).all (fun j => letB r s (cntF ps j))
def spIsLet : Sp := fun vs H Q _ => ∃ (l : Addr) (a b : Nat) (x y : Addr) (p : Int) (q : Option Int) (r : Int) (s : Option Int) (ps : List (Int × Int)), vs = [.ref l, .int a, .int b, .ref x, .ref y] ∧ a ≤ 3 ∧ b ≤ 3 ∧ NetAt H l ps ∧ ps.length ≤ 9 ∧
  H x = some (.tup [.int p, optV q]) ∧ H y = some (.tup [.int r, optV s]) ∧ ∀ H', Same H H' → Q (.bl (lets a b p q r s ps)) H'
include M
theorem c__law_is_let : Dn P w K mg base "_law_is_let" 2 ["_law_net", "_law_a", "_law_b", "_law_one", "_law_two"] [] spIsLet := by
  have c__law_lets := c__law_lets (P := P) (w := w) (base := base) M
  refine dnN M.f__law_is_let (fun F => ?_) (fun _ _ _ _ _ _ us hl => match us, hl with | [_, _, _, _, _], _ => rfl)
  refine fnG_body F sc__law_is_let (fun vs H Q E h => ?_) (fun cdv A outer s H vs Q E hr h => ?_)
  · obtain ⟨l, a, b, x, y, p, q, r, s, ps, rfl, _⟩ := h
    rfl
  · obtain ⟨l, a, b, x, y, p, q, r, s, ps, rfl, ha, hb, hl, hn, hx, hy, k⟩ := h
    refine ⟨_, (pss_cons (ps_if (pt_not (pt_val (pe_callB (cr_all rfl) (by rfl) M.b_all (by decide +kernel) (pa_cons (pe_lc (own := [("_law_i", 6)]) (g := gName 6) (tt := tYes) (by rfl) sc__law_is_let.nd (pi_range1 (by rfl) M.b_range (pa_cons (pv 1) pa_nil)) (blkOk_by (own := [("_law_i", 6)]) (N := N__law_is_let) (sc := defScope st__law_is_let) (by decide +kernel)) (fun _ _ _ _ _ => pg_name (i := 6) sc__law_is_let.nd rfl (by first | exact Or.inl rfl | exact Or.inr rfl)) (fun _ _ _ _ _ => pts_nil) (fun _ _ _ _ _ => (pe_callD c__law_lets (hr.mono (by decide)) rfl (pa_cons (pv 3) (pa_cons (pe_callB (call_len_seqK (K := K) rfl) (by rfl) M.b_len (by decide +kernel) (pa_cons (pe_lc (own := [("_law_pair", 7)]) (g := gName 7) (tt := _) (by rfl) sc__law_is_let.nd (pi_listK (K := K) rfl (pv 0)) (by exact blkOk_nest (own := [("_law_pair", 7)]) N__law_is_let (defScope st__law_is_let) rfl rfl (by decide +kernel)) (fun _ _ _ _ _ => pg_name (i := 7) sc__law_is_let.nd rfl (by first | exact Or.inl rfl | exact Or.inr rfl)) (fun _ _ _ _ _ => pts_one (pt_cmpR op_eq (pe_ix (ix_tupK (K := K) rfl) (pv 7) pe_int (fun _ _ => rfl)) (pv 6) (nomark _))) (fun _ _ _ _ _ => (pv 7))) pa_nil)) pa_nil))))) pa_nil)))) (pss_one (ps_ret pe_bl)) pss_nil) (pss_one (ps_ret (pe_callB (cr_all rfl) (by rfl) M.b_all (by decide +kernel) (pa_cons (pe_lc (own := [("_law_j", 5)]) (g := gName 5) (tt := tYes) (by rfl) sc__law_is_let.nd (pi_range1 (by rfl) M.b_range (pa_cons (pv 2) pa_nil)) (blkOk_by (own := [("_law_j", 5)]) (N := N__law_is_let) (sc := defScope st__law_is_let) (by decide +kernel)) (fun _ _ _ _ _ => pg_name (i := 5) sc__law_is_let.nd rfl (by first | exact Or.inl rfl | exact Or.inr rfl)) (fun _ _ _ _ _ => pts_nil) (fun _ _ _ _ _ => (pe_callD c__law_lets (hr.mono (by decide)) rfl (pa_cons (pv 4) (pa_cons (pe_callB (call_len_seqK (K := K) rfl) (by rfl) M.b_len (by decide +kernel) (pa_cons (pe_lc (own := [("_law_pair", 7)]) (g := gName 7) (tt := _) (by rfl) sc__law_is_let.nd (pi_listK (K := K) rfl (pv 0)) (by exact blkOk_nest (own := [("_law_pair", 7)]) N__law_is_let (defScope st__law_is_let) rfl rfl (by decide +kernel)) (fun _ _ _ _ _ => pg_name (i := 7) sc__law_is_let.nd rfl (by first | exact Or.inl rfl | exact Or.inr rfl)) (fun _ _ _ _ _ => pts_one (pt_cmpR op_eq (pe_ix (ix_tupK (K := K) rfl) (pv 7) pe_int (fun _ _ => rfl)) (pv 5) (nomark _))) (fun _ _ _ _ _ => (pv 7))) pa_nil)) pa_nil))))) pa_nil))))), ?_⟩
    refine st_eq (σ := [some _, some _, some _, some _, some _, none, none, none]) rfl ?_
    walk_at "rd"
    have S0 : Same H H := My.Same.rfl' H
    have hx0 := hx
    have H0e : H = H := rfl
    refine ⟨by omega, by omega, fun D nD => ?_⟩
    simp only [Int.toNat_natCast]
    refine lc_range (lo := 0) (n := a) (fun i H1 => Same H H1 ∧ H1 D = some (.lst ((List.range i).map fun k : Nat => V.bl (letB p q (cntN ps k))))) ?_ ?_ ?_
    · exact ⟨by walk_at "sm", upd_same⟩
    · rintro i H1 hi ⟨s1, hD⟩
      have hl1 := hl.same s1
      obtain ⟨ts, el, hlen, hts⟩ := hl1
      have hx1 := s1 _ _ hx0
      walk_at "rd"
      refine ⟨⟨_, SqL.of el⟩, fun D2 nD2 => lc_list (K := K) (a := l) (xs := ts.map V.ref) (fun j H2 => Same H1 H2 ∧ ∃ acc, H2 D2 = some (.lst acc) ∧ acc.length = ((ps.take j).filter fun z => decide (z.1 = (i : Int))).length) ?_ ?_ ?_ ?_⟩
      · exact ⟨by walk_at "sm", _, upd_same, rfl⟩
      · intro j H2 _ h
        exact SqL.of (h.1 _ _ el)
      · rintro j v H2 hj ⟨s2, acc, hD2, hacc⟩
        obtain ⟨t, px, py, rfl, hps, ht⟩ := net_get hlen hts hj
        have ht2 := s2 _ _ ht
        walk_at "rd"
        rw [take_filter hps]
        refine ite_d (fun hc => ?_) (fun hc => ?_)
        · have hc' : px = px := rfl
          walk_at "rd"
          refine ⟨acc, hD2, ?_, by walk_at "sm", _, upd_same, ?_⟩
          · have h1 : acc.length ≤ ps.length := by
              rw [hacc]
              exact Nat.le_trans (List.length_filter_le _ _) (by rw [List.length_take]; omega)
            rw [sizeLine_eq]
            omega
          · rw [if_pos (decide_eq_true (show px = (i : Int) by omega)), List.length_append, hacc]
            rfl
        · walk_at "rd"
          refine ⟨s2, acc, hD2, ?_⟩
          rw [if_neg (by rw [decide_eq_true_eq]; show ¬ px = (i : Int); omega), hacc, Nat.add_zero]
      · rintro H2 ⟨s2, acc, hD2, hacc⟩
        rw [List.length_map, hlen, List.take_length] at hacc
        walk_at "rd"
        refine s_len (SqL.of hD2) ?_
        walk_at "rd"
        refine ⟨_, _, _, _, rfl, s2 _ _ hx1, ?_⟩
        refine ⟨_, s2 _ _ hD, ?_, ?_, ?_⟩
        · rw [List.length_map, List.length_range, sizeLine_eq]
          omega
        · have := My.Same.tr s1 s2
          walk_at "sm"
        · rw [upd_same, List.range_succ, List.map_append, hacc]
          rfl
    · rintro H9 ⟨s1, hD⟩
      have hv : H9 D = some (.lst (((List.range a).map fun k : Nat => letB p q (cntN ps k)).map V.bl)) := by
        rw [hD, List.map_map]
        rfl
      walk_at "rd"
      refine ⟨_, _, rfl, SqL.of hv, ?_⟩
      rw [List.all_map]
      walk_at "rd"
      refine ite_nb (fun e1 => ?_) (fun e1 => ?_)
      · walk_at "rd"
        have e2 : lets a b p q r s ps = false := by
          unfold lets
          rw [show (List.range a).all (fun i => letB p q (cntN ps i)) = false from e1]
          rfl
        rw [← e2]
        exact k _ (s1)
      have hy0 := s1 _ _ hy
      have S0 := s1
      walk_at "rd"
      refine ⟨by omega, by omega, fun E5 nE => ?_⟩
      simp only [Int.toNat_natCast]
      refine lc_range (lo := 0) (n := b) (fun i H5 => Same H9 H5 ∧ H5 E5 = some (.lst ((List.range i).map fun k : Nat => V.bl (letB r s (cntF ps k))))) ?_ ?_ ?_
      · exact ⟨by walk_at "sm", upd_same⟩
      · rintro i H5 hi ⟨s5, hE⟩
        have hl5 := hl.same (My.Same.tr S0 s5)
        obtain ⟨ts, el, hlen, hts⟩ := hl5
        have hx5 := s5 _ _ hy0
        walk_at "rd"
        refine ⟨⟨_, SqL.of el⟩, fun D6 nE2 => lc_list (K := K) (a := l) (xs := ts.map V.ref) (fun j H2 => Same H5 H2 ∧ ∃ acc, H2 D6 = some (.lst acc) ∧ acc.length = ((ps.take j).filter fun z => decide (z.2 = (i : Int))).length) ?_ ?_ ?_ ?_⟩
        · exact ⟨by walk_at "sm", _, upd_same, rfl⟩
        · intro j H2 _ h
          exact SqL.of (h.1 _ _ el)
        · rintro j v H2 hj ⟨s2, acc, hD6, hacc⟩
          obtain ⟨t, px, py, rfl, hps, ht⟩ := net_get hlen hts hj
          have ht2 := s2 _ _ ht
          walk_at "rd"
          rw [take_filter hps]
          refine ite_d (fun hc => ?_) (fun hc => ?_)
          · have hc' : px = px := rfl
            walk_at "rd"
            refine ⟨acc, hD6, ?_, by walk_at "sm", _, upd_same, ?_⟩
            · have h1 : acc.length ≤ ps.length := by
                rw [hacc]
                exact Nat.le_trans (List.length_filter_le _ _) (by rw [List.length_take]; omega)
              rw [sizeLine_eq]
              omega
            · rw [if_pos (decide_eq_true (show py = (i : Int) by omega)), List.length_append, hacc]
              rfl
          · walk_at "rd"
            refine ⟨s2, acc, hD6, ?_⟩
            rw [if_neg (by rw [decide_eq_true_eq]; show ¬ py = (i : Int); omega), hacc, Nat.add_zero]
        · rintro H2 ⟨s2, acc, hD6, hacc⟩
          rw [List.length_map, hlen, List.take_length] at hacc
          walk_at "rd"
          refine s_len (SqL.of hD6) ?_
          walk_at "rd"
          refine ⟨_, _, _, _, rfl, s2 _ _ hx5, ?_⟩
          refine ⟨_, s2 _ _ hE, ?_, ?_, ?_⟩
          · rw [List.length_map, List.length_range, sizeLine_eq]
            omega
          · have := My.Same.tr s5 s2
            walk_at "sm"
          · rw [upd_same, List.range_succ, List.map_append, hacc]
            rfl
      · rintro H5 ⟨s5, hE⟩
        have hv : H5 E5 = some (.lst (((List.range b).map fun k : Nat => letB r s (cntF ps k)).map V.bl)) := by
          rw [hE, List.map_map]
          rfl
        walk_at "rd"
        refine ⟨_, _, rfl, SqL.of hv, ?_⟩
        rw [List.all_map]
        walk_at "rd"
        have e2 : lets a b p q r s ps = (List.range b).all (fun j => letB r s (cntF ps j)) := by
          unfold lets
          rw [show (List.range a).all (fun i => letB p q (cntN ps i)) = true from e1]
          rfl
        have e3 := k _ (My.Same.tr S0 s5)
        rw [e2] at e3
        exact e3
end
end My

open My L2 PySem
open My L2 PySem
local macro_rules | `(tactic| walk_at "as") => `(tactic| with_reducible assumption)
local macro_rules | `(tactic| walk_at "hp") => `(tactic| first
  | walk_at "as" | exact upd_same
  | (rw [upd_ne (by walk_at "ne")]; walk_at "hp")
  | (refine But.get (by walk_at "as") ?hp1 ?hp2; (case hp1 => walk_at "hp"); (case hp2 => walk_at "ne"))
  | (refine My.Same.get (by walk_at "as") ?hp1; (case hp1 => walk_at "hp")))
local macro_rules | `(tactic| walk_at "ne") => `(tactic| first
  | walk_at "as" | exact Ne.symm (by walk_at "as")
  | (refine' ne_of_none ?ne1 ?ne2; (case ne2 => walk_at "as"); (case ne1 => walk_at "hp"))
  | (refine' Ne.symm (ne_of_none ?ne1 ?ne2); (case ne2 => walk_at "as"); (case ne1 => walk_at "hp"))
  | exact ne_of (by walk_at "hp") (by walk_at "hp") (by intro z; cases z))
local macro_rules | `(tactic| walk_at "sd") => `(tactic| first
  | walk_at "as" | omega | decide | exact ⟨by omega, by omega⟩ | exact .inl ⟨by omega, by omega⟩ | exact .inr ⟨by omega, by omega⟩ | exact divp_wide (by walk_at "as") (by walk_at "as") | exact Sm.cmul (by walk_at "as") (by walk_at "as") | exact cmul_small (by omega) (by omega) (by omega) (by omega) | exact ⟨by omega, by decide⟩)
local macro_rules | `(tactic| walk_at "bt") => `(tactic| first
  | walk_at "as" | exact But.refl _ _ | exact Same.but (by walk_at "as")
  | (refine But.trans ?bt1 But.at; (case bt1 => walk_at "bt"))
  | (refine But.trans ?bt1 (But.new (by first | walk_at "as" | walk_at "hp")); (case bt1 => walk_at "bt"))
  | (refine But.trans ?bt1 (by walk_at "as"); (case bt1 => walk_at "bt"))
  | (refine But.trans ?bt1 (Same.but (by walk_at "as")); (case bt1 => walk_at "bt")))
local macro_rules | `(tactic| walk_at "sm") => `(tactic| first
  | walk_at "as" | exact My.Same.rfl' _
  | (refine' My.Same.at_ ?sm1 ?sm2; (case sm1 => walk_at "as"); (case sm2 => walk_at "sm"))
  | (refine' My.Same.tr ?sm1 (My.Same.new ?sm2); (case sm2 => walk_at "as"); (case sm1 => walk_at "sm"))
  | (refine' My.Same.tr ?sm1 ?sm2; (case sm2 => walk_at "as"); (case sm1 => walk_at "sm")))
local macro_rules | `(tactic| walk_at "sz") => `(tactic| first
  | assumption | exact lt_size (by rfl) | exact le_size (by rfl) | (rw [sizeLine_eq]; omega)
  | (rw [sizeLine_eq]; simp only [List.length_append, List.length_map, List.length_cons, List.length_nil]; omega))
local macro_rules | `(tactic| walk_at "few") => `(tactic| (repeat refine few_put ?_); exact few0)
local macro_rules | `(tactic| walk_at "rd1") => `(tactic| first
  | (with_reducible show tVar _ _ _ _); refine s_var rfl ?_
  | with_reducible refine s_c ?_ | with_reducible refine s_op ?_ | with_reducible refine s_un ?_
  | with_reducible refine s_cons ?_ | with_reducible refine s_nil ?_ | with_reducible refine s_cb ?_
  | with_reducible refine s_test ?_ | with_reducible refine s_B ?_ | with_reducible refine s_not ?_ | with_reducible refine s_and ?_ | with_reducible refine s_or ?_
  | with_reducible refine s_if ?_ | with_reducible refine s_notV ?_ | with_reducible refine s_andV ?_ | with_reducible refine s_orV ?_
  | with_reducible refine s_orT ?_ | with_reducible refine s_andT ?_ | with_reducible refine s_chain ?_
  | with_reducible refine s_isi_int ?_ | with_reducible refine s_isi_int_bool ?_ | with_reducible refine s_isi_str ?_
  | with_reducible refine iteT ?_ | with_reducible refine iteF ?_ | with_reducible refine iteNT ?_ | with_reducible refine iteNF ?_
  | with_reducible refine s_isN ?_ | with_reducible refine s_notN ?_
  | ((with_reducible refine' s_2setE ?g1 ?_); (case g1 => first | (dsimp only [List.set, L2.wipe, List.map, List.foldl]; done) | (dsimp only [List.set, L2.wipe, List.map, List.foldl]; rfl)))
  | with_reducible refine s_seq ?_ | with_reducible refine s_ifS ?_ | with_reducible refine s_asg ?_ | with_reducible refine s_ret ?_ | with_reducible refine s_drop ?_ | with_reducible refine s_next ?_
  | ((with_reducible refine' s_gnameE ?g1 ?_); (case g1 => first | (dsimp only [List.set, L2.wipe, List.map, List.foldl]; done) | (dsimp only [List.set, L2.wipe, List.map, List.foldl]; rfl)))
  | with_reducible refine s_gsub ?_ | with_reducible refine s_gcons ?_ | with_reducible refine s_gnil ?_
  | (with_reducible show gTup _ _ _ _ _ _ _); refine s_gtup (by walk_at "hp") rfl ?_
  | with_reducible refine s_eqI ?_ | with_reducible refine s_neI ?_ | with_reducible refine s_eqS ?_ | with_reducible refine s_neB ?_ | with_reducible refine s_eqB ?_ | with_reducible refine s_neSr ?_ | with_reducible refine s_neS ?_
  | with_reducible refine s_I0 ?_
  | (with_reducible show rI _ _ _ _ _ _); refine s_I (by walk_at "sd") ?_
  | (with_reducible show rIxL _ _ _ _ _); refine s_ixL (by walk_at "hp") rfl ?_
  | (with_reducible show rIxT _ _ _ _ _); refine s_ixT (by walk_at "hp") rfl ?_
  | (with_reducible show rSetL _ _ _ _ _); refine s_setL (by walk_at "hp") rfl ?_
  | with_reducible refine s_prop ?_
  | (with_reducible show _ ≤ sizeLine ∧ _); refine ⟨le_size (by rfl), ?_⟩
  | with_reducible refine ite_NN ?_ | with_reducible refine ite_IN ?_ | with_reducible refine ite_nNN ?_ | with_reducible refine ite_nIN ?_ | with_reducible refine ite_RN ?_ | with_reducible refine ite_nRN ?_
  | with_reducible refine s_sfld ?_
  | ((with_reducible refine' ⟨_, _, _, _, rfl, ?fp1, ?fp2, ?fp3, ?fp4, ?_⟩); (case fp1 => walk_at "hp"); (case fp2 => assumption); (case fp3 => assumption); (case fp4 => walk_at "few"))
  | with_reducible refine s_fldE ?_
  | ((with_reducible refine' ⟨_, _, _, _, _, rfl, ?fp1, ?fp2, ?fp3, ?fp4, ?_⟩); (case fp1 => walk_at "hp"); (case fp2 => assumption); (case fp3 => assumption); (case fp4 => rfl))
  | with_reducible refine s_bm ?_ | with_reducible refine s_bm0 ?_
  | ((with_reducible refine' s_tyL ?ty1 ?_); (case ty1 => walk_at "hp"))
  | ((with_reducible refine' s_append ?ap1 ?ap2 ?_); (case ap1 => walk_at "hp"); (case ap2 => walk_at "sz"))
  | ((with_reducible refine' s_extend ?ap1 ?ap2 ?ap3 ?_); (case ap1 => walk_at "hp"); (case ap2 => walk_at "hp"); (case ap3 => walk_at "sz"))
  | with_reducible refine s_for (fun _ _ => ?_) | with_reducible refine s_lc ?_ | with_reducible refine s_iList ?_ | with_reducible refine s_iTup ?_ | with_reducible refine s_iRng1 ?_ | with_reducible refine s_iRng2 ?_
  | with_reducible refine s_yes ?_ | with_reducible refine s_par ?_
  | with_reducible refine s_make ?_ | with_reducible refine s_meth ?_
  | with_reducible refine s_tup ?_ | with_reducible refine s_lst ?_ | with_reducible refine s_call ?_
  | with_reducible refine ⟨rfl, ?_⟩
  | with_reducible refine ⟨_, rfl, ?_⟩
  | ((with_reducible refine' ⟨_, _, rfl, ?sd1, ?_⟩); (case sd1 => walk_at "sd"))
  | with_reducible refine ⟨_, _, rfl, ?_⟩
  | with_reducible refine .inl ⟨_, rfl, ?_⟩
  | dsimp only [List.set]
  | walk_at "rdx"
  | (refine fun _ _ => ?_))
local macro_rules | `(tactic| walk_at "rd") => `(tactic| repeat (first
  | (with_reducible show tVar _ _ _ _); refine s_var rfl ?_
  | with_reducible refine s_c ?_ | with_reducible refine s_op ?_ | with_reducible refine s_un ?_
  | with_reducible refine s_cons ?_ | with_reducible refine s_nil ?_ | with_reducible refine s_cb ?_
  | with_reducible refine s_test ?_ | with_reducible refine s_B ?_ | with_reducible refine s_not ?_ | with_reducible refine s_and ?_ | with_reducible refine s_or ?_
  | with_reducible refine s_if ?_ | with_reducible refine s_notV ?_ | with_reducible refine s_andV ?_ | with_reducible refine s_orV ?_
  | with_reducible refine s_orT ?_ | with_reducible refine s_andT ?_ | with_reducible refine s_chain ?_
  | with_reducible refine s_isi_int ?_ | with_reducible refine s_isi_int_bool ?_ | with_reducible refine s_isi_str ?_
  | with_reducible refine iteT ?_ | with_reducible refine iteF ?_ | with_reducible refine iteNT ?_ | with_reducible refine iteNF ?_
  | with_reducible refine s_isN ?_ | with_reducible refine s_notN ?_
  | ((with_reducible refine' s_2setE ?g1 ?_); (case g1 => first | (dsimp only [List.set, L2.wipe, List.map, List.foldl]; done) | (dsimp only [List.set, L2.wipe, List.map, List.foldl]; rfl)))
  | with_reducible refine s_seq ?_ | with_reducible refine s_ifS ?_ | with_reducible refine s_asg ?_ | with_reducible refine s_ret ?_ | with_reducible refine s_drop ?_ | with_reducible refine s_next ?_
  | ((with_reducible refine' s_gnameE ?g1 ?_); (case g1 => first | (dsimp only [List.set, L2.wipe, List.map, List.foldl]; done) | (dsimp only [List.set, L2.wipe, List.map, List.foldl]; rfl)))
  | with_reducible refine s_gsub ?_ | with_reducible refine s_gcons ?_ | with_reducible refine s_gnil ?_
  | (with_reducible show gTup _ _ _ _ _ _ _); refine s_gtup (by walk_at "hp") rfl ?_
  | with_reducible refine s_eqI ?_ | with_reducible refine s_neI ?_ | with_reducible refine s_eqS ?_ | with_reducible refine s_neB ?_ | with_reducible refine s_eqB ?_ | with_reducible refine s_neSr ?_ | with_reducible refine s_neS ?_
  | with_reducible refine s_I0 ?_
  | (with_reducible show rI _ _ _ _ _ _); refine s_I (by walk_at "sd") ?_
  | (with_reducible show rIxL _ _ _ _ _); refine s_ixL (by walk_at "hp") rfl ?_
  | (with_reducible show rIxT _ _ _ _ _); refine s_ixT (by walk_at "hp") rfl ?_
  | (with_reducible show rSetL _ _ _ _ _); refine s_setL (by walk_at "hp") rfl ?_
  | with_reducible refine s_prop ?_
  | (with_reducible show _ ≤ sizeLine ∧ _); refine ⟨le_size (by rfl), ?_⟩
  | with_reducible refine ite_NN ?_ | with_reducible refine ite_IN ?_ | with_reducible refine ite_nNN ?_ | with_reducible refine ite_nIN ?_ | with_reducible refine ite_RN ?_ | with_reducible refine ite_nRN ?_
  | with_reducible refine s_sfld ?_
  | ((with_reducible refine' ⟨_, _, _, _, rfl, ?fp1, ?fp2, ?fp3, ?fp4, ?_⟩); (case fp1 => walk_at "hp"); (case fp2 => assumption); (case fp3 => assumption); (case fp4 => walk_at "few"))
  | with_reducible refine s_fldE ?_
  | ((with_reducible refine' ⟨_, _, _, _, _, rfl, ?fp1, ?fp2, ?fp3, ?fp4, ?_⟩); (case fp1 => walk_at "hp"); (case fp2 => assumption); (case fp3 => assumption); (case fp4 => rfl))
  | with_reducible refine s_bm ?_ | with_reducible refine s_bm0 ?_
  | ((with_reducible refine' s_tyL ?ty1 ?_); (case ty1 => walk_at "hp"))
  | ((with_reducible refine' s_append ?ap1 ?ap2 ?_); (case ap1 => walk_at "hp"); (case ap2 => walk_at "sz"))
  | ((with_reducible refine' s_extend ?ap1 ?ap2 ?ap3 ?_); (case ap1 => walk_at "hp"); (case ap2 => walk_at "hp"); (case ap3 => walk_at "sz"))
  | with_reducible refine s_for (fun _ _ => ?_) | with_reducible refine s_lc ?_ | with_reducible refine s_iList ?_ | with_reducible refine s_iTup ?_ | with_reducible refine s_iRng1 ?_ | with_reducible refine s_iRng2 ?_
  | with_reducible refine s_yes ?_ | with_reducible refine s_par ?_
  | with_reducible refine s_make ?_ | with_reducible refine s_meth ?_
  | with_reducible refine s_tup ?_ | with_reducible refine s_lst ?_ | with_reducible refine s_call ?_
  | with_reducible refine ⟨rfl, ?_⟩
  | with_reducible refine ⟨_, rfl, ?_⟩
  | ((with_reducible refine' ⟨_, _, rfl, ?sd1, ?_⟩); (case sd1 => walk_at "sd"))
  | with_reducible refine ⟨_, _, rfl, ?_⟩
  | with_reducible refine .inl ⟨_, rfl, ?_⟩
  | dsimp only [List.set]
  | walk_at "rdx"
  | (refine fun _ _ => ?_)))

namespace My
open PySem L2
section
variable {P : Program} {w : World} {K : PySem.W.Frag} {mg : Str → Option Value} {base : Heap} {C_Many C_Table T_LINES T_ENDS : Addr} (M : Md K mg C_Many C_Table T_LINES T_ENDS)
include M
omit M
theorem NetAt.push2 {H : Hp} {D t : Addr} {ps : List (Int × Int)} {x y : Int} (h : NetAt H D ps) (ht : H t = some (.tup [.int x, .int y])) :
    ∃ acc, H D = some (.lst acc) ∧ acc.length = ps.length ∧ NetAt (upd H D (.lst (acc ++ [.ref t]))) D (ps ++ [(x, y)]) := by
  obtain ⟨ts, e, f, g⟩ := h
  have td : t ≠ D := ne_of ht e (by intro z; cases z)
  refine ⟨_, e, by rw [List.length_map, f], ts ++ [t], by rw [upd_same, List.map_append]; rfl, by simp [f], fun i a b hi => ?_⟩
  by_cases hlt : i < ps.length
  · rw [List.getElem?_append_left hlt] at hi
    obtain ⟨u, h1, h2⟩ := g i a b hi
    refine ⟨u, by rw [List.getElem?_append_left (by omega)]; exact h1, ?_⟩
    rw [upd_ne (ne_of h2 e (by intro z; cases z))]
    exact h2
  · have hi2 : i = ps.length := by
      have := (List.getElem?_eq_some_iff.mp hi).1
      simp at this
      omega
    subst hi2
    simp at hi
    obtain ⟨rfl, rfl⟩ := hi
    refine ⟨t, by rw [← f]; simp, ?_⟩
    rw [upd_ne td]
    exact ht
theorem NetAt.new {H : Hp} {D p : Addr} {o : HO} {ps : List (Int × Int)} (h : NetAt H D ps) (n : H p = none) : NetAt (upd H p o) D ps := h.same (My.Same.new n)
theorem NetAt.nil {H : Hp} {D : Addr} (h : H D = some (.lst [])) : NetAt H D [] := ⟨[], h, rfl, fun i x y z => by cases z⟩
theorem NetAt.upd {H : Hp} {D l : Addr} {xs : List V} {o : HO} {ps : List (Int × Int)} (h : NetAt H l ps) (n : l ≠ D) (e : H D = some (.lst xs)) : NetAt (upd H D o) l ps := by
  obtain ⟨ts, e2, f, g⟩ := h
  refine ⟨ts, by rw [upd_ne n]; exact e2, f, fun i x y hi => ?_⟩
  obtain ⟨t, h1, h2⟩ := g i x y hi
  exact ⟨t, h1, by rw [upd_ne (ne_of h2 e (by intro z; cases z))]; exact h2⟩
theorem NetAt.ext {H : Hp} {S D : Addr} {ps qs : List (Int × Int)} (h : NetAt H S ps) (k : NetAt H D qs) :
    ∃ xs zs, H S = some (.lst xs) ∧ H D = some (.lst zs) ∧ xs.length = ps.length ∧ zs.length = qs.length ∧ NetAt (L2.upd H S (.lst (xs ++ zs))) S (ps ++ qs) := by
  obtain ⟨ts, e, f, g⟩ := h
  obtain ⟨us, e2, f2, g2⟩ := k
  refine ⟨_, _, e, e2, by rw [List.length_map, f], by rw [List.length_map, f2], ts ++ us, by rw [upd_same, List.map_append], by simp [f, f2], fun i a b hi => ?_⟩
  by_cases hlt : i < ps.length
  · rw [List.getElem?_append_left hlt] at hi
    obtain ⟨u, h1, h2⟩ := g i a b hi
    refine ⟨u, by rw [List.getElem?_append_left (by omega)]; exact h1, ?_⟩
    rw [upd_ne (ne_of h2 e (by intro z; cases z))]
    exact h2
  · rw [List.getElem?_append_right (by omega)] at hi
    obtain ⟨u, h1, h2⟩ := g2 _ a b hi
    refine ⟨u, by rw [List.getElem?_append_right (by omega), f]; exact h1, ?_⟩
    rw [upd_ne (ne_of h2 e (by intro z; cases z))]
    exact h2
def rowP (b : Nat) (i : Nat) : List (Int × Int) := (List.range b).map fun j : Nat => ((i : Int), (j : Int))
def spots (a b : Nat) : List (Int × Int) := (List.range a).flatMap (rowP b)
def bitS (c i : Nat) : Bool := decide (Builtin.bitAnd ((c : Int) / 2 ^ i) 1 = 1)
/-- the pairs of the code c among the first n ones -/
def selN (ps : List (Int × Int)) (c : Nat) : Nat → List (Int × Int)
  | 0 => []
  | n + 1 => selN ps c n ++ (if bitS c n = true then [ps.getD n (0, 0)] else [])
def sel (ps : List (Int × Int)) (c : Nat) : List (Int × Int) := selN ps c ps.length
theorem selN_len (ps : List (Int × Int)) (c n : Nat) : (selN ps c n).length ≤ n := by
  induction n with
  | zero => exact Nat.le_refl _
  | succ n ih =>
    unfold selN
    rw [List.length_append]
    split
    · simp
      omega
    · simp
      omega
theorem rowP_len (b i : Nat) : (rowP b i).length = b := by simp [rowP]
theorem spots_succ (i b : Nat) : spots (i + 1) b = spots i b ++ rowP b i := by
  unfold spots
  rw [List.range_succ, List.flatMap_append]
  simp
theorem spots_len (a b : Nat) : (spots a b).length = a * b := by
  induction a with
  | zero => simp [spots]
  | succ a ih => rw [spots_succ, List.length_append, ih, rowP_len, Nat.succ_mul]
def spNets : Sp := fun vs H Q _ => ∃ a b : Nat, vs = [.int a, .int b] ∧ a ≤ 3 ∧ b ≤ 3 ∧ ∀ (R : Addr) (H' : Hp) (Ls : List Addr), Same H H' → H' R = some (.lst (Ls.map V.ref)) → Ls.length = 2 ^ (a * b) →
  (∀ c, c < 2 ^ (a * b) → ∃ l, Ls[c]? = some l ∧ NetAt H' l (sel (spots a b) c)) → Q (.ref R) H'
include M
theorem c__law_nets_in : Dn P w K mg base "_law_nets_in" 1 ["_law_a", "_law_b"] [] spNets := by
  refine dnN M.f__law_nets_in (fun F => ?_) (fun _ _ _ _ _ _ us hl => match us, hl with | [_, _], _ => rfl)
  refine fnG_body F sc__law_nets_in (fun vs H Q E h => ?_) (fun cdv A outer s H vs Q E hr h => ?_)
  · obtain ⟨a, b, rfl, _⟩ := h
    rfl
  · obtain ⟨a, b, rfl, ha, hb, k⟩ := h
    refine ⟨_, (pss_cons (ps_set (i := 2) sc__law_nets_in.nd rfl (.inr rfl) (pe_lst pa_nil)) (pss_cons (ps_for (passes_of rfl) rfl (pi_range1 (by rfl) M.b_range (pa_cons (pv 0) pa_nil)) (pg_name (i := 3) sc__law_nets_in.nd rfl (.inr rfl)) (pss_one (ps_expr (pe_bm PySem.F.plainAttrs_list PySem.F.slot_list_extend PySem.F.type_list_extend mt_extend (pv 2) (pa_cons (pe_lc (own := [("_law_j", 6)]) (g := gName 6) (tt := tYes) (by rfl) sc__law_nets_in.nd (pi_range1 (by rfl) M.b_range (pa_cons (pv 1) pa_nil)) (blkOk_by (own := [("_law_j", 6)]) (N := N__law_nets_in) (sc := defScope st__law_nets_in) (by decide +kernel)) (fun _ _ _ _ _ => pg_name (i := 6) sc__law_nets_in.nd rfl (by first | exact Or.inl rfl | exact Or.inr rfl)) (fun _ _ _ _ _ => pts_nil) (fun _ _ _ _ _ => (pe_tup (pa_cons (pv 3) (pa_cons (pv 6) pa_nil))))) pa_nil))))) (pss_one (ps_ret (pe_lc (own := [("_law_code", 4)]) (g := gName 4) (tt := tYes) (by rfl) sc__law_nets_in.nd (pi_range1 (by rfl) M.b_range (pa_cons (pe_op op_shl pe_int (pe_callB call_len_seq (by rfl) M.b_len (by decide +kernel) (pa_cons (pv 2) pa_nil))) pa_nil)) (blkOk_by (own := [("_law_code", 4)]) (N := N__law_nets_in) (sc := defScope st__law_nets_in) (by decide +kernel)) (fun _ _ _ _ _ => pg_name (i := 4) sc__law_nets_in.nd rfl (by first | exact Or.inl rfl | exact Or.inr rfl)) (fun _ _ _ _ _ => pts_nil) (fun _ _ _ _ _ => (pe_lc (own := [("_law_at", 5)]) (g := gName 5) (tt := _) (by rfl) sc__law_nets_in.nd (pi_range1 (by rfl) M.b_range (pa_cons (pe_callB (call_len_seqK (K := K) rfl) (by rfl) M.b_len (by decide +kernel) (pa_cons (pv 2) pa_nil)) pa_nil)) (by exact blkOk_nest (own := [("_law_at", 5)]) N__law_nets_in (defScope st__law_nets_in) rfl rfl (by decide +kernel)) (fun _ _ _ _ _ => pg_name (i := 5) sc__law_nets_in.nd rfl (by first | exact Or.inl rfl | exact Or.inr rfl)) (fun _ _ _ _ _ => pts_one (pt_cmpR op_eq (pe_op op_and (pe_op op_shr (pv 4) (pv 5)) pe_int) pe_int (nomark _))) (fun _ _ _ _ _ => (pe_ix (ix_listK (K := K) rfl) (pv 2) (pv 5) (fun _ _ => rfl)))))))))), ?_⟩
    refine st_eq (σ := [some _, some _, none, none, none, none, none]) rfl ?_
    walk_at "rd"
    rename_i S nS D0 hD0
    refine ⟨by omega, by omega, ?_⟩
    rw [Int.toNat_natCast]
    refine for_range (lo := 0) (n := a) (fun i σ H1 => (∃ u v w x, σ = [some (.int a), some (.int b), some (.ref S), u, v, w, x]) ∧ Same H H1 ∧ NetAt H1 S (spots i b)) ?_ ?_ ?_
    · exact ⟨⟨_, _, _, _, rfl⟩, by walk_at "sm", NetAt.nil upd_same⟩
    · subst_vars
      rintro i σ H1 hi ⟨⟨u, v, w', x, rfl⟩, s1, hS⟩
      walk_at "rd"
      obtain ⟨ts, eS, f, g⟩ := id hS
      refine s_tyL eS ?_
      simp only [Int.zero_add]
      walk_at "rd"
      refine ⟨by omega, by omega, fun D nD => ?_⟩
      rw [Int.toNat_natCast]
      refine lc_range (lo := 0) (n := b) (fun j H2 => Same H1 H2 ∧ NetAt H2 D ((List.range j).map fun k : Nat => ((i : Int), (k : Int)))) ?_ ?_ ?_
      · exact ⟨by walk_at "sm", NetAt.nil upd_same⟩
      · rintro j H2 hj ⟨s2, hD⟩
        simp only [Int.zero_add]
        walk_at "rd"
        rename_i p np
        obtain ⟨acc, h1, h2, h3⟩ := (hD.new np).push2 (t := p) upd_same
        refine ⟨acc, h1, ?_, by walk_at "sm", ?_⟩
        · rw [h2, List.length_map, List.length_range, sizeLine_eq]
          omega
        · rw [List.range_succ, List.map_append]
          exact h3
      · rintro H2 ⟨s2, hD⟩
        obtain ⟨xs, zs, h1, h2, l1, l2, h3⟩ := (hS.same s2).ext hD
        walk_at "rd"
        refine s_extend h1 h2 ?_ ?_
        · have e1 := spots_len i b
          have e2 : i * b ≤ 3 * 3 := Nat.mul_le_mul (by omega) hb
          have e3 : ((List.range b).map fun k : Nat => ((i : Int), (k : Int))).length = b := by simp
          rw [sizeLine_eq]
          omega
        · refine ⟨⟨_, _, _, _, rfl⟩, by walk_at "sm", ?_⟩
          rw [spots_succ]
          exact h3
    · subst_vars
      rintro σ H1 ⟨⟨u, v, w', x, rfl⟩, s1, hS⟩
      walk_at "rd"
      obtain ⟨ts, eS, f, g⟩ := id hS
      have hab : a * b ≤ 9 := Nat.mul_le_mul ha hb
      have hp : 2 ^ (a * b) ≤ 512 := Nat.pow_le_pow_right (n := 2) (by decide) hab
      have hn : (ts.map V.ref).length = a * b := by rw [List.length_map, f, spots_len]
      refine ⟨_, _, rfl, .inl (SqL.of eS), ?_⟩
      rw [hn]
      have cp : CPow 1 ((a * b : Nat) : Int) := ⟨by omega, by omega, by decide⟩
      walk_at "rd"
      rw [show (1 * 2 ^ (((a * b : Nat) : Int).toNat) : Int) = ((2 ^ (a * b) : Nat) : Int) from by rw [Int.toNat_natCast, Int.one_mul, Int.natCast_pow]; rfl]
      refine ⟨Int.le_trans (by decide) (Int.natCast_nonneg _), Int.lt_of_le_of_lt (Int.ofNat_le.mpr hp) (by decide), fun D nD => ?_⟩
      rw [Int.toNat_natCast]
      refine lc_range (lo := 0) (n := 2 ^ (a * b)) (fun c H2 => Same H1 H2 ∧ ∃ Ls : List Addr, H2 D = some (.lst (Ls.map V.ref)) ∧ Ls.length = c ∧ ∀ k, k < c → ∃ l, Ls[k]? = some l ∧ l ≠ D ∧ NetAt H2 l (sel (spots a b) k)) ?_ ?_ ?_
      · exact ⟨by walk_at "sm", [], upd_same, rfl, fun k h => absurd h (Nat.not_lt_zero _)⟩
      · rintro c H2 hc ⟨s2, Ls, hD, hL, hk⟩
        simp only [Int.zero_add]
        walk_at "rd"
        refine s_len (SqL.of (s2 _ _ eS)) ?_
        rw [hn]
        walk_at "rd"
        refine ⟨by omega, by omega, fun D2 nD2 => ?_⟩
        rw [Int.toNat_natCast]
        have d2 : D2 ≠ D := (ne_of_none hD nD2).symm
        refine lc_range (lo := 0) (n := a * b) (fun m H3 => Same H2 H3 ∧ NetAt H3 D2 (selN (spots a b) c m)) ?_ ?_ ?_
        · exact ⟨by walk_at "sm", NetAt.nil upd_same⟩
        · rintro m H3 hm ⟨s3, hN⟩
          simp only [Int.zero_add]
          walk_at "rd"
          simp only [Int.toNat_natCast]
          refine ite_d (fun hc => ?_) (fun hc => ?_)
          · have hb1 : bitS c m = true := decide_eq_true hc
            have hm2 : m < (spots a b).length := by rw [spots_len]; exact hm
            obtain ⟨t, h1, h2⟩ := g m (spots a b)[m].1 (spots a b)[m].2 (by rw [List.getElem?_eq_getElem hm2])
            walk_at "rd"
            refine s_ixL (v := .ref t) (s3 _ _ (s2 _ _ eS)) (atI_nat (by rw [List.getElem?_map, h1]; rfl)) ?_
            obtain ⟨acc, h4, h5, h6⟩ := hN.push2 (s3 _ _ (s2 _ _ h2))
            refine ⟨acc, h4, ?_, by walk_at "sm", ?_⟩
            · have := selN_len (spots a b) c m
              rw [sizeLine_eq]
              omega
            · unfold selN
              rw [if_pos hb1, List.getD_eq_getElem?_getD, List.getElem?_eq_getElem hm2]
              exact h6
          · have hb1 : bitS c m = false := decide_eq_false hc
            walk_at "rd"
            refine ⟨s3, ?_⟩
            unfold selN
            rw [if_neg (by rw [hb1]; exact Bool.false_ne_true), List.append_nil]
            exact hN
        · rintro H3 ⟨s3, hN⟩
          walk_at "rd"
          have hD3 := s3 _ _ hD
          refine ⟨_, hD3, ?_, ?_, Ls ++ [D2], by rw [upd_same, List.map_append]; rfl, by simp [hL], fun k hk' => ?_⟩
          · rw [List.length_map, hL, sizeLine_eq]
            omega
          · have := My.Same.tr s2 s3
            walk_at "sm"
          · by_cases hlt : k < c
            · obtain ⟨l, h1, h2, h3⟩ := hk k hlt
              exact ⟨l, by rw [List.getElem?_append_left (by omega)]; exact h1, h2, (h3.same s3).upd h2 hD3⟩
            · have ek : k = c := by omega
              subst ek
              refine ⟨D2, by rw [← hL]; simp, d2, ?_⟩
              have e1 : sel (spots a b) k = selN (spots a b) k (a * b) := by unfold sel; rw [spots_len]
              rw [e1]
              exact hN.upd d2 hD3
      · rintro H2 ⟨s2, Ls, hD, hL, hk⟩
        walk_at "rd"
        exact k _ _ Ls (My.Same.tr s1 s2) hD hL fun c hc => by
          obtain ⟨l, h1, _, h3⟩ := hk c hc
          exact ⟨l, h1, h3⟩
end
end My

open My L2 PySem
open My L2 PySem
local macro_rules | `(tactic| walk_at "as") => `(tactic| with_reducible assumption)
local macro_rules | `(tactic| walk_at "hp") => `(tactic| first
  | walk_at "as" | exact upd_same
  | (rw [upd_ne (by walk_at "ne")]; walk_at "hp")
  | (refine But.get (by walk_at "as") ?hp1 ?hp2; (case hp1 => walk_at "hp"); (case hp2 => walk_at "ne"))
  | (refine My.Same.get (by walk_at "as") ?hp1; (case hp1 => walk_at "hp")))
local macro_rules | `(tactic| walk_at "ne") => `(tactic| first
  | walk_at "as" | exact Ne.symm (by walk_at "as")
  | (refine' ne_of_none ?ne1 ?ne2; (case ne2 => walk_at "as"); (case ne1 => walk_at "hp"))
  | (refine' Ne.symm (ne_of_none ?ne1 ?ne2); (case ne2 => walk_at "as"); (case ne1 => walk_at "hp"))
  | exact ne_of (by walk_at "hp") (by walk_at "hp") (by intro z; cases z))
local macro_rules | `(tactic| walk_at "sd") => `(tactic| first
  | walk_at "as" | omega | decide | exact ⟨by omega, by omega⟩ | exact .inl ⟨by omega, by omega⟩ | exact .inr ⟨by omega, by omega⟩ | exact divp_wide (by walk_at "as") (by walk_at "as") | exact Sm.cmul (by walk_at "as") (by walk_at "as") | exact cmul_small (by omega) (by omega) (by omega) (by omega) | exact ⟨by omega, by decide⟩)
local macro_rules | `(tactic| walk_at "bt") => `(tactic| first
  | walk_at "as" | exact But.refl _ _ | exact Same.but (by walk_at "as")
  | (refine But.trans ?bt1 But.at; (case bt1 => walk_at "bt"))
  | (refine But.trans ?bt1 (But.new (by first | walk_at "as" | walk_at "hp")); (case bt1 => walk_at "bt"))
  | (refine But.trans ?bt1 (by walk_at "as"); (case bt1 => walk_at "bt"))
  | (refine But.trans ?bt1 (Same.but (by walk_at "as")); (case bt1 => walk_at "bt")))
local macro_rules | `(tactic| walk_at "sm") => `(tactic| first
  | walk_at "as" | exact My.Same.rfl' _
  | (refine' My.Same.at_ ?sm1 ?sm2; (case sm1 => walk_at "as"); (case sm2 => walk_at "sm"))
  | (refine' My.Same.tr ?sm1 (My.Same.new ?sm2); (case sm2 => walk_at "as"); (case sm1 => walk_at "sm"))
  | (refine' My.Same.tr ?sm1 ?sm2; (case sm2 => walk_at "as"); (case sm1 => walk_at "sm")))
local macro_rules | `(tactic| walk_at "sz") => `(tactic| first
  | assumption | exact lt_size (by rfl) | exact le_size (by rfl) | (rw [sizeLine_eq]; omega)
  | (rw [sizeLine_eq]; simp only [List.length_append, List.length_map, List.length_cons, List.length_nil]; omega))
local macro_rules | `(tactic| walk_at "few") => `(tactic| (repeat refine few_put ?_); exact few0)
local macro_rules | `(tactic| walk_at "rd1") => `(tactic| first
  | (with_reducible show tVar _ _ _ _); refine s_var rfl ?_
  | with_reducible refine s_c ?_ | with_reducible refine s_op ?_ | with_reducible refine s_un ?_
  | with_reducible refine s_cons ?_ | with_reducible refine s_nil ?_ | with_reducible refine s_cb ?_
  | with_reducible refine s_test ?_ | with_reducible refine s_B ?_ | with_reducible refine s_not ?_ | with_reducible refine s_and ?_ | with_reducible refine s_or ?_
  | with_reducible refine s_if ?_ | with_reducible refine s_notV ?_ | with_reducible refine s_andV ?_ | with_reducible refine s_orV ?_
  | with_reducible refine s_orT ?_ | with_reducible refine s_andT ?_ | with_reducible refine s_chain ?_
  | with_reducible refine s_isi_int ?_ | with_reducible refine s_isi_int_bool ?_ | with_reducible refine s_isi_str ?_
  | with_reducible refine iteT ?_ | with_reducible refine iteF ?_ | with_reducible refine iteNT ?_ | with_reducible refine iteNF ?_
  | with_reducible refine s_isN ?_ | with_reducible refine s_notN ?_
  | ((with_reducible refine' s_2setE ?g1 ?_); (case g1 => first | (dsimp only [List.set, L2.wipe, List.map, List.foldl]; done) | (dsimp only [List.set, L2.wipe, List.map, List.foldl]; rfl)))
  | with_reducible refine s_seq ?_ | with_reducible refine s_ifS ?_ | with_reducible refine s_asg ?_ | with_reducible refine s_ret ?_ | with_reducible refine s_drop ?_ | with_reducible refine s_next ?_
  | ((with_reducible refine' s_gnameE ?g1 ?_); (case g1 => first | (dsimp only [List.set, L2.wipe, List.map, List.foldl]; done) | (dsimp only [List.set, L2.wipe, List.map, List.foldl]; rfl)))
  | with_reducible refine s_gsub ?_ | with_reducible refine s_gcons ?_ | with_reducible refine s_gnil ?_
  | (with_reducible show gTup _ _ _ _ _ _ _); refine s_gtup (by walk_at "hp") rfl ?_
  | with_reducible refine s_eqI ?_ | with_reducible refine s_neI ?_ | with_reducible refine s_eqS ?_ | with_reducible refine s_neB ?_ | with_reducible refine s_eqB ?_ | with_reducible refine s_neSr ?_ | with_reducible refine s_neS ?_
  | with_reducible refine s_I0 ?_
  | (with_reducible show rI _ _ _ _ _ _); refine s_I (by walk_at "sd") ?_
  | (with_reducible show rIxL _ _ _ _ _); refine s_ixL (by walk_at "hp") rfl ?_
  | (with_reducible show rIxT _ _ _ _ _); refine s_ixT (by walk_at "hp") rfl ?_
  | (with_reducible show rSetL _ _ _ _ _); refine s_setL (by walk_at "hp") rfl ?_
  | with_reducible refine s_prop ?_
  | (with_reducible show _ ≤ sizeLine ∧ _); refine ⟨le_size (by rfl), ?_⟩
  | with_reducible refine ite_NN ?_ | with_reducible refine ite_IN ?_ | with_reducible refine ite_nNN ?_ | with_reducible refine ite_nIN ?_ | with_reducible refine ite_RN ?_ | with_reducible refine ite_nRN ?_
  | with_reducible refine s_sfld ?_
  | ((with_reducible refine' ⟨_, _, _, _, rfl, ?fp1, ?fp2, ?fp3, ?fp4, ?_⟩); (case fp1 => walk_at "hp"); (case fp2 => assumption); (case fp3 => assumption); (case fp4 => walk_at "few"))
  | with_reducible refine s_fldE ?_
  | ((with_reducible refine' ⟨_, _, _, _, _, rfl, ?fp1, ?fp2, ?fp3, ?fp4, ?_⟩); (case fp1 => walk_at "hp"); (case fp2 => assumption); (case fp3 => assumption); (case fp4 => rfl))
  | with_reducible refine s_bm ?_ | with_reducible refine s_bm0 ?_
  | ((with_reducible refine' s_tyL ?ty1 ?_); (case ty1 => walk_at "hp"))
  | ((with_reducible refine' s_append ?ap1 ?ap2 ?_); (case ap1 => walk_at "hp"); (case ap2 => walk_at "sz"))
  | ((with_reducible refine' s_extend ?ap1 ?ap2 ?ap3 ?_); (case ap1 => walk_at "hp"); (case ap2 => walk_at "hp"); (case ap3 => walk_at "sz"))
  | with_reducible refine s_for (fun _ _ => ?_) | with_reducible refine s_lc ?_ | with_reducible refine s_iList ?_ | with_reducible refine s_iTup ?_ | with_reducible refine s_iRng1 ?_ | with_reducible refine s_iRng2 ?_
  | with_reducible refine s_yes ?_ | with_reducible refine s_par ?_
  | with_reducible refine s_make ?_ | with_reducible refine s_meth ?_
  | with_reducible refine s_tup ?_ | with_reducible refine s_lst ?_ | with_reducible refine s_call ?_
  | with_reducible refine ⟨rfl, ?_⟩
  | with_reducible refine ⟨_, rfl, ?_⟩
  | ((with_reducible refine' ⟨_, _, rfl, ?sd1, ?_⟩); (case sd1 => walk_at "sd"))
  | with_reducible refine ⟨_, _, rfl, ?_⟩
  | with_reducible refine .inl ⟨_, rfl, ?_⟩
  | dsimp only [List.set]
  | walk_at "rdx"
  | (refine fun _ _ => ?_))
local macro_rules | `(tactic| walk_at "rd") => `(tactic| repeat (first
  | (with_reducible show tVar _ _ _ _); refine s_var rfl ?_
  | with_reducible refine s_c ?_ | with_reducible refine s_op ?_ | with_reducible refine s_un ?_
  | with_reducible refine s_cons ?_ | with_reducible refine s_nil ?_ | with_reducible refine s_cb ?_
  | with_reducible refine s_test ?_ | with_reducible refine s_B ?_ | with_reducible refine s_not ?_ | with_reducible refine s_and ?_ | with_reducible refine s_or ?_
  | with_reducible refine s_if ?_ | with_reducible refine s_notV ?_ | with_reducible refine s_andV ?_ | with_reducible refine s_orV ?_
  | with_reducible refine s_orT ?_ | with_reducible refine s_andT ?_ | with_reducible refine s_chain ?_
  | with_reducible refine s_isi_int ?_ | with_reducible refine s_isi_int_bool ?_ | with_reducible refine s_isi_str ?_
  | with_reducible refine iteT ?_ | with_reducible refine iteF ?_ | with_reducible refine iteNT ?_ | with_reducible refine iteNF ?_
  | with_reducible refine s_isN ?_ | with_reducible refine s_notN ?_
  | ((with_reducible refine' s_2setE ?g1 ?_); (case g1 => first | (dsimp only [List.set, L2.wipe, List.map, List.foldl]; done) | (dsimp only [List.set, L2.wipe, List.map, List.foldl]; rfl)))
  | with_reducible refine s_seq ?_ | with_reducible refine s_ifS ?_ | with_reducible refine s_asg ?_ | with_reducible refine s_ret ?_ | with_reducible refine s_drop ?_ | with_reducible refine s_next ?_
  | ((with_reducible refine' s_gnameE ?g1 ?_); (case g1 => first | (dsimp only [List.set, L2.wipe, List.map, List.foldl]; done) | (dsimp only [List.set, L2.wipe, List.map, List.foldl]; rfl)))
  | with_reducible refine s_gsub ?_ | with_reducible refine s_gcons ?_ | with_reducible refine s_gnil ?_
  | (with_reducible show gTup _ _ _ _ _ _ _); refine s_gtup (by walk_at "hp") rfl ?_
  | with_reducible refine s_eqI ?_ | with_reducible refine s_neI ?_ | with_reducible refine s_eqS ?_ | with_reducible refine s_neB ?_ | with_reducible refine s_eqB ?_ | with_reducible refine s_neSr ?_ | with_reducible refine s_neS ?_
  | with_reducible refine s_I0 ?_
  | (with_reducible show rI _ _ _ _ _ _); refine s_I (by walk_at "sd") ?_
  | (with_reducible show rIxL _ _ _ _ _); refine s_ixL (by walk_at "hp") rfl ?_
  | (with_reducible show rIxT _ _ _ _ _); refine s_ixT (by walk_at "hp") rfl ?_
  | (with_reducible show rSetL _ _ _ _ _); refine s_setL (by walk_at "hp") rfl ?_
  | with_reducible refine s_prop ?_
  | (with_reducible show _ ≤ sizeLine ∧ _); refine ⟨le_size (by rfl), ?_⟩
  | with_reducible refine ite_NN ?_ | with_reducible refine ite_IN ?_ | with_reducible refine ite_nNN ?_ | with_reducible refine ite_nIN ?_ | with_reducible refine ite_RN ?_ | with_reducible refine ite_nRN ?_
  | with_reducible refine s_sfld ?_
  | ((with_reducible refine' ⟨_, _, _, _, rfl, ?fp1, ?fp2, ?fp3, ?fp4, ?_⟩); (case fp1 => walk_at "hp"); (case fp2 => assumption); (case fp3 => assumption); (case fp4 => walk_at "few"))
  | with_reducible refine s_fldE ?_
  | ((with_reducible refine' ⟨_, _, _, _, _, rfl, ?fp1, ?fp2, ?fp3, ?fp4, ?_⟩); (case fp1 => walk_at "hp"); (case fp2 => assumption); (case fp3 => assumption); (case fp4 => rfl))
  | with_reducible refine s_bm ?_ | with_reducible refine s_bm0 ?_
  | ((with_reducible refine' s_tyL ?ty1 ?_); (case ty1 => walk_at "hp"))
  | ((with_reducible refine' s_append ?ap1 ?ap2 ?_); (case ap1 => walk_at "hp"); (case ap2 => walk_at "sz"))
  | ((with_reducible refine' s_extend ?ap1 ?ap2 ?ap3 ?_); (case ap1 => walk_at "hp"); (case ap2 => walk_at "hp"); (case ap3 => walk_at "sz"))
  | with_reducible refine s_for (fun _ _ => ?_) | with_reducible refine s_lc ?_ | with_reducible refine s_iList ?_ | with_reducible refine s_iTup ?_ | with_reducible refine s_iRng1 ?_ | with_reducible refine s_iRng2 ?_
  | with_reducible refine s_yes ?_ | with_reducible refine s_par ?_
  | with_reducible refine s_make ?_ | with_reducible refine s_meth ?_
  | with_reducible refine s_tup ?_ | with_reducible refine s_lst ?_ | with_reducible refine s_call ?_
  | with_reducible refine ⟨rfl, ?_⟩
  | with_reducible refine ⟨_, rfl, ?_⟩
  | ((with_reducible refine' ⟨_, _, rfl, ?sd1, ?_⟩); (case sd1 => walk_at "sd"))
  | with_reducible refine ⟨_, _, rfl, ?_⟩
  | with_reducible refine .inl ⟨_, rfl, ?_⟩
  | dsimp only [List.set]
  | walk_at "rdx"
  | (refine fun _ _ => ?_)))

namespace My
open PySem L2
section
variable {P : Program} {w : World} {K : PySem.W.Frag} {mg : Str → Option Value} {base : Heap} {C_Many C_Table T_LINES T_ENDS : Addr} (M : Md K mg C_Many C_Table T_LINES T_ENDS)
include M
omit M
def deg (e n i : Int) : Int := e / n + if i < e % n then 1 else 0
/-- the table of e pairs leaves each row a number that is let -/
def tabB (a b : Nat) (p : Int) (q : Option Int) (r : Int) (s : Option Int) (e : Nat) : Bool :=
  (List.range a).all (fun i => letB p q (deg e a i)) && (List.range b).all (fun j => letB r s (deg e b j))
def spTabs : Sp := fun vs H Q _ => ∃ (a b : Nat) (x y l : Addr) (p : Int) (q : Option Int) (r : Int) (s : Option Int) (fs : List Int), vs = [.int a, .int b, .ref x, .ref y, .ref l] ∧ a ≤ 3 ∧ b ≤ 3 ∧
  H x = some (.tup [.int p, optV q]) ∧ H y = some (.tup [.int r, optV s]) ∧ H l = some (.lst (fs.map V.int)) ∧ (∀ e : Nat, e ≤ a * b → tabB a b p q r s e = decide ((e : Int) ∈ fs)) ∧ ∀ H', Same H H' → Q (.bl true) H'
include M
theorem c__law_tables_right : Dn P w K mg base "_law_tables_right" 6 ["_law_a", "_law_b", "_law_one", "_law_two", "_law_found"] [] spTabs := by
  have c__law_lets := c__law_lets (P := P) (w := w) (base := base) M
  have c_Table_3 := c_Table_3 (P := P) (w := w) (base := base) M
  have c_Table_degree := c_Table_degree (P := P) (w := w) (base := base) M
  refine dnN M.f__law_tables_right (fun F => ?_) (fun _ _ _ _ _ _ us hl => match us, hl with | [_, _, _, _, _], _ => rfl)
  refine fnG_body F sc__law_tables_right (fun vs H Q E h => ?_) (fun cdv A outer s H vs Q E hr h => ?_)
  · obtain ⟨a, b, x, y, l, p, q, r, s, fs, rfl, _⟩ := h
    rfl
  · obtain ⟨a, b, x, y, l, p, q, r, s, fs, rfl, ha, hb, hx, hy, hl, ht, k⟩ := h
    have hab : a * b ≤ 9 := Nat.mul_le_mul ha hb
    have cab : CMulW (a : Int) (b : Int) := cmul_small (by omega) (by omega) (by omega) (by omega)
    refine ⟨_, (pss_cons (ps_for (passes_of rfl) rfl (pi_range1 (by rfl) M.b_range (pa_cons (pe_op op_add (pe_op op_mulW (pv 0) (pv 1)) pe_int) pa_nil)) (pg_name (i := 5) sc__law_tables_right.nd rfl (.inl rfl)) (pss_cons (ps_set (i := 6) sc__law_tables_right.nd rfl (.inr rfl) (pe_makeD c_Table_3 (hr.mono (by decide)) rfl (pa_cons (pv 0) (pa_cons (pv 1) (pa_cons (pv 5) pa_nil))))) (pss_cons (ps_set (i := 7) sc__law_tables_right.nd rfl (.inl rfl) (pe_callB (cr_all rfl) (by rfl) M.b_all (by decide +kernel) (pa_cons (pe_lc (own := [("_law_i", 9)]) (g := gName 9) (tt := tYes) (by rfl) sc__law_tables_right.nd (pi_range1 (by rfl) M.b_range (pa_cons (pv 0) pa_nil)) (blkOk_by (own := [("_law_i", 9)]) (N := N__law_tables_right) (sc := defScope st__law_tables_right) (by decide +kernel)) (fun _ _ _ _ _ => pg_name (i := 9) sc__law_tables_right.nd rfl (by first | exact Or.inl rfl | exact Or.inr rfl)) (fun _ _ _ _ _ => pts_nil) (fun _ _ _ _ _ => (pe_callD c__law_lets (hr.mono (by decide)) rfl (pa_cons (pv 2) (pa_cons (pe_methD c_Table_degree (pv 6) (hr.mono (by decide)) (pa_cons pe_str (pa_cons (pv 9) pa_nil))) pa_nil))))) pa_nil))) (pss_cons (ps_set (i := 8) sc__law_tables_right.nd rfl (.inl rfl) (pe_callB (cr_all rfl) (by rfl) M.b_all (by decide +kernel) (pa_cons (pe_lc (own := [("_law_j", 10)]) (g := gName 10) (tt := tYes) (by rfl) sc__law_tables_right.nd (pi_range1 (by rfl) M.b_range (pa_cons (pv 1) pa_nil)) (blkOk_by (own := [("_law_j", 10)]) (N := N__law_tables_right) (sc := defScope st__law_tables_right) (by decide +kernel)) (fun _ _ _ _ _ => pg_name (i := 10) sc__law_tables_right.nd rfl (by first | exact Or.inl rfl | exact Or.inr rfl)) (fun _ _ _ _ _ => pts_nil) (fun _ _ _ _ _ => (pe_callD c__law_lets (hr.mono (by decide)) rfl (pa_cons (pv 3) (pa_cons (pe_methD c_Table_degree (pv 6) (hr.mono (by decide)) (pa_cons pe_str (pa_cons (pv 10) pa_nil))) pa_nil))))) pa_nil))) (pss_one (ps_if (pt_cmpR op_ne (pe_and (pv 7) (pe_one (pv 8))) (pe_cmpR op_in_seq (pv 5) (pv 4) (by first | exact nomark _ | rfl)) (nomark _)) (pss_one (ps_ret pe_bl)) pss_nil)))))) (pss_one (ps_ret pe_bl))), ?_⟩
    refine st_eq (σ := [some _, some _, some _, some _, some _, none, none, none, none, none, none]) rfl ?_
    walk_at "rd"
    rw [show (a : Int) * (b : Int) + 1 = ((a * b + 1 : Nat) : Int) from by simp]
    refine ⟨Int.le_trans (by decide) (Int.natCast_nonneg _), Int.lt_of_le_of_lt (Int.ofNat_le.mpr (show a * b + 1 ≤ 10 by omega)) (by decide), ?_⟩
    rw [Int.toNat_natCast]
    refine for_range (lo := 0) (n := a * b + 1) (fun e σ H1 => (∃ u v w z, σ = [some (.int a), some (.int b), some (.ref x), some (.ref y), some (.ref l), u, v, w, z, none, none]) ∧ Same H H1) ?_ ?_ ?_
    · exact ⟨⟨_, _, _, _, rfl⟩, My.Same.rfl' H⟩
    · subst_vars
      rintro e σ H1 he ⟨⟨u1, u2, u3, u4, rfl⟩, s1⟩
      simp only [Int.zero_add]
      walk_at "rd"
      rename_i X dX nX ndX
      refine fun _ => ⟨_, _, a, b, e, rfl, upd_same, by omega, by omega, by omega, ?_, cab, fun H2 b2 t2 => ⟨rfl, ?_⟩⟩
      · have h2 : e ≤ a * b := by omega
        exact_mod_cast h2
      have S2 : Same H1 H2 := b2.same (by walk_at "sm") nX
      obtain ⟨dx, et⟩ := t2
      have hx2 := S2 _ _ (s1 _ _ hx)
      walk_at "rd"
      refine ⟨by omega, by omega, fun D9 nD9 => ?_⟩
      rw [Int.toNat_natCast]
      refine lc_range (lo := 0) (n := a) (fun i H3 => Same H2 H3 ∧ H3 D9 = some (.lst ((List.range i).map fun k : Nat => V.bl (letB p q (deg e a k))))) ?_ ?_ ?_
      · exact ⟨by walk_at "sm", upd_same⟩
      · rintro i H3 hi ⟨s3, hD⟩
        simp only [Int.zero_add]
        walk_at "rd"
        refine ⟨_, _, _, rfl, s3 _ _ et, by rfl, ?_⟩
        walk_at "rd"
        refine ⟨X, true, i, a, b, e, rfl, ⟨dx, s3 _ _ et⟩, by omega, (show (i : Int) < a by omega), lg (k := 62) (sm62 (show (0 : Int) ≤ a by omega) (show (a : Int) < 4611686018427387904 by omega)), ?_⟩
        walk_at "rd"
        refine ⟨_, p, q, _, rfl, s3 _ _ hx2, ?_⟩
        refine ⟨_, hD, ?_, by walk_at "sm", ?_⟩
        · rw [List.length_map, List.length_range, sizeLine_eq]
          omega
        · rw [upd_same, List.range_succ, List.map_append]
          rfl
      · rintro H3 ⟨s3, hD⟩
        have hvD9 : H3 D9 = some (.lst (((List.range a).map fun k : Nat => letB p q (deg e a k)).map V.bl)) := by
          rw [hD, List.map_map]
          rfl
        walk_at "rd"
        refine ⟨_, _, rfl, SqL.of hvD9, ?_⟩
        rw [List.all_map]
        walk_at "rd"
        have et3 := s3 _ _ et
        have hy3 := s3 _ _ (S2 _ _ (s1 _ _ hy))
        have hl3 := s3 _ _ (S2 _ _ (s1 _ _ hl))
        refine ⟨by omega, by omega, fun F9 nF9 => ?_⟩
        rw [Int.toNat_natCast]
        refine lc_range (lo := 0) (n := b) (fun i H4 => Same H3 H4 ∧ H4 F9 = some (.lst ((List.range i).map fun k : Nat => V.bl (letB r s (deg e b k))))) ?_ ?_ ?_
        · exact ⟨by walk_at "sm", upd_same⟩
        · rintro i H4 hi ⟨s4, hD⟩
          simp only [Int.zero_add]
          walk_at "rd"
          refine ⟨_, _, _, rfl, s4 _ _ et3, by rfl, ?_⟩
          walk_at "rd"
          refine ⟨X, false, i, a, b, e, rfl, ⟨dx, s4 _ _ et3⟩, by omega, (show (i : Int) < b by omega), lg (k := 62) (sm62 (show (0 : Int) ≤ b by omega) (show (b : Int) < 4611686018427387904 by omega)), ?_⟩
          walk_at "rd"
          refine ⟨_, r, s, _, rfl, s4 _ _ hy3, ?_⟩
          refine ⟨_, hD, ?_, by walk_at "sm", ?_⟩
          · rw [List.length_map, List.length_range, sizeLine_eq]
            omega
          · rw [upd_same, List.range_succ, List.map_append]
            rfl
        · rintro H4 ⟨s4, hD⟩
          have hvF9 : H4 F9 = some (.lst (((List.range b).map fun k : Nat => letB r s (deg e b k)).map V.bl)) := by
            rw [hD, List.map_map]
            rfl
          walk_at "rd"
          refine ⟨_, _, rfl, SqL.of hvF9, ?_⟩
          rw [List.all_map]
          walk_at "rd"
          refine ite_b (fun f1 => ?_) (fun f1 => ?_)
          · walk_at "rd"
            refine ⟨_, _, rfl, .inl (SqL.of (s4 _ _ hl3)), rfl, flat_ints fs, ?_⟩
            walk_at "rd"
            have e1 : tabB a b p q r s e = (List.range b).all (fun j => letB r s (deg e b j)) := by
              unfold tabB
              rw [show (List.range a).all (fun i => letB p q (deg e a i)) = true from f1]
              rfl
            have e2 := ht e (by omega)
            rw [e1] at e2
            have e3 : (((List.range b).all ((fun b => id b) ∘ fun k : Nat => letB r s (deg e b k))) != (if false = true then !inV (V.int e) (fs.map V.int) else inV (V.int e) (fs.map V.int))) = false := by
              rw [if_neg Bool.false_ne_true, inV_ints, ← e2]
              exact bne_self_eq_false _
            refine (iff_of_eq (congrArg (fun z : Bool => if z = true then _ else _) e3)).mpr ?_
            walk_at "rd"
            exact ⟨⟨_, _, _, _, rfl⟩, My.Same.tr s1 (My.Same.tr S2 (My.Same.tr s3 s4))⟩
          · walk_at "rd"
            refine ⟨_, _, rfl, .inl (SqL.of (s4 _ _ hl3)), rfl, flat_ints fs, ?_⟩
            walk_at "rd"
            have e1 : tabB a b p q r s e = false := by
              unfold tabB
              rw [show (List.range a).all (fun i => letB p q (deg e a i)) = false from f1]
              rfl
            have e2 := ht e (by omega)
            rw [e1] at e2
            have e3 : (false != (if false = true then !inV (V.int e) (fs.map V.int) else inV (V.int e) (fs.map V.int))) = false := by
              rw [if_neg Bool.false_ne_true, inV_ints, ← e2]
              rfl
            refine (iff_of_eq (congrArg (fun z : Bool => if z = true then _ else _) e3)).mpr ?_
            walk_at "rd"
            exact ⟨⟨_, _, _, _, rfl⟩, My.Same.tr s1 (My.Same.tr S2 (My.Same.tr s3 s4))⟩
    · subst_vars
      rintro σ H1 ⟨⟨u1, u2, u3, u4, rfl⟩, s1⟩
      walk_at "rd"
      exact k _ s1
end
end My

namespace My
open PySem L2
/-! ### the totals that are let: a mathematics without Python -/
/-- e pairs, dealt as a table -/
def rowOf (a e n : Nat) : Nat := if n < (e % a) * (e / a + 1) then n / (e / a + 1) else e % a + (n - (e % a) * (e / a + 1)) / (e / a)
def codeOf (a b e : Nat) : Nat := ((List.range e).map fun n => 2 ^ (rowOf a e n * b + n % b)).sum
def balanced (a b e : Nat) : Bool :=
  decide (codeOf a b e < 2 ^ (a * b)) && decide ((sel (spots a b) (codeOf a b e)).length = e) &&
    (List.range a).all (fun i => decide (cntN (sel (spots a b) (codeOf a b e)) (i : Nat) = deg e a (i : Nat))) && (List.range b).all (fun j => decide (cntF (sel (spots a b) (codeOf a b e)) (j : Nat) = deg e b (j : Nat)))
set_option maxRecDepth 100000 in
theorem all_balanced : ∀ a : Fin 4, ∀ b : Fin 4, (List.range (a.1 * b.1 + 1)).all (fun e => balanced a.1 b.1 e) = true := by decide +kernel
theorem mem_selN {ps : List (Int × Int)} {c n : Nat} {z : Int × Int} (hn : n ≤ ps.length) (h : z ∈ selN ps c n) : z ∈ ps := by
  induction n with
  | zero => cases h
  | succ n ih =>
    unfold selN at h
    rcases List.mem_append.mp h with h | h
    · exact ih (by omega) h
    · split at h
      · rw [List.mem_singleton] at h
        rw [h, List.getD_eq_getElem?_getD, List.getElem?_eq_getElem (by omega)]
        exact List.getElem_mem _
      · cases h
theorem mem_spots {a b : Nat} {z : Int × Int} (h : z ∈ spots a b) : (∃ i : Nat, i < a ∧ z.1 = i) ∧ ∃ j : Nat, j < b ∧ z.2 = j := by
  unfold spots at h
  obtain ⟨i, hi, h⟩ := List.mem_flatMap.mp h
  obtain ⟨j, hj, rfl⟩ := List.mem_map.mp h
  exact ⟨⟨i, List.mem_range.mp hi, rfl⟩, ⟨j, List.mem_range.mp hj, rfl⟩⟩
/-- how many there are of each number below n, all together -/
theorem sum_cnt {n : Nat} {f : Int × Int → Int} : ∀ {ps : List (Int × Int)}, (∀ z ∈ ps, ∃ i : Nat, i < n ∧ f z = i) → ((List.range n).map fun i : Nat => (ps.filter fun z => decide (f z = (i : Int))).length).sum = ps.length
  | [], _ => by
    have e : ((List.range n).map fun i : Nat => (([] : List (Int × Int)).filter fun z => decide (f z = (i : Int))).length) = List.replicate n 0 := by
      simp [List.map_const']
    rw [e]
    simp
  | z :: ps, h => by
    obtain ⟨i0, hi0, e0⟩ := h z (List.mem_cons_self ..)
    have ih := sum_cnt (n := n) (f := f) (ps := ps) fun y hy => h y (List.mem_cons_of_mem _ hy)
    have key : ∀ m : Nat, ((List.range m).map fun i : Nat => ((z :: ps).filter fun z => decide (f z = (i : Int))).length).sum = ((List.range m).map fun i : Nat => (ps.filter fun z => decide (f z = (i : Int))).length).sum + if i0 < m then 1 else 0 := by
      intro m
      induction m with
      | zero => rfl
      | succ m ihm =>
        rw [List.range_succ, List.map_append, List.map_append, List.sum_append, List.sum_append, ihm]
        simp only [List.map_cons, List.map_nil, List.sum_cons, List.sum_nil, Nat.add_zero]
        by_cases hm : i0 = m
        · subst hm
          rw [List.filter_cons, if_pos (show decide (f z = (i0 : Int)) = true from decide_eq_true e0), List.length_cons, if_neg (show ¬ i0 < i0 by omega), if_pos (show i0 < i0 + 1 by omega)]
          omega
        · rw [List.filter_cons, if_neg (show ¬ decide (f z = (m : Int)) = true by rw [decide_eq_true_eq, e0]; omega)]
          by_cases hlt : i0 < m
          · rw [if_pos hlt, if_pos (show i0 < m + 1 by omega)]
            omega
          · rw [if_neg hlt, if_neg (show ¬ i0 < m + 1 by omega)]
            omega
    rw [key n, ih, if_pos hi0, List.length_cons]
theorem sum_ge {n p : Nat} {g : Nat → Nat} (h : ∀ i, i < n → p ≤ g i) : n * p ≤ ((List.range n).map g).sum := by
  induction n with
  | zero => simp
  | succ n ih =>
    rw [List.range_succ, List.map_append, List.sum_append, Nat.succ_mul]
    have h1 := ih fun i hi => h i (by omega)
    have h2 := h n (by omega)
    simp only [List.map_cons, List.map_nil, List.sum_cons, List.sum_nil, Nat.add_zero]
    omega
theorem sum_le {n q : Nat} {g : Nat → Nat} (h : ∀ i, i < n → g i ≤ q) : ((List.range n).map g).sum ≤ n * q := by
  induction n with
  | zero => simp
  | succ n ih =>
    rw [List.range_succ, List.map_append, List.sum_append, Nat.succ_mul]
    have h1 := ih fun i hi => h i (by omega)
    have h2 := h n (by omega)
    simp only [List.map_cons, List.map_nil, List.sum_cons, List.sum_nil, Nat.add_zero]
    omega
/-- the rows at one end can have so many pairs -/
def Fits (n p : Int) (q : Option Int) (e : Int) : Prop := n * p ≤ e ∧ ∀ h, q = some h → e ≤ n * h
theorem letB_iff {p : Int} {q : Option Int} {d : Int} : letB p q d = true ↔ p ≤ d ∧ ∀ h, q = some h → d ≤ h := by
  unfold letB
  cases q <;> simp
theorem deg_lo {e n i : Int} (hn : 0 < n) (h0 : 0 ≤ i) : e / n ≤ deg e n i := by
  unfold deg
  split <;> omega
/-- a table's end fits what its total fits -/
theorem deg_fits {n : Nat} {p : Int} {q : Option Int} {e : Int} (h : Fits n p q e) {i : Int} (h0 : 0 ≤ i) (h1 : i < n) : letB p q (deg e n i) = true := by
  obtain ⟨hp, hq⟩ := h
  have n0 : (0 : Int) < n := by omega
  have em := Int.mul_ediv_add_emod e n
  have e0 := Int.emod_nonneg e (show (n : Int) ≠ 0 by omega)
  have e1 := Int.emod_lt_of_pos e n0
  refine letB_iff.2 ⟨?_, fun h eh => ?_⟩
  · have h2 : p ≤ e / n := (Int.le_ediv_iff_mul_le n0).2 (by rw [Int.mul_comm]; exact hp)
    exact Int.le_trans h2 (deg_lo n0 h0)
  · have h2 := hq h eh
    unfold deg
    by_cases hc : i < e % n
    · rw [if_pos hc]
      have h3 : e / n < h := by
        refine Classical.byContradiction fun z => ?_
        have h4 : h ≤ e / n := by omega
        have h5 : (n : Int) * h ≤ n * (e / n) := Int.mul_le_mul_of_nonneg_left h4 (by omega)
        omega
      omega
    · rw [if_neg hc, Int.add_zero]
      refine Classical.byContradiction fun z => ?_
      have h4 : h + 1 ≤ e / n := by omega
      have h5 : (n : Int) * (h + 1) ≤ n * (e / n) := Int.mul_le_mul_of_nonneg_left h4 (by omega)
      rw [Int.mul_add] at h5
      omega
theorem fits_deg {n : Nat} {p : Int} {q : Option Int} {e : Int} (he : 0 ≤ e) (hz : n = 0 → e = 0) (h : ∀ i : Nat, i < n → letB p q (deg e n i) = true) : Fits n p q e := by
  by_cases hn : n = 0
  · subst hn
    have e0 := hz rfl
    subst e0
    exact ⟨by simp, fun h eh => by simp⟩
  have n0 : (0 : Int) < n := by omega
  have em := Int.mul_ediv_add_emod e n
  have e0 := Int.emod_nonneg e (show (n : Int) ≠ 0 by omega)
  have e1 := Int.emod_lt_of_pos e n0
  constructor
  · obtain ⟨h1, _⟩ := letB_iff.1 (h (n - 1) (by omega))
    have hc : ¬ ((n - 1 : Nat) : Int) < e % n := by omega
    unfold deg at h1
    rw [if_neg hc, Int.add_zero] at h1
    have h5 : (n : Int) * p ≤ n * (e / n) := Int.mul_le_mul_of_nonneg_left h1 (by omega)
    omega
  · intro g eg
    obtain ⟨_, h1⟩ := letB_iff.1 (h 0 (by omega))
    have h2 := h1 g eg
    unfold deg at h2
    by_cases hc : ((0 : Nat) : Int) < e % n
    · rw [if_pos hc] at h2
      have h5 : (n : Int) * (e / n + 1) ≤ n * g := Int.mul_le_mul_of_nonneg_left h2 (by omega)
      rw [Int.mul_add] at h5
      omega
    · rw [if_neg hc, Int.add_zero] at h2
      have h5 : (n : Int) * (e / n) ≤ n * g := Int.mul_le_mul_of_nonneg_left h2 (by omega)
      omega
theorem tabB_iff {a b : Nat} {p : Int} {q : Option Int} {r : Int} {s : Option Int} {e : Nat} (he : e ≤ a * b) : tabB a b p q r s e = true ↔ Fits a p q e ∧ Fits b r s e := by
  unfold tabB
  rw [Bool.and_eq_true, List.all_eq_true, List.all_eq_true]
  constructor
  · rintro ⟨h1, h2⟩
    exact ⟨fits_deg (by omega) (fun z => by subst z; simp at he; omega) fun i hi => h1 i (List.mem_range.mpr hi), fits_deg (by omega) (fun z => by subst z; simp at he; omega) fun i hi => h2 i (List.mem_range.mpr hi)⟩
  · rintro ⟨h1, h2⟩
    exact ⟨fun i hi => deg_fits h1 (by omega) (by have := List.mem_range.mp hi; omega), fun i hi => deg_fits h2 (by omega) (by have := List.mem_range.mp hi; omega)⟩
end My

namespace My
open PySem L2
theorem fits_cnt {n : Nat} {p : Int} {q : Option Int} {f : Int × Int → Int} {ps : List (Int × Int)} (hp : 0 ≤ p) (hf : ∀ z ∈ ps, ∃ i : Nat, i < n ∧ f z = i) (h : ∀ i : Nat, i < n → letB p q (((ps.filter fun z => decide (f z = (i : Int))).length : Nat) : Int) = true) : Fits n p q (ps.length : Nat) := by
  have e := sum_cnt hf
  constructor
  · have h1 := sum_ge (n := n) (p := p.toNat) (g := fun i : Nat => (ps.filter fun z => decide (f z = (i : Int))).length) fun i hi => by
      have := (letB_iff.1 (h i hi)).1
      omega
    rw [e] at h1
    have h2 : ((n * p.toNat : Nat) : Int) ≤ (ps.length : Nat) := Int.ofNat_le.mpr h1
    rw [Int.natCast_mul, Int.toNat_of_nonneg hp] at h2
    exact h2
  · intro g eg
    by_cases hn : n = 0
    · subst hn
      have e0 : ps.length = 0 := by rw [← e]; rfl
      rw [e0]
      simp
    have hg : 0 ≤ g := by
      have := (letB_iff.1 (h 0 (by omega))).2 g eg
      omega
    have h1 := sum_le (n := n) (q := g.toNat) (g := fun i : Nat => (ps.filter fun z => decide (f z = (i : Int))).length) fun i hi => by
      have := (letB_iff.1 (h i hi)).2 g eg
      omega
    rw [e] at h1
    have h2 : ((ps.length : Nat) : Int) ≤ ((n * g.toNat : Nat) : Int) := Int.ofNat_le.mpr h1
    rw [Int.natCast_mul, Int.toNat_of_nonneg hg] at h2
    exact h2
/-- which totals have a net: those of the tables that are let -/
theorem net_iff {a b : Nat} {p : Int} {q : Option Int} {r : Int} {s : Option Int} (ha : a ≤ 3) (hb : b ≤ 3) (hp : 0 ≤ p) (hr : 0 ≤ r) (e : Nat) :
    (∃ c, c < 2 ^ (a * b) ∧ lets a b p q r s (sel (spots a b) c) = true ∧ (sel (spots a b) c).length = e) ↔ e ≤ a * b ∧ tabB a b p q r s e = true := by
  constructor
  · rintro ⟨c, _, h, rfl⟩
    have hle : (sel (spots a b) c).length ≤ a * b := by
      have h1 : (sel (spots a b) c).length ≤ (spots a b).length := selN_len _ _ _
      rw [spots_len] at h1
      exact h1
    refine ⟨hle, (tabB_iff hle).2 ?_⟩
    unfold lets at h
    rw [Bool.and_eq_true, List.all_eq_true, List.all_eq_true] at h
    have hm : ∀ z ∈ sel (spots a b) c, z ∈ spots a b := fun z hz => mem_selN (Nat.le_refl _) hz
    exact ⟨fits_cnt (f := fun z => z.1) hp (fun z hz => (mem_spots (hm z hz)).1) fun i hi => h.1 i (List.mem_range.mpr hi),
      fits_cnt (f := fun z => z.2) hr (fun z hz => (mem_spots (hm z hz)).2) fun i hi => h.2 i (List.mem_range.mpr hi)⟩
  · rintro ⟨hle, h⟩
    have hb0 := all_balanced ⟨a, by omega⟩ ⟨b, by omega⟩
    have hb1 := List.all_eq_true.mp hb0 e (List.mem_range.mpr (by show e < a * b + 1; omega))
    unfold balanced at hb1
    rw [Bool.and_eq_true, Bool.and_eq_true, Bool.and_eq_true, List.all_eq_true, List.all_eq_true] at hb1
    obtain ⟨⟨⟨h1, h2⟩, h3⟩, h4⟩ := hb1
    refine ⟨codeOf a b e, of_decide_eq_true h1, ?_, of_decide_eq_true h2⟩
    unfold tabB at h
    rw [Bool.and_eq_true, List.all_eq_true, List.all_eq_true] at h
    unfold lets
    rw [Bool.and_eq_true, List.all_eq_true, List.all_eq_true]
    constructor
    · intro i hi
      rw [of_decide_eq_true (h3 i hi)]
      exact h.1 i hi
    · intro j hj
      rw [of_decide_eq_true (h4 j hj)]
      exact h.2 j hj
/-- the totals of [33] are those that fit at both ends -/
theorem fits_iff {a b : Nat} {p : Int} {q : Option Int} {r : Int} {s : Option Int} {e : Int} (h0 : 0 ≤ e) : (e ≤ a * b ∧ Fits a p q e ∧ Fits b r s e) ↔ lines a p q b r s = true ∧ lowB a p b r ≤ e ∧ ∀ y ∈ bnds a q b s, e ≤ y := by
  constructor
  · rintro ⟨hle, ⟨h1, h2⟩, ⟨h3, h4⟩⟩
    refine ⟨lns_iff.2 ⟨fun x ex => Int.le_trans h1 (h4 x ex), fun x ex => Int.le_trans h3 (h2 x ex), ?_, ?_⟩, low_le h1 h3, ?_⟩
    · by_cases hz : (a : Int) = 0
      · exact .inl hz
      · right
        refine Classical.byContradiction fun z => ?_
        have h5 : (a : Int) * (b + 1) ≤ a * p := Int.mul_le_mul_of_nonneg_left (by omega) (by omega)
        rw [Int.mul_add] at h5
        omega
    · by_cases hz : (b : Int) = 0
      · exact .inl hz
      · right
        refine Classical.byContradiction fun z => ?_
        have h5 : (b : Int) * (a + 1) ≤ b * r := Int.mul_le_mul_of_nonneg_left (by omega) (by omega)
        rw [Int.mul_add, Int.mul_comm (b : Int) a] at h5
        omega
    · intro y hy
      rcases mem_bnds.1 hy with rfl | ⟨x, ex, rfl⟩ | ⟨x, ex, rfl⟩
      · exact hle
      · exact h2 x ex
      · exact h4 x ex
  · rintro ⟨_, h1, h2⟩
    have h3 := low_ge a p b r
    exact ⟨h2 _ (mem_bnds.2 (.inl rfl)), ⟨by omega, fun h eh => h2 _ (mem_bnds.2 (.inr (.inl ⟨h, eh, rfl⟩)))⟩, ⟨by omega, fun h eh => h2 _ (mem_bnds.2 (.inr (.inr ⟨h, eh, rfl⟩)))⟩⟩
/-- there is a least bound -/
theorem min_bnds (a : Int) (q : Option Int) (b : Int) (s : Option Int) : ∃ h, IsMin (bnds a q b s) h := by
  have key : ∀ xs : List Int, xs ≠ [] → ∃ h, IsMin xs h := by
    intro xs
    induction xs with
    | nil => intro z; exact absurd rfl z
    | cons x xs ih =>
      intro _
      by_cases hx : xs = []
      · subst hx
        exact ⟨x, List.mem_cons_self .., fun y hy => by rw [List.mem_singleton] at hy; omega⟩
      · obtain ⟨h, h1, h2⟩ := ih hx
        by_cases hle : x ≤ h
        · exact ⟨x, List.mem_cons_self .., fun y hy => by
            rcases List.mem_cons.mp hy with e | e
            · omega
            · have := h2 y e
              omega⟩
        · exact ⟨h, List.mem_cons_of_mem _ h1, fun y hy => by
            rcases List.mem_cons.mp hy with e | e
            · omega
            · exact h2 y e⟩
  exact key _ (by unfold bnds; simp)
/-- a rising list of just the numbers from lo to hi -/
theorem rising_eq {lo hi : Int} : ∀ {xs : List Int}, xs.Pairwise (· < ·) → (∀ k, k ∈ xs ↔ lo ≤ k ∧ k ≤ hi) → xs = (List.range (hi - lo + 1).toNat).map fun i : Nat => lo + (i : Int)
  | [], _, h => by
    have : (hi - lo + 1).toNat = 0 := by
      refine Classical.byContradiction fun z => ?_
      have := (h lo).2 ⟨Int.le_refl _, by omega⟩
      cases this
    rw [this]
    rfl
  | x :: xs, hp, h => by
    obtain ⟨hx, hp'⟩ := List.pairwise_cons.mp hp
    have h1 := (h x).1 (List.mem_cons_self ..)
    have e : x = lo := by
      have h2 := (h lo).2 ⟨Int.le_refl _, by omega⟩
      rcases List.mem_cons.mp h2 with z | z
      · exact z.symm
      · have := hx lo z
        omega
    subst e
    have ih := rising_eq (lo := x + 1) (hi := hi) hp' fun k => by
      constructor
      · intro hk
        have h3 := hx k hk
        have h4 := (h k).1 (List.mem_cons_of_mem _ hk)
        omega
      · intro hk
        have h3 := (h k).2 (by omega)
        rcases List.mem_cons.mp h3 with z | z
        · omega
        · exact z
    have e2 : (hi - x + 1).toNat = (hi - (x + 1) + 1).toNat + 1 := by omega
    rw [e2, List.range_succ_eq_map, List.map_cons, ih, List.map_map]
    congr 1
    · simp
    · refine List.map_congr_left fun i _ => ?_
      show x + 1 + (i : Int) = x + ((i + 1 : Nat) : Int)
      omega
end My

namespace My
open PySem L2
theorem low_bnd {a b p r : Int} {q s : Option Int} (a0 : 0 ≤ a) (b0 : 0 ≤ b) (n1 : Nm p q) (n2 : Nm r s) (h : lines a p q b r s = true) {y : Int} (hy : y ∈ bnds a q b s) : lowB a p b r ≤ y := by
  have L := lns_iff.1 h
  rcases mem_bnds.1 hy with rfl | ⟨x, e, rfl⟩ | ⟨x, e, rfl⟩
  · refine low_le ?_ ?_
    · rcases L.l2 with e | e
      · rw [e, Int.zero_mul, Int.zero_mul]
        exact Int.le_refl _
      · exact Int.mul_le_mul_of_nonneg_left e a0
    · rcases L.l3 with e | e
      · rw [e, Int.zero_mul, Int.mul_zero]
        exact Int.le_refl _
      · rw [Int.mul_comm a b]
        exact Int.mul_le_mul_of_nonneg_left e b0
  · exact low_le (Int.mul_le_mul_of_nonneg_left (n1.2.2 x e).1 a0) (L.l1 x e)
  · exact low_le (L.l0 x e) (Int.mul_le_mul_of_nonneg_left (n2.2.2 x e).1 b0)
/-- the totals of the nets that are let -/
def Found (a b : Nat) (p : Int) (q : Option Int) (r : Int) (s : Option Int) (fs : List Int) : Prop := ∀ k : Int, k ∈ fs ↔ ∃ c : Nat, c < 2 ^ (a * b) ∧ lets a b p q r s (sel (spots a b) c) = true ∧ k = ((sel (spots a b) c).length : Nat)
theorem found_iff {a b : Nat} {p r : Int} {q s : Option Int} {fs : List Int} (ha : a ≤ 3) (hb : b ≤ 3) (n1 : Nm p q) (n2 : Nm r s) (h : Found a b p q r s fs) (k : Int) : k ∈ fs ↔ 0 ≤ k ∧ (k ≤ (a : Int) * b ∧ Fits a p q k ∧ Fits b r s k) := by
  rw [h k]
  constructor
  · rintro ⟨c, h1, h2, rfl⟩
    have h3 := (net_iff ha hb n1.1 n2.1 _).1 ⟨c, h1, h2, rfl⟩
    exact ⟨by omega, by exact_mod_cast h3.1, (tabB_iff h3.1).1 h3.2⟩
  · rintro ⟨h0, h1, h2⟩
    obtain ⟨e, rfl⟩ : ∃ e : Nat, k = e := ⟨k.toNat, by omega⟩
    have he : e ≤ a * b := by exact_mod_cast h1
    obtain ⟨c, c1, c2, c3⟩ := (net_iff ha hb n1.1 n2.1 e).2 ⟨he, (tabB_iff he).2 h2⟩
    exact ⟨c, c1, c2, by rw [c3]⟩
theorem found_tab {a b : Nat} {p r : Int} {q s : Option Int} {fs : List Int} (ha : a ≤ 3) (hb : b ≤ 3) (n1 : Nm p q) (n2 : Nm r s) (h : Found a b p q r s fs) (e : Nat) (he : e ≤ a * b) : tabB a b p q r s e = decide ((e : Int) ∈ fs) := by
  rw [Bool.eq_iff_iff, decide_eq_true_iff, found_iff ha hb n1 n2 h, tabB_iff he]
  constructor
  · intro z
    exact ⟨by omega, by exact_mod_cast he, z⟩
  · intro z
    exact z.2.2
theorem found_cases {a b : Nat} {p r : Int} {q s : Option Int} {fs : List Int} (ha : a ≤ 3) (hb : b ≤ 3) (n1 : Nm p q) (n2 : Nm r s) (h : Found a b p q r s fs) (hp : fs.Pairwise (· < ·)) :
    (fs = [] ∧ Tot a p q b r s none) ∨ ∃ lo hi : Int, lo ≤ hi ∧ 0 ≤ lo ∧ hi ≤ 9 ∧ fs = ((List.range (hi - lo + 1).toNat).map fun i : Nat => lo + (i : Int)) ∧ Tot a p q b r s (some (lo, hi)) := by
  have low0 : 0 ≤ lowB a p b r := Int.le_trans (Int.mul_nonneg (show (0 : Int) ≤ a by omega) n1.1) (low_ge a p b r).1
  cases hl : lines a p q b r s with
  | false =>
    left
    refine ⟨List.eq_nil_iff_forall_not_mem.mpr fun k hk => ?_, hl⟩
    have h1 := (found_iff ha hb n1 n2 h k).1 hk
    have h2 := ((fits_iff h1.1).1 h1.2).1
    rw [hl] at h2
    cases h2
  | true =>
    right
    obtain ⟨m, hm⟩ := min_bnds a q b s
    have m9 : m ≤ 9 := by
      have h1 := hm.2 ((a : Int) * b) (mem_bnds.2 (.inl rfl))
      have h2 : a * b ≤ 9 := Nat.mul_le_mul ha hb
      have h3 : ((a * b : Nat) : Int) = (a : Int) * b := by push_cast; rfl
      omega
    refine ⟨lowB a p b r, m, low_bnd (by omega) (by omega) n1 n2 hl hm.1, low0, m9, rising_eq hp fun k => ?_, hl, rfl, hm⟩
    rw [found_iff ha hb n1 n2 h]
    constructor
    · rintro ⟨h0, h1⟩
      have h2 := (fits_iff h0).1 h1
      exact ⟨h2.2.1, h2.2.2 _ hm.1⟩
    · rintro ⟨h1, h2⟩
      have h0 : 0 ≤ k := Int.le_trans low0 h1
      exact ⟨h0, (fits_iff h0).2 ⟨hl, h1, fun y hy => Int.le_trans h2 (hm.2 y hy)⟩⟩
theorem Tot.wide {a p : Int} {q : Option Int} {b r : Int} {s : Option Int} {p' r' l h : Int} {q' s' : Option Int} {t : Option (Int × Int)} (a0 : 0 ≤ a) (b0 : 0 ≤ b) (x : Tot a p q b r s (some (l, h)))
    (p1 : p' ≤ p) (q1 : q' = none ∨ ∃ h h', q = some h ∧ q' = some h' ∧ h ≤ h') (r1 : r' ≤ r) (s1 : s' = none ∨ ∃ h h', s = some h ∧ s' = some h' ∧ h ≤ h') (y : Tot a p' q' b r' s' t) : ∃ l' h', t = some (l', h') ∧ l' ≤ l ∧ h ≤ h' := by
  obtain ⟨x1, rfl, x2, x3⟩ := x
  have L := lns_iff.1 x1
  have mp : a * p' ≤ a * p := Int.mul_le_mul_of_nonneg_left p1 a0
  have mr : b * r' ≤ b * r := Int.mul_le_mul_of_nonneg_left r1 b0
  have L2 : Lns a p' q' b r' s' := by
    refine ⟨?_, ?_, ?_, ?_⟩
    · intro x e
      rcases s1 with e2 | ⟨g, g', e2, e3, e4⟩
      · rw [e2] at e
        cases e
      · rw [e3] at e
        cases e
        exact Int.le_trans mp (Int.le_trans (L.l0 g e2) (Int.mul_le_mul_of_nonneg_left e4 b0))
    · intro x e
      rcases q1 with e2 | ⟨g, g', e2, e3, e4⟩
      · rw [e2] at e
        cases e
      · rw [e3] at e
        cases e
        exact Int.le_trans mr (Int.le_trans (L.l1 g e2) (Int.mul_le_mul_of_nonneg_left e4 a0))
    · rcases L.l2 with e | e
      · exact .inl e
      · exact .inr (by omega)
    · rcases L.l3 with e | e
      · exact .inl e
      · exact .inr (by omega)
  cases t with
  | none =>
    have e : lines a p' q' b r' s' = false := y
    rw [lns_iff.2 L2] at e
    cases e
  | some z =>
    obtain ⟨l', h'⟩ := z
    obtain ⟨_, rfl, y2, y3⟩ := y
    refine ⟨_, _, rfl, low_le (Int.le_trans mp (low_ge a p b r).1) (Int.le_trans mr (low_ge a p b r).2), ?_⟩
    rcases mem_bnds.1 y2 with e | ⟨x, e, e2⟩ | ⟨x, e, e2⟩
    · have h1 := x3 _ (mem_bnds.2 (.inl rfl))
      omega
    · rcases q1 with e3 | ⟨g, g', e3, e4, e5⟩
      · rw [e3] at e
        cases e
      · rw [e4] at e
        cases e
        have h1 := x3 _ (mem_bnds.2 (.inr (.inl ⟨g, e3, rfl⟩)))
        have h2 : a * g ≤ a * x := Int.mul_le_mul_of_nonneg_left e5 a0
        omega
    · rcases s1 with e3 | ⟨g, g', e3, e4, e5⟩
      · rw [e3] at e
        cases e
      · rw [e4] at e
        cases e
        have h1 := x3 _ (mem_bnds.2 (.inr (.inr ⟨g, e3, rfl⟩)))
        have h2 : b * g ≤ b * x := Int.mul_le_mul_of_nonneg_left e5 b0
        omega
/-! ### data of ints -/
theorem dpl_ints {K : PySem.W.Frag} {H : Hp} : ∀ fs : List Int, L2.DpAll K H (fs.map V.int) (fs.map PyData.int)
  | [] => .nil
  | f :: fs => .cons (.int f) (dpl_ints fs)
theorem ints_lay : ∀ fs : List Int, PyData.canLayAll0 (fs.map PyData.int) = true
  | [] => rfl
  | f :: fs => by
    have := ints_lay fs
    simpa [PyData.canLayAll0, PyData.canLay0] using this
theorem ints_depth : ∀ fs : List Int, PyData.depthAll (fs.map PyData.int) ≤ 1
  | [] => by simp [PyData.depthAll]
  | f :: fs => by
    have := ints_depth fs
    simp [PyData.depthAll, PyData.depth]
    omega
theorem ints_shaped (fs : List Int) : SeqAt.shaped (.list (fs.map PyData.int)) = true := by
  have h1 := ints_lay fs
  have h2 := ints_depth fs
  unfold SeqAt.shaped
  rw [Bool.and_eq_true]
  constructor
  · simpa [PyData.canLay0] using h1
  · simp [PyData.depth]
    omega
theorem ints_ne (f : Int) (fs : List Int) : PyData.eqv (.list ((f :: fs).map PyData.int)) (.list []) = false := by
  simp [PyData.eqv, PyData.eqvAll]
theorem ints_eq (fs : List Int) : PyData.eqv (.list (fs.map PyData.int)) (.list (fs.map PyData.int)) = true := by
  have h := ints_shaped fs
  unfold SeqAt.shaped at h
  rw [Bool.and_eq_true] at h
  exact SeqAt.eqv_refl _ h.1
theorem range_first {lo hi : Int} (h : lo ≤ hi) : ∃ xs : List Int, ((List.range (hi - lo + 1).toNat).map fun i : Nat => lo + (i : Int)) = lo :: xs := by
  obtain ⟨n, e⟩ : ∃ n : Nat, (hi - lo + 1).toNat = n + 1 := ⟨(hi - lo).toNat, by omega⟩
  refine ⟨(List.range n).map fun i : Nat => lo + ((i + 1 : Nat) : Int), ?_⟩
  rw [e, List.range_succ_eq_map, List.map_cons, List.map_map]
  congr 1
  simp
theorem range_last {lo hi : Int} (h : lo ≤ hi) : ∃ xs : List Int, ((List.range (hi - lo + 1).toNat).map fun i : Nat => lo + (i : Int)) = xs ++ [hi] := by
  obtain ⟨n, e⟩ : ∃ n : Nat, (hi - lo + 1).toNat = n + 1 := ⟨(hi - lo).toNat, by omega⟩
  refine ⟨(List.range n).map fun i : Nat => lo + (i : Int), ?_⟩
  rw [e, List.range_succ, List.map_append]
  congr 1
  simp
  omega
end My

open My L2 PySem
open My L2 PySem
local macro_rules | `(tactic| walk_at "as") => `(tactic| with_reducible assumption)
local macro_rules | `(tactic| walk_at "hp") => `(tactic| first
  | walk_at "as" | exact upd_same
  | (rw [upd_ne (by walk_at "ne")]; walk_at "hp")
  | (refine But.get (by walk_at "as") ?hp1 ?hp2; (case hp1 => walk_at "hp"); (case hp2 => walk_at "ne"))
  | (refine My.Same.get (by walk_at "as") ?hp1; (case hp1 => walk_at "hp")))
local macro_rules | `(tactic| walk_at "ne") => `(tactic| first
  | walk_at "as" | exact Ne.symm (by walk_at "as")
  | (refine' ne_of_none ?ne1 ?ne2; (case ne2 => walk_at "as"); (case ne1 => walk_at "hp"))
  | (refine' Ne.symm (ne_of_none ?ne1 ?ne2); (case ne2 => walk_at "as"); (case ne1 => walk_at "hp"))
  | exact ne_of (by walk_at "hp") (by walk_at "hp") (by intro z; cases z))
local macro_rules | `(tactic| walk_at "sd") => `(tactic| first
  | walk_at "as" | omega | decide | exact ⟨by omega, by omega⟩ | exact .inl ⟨by omega, by omega⟩ | exact .inr ⟨by omega, by omega⟩ | exact divp_wide (by walk_at "as") (by walk_at "as") | exact Sm.cmul (by walk_at "as") (by walk_at "as") | exact cmul_small (by omega) (by omega) (by omega) (by omega) | exact ⟨by omega, by decide⟩)
local macro_rules | `(tactic| walk_at "bt") => `(tactic| first
  | walk_at "as" | exact But.refl _ _ | exact Same.but (by walk_at "as")
  | (refine But.trans ?bt1 But.at; (case bt1 => walk_at "bt"))
  | (refine But.trans ?bt1 (But.new (by first | walk_at "as" | walk_at "hp")); (case bt1 => walk_at "bt"))
  | (refine But.trans ?bt1 (by walk_at "as"); (case bt1 => walk_at "bt"))
  | (refine But.trans ?bt1 (Same.but (by walk_at "as")); (case bt1 => walk_at "bt")))
local macro_rules | `(tactic| walk_at "sm") => `(tactic| first
  | walk_at "as" | exact My.Same.rfl' _
  | (refine' My.Same.at_ ?sm1 ?sm2; (case sm1 => walk_at "as"); (case sm2 => walk_at "sm"))
  | (refine' My.Same.tr ?sm1 (My.Same.new ?sm2); (case sm2 => walk_at "as"); (case sm1 => walk_at "sm"))
  | (refine' My.Same.tr ?sm1 ?sm2; (case sm2 => walk_at "as"); (case sm1 => walk_at "sm")))
local macro_rules | `(tactic| walk_at "sz") => `(tactic| first
  | assumption | exact lt_size (by rfl) | exact le_size (by rfl) | (rw [sizeLine_eq]; omega)
  | (rw [sizeLine_eq]; simp only [List.length_append, List.length_map, List.length_cons, List.length_nil]; omega))
local macro_rules | `(tactic| walk_at "few") => `(tactic| (repeat refine few_put ?_); exact few0)
local macro_rules | `(tactic| walk_at "rd1") => `(tactic| first
  | (with_reducible show tVar _ _ _ _); refine s_var rfl ?_
  | with_reducible refine s_c ?_ | with_reducible refine s_op ?_ | with_reducible refine s_un ?_
  | with_reducible refine s_cons ?_ | with_reducible refine s_nil ?_ | with_reducible refine s_cb ?_
  | with_reducible refine s_test ?_ | with_reducible refine s_B ?_ | with_reducible refine s_not ?_ | with_reducible refine s_and ?_ | with_reducible refine s_or ?_
  | with_reducible refine s_if ?_ | with_reducible refine s_notV ?_ | with_reducible refine s_andV ?_ | with_reducible refine s_orV ?_
  | with_reducible refine s_orT ?_ | with_reducible refine s_andT ?_ | with_reducible refine s_chain ?_
  | with_reducible refine s_isi_int ?_ | with_reducible refine s_isi_int_bool ?_ | with_reducible refine s_isi_str ?_
  | with_reducible refine iteT ?_ | with_reducible refine iteF ?_ | with_reducible refine iteNT ?_ | with_reducible refine iteNF ?_
  | with_reducible refine s_isN ?_ | with_reducible refine s_notN ?_
  | ((with_reducible refine' s_2setE ?g1 ?_); (case g1 => first | (dsimp only [List.set, L2.wipe, List.map, List.foldl]; done) | (dsimp only [List.set, L2.wipe, List.map, List.foldl]; rfl)))
  | with_reducible refine s_seq ?_ | with_reducible refine s_ifS ?_ | with_reducible refine s_asg ?_ | with_reducible refine s_ret ?_ | with_reducible refine s_drop ?_ | with_reducible refine s_next ?_
  | ((with_reducible refine' s_gnameE ?g1 ?_); (case g1 => first | (dsimp only [List.set, L2.wipe, List.map, List.foldl]; done) | (dsimp only [List.set, L2.wipe, List.map, List.foldl]; rfl)))
  | with_reducible refine s_gsub ?_ | with_reducible refine s_gcons ?_ | with_reducible refine s_gnil ?_
  | (with_reducible show gTup _ _ _ _ _ _ _); refine s_gtup (by walk_at "hp") rfl ?_
  | with_reducible refine s_eqI ?_ | with_reducible refine s_neI ?_ | with_reducible refine s_eqS ?_ | with_reducible refine s_neB ?_ | with_reducible refine s_eqB ?_ | with_reducible refine s_neSr ?_ | with_reducible refine s_neS ?_
  | with_reducible refine s_I0 ?_
  | (with_reducible show rI _ _ _ _ _ _); refine s_I (by walk_at "sd") ?_
  | (with_reducible show rIxL _ _ _ _ _); refine s_ixL (by walk_at "hp") rfl ?_
  | (with_reducible show rIxT _ _ _ _ _); refine s_ixT (by walk_at "hp") rfl ?_
  | (with_reducible show rSetL _ _ _ _ _); refine s_setL (by walk_at "hp") rfl ?_
  | with_reducible refine s_prop ?_
  | (with_reducible show _ ≤ sizeLine ∧ _); refine ⟨le_size (by rfl), ?_⟩
  | with_reducible refine ite_NN ?_ | with_reducible refine ite_IN ?_ | with_reducible refine ite_nNN ?_ | with_reducible refine ite_nIN ?_ | with_reducible refine ite_RN ?_ | with_reducible refine ite_nRN ?_
  | with_reducible refine s_sfld ?_
  | ((with_reducible refine' ⟨_, _, _, _, rfl, ?fp1, ?fp2, ?fp3, ?fp4, ?_⟩); (case fp1 => walk_at "hp"); (case fp2 => assumption); (case fp3 => assumption); (case fp4 => walk_at "few"))
  | with_reducible refine s_fldE ?_
  | ((with_reducible refine' ⟨_, _, _, _, _, rfl, ?fp1, ?fp2, ?fp3, ?fp4, ?_⟩); (case fp1 => walk_at "hp"); (case fp2 => assumption); (case fp3 => assumption); (case fp4 => rfl))
  | with_reducible refine s_bm ?_ | with_reducible refine s_bm0 ?_
  | ((with_reducible refine' s_tyL ?ty1 ?_); (case ty1 => walk_at "hp"))
  | ((with_reducible refine' s_append ?ap1 ?ap2 ?_); (case ap1 => walk_at "hp"); (case ap2 => walk_at "sz"))
  | ((with_reducible refine' s_extend ?ap1 ?ap2 ?ap3 ?_); (case ap1 => walk_at "hp"); (case ap2 => walk_at "hp"); (case ap3 => walk_at "sz"))
  | with_reducible refine s_for (fun _ _ => ?_) | with_reducible refine s_lc ?_ | with_reducible refine s_iList ?_ | with_reducible refine s_iTup ?_ | with_reducible refine s_iRng1 ?_ | with_reducible refine s_iRng2 ?_
  | with_reducible refine s_yes ?_ | with_reducible refine s_par ?_
  | with_reducible refine s_make ?_ | with_reducible refine s_meth ?_
  | with_reducible refine s_tup ?_ | with_reducible refine s_lst ?_ | with_reducible refine s_call ?_
  | with_reducible refine ⟨rfl, ?_⟩
  | with_reducible refine ⟨_, rfl, ?_⟩
  | ((with_reducible refine' ⟨_, _, rfl, ?sd1, ?_⟩); (case sd1 => walk_at "sd"))
  | with_reducible refine ⟨_, _, rfl, ?_⟩
  | with_reducible refine .inl ⟨_, rfl, ?_⟩
  | dsimp only [List.set]
  | walk_at "rdx"
  | (refine fun _ _ => ?_))
local macro_rules | `(tactic| walk_at "rd") => `(tactic| repeat (first
  | (with_reducible show tVar _ _ _ _); refine s_var rfl ?_
  | with_reducible refine s_c ?_ | with_reducible refine s_op ?_ | with_reducible refine s_un ?_
  | with_reducible refine s_cons ?_ | with_reducible refine s_nil ?_ | with_reducible refine s_cb ?_
  | with_reducible refine s_test ?_ | with_reducible refine s_B ?_ | with_reducible refine s_not ?_ | with_reducible refine s_and ?_ | with_reducible refine s_or ?_
  | with_reducible refine s_if ?_ | with_reducible refine s_notV ?_ | with_reducible refine s_andV ?_ | with_reducible refine s_orV ?_
  | with_reducible refine s_orT ?_ | with_reducible refine s_andT ?_ | with_reducible refine s_chain ?_
  | with_reducible refine s_isi_int ?_ | with_reducible refine s_isi_int_bool ?_ | with_reducible refine s_isi_str ?_
  | with_reducible refine iteT ?_ | with_reducible refine iteF ?_ | with_reducible refine iteNT ?_ | with_reducible refine iteNF ?_
  | with_reducible refine s_isN ?_ | with_reducible refine s_notN ?_
  | ((with_reducible refine' s_2setE ?g1 ?_); (case g1 => first | (dsimp only [List.set, L2.wipe, List.map, List.foldl]; done) | (dsimp only [List.set, L2.wipe, List.map, List.foldl]; rfl)))
  | with_reducible refine s_seq ?_ | with_reducible refine s_ifS ?_ | with_reducible refine s_asg ?_ | with_reducible refine s_ret ?_ | with_reducible refine s_drop ?_ | with_reducible refine s_next ?_
  | ((with_reducible refine' s_gnameE ?g1 ?_); (case g1 => first | (dsimp only [List.set, L2.wipe, List.map, List.foldl]; done) | (dsimp only [List.set, L2.wipe, List.map, List.foldl]; rfl)))
  | with_reducible refine s_gsub ?_ | with_reducible refine s_gcons ?_ | with_reducible refine s_gnil ?_
  | (with_reducible show gTup _ _ _ _ _ _ _); refine s_gtup (by walk_at "hp") rfl ?_
  | with_reducible refine s_eqI ?_ | with_reducible refine s_neI ?_ | with_reducible refine s_eqS ?_ | with_reducible refine s_neB ?_ | with_reducible refine s_eqB ?_ | with_reducible refine s_neSr ?_ | with_reducible refine s_neS ?_
  | with_reducible refine s_I0 ?_
  | (with_reducible show rI _ _ _ _ _ _); refine s_I (by walk_at "sd") ?_
  | (with_reducible show rIxL _ _ _ _ _); refine s_ixL (by walk_at "hp") rfl ?_
  | (with_reducible show rIxT _ _ _ _ _); refine s_ixT (by walk_at "hp") rfl ?_
  | (with_reducible show rSetL _ _ _ _ _); refine s_setL (by walk_at "hp") rfl ?_
  | with_reducible refine s_prop ?_
  | (with_reducible show _ ≤ sizeLine ∧ _); refine ⟨le_size (by rfl), ?_⟩
  | with_reducible refine ite_NN ?_ | with_reducible refine ite_IN ?_ | with_reducible refine ite_nNN ?_ | with_reducible refine ite_nIN ?_ | with_reducible refine ite_RN ?_ | with_reducible refine ite_nRN ?_
  | with_reducible refine s_sfld ?_
  | ((with_reducible refine' ⟨_, _, _, _, rfl, ?fp1, ?fp2, ?fp3, ?fp4, ?_⟩); (case fp1 => walk_at "hp"); (case fp2 => assumption); (case fp3 => assumption); (case fp4 => walk_at "few"))
  | with_reducible refine s_fldE ?_
  | ((with_reducible refine' ⟨_, _, _, _, _, rfl, ?fp1, ?fp2, ?fp3, ?fp4, ?_⟩); (case fp1 => walk_at "hp"); (case fp2 => assumption); (case fp3 => assumption); (case fp4 => rfl))
  | with_reducible refine s_bm ?_ | with_reducible refine s_bm0 ?_
  | ((with_reducible refine' s_tyL ?ty1 ?_); (case ty1 => walk_at "hp"))
  | ((with_reducible refine' s_append ?ap1 ?ap2 ?_); (case ap1 => walk_at "hp"); (case ap2 => walk_at "sz"))
  | ((with_reducible refine' s_extend ?ap1 ?ap2 ?ap3 ?_); (case ap1 => walk_at "hp"); (case ap2 => walk_at "hp"); (case ap3 => walk_at "sz"))
  | with_reducible refine s_for (fun _ _ => ?_) | with_reducible refine s_lc ?_ | with_reducible refine s_iList ?_ | with_reducible refine s_iTup ?_ | with_reducible refine s_iRng1 ?_ | with_reducible refine s_iRng2 ?_
  | with_reducible refine s_yes ?_ | with_reducible refine s_par ?_
  | with_reducible refine s_make ?_ | with_reducible refine s_meth ?_
  | with_reducible refine s_tup ?_ | with_reducible refine s_lst ?_ | with_reducible refine s_call ?_
  | with_reducible refine ⟨rfl, ?_⟩
  | with_reducible refine ⟨_, rfl, ?_⟩
  | ((with_reducible refine' ⟨_, _, rfl, ?sd1, ?_⟩); (case sd1 => walk_at "sd"))
  | with_reducible refine ⟨_, _, rfl, ?_⟩
  | with_reducible refine .inl ⟨_, rfl, ?_⟩
  | dsimp only [List.set]
  | walk_at "rdx"
  | (refine fun _ _ => ?_)))

namespace My
open PySem L2
section
variable {P : Program} {w : World} {K : PySem.W.Frag} {mg : Str → Option Value} {base : Heap} {C_Many C_Table T_LINES T_ENDS : Addr} (M : Md K mg C_Many C_Table T_LINES T_ENDS)
include M
omit M
theorem Pot.neT {H : Hp} {r t : Addr} {xs : List V} (h : Pot H r) (e : H t = some (.tup xs)) : t ≠ r := by
  obtain ⟨x, y, e2, h⟩ := h
  exact ne_of e e2 (by intro z; cases z)

theorem Pot.same {H H' : Hp} {r : Addr} (h : Pot H r) (s : Same H H') : Pot H' r := by
  obtain ⟨x, y, e, h⟩ := h
  exact ⟨x, y, s _ _ e, h⟩
theorem TotV.same {H H' : Hp} {v : V} {t : Option (Int × Int)} (h : TotV H v t) (s : Same H H') : TotV H' v t := by
  cases t with
  | none => exact h
  | some x =>
    obtain ⟨T, e, f⟩ := h
    exact ⟨T, e, s _ _ f⟩
theorem TotV.but {H H' : Hp} {v : V} {t : Option (Int × Int)} {r : Addr} (h : TotV H v t) (b : But r H H') (p : Pot H r) : TotV H' v t := by
  cases t with
  | none => exact h
  | some x =>
    obtain ⟨T, e, f⟩ := h
    exact ⟨T, e, b.get f (p.neT f)⟩
theorem ManyAt.same {C x : Addr} {H H' : Hp} {lo : Int} {hi : Option Int} (h : ManyAt C H x lo hi) (s : Same H H') : ManyAt C H' x lo hi := by
  obtain ⟨dx, t, e⟩ := h
  exact ⟨dx, t, s _ _ e⟩
theorem ManyAt.buts {C x r : Addr} {H H' : Hp} {lo : Int} {hi : Option Int} (h : ManyAt C H x lo hi) (b : But r H H') (p : Pot H r) : ManyAt C H' x lo hi := by
  obtain ⟨dx, t, e⟩ := h
  obtain ⟨_, _, e2, _⟩ := p
  exact ⟨dx, t, b.get e (ne_of e e2 (by intro z; cases z))⟩
def totD : Option (Int × Int) → PyData
  | none => .none
  | some x => .tuple [.int x.1, .int x.2]
theorem shownI {i : Int} (h : Sm 520 i) : (PyData.shown (.int i)).length ≤ 600 := by
  have h1 := int_text_length_le (k := 520) (by decide) h.log
  show (Str.ofString (toString i)).length ≤ 600
  rw [PyProof.Rows.ofString_len]
  omega
theorem s_repr {K : PySem.W.Frag} {H : Hp} {v : V} {t : Option (Int × Int)} (h : TotV H v t) (z : ∀ x, t = some x → Sm 520 x.1 ∧ Sm 520 x.2) :
    Dp K H v (totD t) ∧ PySem.SeqAt.shaped (totD t) = true ∧ (totD t).showable = true ∧ (totD t).hasDict = false ∧ (totD t).shown.length ≤ sizeLine := by
  cases t with
  | none =>
    cases (show v = .non from h)
    exact ⟨.non, rfl, rfl, rfl, le_size (by rfl)⟩
  | some x =>
    obtain ⟨T, rfl, e⟩ := h
    obtain ⟨z1, z2⟩ := z x rfl
    refine ⟨.tup (SqT.of e) (.cons (.int _) (.cons (.int _) .nil)), ?_, ?_, ?_, ?_⟩
    · rfl
    · have l1 := z1.log
      have l2 := z2.log
      simp [totD, PyData.showable, PyData.showableAll]
      omega
    · rfl
    · have h1 := PyData.shown_le_bulk 600 (by decide) (totD (some x)) (by simp [totD, PyData.leavesShort, PyData.leavesShortAll, shownI z1, shownI z2])
      have h2 : (totD (some x)).bulk = 2 := rfl
      rw [h2] at h1
      rw [sizeLine_eq]
      omega
theorem Tot.sm {a p : Int} {q : Option Int} {b r : Int} {s : Option Int} {t : Option (Int × Int)} (h : Tot a p q b r s t) (z : Szs a p q b r s) (x : Int × Int) (e : t = some x) : Sm 520 x.1 ∧ Sm 520 x.2 := by
  subst e
  obtain ⟨l, g⟩ := x
  obtain ⟨_, rfl, h2, _⟩ := h
  constructor
  · show Sm 520 (lowB a p b r)
    unfold lowB
    split
    · exact (z.sb.mul z.sr).mono (by decide)
    · exact (z.sa.mul z.sp).mono (by decide)
  · show Sm 520 g
    rcases mem_bnds.1 h2 with e | ⟨x, e, e2⟩ | ⟨x, e, e2⟩
    · rw [e]
      exact (z.sa.mul z.sb).mono (by decide)
    · rw [e2]
      exact (z.sa.mul (z.sq x e)).mono (by decide)
    · rw [e2]
      exact (z.sb.mul (z.ss x e)).mono (by decide)
theorem Szs.small {a p : Int} {q : Option Int} {b r : Int} {s : Option Int} (a0 : 0 ≤ a) (a1 : a ≤ 9) (b0 : 0 ≤ b) (b1 : b ≤ 9) (p0 : 0 ≤ p) (p1 : p ≤ 9) (q1 : ∀ x, q = some x → 0 ≤ x ∧ x ≤ 9) (r0 : 0 ≤ r) (r1 : r ≤ 9) (s1 : ∀ x, s = some x → 0 ≤ x ∧ x ≤ 9) : Szs a p q b r s :=
  have z : ∀ {x : Int}, 0 ≤ x → x ≤ 9 → Sm 62 x := fun h0 h1 => sm62 h0 (by omega)
  ⟨(z a0 a1).mono (by decide), (z b0 b1).mono (by decide), (z p0 p1).mono (by decide), fun x e => (z (q1 x e).1 (q1 x e).2).mono (by decide), (z r0 r1).mono (by decide), fun x e => (z (s1 x e).1 (s1 x e).2).mono (by decide), a0, b0⟩
theorem Nm.q9 {p : Int} {q : Option Int} (n : Nm p q) : ∀ x, q = some x → 0 ≤ x ∧ x ≤ 9 := fun x e => by
  have h1 := n.1
  have h2 := n.2.2 x e
  omega
theorem s_lstRg {σ : L2.St} {H : Hp} {Q : VK} {te : L2.St → Hp → (Int → Int → Hp → Prop) → Prop} (h : te σ H fun a b H1 => RgOk a b ∧ ∀ q, H1 q = none → Q (.ref q) (L2.upd H1 q (.lst (rgV a b)))) : tLstRg te σ H Q := h
theorem s_rg2 {σ : L2.St} {H : Hp} {ta tb : TE} {Q : Int → Int → Hp → Prop} (h : ta σ H fun x H1 => tb σ H1 fun y H2 => ∃ i j, x = .int i ∧ y = .int j ∧ Q i j H2) : tRg2 ta tb σ H Q := h
theorem s_cutT {σ : L2.St} {H : Hp} {tt : TT} {QB : Bool → Hp → Prop} (c : Bool) (R : Hp → Prop) (h1 : ∀ H', R H' → QB c H') (h2 : ∀ Q' : Bool → Hp → Prop, (∀ H', R H' → Q' c H') → tt σ H Q') : tt σ H QB := h2 QB h1
theorem s_cutV {σ : L2.St} {H : Hp} {te : TE} {Q : VK} (R : V → Hp → Prop) (h1 : ∀ v H', R v H' → Q v H') (h2 : ∀ Q' : VK, (∀ v H', R v H' → Q' v H') → te σ H Q') : te σ H Q := h2 Q h1
def spRight : Sp := fun vs H Q _ => ∃ r : Addr, vs = [.ref r] ∧ Pot H r ∧ ∀ H', But r H H' → Pot H' r → Q (.bl true) H'
include M
set_option maxHeartbeats 0 in
theorem c__law_right : Dn P w K mg base "_law_right" 7 ["_law_pot"] [] spRight := by
  have c__law_draw := c__law_draw (P := P) (w := w) (base := base) M
  have c__law_numbers_in := c__law_numbers_in (P := P) (w := w) (base := base) M
  have c__law_made_many := c__law_made_many (P := P) (w := w) (base := base) M
  have c__law_nets_in := c__law_nets_in (P := P) (w := w) (base := base) M
  have c__law_is_let := c__law_is_let (P := P) (w := w) (base := base) M
  have c__law_tables_right := c__law_tables_right (P := P) (w := w) (base := base) M
  have c__law_wider := c__law_wider (P := P) (w := w) (base := base) M
  have c_totals := c_totals (P := P) (w := w) (base := base) M
  refine dnN M.f__law_right (fun F => ?_) (fun _ _ _ _ _ _ us hl => match us, hl with | [_], _ => rfl)
  refine fnG_body F sc__law_right (fun vs H Q E h => ?_) (fun cdv A outer s H vs Q E hr h => ?_)
  · obtain ⟨r, rfl, _⟩ := h
    rfl
  · obtain ⟨i, rfl, hp, k⟩ := h
    refine ⟨_, (pss_cons (ps_asg (pe_tup (pa_cons (pe_callD c__law_draw (hr.mono (by decide)) rfl (pa_cons (pv 0) (pa_cons pe_int pa_nil))) (pa_cons (pe_callD c__law_draw (hr.mono (by decide)) rfl (pa_cons (pv 0) (pa_cons pe_int pa_nil))) (pa_cons (pe_callD c__law_numbers_in (hr.mono (by decide)) rfl (pa_cons (pv 0) (pa_cons pe_int pa_nil))) (pa_cons (pe_callD c__law_numbers_in (hr.mono (by decide)) rfl (pa_cons (pv 0) (pa_cons pe_int pa_nil))) pa_nil))))) (pg_tup (by rfl) (pgs_cons (pg_name (i := 1) sc__law_right.nd rfl (.inr rfl)) (pgs_cons (pg_name (i := 2) sc__law_right.nd rfl (.inr rfl)) (pgs_cons (pg_name (i := 3) sc__law_right.nd rfl (.inr rfl)) (pgs_cons (pg_name (i := 4) sc__law_right.nd rfl (.inr rfl)) pgs_nil)))))) (pss_cons (ps_set (i := 5) sc__law_right.nd rfl (.inl rfl) (pe_callB (cr_sortedSet rfl) (by rfl) M.b_sorted (by decide +kernel) (pa_cons (pe_callTy (cr_setOfI rfl) (by rfl) M.b_set (by decide +kernel) (pa_cons (pe_lc (own := [("_law_net", 9)]) (g := gName 9) (tt := _) (by rfl) sc__law_right.nd (pi_list (pe_callD c__law_nets_in (hr.mono (by decide)) rfl (pa_cons (pv 1) (pa_cons (pv 2) pa_nil)))) (blkOk_by (own := [("_law_net", 9)]) (N := N__law_right) (sc := defScope st__law_right) (by decide +kernel)) (fun _ _ _ _ _ => pg_name (i := 9) sc__law_right.nd rfl (by first | exact Or.inl rfl | exact Or.inr rfl)) (fun _ _ _ _ _ => pts_one (pt_val (pe_callD c__law_is_let (hr.mono (by decide)) rfl (pa_cons (pv 9) (pa_cons (pv 1) (pa_cons (pv 2) (pa_cons (pv 3) (pa_cons (pv 4) pa_nil)))))))) (fun _ _ _ _ _ => (pe_callB (call_len_seqK (K := K) rfl) (by rfl) M.b_len (by decide +kernel) (pa_cons (pv 9) pa_nil)))) pa_nil)) pa_nil))) (pss_cons (ps_set (i := 6) sc__law_right.nd rfl (.inl rfl) (pe_ifExp (pt_cmpR (op_neD hr.units) (pv 5) (pe_lst pa_nil) (nomark _)) (pe_tup (pa_cons (pe_ix ix_list (pv 5) pe_int (fun _ _ => rfl)) (pa_cons (pe_ix ix_list (pv 5) (pe_un un_neg pe_int) (fun _ _ => rfl)) pa_nil))) pe_non)) (pss_cons (ps_set (i := 7) sc__law_right.nd rfl (.inl rfl) (pe_callD c_totals (hr.mono (by decide)) rfl (pa_cons (pv 1) (pa_cons (pe_callD c__law_made_many (hr.mono (by decide)) rfl (pa_cons (pv 3) pa_nil)) (pa_cons (pv 2) (pa_cons (pe_callD c__law_made_many (hr.mono (by decide)) rfl (pa_cons (pv 4) pa_nil)) pa_nil)))))) (pss_cons (ps_if (PW.pt (pw_or (pt_cmpR op_ne (pe_callB (call_reprD hr) (by rfl) M.b_repr (by decide +kernel) (pa_cons (pv 7) pa_nil)) (pe_callB (call_reprD hr) (by rfl) M.b_repr (by decide +kernel) (pa_cons (pv 6) pa_nil)) (nomark _)) (pw_or1 (pt_cmpR op_ne (pe_callB (call_reprD hr) (by rfl) M.b_repr (by decide +kernel) (pa_cons (pe_callD c_totals (hr.mono (by decide)) rfl (pa_cons (pv 2) (pa_cons (pe_callD c__law_made_many (hr.mono (by decide)) rfl (pa_cons (pv 4) pa_nil)) (pa_cons (pv 1) (pa_cons (pe_callD c__law_made_many (hr.mono (by decide)) rfl (pa_cons (pv 3) pa_nil)) pa_nil))))) pa_nil)) (pe_callB (call_reprD hr) (by rfl) M.b_repr (by decide +kernel) (pa_cons (pv 6) pa_nil)) (nomark _))))) (pss_one (ps_ret pe_bl)) pss_nil) (pss_cons (ps_if (PW.pt (pw_and (pt_cmpR (op_neD hr.units) (pv 5) (pe_lst pa_nil) (nomark _)) (pw_and1 (pt_cmpR (op_neD hr.units) (pv 5) (pe_listRg rfl (by rfl) M.b_list (prg_2 (by rfl) M.b_range (pe_ix ix_list (pv 5) pe_int (fun _ _ => rfl)) (pe_op op_add (pe_ix ix_list (pv 5) (pe_un un_neg pe_int) (fun _ _ => rfl)) pe_int))) (nomark _))))) (pss_one (ps_ret pe_bl)) pss_nil) (pss_cons (ps_if (pt_not (pt_val (pe_callD c__law_tables_right (hr.mono (by decide)) rfl (pa_cons (pv 1) (pa_cons (pv 2) (pa_cons (pv 3) (pa_cons (pv 4) (pa_cons (pv 5) pa_nil)))))))) (pss_one (ps_ret pe_bl)) pss_nil) (pss_cons (ps_set (i := 8) sc__law_right.nd rfl (.inl rfl) (pe_callD c_totals (hr.mono (by decide)) rfl (pa_cons (pv 1) (pa_cons (pe_callD c__law_made_many (hr.mono (by decide)) rfl (pa_cons (pe_callD c__law_wider (hr.mono (by decide)) rfl (pa_cons (pv 0) (pa_cons (pv 3) pa_nil))) pa_nil)) (pa_cons (pv 2) (pa_cons (pe_callD c__law_made_many (hr.mono (by decide)) rfl (pa_cons (pe_callD c__law_wider (hr.mono (by decide)) rfl (pa_cons (pv 0) (pa_cons (pv 4) pa_nil))) pa_nil)) pa_nil)))))) (pss_one (ps_ret (pe_or (pe_cmpR op_isN (pv 7) pe_non (nomark _)) (pe_one (pe_and (pe_cmpR op_notN (pv 8) pe_non (nomark _)) (pe_and (pe_cmpR op_le (pe_ix ix_tup (pv 8) pe_int (fun _ _ => rfl)) (pe_ix ix_tup (pv 7) pe_int (fun _ _ => rfl)) (nomark _)) (pe_one (pe_cmpR op_ge (pe_ix ix_tup (pv 8) pe_int (fun _ _ => rfl)) (pe_ix ix_tup (pv 7) pe_int (fun _ _ => rfl)) (nomark _))))))))))))))))), ?_⟩
    refine st_eq (σ := [some _, none, none, none, none, none, none, none, none, none]) rfl ?_
    walk_at "rd"
    refine ⟨i, _, rfl, hp, by decide, by decide, fun a' H1 b1 hp1 a0 a1 => ?_⟩
    walk_at "rd"
    refine ⟨i, _, rfl, hp1, by decide, by decide, fun b' H2 b2 hp2 b0 b1' => ?_⟩
    obtain ⟨a, rfl⟩ : ∃ a : Nat, a' = a := ⟨a'.toNat, by omega⟩
    obtain ⟨b, rfl⟩ : ∃ b : Nat, b' = b := ⟨b'.toNat, by omega⟩
    have ha : a ≤ 3 := by omega
    have hb : b ≤ 3 := by omega
    have hab : a * b ≤ 9 := Nat.mul_le_mul ha hb
    have hpow : 2 ^ (a * b) ≤ 512 := Nat.pow_le_pow_right (n := 2) (by decide) hab
    walk_at "rd"
    refine ⟨i, rfl, hp2, fun t1 p q H3 e1 n1 b3 hp3 => ?_⟩
    walk_at "rd"
    refine ⟨i, rfl, hp3, fun t2 r s H4 e2 n2 b4 hp4 => ?_⟩
    have e14 := b4.get e1 (hp3.neT e1)
    walk_at "rd"
    rename_i tt ntt
    refine ⟨a, b, rfl, ha, hb, fun R H5 Ls s5' eR lR gR => ?_⟩
    have s5 : Same H4 H5 := My.Same.tr (My.Same.new ntt) s5'
    have e15 := s5 _ _ e14
    have e25 := s5 _ _ e2
    have hp5 := hp4.same s5
    walk_at "rd"
    refine ⟨⟨_, SqL.of eR⟩, fun D nD => lc_list (K := K) (a := R) (xs := Ls.map V.ref) (fun c H6 => Same H5 H6 ∧ ∃ ks : List Int, H6 D = some (.lst (ks.map V.int)) ∧ ks.length ≤ c ∧
      ∀ k : Int, k ∈ ks ↔ ∃ c' : Nat, c' < c ∧ lets a b p q r s (sel (spots a b) c') = true ∧ k = ((sel (spots a b) c').length : Nat)) ?_ ?_ ?_ ?_⟩
    · refine ⟨by walk_at "sm", [], upd_same, Nat.le_refl _, fun k => Iff.intro (fun z => nomatch z) ?_⟩
      rintro ⟨c', h, _⟩
      exact absurd h (Nat.not_lt_zero _)
    · intro c H6 _ h
      exact SqL.of (h.1 _ _ eR)
    · rintro c v H6 hc ⟨s6, ks, hD, hl, hk⟩
      have hc2 : c < 2 ^ (a * b) := by
        have := (List.getElem?_eq_some_iff.mp hc).1
        rw [List.length_map, lR] at this
        exact this
      obtain ⟨l, g1, g2⟩ := gR c hc2
      rw [List.getElem?_map, g1] at hc
      cases hc
      have hlen : (sel (spots a b) c).length ≤ 9 := by
        have h1 : (sel (spots a b) c).length ≤ (spots a b).length := selN_len _ _ _
        rw [spots_len] at h1
        omega
      walk_at "rd"
      refine ⟨l, a, b, t1, t2, p, q, r, s, _, rfl, ha, hb, g2.same s6, hlen, s6 _ _ e15, s6 _ _ e25, fun H7 s7 => ?_⟩
      have S7 : Same H5 H7 := My.Same.tr s6 s7
      have hD7 := s7 _ _ hD
      refine ⟨_, rfl, ?_⟩
      refine ite_b (fun f => ?_) (fun f => ?_)
      · obtain ⟨ts, eT, fT, _⟩ := g2.same S7
        walk_at "rd"
        refine s_len (SqL.of eT) ?_
        rw [List.length_map, fT]
        refine ⟨_, hD7, ?_, by walk_at "sm", ks ++ [((((sel (spots a b) c).length : Nat)) : Int)], by rw [upd_same, List.map_append]; rfl, by simp; omega, fun k => ?_⟩
        · rw [List.length_map, sizeLine_eq]
          omega
        · rw [List.mem_append, hk k, List.mem_singleton]
          constructor
          · rintro (⟨c', h1, h2, h3⟩ | h)
            · exact ⟨c', by omega, h2, h3⟩
            · exact ⟨c, by omega, f, h⟩
          · rintro ⟨c', h1, h2, h3⟩
            by_cases hcc : c' = c
            · subst hcc
              exact .inr h3
            · exact .inl ⟨c', by omega, h2, h3⟩
      · refine ⟨S7, ks, hD7, by omega, fun k => ?_⟩
        rw [hk k]
        constructor
        · rintro ⟨c', h1, h2, h3⟩
          exact ⟨c', by omega, h2, h3⟩
        · rintro ⟨c', h1, h2, h3⟩
          have hcc : c' ≠ c := by
            rintro rfl
            rw [f] at h2
            cases h2
          exact ⟨c', by omega, h2, h3⟩
    · rintro H6 ⟨s6, ks, hD, hl, hk⟩
      rw [List.length_map, lR] at hl hk
      walk_at "rd"
      refine ⟨D, ks, rfl, SqL.of hD, ?_, fun p8 us np8 nd8 hm8 => ?_⟩
      · have : (600 : Nat) < scanBound := by decide
        omega
      walk_at "rd"
      refine ⟨p8, _, _, rfl, upd_same, ?_, fun fs p9 hr9 hm9 hl9 np9 => ?_⟩
      · refine Nat.lt_of_le_of_lt (nd_len 10 us nd8 fun k hk8 => ?_) (by decide)
        rw [hm8 k, hk k] at hk8
        obtain ⟨c', h1, h2, h3⟩ := hk8
        have h4 : (sel (spots a b) c').length ≤ (spots a b).length := selN_len _ _ _
        rw [spots_len] at h4
        omega
      have F0 : Found a b p q r s fs := fun k => by
        rw [hm9 k, decide_eq_true_iff, hk k]
      iterate 3 (walk_at "rd1")
      generalize hX : L2.upd _ p9 (HO.lst (fs.map V.int)) = H9
      have s9 : Same H5 H9 := by
        rw [← hX]
        walk_at "sm"
      have e9 : H9 p9 = some (.lst (fs.map V.int)) := by
        rw [← hX]
        exact upd_same
      clear hX np9 np8
      have e19 := s9 _ _ e15
      have e29 := s9 _ _ e25
      have hp9 := hp5.same s9
      refine s_cutV (fun v H' => ∃ tD, Tot a p q b r s tD ∧ TotV H' v tD ∧ Same H9 H') ?_ (fun Q' hQ' => ?_)
      · rintro vD HA ⟨tD, TD, vA, sA⟩
        have e1A := sA _ _ e19
        have e2A := sA _ _ e29
        have hpA := hp9.same sA
        have e9A := sA _ _ e9
        have zab : Szs a p q b r s := Szs.small (by omega) (by omega) (by omega) (by omega) n1.1 (by have := n1.2.1; omega) n1.q9 n2.1 (by have := n2.2.1; omega) n2.q9
        have zba : Szs b r s a p q := Szs.small (by omega) (by omega) (by omega) (by omega) n2.1 (by have := n2.2.1; omega) n2.q9 n1.1 (by have := n1.2.1; omega) n1.q9
        walk_at "rd"
        refine ⟨t1, p, q, rfl, e1A, n1.1, fun h e => (n1.2.2 h e).1, fun x HB sB xB => ?_⟩
        walk_at "rd"
        refine ⟨t2, r, s, rfl, sB _ _ e2A, n2.1, fun h e => (n2.2.2 h e).1, fun y HC sC yC => ?_⟩
        have xC := xB.same sC
        walk_at "rd"
        refine ⟨a, x, b, y, p, q, r, s, rfl, xC, yC, zab, fun tS vS HD' DS sD vS' => ?_⟩
        cases DS.uniq TD
        have SD : Same HA HD' := My.Same.tr sB (My.Same.tr sC sD)
        have vAD := vA.same SD
        walk_at "rd"
        obtain ⟨r1, r2, r3, r4, r5⟩ := s_repr (K := K) vS' (TD.sm zab)
        refine ⟨_, _, rfl, r1, r2, r3, r4, r5, ?_⟩
        walk_at "rd"
        obtain ⟨r1, r2, r3, r4, r5⟩ := s_repr (K := K) vAD (TD.sm zab)
        refine ⟨_, _, rfl, r1, r2, r3, r4, r5, ?_⟩
        walk_at "rd"
        refine ⟨t2, r, s, rfl, SD _ _ e2A, n2.1, fun h e => (n2.2.2 h e).1, fun y2 HE sE yE => ?_⟩
        walk_at "rd"
        refine ⟨t1, p, q, rfl, sE _ _ (SD _ _ e1A), n1.1, fun h e => (n1.2.2 h e).1, fun x2 HF sF xF => ?_⟩
        have yF := yE.same sF
        walk_at "rd"
        refine ⟨b, y2, a, x2, r, s, p, q, rfl, yF, xF, zba, fun tT vT HG DT sG vT' => ?_⟩
        cases DT.uniq TD.swap
        have SG0 : Same HD' HG := My.Same.tr sE (My.Same.tr sF sG)
        have SG : Same HA HG := My.Same.tr SD SG0
        have vAG := vAD.same SG0
        have vSG := vS'.same SG0
        walk_at "rd"
        obtain ⟨r1, r2, r3, r4, r5⟩ := s_repr (K := K) vT' (TD.sm zab)
        refine ⟨_, _, rfl, r1, r2, r3, r4, r5, ?_⟩
        walk_at "rd"
        obtain ⟨r1, r2, r3, r4, r5⟩ := s_repr (K := K) vAG (TD.sm zab)
        refine ⟨_, _, rfl, r1, r2, r3, r4, r5, ?_⟩
        iterate 6 (walk_at "rd1")
        refine s_cutT false (fun H' => Same HG H') ?_ (fun Q' hQ' => ?_)
        · rintro HH sH
          have SH : Same HA HH := My.Same.tr SG sH
          walk_at "rd"
          refine ⟨a, b, t1, t2, p9, p, q, r, s, fs, rfl, ha, hb, SH _ _ e1A, SH _ _ e2A, SH _ _ e9A, found_tab ha hb n1 n2 F0, fun HI sI => ?_⟩
          have SI : Same HA HI := My.Same.tr SH sI
          have hpI := hpA.same SI
          have vSI := vSG.same (My.Same.tr sH sI)
          walk_at "rd"
          refine ⟨i, t1, p, q, rfl, hpI, SI _ _ e1A, n1.1, n1.2.1, n1.2.2, fun u1 p' q' HJ f1 p0' p1' w1 v1 bJ hpJ => ?_⟩
          walk_at "rd"
          refine ⟨u1, p', q', rfl, f1, p0', fun h e => (w1 h e).1, fun x3 HK sK xK => ?_⟩
          walk_at "rd"
          have e2J := bJ.get (SI _ _ e2A) (hpI.neT (SI _ _ e2A))
          refine ⟨i, t2, r, s, rfl, hpJ.same sK, sK _ _ e2J, n2.1, n2.2.1, n2.2.2, fun u2 r' s' HL f2 r0' r1' w2 v2 bL hpL => ?_⟩
          have xL := xK.buts bL (hpJ.same sK)
          walk_at "rd"
          refine ⟨u2, r', s', rfl, f2, r0', fun h e => (w2 h e).1, fun y3 HM sM yM => ?_⟩
          have xM := xL.same sM
          have zw : Szs a p' q' b r' s' := Szs.small (by omega) (by omega) (by omega) (by omega) p0' (by have := n1.2.1; omega) (fun x e => by have := w1 x e; omega) r0' (by have := n2.2.1; omega) (fun x e => by have := w2 x e; omega)
          walk_at "rd"
          refine ⟨a, x3, b, y3, p', q', r', s', rfl, xM, yM, zw, fun tW vW HN DW sN vN => ?_⟩
          have hB : But i H HN := ((((((b1.trans b2).trans b3).trans b4).trans (My.Same.but (My.Same.tr s5 (My.Same.tr s9 (My.Same.tr sA SI))))).trans bJ).trans (My.Same.but sK)).trans (bL.trans (My.Same.but (My.Same.tr sM sN)))
          have hpN := hpL.same (My.Same.tr sM sN)
          have vSN := (((vSI.but bJ hpI).same sK).but bL (hpJ.same sK)).same (My.Same.tr sM sN)
          cases tD with
          | none =>
            cases (show vS = .non from vSN)
            walk_at "rd"
            exact k _ hB hpN
          | some u =>
            obtain ⟨l, h⟩ := u
            obtain ⟨T, rfl, eT⟩ := vSN
            obtain ⟨l', h', rfl, hl, hh⟩ := TD.wide (by omega) (by omega) p1' v1 r1' v2 DW
            obtain ⟨T', rfl, eT'⟩ := vN
            walk_at "rd"
            refine ite_d (fun _ => ?_) (fun hc => absurd hl hc)
            walk_at "rd"
            rw [decide_eq_true (show h ≤ h' from hh)]
            exact k _ hB hpN
        · have e9G := SG _ _ e9A
          rcases found_cases ha hb n1 n2 F0 hr9 with ⟨rfl, T0⟩ | ⟨lo, hi, h1, h2, h3, ef, T0⟩
          · have e9z : HG p9 = some (.lst []) := e9G
            walk_at "rd"
            refine ⟨.list [], .list [], .lst (SqL.of (by walk_at "hp")) .nil, .lst (SqL.of upd_same) .nil, rfl, rfl, ?_⟩
            have en : PyData.eqv (.list []) (.list []) = true := ints_eq []
            rw [en]
            walk_at "rd"
            exact hQ' _ (by walk_at "sm")
          · obtain ⟨xs, ex⟩ := range_first h1
            obtain ⟨ys, ey⟩ := range_last h1
            rw [← ef] at ex ey
            walk_at "rd"
            refine ⟨.list (fs.map .int), .list [], .lst (SqL.of (by walk_at "hp")) (dpl_ints fs), .lst (SqL.of upd_same) .nil, ints_shaped fs, rfl, ?_⟩
            have en : PyData.eqv (.list (fs.map PyData.int)) (.list []) = false := by
              rw [ex]
              exact ints_ne lo xs
            rw [en]
            have eg : rgV lo (hi + 1) = fs.map V.int := by
              unfold rgV
              rw [ef, List.map_map, show hi + 1 - lo = hi - lo + 1 by omega]
              rfl
            walk_at "rd"
            refine s_lstRg (s_rg2 ?_)
            walk_at "rd"
            refine s_ixL (v := .int lo) (by walk_at "hp") (by rw [ex]; exact atI_nat (j := 0) rfl) ?_
            walk_at "rd"
            refine ⟨_, rfl, ?_⟩
            refine s_ixL (v := .int hi) (by walk_at "hp") (by rw [ey, List.map_append]; exact atI_last _ _) ?_
            walk_at "rd"
            refine ⟨_, _, rfl, rfl, ⟨by omega, by omega, by omega, by omega, by omega⟩, fun q9 nq9 => ?_⟩
            rw [eg]
            refine ⟨.list (fs.map .int), .list (fs.map .int), .lst (SqL.of (by walk_at "hp")) (dpl_ints fs), .lst (SqL.of upd_same) (dpl_ints fs), ints_shaped fs, ints_shaped fs, ?_⟩
            rw [ints_eq fs]
            walk_at "rd"
            exact hQ' _ (by walk_at "sm")
      · have e9G := e9
        rcases found_cases ha hb n1 n2 F0 hr9 with ⟨rfl, T0⟩ | ⟨lo, hi, h1, h2, h3, ef, T0⟩
        · have e9z : H9 p9 = some (.lst []) := e9G
          walk_at "rd"
          refine ⟨.list [], .list [], .lst (SqL.of (by walk_at "hp")) .nil, .lst (SqL.of upd_same) .nil, rfl, rfl, ?_⟩
          have en : PyData.eqv (.list []) (.list []) = true := ints_eq []
          rw [en]
          walk_at "rd"
          exact hQ' _ _ ⟨none, T0, rfl, by walk_at "sm"⟩
        · obtain ⟨xs, ex⟩ := range_first h1
          obtain ⟨ys, ey⟩ := range_last h1
          rw [← ef] at ex ey
          walk_at "rd"
          refine ⟨.list (fs.map .int), .list [], .lst (SqL.of (by walk_at "hp")) (dpl_ints fs), .lst (SqL.of upd_same) .nil, ints_shaped fs, rfl, ?_⟩
          have en : PyData.eqv (.list (fs.map PyData.int)) (.list []) = false := by
            rw [ex]
            exact ints_ne lo xs
          rw [en]
          walk_at "rd"
          refine s_ixL (v := .int lo) (by walk_at "hp") (by rw [ex]; exact atI_nat (j := 0) rfl) ?_
          walk_at "rd"
          refine ⟨_, rfl, ?_⟩
          refine s_ixL (v := .int hi) (by walk_at "hp") (by rw [ey, List.map_append]; exact atI_last _ _) ?_
          walk_at "rd"
          exact hQ' _ _ ⟨some (lo, hi), T0, ⟨_, rfl, upd_same⟩, by walk_at "sm"⟩
end
end My

open My L2 PySem
open My L2 PySem
local macro_rules | `(tactic| walk_at "as") => `(tactic| with_reducible assumption)
local macro_rules | `(tactic| walk_at "hp") => `(tactic| first
  | walk_at "as" | exact upd_same
  | (rw [upd_ne (by walk_at "ne")]; walk_at "hp")
  | (refine But.get (by walk_at "as") ?hp1 ?hp2; (case hp1 => walk_at "hp"); (case hp2 => walk_at "ne"))
  | (refine My.Same.get (by walk_at "as") ?hp1; (case hp1 => walk_at "hp")))
local macro_rules | `(tactic| walk_at "ne") => `(tactic| first
  | walk_at "as" | exact Ne.symm (by walk_at "as")
  | (refine' ne_of_none ?ne1 ?ne2; (case ne2 => walk_at "as"); (case ne1 => walk_at "hp"))
  | (refine' Ne.symm (ne_of_none ?ne1 ?ne2); (case ne2 => walk_at "as"); (case ne1 => walk_at "hp"))
  | exact ne_of (by walk_at "hp") (by walk_at "hp") (by intro z; cases z))
local macro_rules | `(tactic| walk_at "sd") => `(tactic| first
  | walk_at "as" | omega | decide | exact ⟨by omega, by omega⟩ | exact .inl ⟨by omega, by omega⟩ | exact .inr ⟨by omega, by omega⟩ | exact divp_wide (by walk_at "as") (by walk_at "as") | exact Sm.cmul (by walk_at "as") (by walk_at "as") | exact cmul_small (by omega) (by omega) (by omega) (by omega) | exact ⟨by omega, by decide⟩)
local macro_rules | `(tactic| walk_at "bt") => `(tactic| first
  | walk_at "as" | exact But.refl _ _ | exact Same.but (by walk_at "as")
  | (refine But.trans ?bt1 But.at; (case bt1 => walk_at "bt"))
  | (refine But.trans ?bt1 (But.new (by first | walk_at "as" | walk_at "hp")); (case bt1 => walk_at "bt"))
  | (refine But.trans ?bt1 (by walk_at "as"); (case bt1 => walk_at "bt"))
  | (refine But.trans ?bt1 (Same.but (by walk_at "as")); (case bt1 => walk_at "bt")))
local macro_rules | `(tactic| walk_at "sm") => `(tactic| first
  | walk_at "as" | exact My.Same.rfl' _
  | (refine' My.Same.at_ ?sm1 ?sm2; (case sm1 => walk_at "as"); (case sm2 => walk_at "sm"))
  | (refine' My.Same.tr ?sm1 (My.Same.new ?sm2); (case sm2 => walk_at "as"); (case sm1 => walk_at "sm"))
  | (refine' My.Same.tr ?sm1 ?sm2; (case sm2 => walk_at "as"); (case sm1 => walk_at "sm")))
local macro_rules | `(tactic| walk_at "sz") => `(tactic| first
  | assumption | exact lt_size (by rfl) | exact le_size (by rfl) | (rw [sizeLine_eq]; omega)
  | (rw [sizeLine_eq]; simp only [List.length_append, List.length_map, List.length_cons, List.length_nil]; omega))
local macro_rules | `(tactic| walk_at "few") => `(tactic| (repeat refine few_put ?_); exact few0)
local macro_rules | `(tactic| walk_at "rd1") => `(tactic| first
  | (with_reducible show tVar _ _ _ _); refine s_var rfl ?_
  | with_reducible refine s_c ?_ | with_reducible refine s_op ?_ | with_reducible refine s_un ?_
  | with_reducible refine s_cons ?_ | with_reducible refine s_nil ?_ | with_reducible refine s_cb ?_
  | with_reducible refine s_test ?_ | with_reducible refine s_B ?_ | with_reducible refine s_not ?_ | with_reducible refine s_and ?_ | with_reducible refine s_or ?_
  | with_reducible refine s_if ?_ | with_reducible refine s_notV ?_ | with_reducible refine s_andV ?_ | with_reducible refine s_orV ?_
  | with_reducible refine s_orT ?_ | with_reducible refine s_andT ?_ | with_reducible refine s_chain ?_
  | with_reducible refine s_isi_int ?_ | with_reducible refine s_isi_int_bool ?_ | with_reducible refine s_isi_str ?_
  | with_reducible refine iteT ?_ | with_reducible refine iteF ?_ | with_reducible refine iteNT ?_ | with_reducible refine iteNF ?_
  | with_reducible refine s_isN ?_ | with_reducible refine s_notN ?_
  | ((with_reducible refine' s_2setE ?g1 ?_); (case g1 => first | (dsimp only [List.set, L2.wipe, List.map, List.foldl]; done) | (dsimp only [List.set, L2.wipe, List.map, List.foldl]; rfl)))
  | with_reducible refine s_seq ?_ | with_reducible refine s_ifS ?_ | with_reducible refine s_asg ?_ | with_reducible refine s_ret ?_ | with_reducible refine s_drop ?_ | with_reducible refine s_next ?_
  | ((with_reducible refine' s_gnameE ?g1 ?_); (case g1 => first | (dsimp only [List.set, L2.wipe, List.map, List.foldl]; done) | (dsimp only [List.set, L2.wipe, List.map, List.foldl]; rfl)))
  | with_reducible refine s_gsub ?_ | with_reducible refine s_gcons ?_ | with_reducible refine s_gnil ?_
  | (with_reducible show gTup _ _ _ _ _ _ _); refine s_gtup (by walk_at "hp") rfl ?_
  | with_reducible refine s_eqI ?_ | with_reducible refine s_neI ?_ | with_reducible refine s_eqS ?_ | with_reducible refine s_neB ?_ | with_reducible refine s_eqB ?_ | with_reducible refine s_neSr ?_ | with_reducible refine s_neS ?_
  | with_reducible refine s_I0 ?_
  | (with_reducible show rI _ _ _ _ _ _); refine s_I (by walk_at "sd") ?_
  | (with_reducible show rIxL _ _ _ _ _); refine s_ixL (by walk_at "hp") rfl ?_
  | (with_reducible show rIxT _ _ _ _ _); refine s_ixT (by walk_at "hp") rfl ?_
  | (with_reducible show rSetL _ _ _ _ _); refine s_setL (by walk_at "hp") rfl ?_
  | with_reducible refine s_prop ?_
  | (with_reducible show _ ≤ sizeLine ∧ _); refine ⟨le_size (by rfl), ?_⟩
  | with_reducible refine ite_NN ?_ | with_reducible refine ite_IN ?_ | with_reducible refine ite_nNN ?_ | with_reducible refine ite_nIN ?_ | with_reducible refine ite_RN ?_ | with_reducible refine ite_nRN ?_
  | with_reducible refine s_sfld ?_
  | ((with_reducible refine' ⟨_, _, _, _, rfl, ?fp1, ?fp2, ?fp3, ?fp4, ?_⟩); (case fp1 => walk_at "hp"); (case fp2 => assumption); (case fp3 => assumption); (case fp4 => walk_at "few"))
  | with_reducible refine s_fldE ?_
  | ((with_reducible refine' ⟨_, _, _, _, _, rfl, ?fp1, ?fp2, ?fp3, ?fp4, ?_⟩); (case fp1 => walk_at "hp"); (case fp2 => assumption); (case fp3 => assumption); (case fp4 => rfl))
  | with_reducible refine s_bm ?_ | with_reducible refine s_bm0 ?_
  | ((with_reducible refine' s_tyL ?ty1 ?_); (case ty1 => walk_at "hp"))
  | ((with_reducible refine' s_append ?ap1 ?ap2 ?_); (case ap1 => walk_at "hp"); (case ap2 => walk_at "sz"))
  | ((with_reducible refine' s_extend ?ap1 ?ap2 ?ap3 ?_); (case ap1 => walk_at "hp"); (case ap2 => walk_at "hp"); (case ap3 => walk_at "sz"))
  | with_reducible refine s_for (fun _ _ => ?_) | with_reducible refine s_lc ?_ | with_reducible refine s_iList ?_ | with_reducible refine s_iTup ?_ | with_reducible refine s_iRng1 ?_ | with_reducible refine s_iRng2 ?_
  | with_reducible refine s_yes ?_ | with_reducible refine s_par ?_
  | with_reducible refine s_make ?_ | with_reducible refine s_meth ?_
  | with_reducible refine s_tup ?_ | with_reducible refine s_lst ?_ | with_reducible refine s_call ?_
  | with_reducible refine ⟨rfl, ?_⟩
  | with_reducible refine ⟨_, rfl, ?_⟩
  | ((with_reducible refine' ⟨_, _, rfl, ?sd1, ?_⟩); (case sd1 => walk_at "sd"))
  | with_reducible refine ⟨_, _, rfl, ?_⟩
  | with_reducible refine .inl ⟨_, rfl, ?_⟩
  | dsimp only [List.set]
  | walk_at "rdx"
  | (refine fun _ _ => ?_))
local macro_rules | `(tactic| walk_at "rd") => `(tactic| repeat (first
  | (with_reducible show tVar _ _ _ _); refine s_var rfl ?_
  | with_reducible refine s_c ?_ | with_reducible refine s_op ?_ | with_reducible refine s_un ?_
  | with_reducible refine s_cons ?_ | with_reducible refine s_nil ?_ | with_reducible refine s_cb ?_
  | with_reducible refine s_test ?_ | with_reducible refine s_B ?_ | with_reducible refine s_not ?_ | with_reducible refine s_and ?_ | with_reducible refine s_or ?_
  | with_reducible refine s_if ?_ | with_reducible refine s_notV ?_ | with_reducible refine s_andV ?_ | with_reducible refine s_orV ?_
  | with_reducible refine s_orT ?_ | with_reducible refine s_andT ?_ | with_reducible refine s_chain ?_
  | with_reducible refine s_isi_int ?_ | with_reducible refine s_isi_int_bool ?_ | with_reducible refine s_isi_str ?_
  | with_reducible refine iteT ?_ | with_reducible refine iteF ?_ | with_reducible refine iteNT ?_ | with_reducible refine iteNF ?_
  | with_reducible refine s_isN ?_ | with_reducible refine s_notN ?_
  | ((with_reducible refine' s_2setE ?g1 ?_); (case g1 => first | (dsimp only [List.set, L2.wipe, List.map, List.foldl]; done) | (dsimp only [List.set, L2.wipe, List.map, List.foldl]; rfl)))
  | with_reducible refine s_seq ?_ | with_reducible refine s_ifS ?_ | with_reducible refine s_asg ?_ | with_reducible refine s_ret ?_ | with_reducible refine s_drop ?_ | with_reducible refine s_next ?_
  | ((with_reducible refine' s_gnameE ?g1 ?_); (case g1 => first | (dsimp only [List.set, L2.wipe, List.map, List.foldl]; done) | (dsimp only [List.set, L2.wipe, List.map, List.foldl]; rfl)))
  | with_reducible refine s_gsub ?_ | with_reducible refine s_gcons ?_ | with_reducible refine s_gnil ?_
  | (with_reducible show gTup _ _ _ _ _ _ _); refine s_gtup (by walk_at "hp") rfl ?_
  | with_reducible refine s_eqI ?_ | with_reducible refine s_neI ?_ | with_reducible refine s_eqS ?_ | with_reducible refine s_neB ?_ | with_reducible refine s_eqB ?_ | with_reducible refine s_neSr ?_ | with_reducible refine s_neS ?_
  | with_reducible refine s_I0 ?_
  | (with_reducible show rI _ _ _ _ _ _); refine s_I (by walk_at "sd") ?_
  | (with_reducible show rIxL _ _ _ _ _); refine s_ixL (by walk_at "hp") rfl ?_
  | (with_reducible show rIxT _ _ _ _ _); refine s_ixT (by walk_at "hp") rfl ?_
  | (with_reducible show rSetL _ _ _ _ _); refine s_setL (by walk_at "hp") rfl ?_
  | with_reducible refine s_prop ?_
  | (with_reducible show _ ≤ sizeLine ∧ _); refine ⟨le_size (by rfl), ?_⟩
  | with_reducible refine ite_NN ?_ | with_reducible refine ite_IN ?_ | with_reducible refine ite_nNN ?_ | with_reducible refine ite_nIN ?_ | with_reducible refine ite_RN ?_ | with_reducible refine ite_nRN ?_
  | with_reducible refine s_sfld ?_
  | ((with_reducible refine' ⟨_, _, _, _, rfl, ?fp1, ?fp2, ?fp3, ?fp4, ?_⟩); (case fp1 => walk_at "hp"); (case fp2 => assumption); (case fp3 => assumption); (case fp4 => walk_at "few"))
  | with_reducible refine s_fldE ?_
  | ((with_reducible refine' ⟨_, _, _, _, _, rfl, ?fp1, ?fp2, ?fp3, ?fp4, ?_⟩); (case fp1 => walk_at "hp"); (case fp2 => assumption); (case fp3 => assumption); (case fp4 => rfl))
  | with_reducible refine s_bm ?_ | with_reducible refine s_bm0 ?_
  | ((with_reducible refine' s_tyL ?ty1 ?_); (case ty1 => walk_at "hp"))
  | ((with_reducible refine' s_append ?ap1 ?ap2 ?_); (case ap1 => walk_at "hp"); (case ap2 => walk_at "sz"))
  | ((with_reducible refine' s_extend ?ap1 ?ap2 ?ap3 ?_); (case ap1 => walk_at "hp"); (case ap2 => walk_at "hp"); (case ap3 => walk_at "sz"))
  | with_reducible refine s_for (fun _ _ => ?_) | with_reducible refine s_lc ?_ | with_reducible refine s_iList ?_ | with_reducible refine s_iTup ?_ | with_reducible refine s_iRng1 ?_ | with_reducible refine s_iRng2 ?_
  | with_reducible refine s_yes ?_ | with_reducible refine s_par ?_
  | with_reducible refine s_make ?_ | with_reducible refine s_meth ?_
  | with_reducible refine s_tup ?_ | with_reducible refine s_lst ?_ | with_reducible refine s_call ?_
  | with_reducible refine ⟨rfl, ?_⟩
  | with_reducible refine ⟨_, rfl, ?_⟩
  | ((with_reducible refine' ⟨_, _, rfl, ?sd1, ?_⟩); (case sd1 => walk_at "sd"))
  | with_reducible refine ⟨_, _, rfl, ?_⟩
  | with_reducible refine .inl ⟨_, rfl, ?_⟩
  | dsimp only [List.set]
  | walk_at "rdx"
  | (refine fun _ _ => ?_)))

namespace My
open PySem L2
section
variable {P : Program} {w : World} {K : PySem.W.Frag} {mg : Str → Option Value} {base : Heap} {C_Many C_Table T_LINES T_ENDS : Addr} (M : Md K mg C_Many C_Table T_LINES T_ENDS)
include M
omit M
def spLaw (K : PySem.W.Frag) : Sp := fun vs H Q _ => ∃ (a : Addr) (ns : List Int), vs = [.ref a] ∧ SqL K H a (ns.map V.int) ∧ ns.length ≤ 63 ∧ ∀ H', Q (.bl true) H'
theorem turns4 (n : Nat) : 0 ≤ (if (if 4 < (n : Int) then 4 else (n : Int)) > 1 then (if 4 < (n : Int) then 4 else (n : Int)) else 1) ∧ (if (if 4 < (n : Int) then 4 else (n : Int)) > 1 then (if 4 < (n : Int) then 4 else (n : Int)) else 1) ≤ 4 := by
  split <;> split <;> omega
theorem rep_map (n : Nat) : List.replicate n (V.bl true) = (List.replicate n true).map V.bl := by
  rw [List.map_replicate]
theorem rep_all (n : Nat) : (List.replicate n true).all id = true := by
  induction n with
  | zero => rfl
  | succ n ih => simpa using ih
include M
theorem ok_law {f : Addr} {fd : FuncData} (F : FunD K "law" "law" (defArgs st_law) (defBody st_law) (defScope st_law) [] [] f fd) : FnG P w K mg base CX0 8 f fd ["_law_script"] (spLaw K) := by
  have c__law_pot_of := c__law_pot_of (P := P) (w := w) (base := base) M
  have c__law_right := c__law_right (P := P) (w := w) (base := base) M
  refine fnG_body F sc_law (fun vs H Q E h => ?_) (fun cdv A outer s H vs Q E hr h => ?_)
  · obtain ⟨a, ns, rfl, _⟩ := h
    rfl
  · obtain ⟨a, ns, rfl, hS, hl, k⟩ := h
    refine ⟨_, (pss_cons (ps_for (passes_of rfl) rfl (pi_range1 (by rfl) M.b_range (pa_cons (pe_callB (call_max2 rfl) (by rfl) M.b_max (by decide +kernel) (pa_cons pe_int (pa_cons (pe_callB (call_min2 rfl) (by rfl) M.b_min (by decide +kernel) (pa_cons (pe_callB call_len_seq (by rfl) M.b_len (by decide +kernel) (pa_cons (pv 0) pa_nil)) (pa_cons pe_int pa_nil))) pa_nil))) pa_nil)) (pg_name (i := 1) sc_law.nd rfl (.inl rfl)) (pss_cons (ps_set (i := 2) sc_law.nd rfl (.inr rfl) (pe_callD c__law_pot_of (hr.mono (by decide)) rfl (pa_cons (pv 0) (pa_cons (pv 1) pa_nil)))) (pss_one (ps_if (pt_not (pt_val (pe_callB (cr_all rfl) (by rfl) M.b_all (by decide +kernel) (pa_cons (pe_lc (own := [("_law_turn", 3)]) (g := gName 3) (tt := tYes) (by rfl) sc_law.nd (pi_range1 (by rfl) M.b_range (pa_cons pe_int pa_nil)) (blkOk_by (own := [("_law_turn", 3)]) (N := N_law) (sc := defScope st_law) (by decide +kernel)) (fun _ _ _ _ _ => pg_name (i := 3) sc_law.nd rfl (by first | exact Or.inl rfl | exact Or.inr rfl)) (fun _ _ _ _ _ => pts_nil) (fun _ _ _ _ _ => (pe_callD c__law_right (hr.mono (by decide)) rfl (pa_cons (pv 2) pa_nil)))) pa_nil)))) (pss_one (ps_ret pe_bl)) pss_nil)))) (pss_one (ps_ret pe_bl))), ?_⟩
    refine st_eq (σ := [some _, none, none, none]) rfl ?_
    walk_at "rd"
    refine ⟨_, _, rfl, .inl hS, ?_⟩
    walk_at "rd"
    have hb := turns4 (ns.map V.int).length
    refine ⟨Int.le_trans (by decide) hb.1, Int.lt_of_le_of_lt hb.2 (by decide), for_range (lo := 0) (fun i σ H' => (∃ u v, σ = [some (.ref a), u, v, none]) ∧ Same H H' ∧ i ≤ 4) ?_ ?_ ?_⟩
    · exact ⟨⟨_, _, rfl⟩, My.Same.rfl' H, Nat.zero_le _⟩
    · subst_vars
      rintro i σ H1 hi ⟨⟨u, v, rfl⟩, hs, _⟩
      have hi5 : i + 1 ≤ 4 := by
        have := hb.2
        omega
      walk_at "rd"
      refine ⟨a, ns, _, rfl, hs.seq hS, by omega, by omega, fun r H2 s2 nr p2 => ?_⟩
      walk_at "rd"
      refine ⟨by decide, by decide, fun D nD => lc_range (lo := 0) (n := 2) (fun j H3 => Same H1 H3 ∧ Pot H3 r ∧ H3 D = some (.lst (List.replicate j (V.bl true))) ∧ j ≤ 2) ?_ ?_ ?_⟩
      · exact ⟨by walk_at "sm", p2.up nD, upd_same, Nat.zero_le _⟩
      · rintro j H3 hj ⟨s3, p3, hD, _⟩
        walk_at "rd"
        refine ⟨r, rfl, p3, fun H4 b4 p4 => ?_⟩
        have dr : D ≠ r := p2.ne nD
        have nD1 : H1 D = none := L2.Same.free s2 nD
        refine ⟨_, b4.get hD dr, ?_, (My.Same.at_ nD1 (b4.same s3 nr)), ?_, ?_, hj⟩
        · rw [List.length_replicate, sizeLine_eq]
          omega
        · obtain ⟨x, y, e, q⟩ := p4
          exact ⟨x, y, by rw [upd_ne dr.symm]; exact e, q⟩
        · rw [upd_same, List.replicate_succ']
      · rintro H3 ⟨s3, p3, hD, _⟩
        walk_at "rd"
        refine ⟨_, List.replicate 2 true, rfl, SqL.of (by rw [← rep_map]; exact hD), ?_⟩
        rw [rep_all]
        walk_at "rd"
        exact ⟨⟨_, _, rfl⟩, My.Same.tr hs s3, hi5⟩
    · subst_vars
      rintro σ H1 ⟨⟨u, v, rfl⟩, hs, _⟩
      walk_at "rd"
      exact k _
end
end My

namespace My
open PySem L2
theorem all_mk {l : PySem.W.OpenLaw} {w : World} {K : PySem.W.Frag} {h : Heap} {mg : Str → Option Value} {fa : Addr} (X : K.In h) (G : h.Ns mainGlobals mg) (hfa : mg "law" = some (.ref fa))
    {f_is_integer : Addr}
    {od1 an1 : Option Addr} {sl1 : Array (Option Value)} {oc1 kV1 dc1 pm1 cd1 ct1 : Value}
    {f_is_count : Addr}
    {od2 an2 : Option Addr} {sl2 : Array (Option Value)} {oc2 kV2 dc2 pm2 cd2 ct2 : Value}
    {f_is_end : Addr}
    {od3 an3 : Option Addr} {sl3 : Array (Option Value)} {oc3 kV3 dc3 pm3 cd3 ct3 : Value}
    {f_check_end : Addr}
    {od4 an4 : Option Addr} {sl4 : Array (Option Value)} {oc4 kV4 dc4 pm4 cd4 ct4 : Value}
    {f__is_up_to : Addr}
    {od5 an5 : Option Addr} {sl5 : Array (Option Value)} {oc5 kV5 dc5 pm5 cd5 ct5 : Value}
    {f_check_count : Addr}
    {od6 an6 : Option Addr} {sl6 : Array (Option Value)} {oc6 kV6 dc6 pm6 cd6 ct6 : Value}
    {f__check_many : Addr}
    {od7 an7 : Option Addr} {sl7 : Array (Option Value)} {oc7 kV7 dc7 pm7 cd7 ct7 : Value}
    {f_is_line_true : Addr}
    {od8 an8 : Option Addr} {sl8 : Array (Option Value)} {oc8 kV8 dc8 pm8 cd8 ct8 : Value}
    {f_wrong_line : Addr}
    {od9 an9 : Option Addr} {sl9 : Array (Option Value)} {oc9 kV9 dc9 pm9 cd9 ct9 : Value}
    {f_totals : Addr}
    {od10 an10 : Option Addr} {sl10 : Array (Option Value)} {oc10 kV10 dc10 pm10 cd10 ct10 : Value}
    {f__law_pot_of : Addr}
    {od11 an11 : Option Addr} {sl11 : Array (Option Value)} {oc11 kV11 dc11 pm11 cd11 ct11 : Value}
    {f__law_draw : Addr}
    {od12 an12 : Option Addr} {sl12 : Array (Option Value)} {oc12 kV12 dc12 pm12 cd12 ct12 : Value}
    {f__law_pick : Addr}
    {od13 an13 : Option Addr} {sl13 : Array (Option Value)} {oc13 kV13 dc13 pm13 cd13 ct13 : Value}
    {f__law_numbers_in : Addr}
    {od14 an14 : Option Addr} {sl14 : Array (Option Value)} {oc14 kV14 dc14 pm14 cd14 ct14 : Value}
    {f__law_made_many : Addr}
    {od15 an15 : Option Addr} {sl15 : Array (Option Value)} {oc15 kV15 dc15 pm15 cd15 ct15 : Value}
    {f__law_lets : Addr}
    {od16 an16 : Option Addr} {sl16 : Array (Option Value)} {oc16 kV16 dc16 pm16 cd16 ct16 : Value}
    {f__law_nets_in : Addr}
    {od17 an17 : Option Addr} {sl17 : Array (Option Value)} {oc17 kV17 dc17 pm17 cd17 ct17 : Value}
    {f__law_is_let : Addr}
    {od18 an18 : Option Addr} {sl18 : Array (Option Value)} {oc18 kV18 dc18 pm18 cd18 ct18 : Value}
    {f__law_tables_right : Addr}
    {od19 an19 : Option Addr} {sl19 : Array (Option Value)} {oc19 kV19 dc19 pm19 cd19 ct19 : Value}
    {f__law_wider : Addr}
    {od20 an20 : Option Addr} {sl20 : Array (Option Value)} {oc20 kV20 dc20 pm20 cd20 ct20 : Value}
    {f__law_right : Addr}
    {od21 an21 : Option Addr} {sl21 : Array (Option Value)} {oc21 kV21 dc21 pm21 cd21 ct21 : Value}
    {tq_LINES_0 : Tok}
    {tq_LINES_1 : Tok}
    {tq_LINES_2 : Tok}
    {tq_LINES_3 : Tok}
    {T_LINES : Addr} {o_LINES : Obj} {z_LINES : Nat}
    {tq_ENDS_0 : Tok}
    {tq_ENDS_1 : Tok}
    {T_ENDS : Addr} {o_ENDS : Obj} {z_ENDS : Nat}
    {C_Many : Addr}
    {fi_Many : Addr}
    {od22 an22 : Option Addr} {sl22 : Array (Option Value)} {oc22 kV22 dc22 pm22 cd22 ct22 : Value}
    {T22 : Addr} {o22 : Obj} {z22 : Nat}
    {fp_Many_least pp_Many_least : Addr} {rs_Many_least : List Value}
    {od23 an23 : Option Addr} {sl23 : Array (Option Value)} {oc23 kV23 dc23 pm23 cd23 ct23 : Value}
    {fp_Many_most pp_Many_most : Addr} {rs_Many_most : List Value}
    {od24 an24 : Option Addr} {sl24 : Array (Option Value)} {oc24 kV24 dc24 pm24 cd24 ct24 : Value}
    {C_Table : Addr}
    {fi_Table : Addr}
    {od25 an25 : Option Addr} {sl25 : Array (Option Value)} {oc25 kV25 dc25 pm25 cd25 ct25 : Value}
    {fm_Table__size : Addr}
    {od26 an26 : Option Addr} {sl26 : Array (Option Value)} {oc26 kV26 dc26 pm26 cd26 ct26 : Value}
    {fm_Table__is_row : Addr}
    {od27 an27 : Option Addr} {sl27 : Array (Option Value)} {oc27 kV27 dc27 pm27 cd27 ct27 : Value}
    {fm_Table__check_row : Addr}
    {od28 an28 : Option Addr} {sl28 : Array (Option Value)} {oc28 kV28 dc28 pm28 cd28 ct28 : Value}
    {fm_Table__degree : Addr}
    {od29 an29 : Option Addr} {sl29 : Array (Option Value)} {oc29 kV29 dc29 pm29 cd29 ct29 : Value}
    {fm_Table_degree : Addr}
    {od30 an30 : Option Addr} {sl30 : Array (Option Value)} {oc30 kV30 dc30 pm30 cd30 ct30 : Value}
    {f_law : Addr}
    {od31 an31 : Option Addr} {sl31 : Array (Option Value)} {oc31 kV31 dc31 pm31 cd31 ct31 : Value}
    (b_isinstance : PySem.W.nsIn K mainGlobals "isinstance" = some none)
    (b_int : PySem.W.nsIn K mainGlobals "int" = some none)
    (b_bool : PySem.W.nsIn K mainGlobals "bool" = some none)
    (b_max : PySem.W.nsIn K mainGlobals "max" = some none)
    (b_min : PySem.W.nsIn K mainGlobals "min" = some none)
    (b_abs : PySem.W.nsIn K mainGlobals "abs" = some none)
    (b_divmod : PySem.W.nsIn K mainGlobals "divmod" = some none)
    (b_len : PySem.W.nsIn K mainGlobals "len" = some none)
    (b_range : PySem.W.nsIn K mainGlobals "range" = some none)
    (b_all : PySem.W.nsIn K mainGlobals "all" = some none)
    (b_repr : PySem.W.nsIn K mainGlobals "repr" = some none)
    (b_str : PySem.W.nsIn K mainGlobals "str" = some none)
    (b_sorted : PySem.W.nsIn K mainGlobals "sorted" = some none)
    (b_set : PySem.W.nsIn K mainGlobals "set" = some none)
    (b_list : PySem.W.nsIn K mainGlobals "list" = some none)
    (a_is_integer : PySem.W.nsIn K mainGlobals "is_integer" = some (some (.ref f_is_integer)))
    (l1 : K.lookup f_is_integer = some ⟨oc1, od1, .func (PySem.W.fnOf "is_integer" "is_integer" (defArgs st_is_integer) (defBody st_is_integer) (defScope st_is_integer) .none kV1 dc1 pm1 an1 cd1 ct1), sl1⟩)
    (c1 : PySem.W.codeIn K cd1 "is_integer" = true)
    (k1 : PySem.W.keepIn K (.ref f_is_integer) = true)
    (a_is_count : PySem.W.nsIn K mainGlobals "is_count" = some (some (.ref f_is_count)))
    (l2 : K.lookup f_is_count = some ⟨oc2, od2, .func (PySem.W.fnOf "is_count" "is_count" (defArgs st_is_count) (defBody st_is_count) (defScope st_is_count) .none kV2 dc2 pm2 an2 cd2 ct2), sl2⟩)
    (c2 : PySem.W.codeIn K cd2 "is_count" = true)
    (k2 : PySem.W.keepIn K (.ref f_is_count) = true)
    (a_is_end : PySem.W.nsIn K mainGlobals "is_end" = some (some (.ref f_is_end)))
    (l3 : K.lookup f_is_end = some ⟨oc3, od3, .func (PySem.W.fnOf "is_end" "is_end" (defArgs st_is_end) (defBody st_is_end) (defScope st_is_end) .none kV3 dc3 pm3 an3 cd3 ct3), sl3⟩)
    (c3 : PySem.W.codeIn K cd3 "is_end" = true)
    (k3 : PySem.W.keepIn K (.ref f_is_end) = true)
    (a_check_end : PySem.W.nsIn K mainGlobals "check_end" = some (some (.ref f_check_end)))
    (l4 : K.lookup f_check_end = some ⟨oc4, od4, .func (PySem.W.fnOf "check_end" "check_end" (defArgs st_check_end) (defBody st_check_end) (defScope st_check_end) .none kV4 dc4 pm4 an4 cd4 ct4), sl4⟩)
    (c4 : PySem.W.codeIn K cd4 "check_end" = true)
    (k4 : PySem.W.keepIn K (.ref f_check_end) = true)
    (a__is_up_to : PySem.W.nsIn K mainGlobals "_is_up_to" = some (some (.ref f__is_up_to)))
    (l5 : K.lookup f__is_up_to = some ⟨oc5, od5, .func (PySem.W.fnOf "_is_up_to" "_is_up_to" (defArgs st__is_up_to) (defBody st__is_up_to) (defScope st__is_up_to) .none kV5 dc5 pm5 an5 cd5 ct5), sl5⟩)
    (c5 : PySem.W.codeIn K cd5 "_is_up_to" = true)
    (k5 : PySem.W.keepIn K (.ref f__is_up_to) = true)
    (a_check_count : PySem.W.nsIn K mainGlobals "check_count" = some (some (.ref f_check_count)))
    (l6 : K.lookup f_check_count = some ⟨oc6, od6, .func (PySem.W.fnOf "check_count" "check_count" (defArgs st_check_count) (defBody st_check_count) (defScope st_check_count) .none kV6 dc6 pm6 an6 cd6 ct6), sl6⟩)
    (c6 : PySem.W.codeIn K cd6 "check_count" = true)
    (k6 : PySem.W.keepIn K (.ref f_check_count) = true)
    (a__check_many : PySem.W.nsIn K mainGlobals "_check_many" = some (some (.ref f__check_many)))
    (l7 : K.lookup f__check_many = some ⟨oc7, od7, .func (PySem.W.fnOf "_check_many" "_check_many" (defArgs st__check_many) (defBody st__check_many) (defScope st__check_many) .none kV7 dc7 pm7 an7 cd7 ct7), sl7⟩)
    (c7 : PySem.W.codeIn K cd7 "_check_many" = true)
    (k7 : PySem.W.keepIn K (.ref f__check_many) = true)
    (a_is_line_true : PySem.W.nsIn K mainGlobals "is_line_true" = some (some (.ref f_is_line_true)))
    (l8 : K.lookup f_is_line_true = some ⟨oc8, od8, .func (PySem.W.fnOf "is_line_true" "is_line_true" (defArgs st_is_line_true) (defBody st_is_line_true) (defScope st_is_line_true) .none kV8 dc8 pm8 an8 cd8 ct8), sl8⟩)
    (c8 : PySem.W.codeIn K cd8 "is_line_true" = true)
    (k8 : PySem.W.keepIn K (.ref f_is_line_true) = true)
    (a_wrong_line : PySem.W.nsIn K mainGlobals "wrong_line" = some (some (.ref f_wrong_line)))
    (l9 : K.lookup f_wrong_line = some ⟨oc9, od9, .func (PySem.W.fnOf "wrong_line" "wrong_line" (defArgs st_wrong_line) (defBody st_wrong_line) (defScope st_wrong_line) .none kV9 dc9 pm9 an9 cd9 ct9), sl9⟩)
    (c9 : PySem.W.codeIn K cd9 "wrong_line" = true)
    (k9 : PySem.W.keepIn K (.ref f_wrong_line) = true)
    (a_totals : PySem.W.nsIn K mainGlobals "totals" = some (some (.ref f_totals)))
    (l10 : K.lookup f_totals = some ⟨oc10, od10, .func (PySem.W.fnOf "totals" "totals" (defArgs st_totals) (defBody st_totals) (defScope st_totals) .none kV10 dc10 pm10 an10 cd10 ct10), sl10⟩)
    (c10 : PySem.W.codeIn K cd10 "totals" = true)
    (k10 : PySem.W.keepIn K (.ref f_totals) = true)
    (a__law_pot_of : PySem.W.nsIn K mainGlobals "_law_pot_of" = some (some (.ref f__law_pot_of)))
    (l11 : K.lookup f__law_pot_of = some ⟨oc11, od11, .func (PySem.W.fnOf "_law_pot_of" "_law_pot_of" (defArgs st__law_pot_of) (defBody st__law_pot_of) (defScope st__law_pot_of) .none kV11 dc11 pm11 an11 cd11 ct11), sl11⟩)
    (c11 : PySem.W.codeIn K cd11 "_law_pot_of" = true)
    (k11 : PySem.W.keepIn K (.ref f__law_pot_of) = true)
    (a__law_draw : PySem.W.nsIn K mainGlobals "_law_draw" = some (some (.ref f__law_draw)))
    (l12 : K.lookup f__law_draw = some ⟨oc12, od12, .func (PySem.W.fnOf "_law_draw" "_law_draw" (defArgs st__law_draw) (defBody st__law_draw) (defScope st__law_draw) .none kV12 dc12 pm12 an12 cd12 ct12), sl12⟩)
    (c12 : PySem.W.codeIn K cd12 "_law_draw" = true)
    (k12 : PySem.W.keepIn K (.ref f__law_draw) = true)
    (a__law_pick : PySem.W.nsIn K mainGlobals "_law_pick" = some (some (.ref f__law_pick)))
    (l13 : K.lookup f__law_pick = some ⟨oc13, od13, .func (PySem.W.fnOf "_law_pick" "_law_pick" (defArgs st__law_pick) (defBody st__law_pick) (defScope st__law_pick) .none kV13 dc13 pm13 an13 cd13 ct13), sl13⟩)
    (c13 : PySem.W.codeIn K cd13 "_law_pick" = true)
    (k13 : PySem.W.keepIn K (.ref f__law_pick) = true)
    (a__law_numbers_in : PySem.W.nsIn K mainGlobals "_law_numbers_in" = some (some (.ref f__law_numbers_in)))
    (l14 : K.lookup f__law_numbers_in = some ⟨oc14, od14, .func (PySem.W.fnOf "_law_numbers_in" "_law_numbers_in" (defArgs st__law_numbers_in) (defBody st__law_numbers_in) (defScope st__law_numbers_in) .none kV14 dc14 pm14 an14 cd14 ct14), sl14⟩)
    (c14 : PySem.W.codeIn K cd14 "_law_numbers_in" = true)
    (k14 : PySem.W.keepIn K (.ref f__law_numbers_in) = true)
    (a__law_made_many : PySem.W.nsIn K mainGlobals "_law_made_many" = some (some (.ref f__law_made_many)))
    (l15 : K.lookup f__law_made_many = some ⟨oc15, od15, .func (PySem.W.fnOf "_law_made_many" "_law_made_many" (defArgs st__law_made_many) (defBody st__law_made_many) (defScope st__law_made_many) .none kV15 dc15 pm15 an15 cd15 ct15), sl15⟩)
    (c15 : PySem.W.codeIn K cd15 "_law_made_many" = true)
    (k15 : PySem.W.keepIn K (.ref f__law_made_many) = true)
    (a__law_lets : PySem.W.nsIn K mainGlobals "_law_lets" = some (some (.ref f__law_lets)))
    (l16 : K.lookup f__law_lets = some ⟨oc16, od16, .func (PySem.W.fnOf "_law_lets" "_law_lets" (defArgs st__law_lets) (defBody st__law_lets) (defScope st__law_lets) .none kV16 dc16 pm16 an16 cd16 ct16), sl16⟩)
    (c16 : PySem.W.codeIn K cd16 "_law_lets" = true)
    (k16 : PySem.W.keepIn K (.ref f__law_lets) = true)
    (a__law_nets_in : PySem.W.nsIn K mainGlobals "_law_nets_in" = some (some (.ref f__law_nets_in)))
    (l17 : K.lookup f__law_nets_in = some ⟨oc17, od17, .func (PySem.W.fnOf "_law_nets_in" "_law_nets_in" (defArgs st__law_nets_in) (defBody st__law_nets_in) (defScope st__law_nets_in) .none kV17 dc17 pm17 an17 cd17 ct17), sl17⟩)
    (c17 : PySem.W.codeIn K cd17 "_law_nets_in" = true)
    (k17 : PySem.W.keepIn K (.ref f__law_nets_in) = true)
    (a__law_is_let : PySem.W.nsIn K mainGlobals "_law_is_let" = some (some (.ref f__law_is_let)))
    (l18 : K.lookup f__law_is_let = some ⟨oc18, od18, .func (PySem.W.fnOf "_law_is_let" "_law_is_let" (defArgs st__law_is_let) (defBody st__law_is_let) (defScope st__law_is_let) .none kV18 dc18 pm18 an18 cd18 ct18), sl18⟩)
    (c18 : PySem.W.codeIn K cd18 "_law_is_let" = true)
    (k18 : PySem.W.keepIn K (.ref f__law_is_let) = true)
    (a__law_tables_right : PySem.W.nsIn K mainGlobals "_law_tables_right" = some (some (.ref f__law_tables_right)))
    (l19 : K.lookup f__law_tables_right = some ⟨oc19, od19, .func (PySem.W.fnOf "_law_tables_right" "_law_tables_right" (defArgs st__law_tables_right) (defBody st__law_tables_right) (defScope st__law_tables_right) .none kV19 dc19 pm19 an19 cd19 ct19), sl19⟩)
    (c19 : PySem.W.codeIn K cd19 "_law_tables_right" = true)
    (k19 : PySem.W.keepIn K (.ref f__law_tables_right) = true)
    (a__law_wider : PySem.W.nsIn K mainGlobals "_law_wider" = some (some (.ref f__law_wider)))
    (l20 : K.lookup f__law_wider = some ⟨oc20, od20, .func (PySem.W.fnOf "_law_wider" "_law_wider" (defArgs st__law_wider) (defBody st__law_wider) (defScope st__law_wider) .none kV20 dc20 pm20 an20 cd20 ct20), sl20⟩)
    (c20 : PySem.W.codeIn K cd20 "_law_wider" = true)
    (k20 : PySem.W.keepIn K (.ref f__law_wider) = true)
    (a__law_right : PySem.W.nsIn K mainGlobals "_law_right" = some (some (.ref f__law_right)))
    (l21 : K.lookup f__law_right = some ⟨oc21, od21, .func (PySem.W.fnOf "_law_right" "_law_right" (defArgs st__law_right) (defBody st__law_right) (defScope st__law_right) .none kV21 dc21 pm21 an21 cd21 ct21), sl21⟩)
    (c21 : PySem.W.codeIn K cd21 "_law_right" = true)
    (k21 : PySem.W.keepIn K (.ref f__law_right) = true)
    (a_LINES : PySem.W.nsIn K mainGlobals "LINES" = some (some (.ref T_LINES)))
    (lc_LINES : K.lookup T_LINES = some o_LINES)
    (e1LINES : o_LINES.cls = .type "tuple")
    (e2LINES : o_LINES.data = .seq #[.int 0 tq_LINES_0, .int 1 tq_LINES_1, .int 2 tq_LINES_2, .int 3 tq_LINES_3] z_LINES)
    (a_ENDS : PySem.W.nsIn K mainGlobals "ENDS" = some (some (.ref T_ENDS)))
    (lc_ENDS : K.lookup T_ENDS = some o_ENDS)
    (e1ENDS : o_ENDS.cls = .type "tuple")
    (e2ENDS : o_ENDS.data = .seq #[.str "near" tq_ENDS_0, .str "far" tq_ENDS_1] z_ENDS)
    (a_Many : PySem.W.nsIn K mainGlobals "Many" = some (some (.ref C_Many)))
    (pg_Many : PySem.W.plainGet K C_Many Str.empty = true)
    (hd_Many : PySem.W.hasDictIn K C_Many = true)
    (po_Many : PySem.W.plainOver K C_Many = true)
    (sa_Many : PySem.W.findIn K (.ref C_Many) "__setattr__" = some (some (.builtin "object.__setattr__")))
    (mk_Many : PySem.W.makesIn K C_Many = true)
    (in_Many : PySem.W.findIn K (.ref C_Many) "__init__" = some (some (.ref fi_Many)))
    (if_Many : PySem.W.isFn K (.ref fi_Many) = true)
    (kc_Many : PySem.W.keepIn K (.ref C_Many) = true)
    (l22 : K.lookup fi_Many = some ⟨oc22, od22, .func (PySem.W.fnOf "__init__" "Many.__init__" (defArgs st_Many___init__) (defBody st_Many___init__) (defScope st_Many___init__) (.ref T22) kV22 dc22 pm22 an22 cd22 ct22), sl22⟩)
    (c22 : PySem.W.codeIn K cd22 "Many.__init__" = true)
    (k22 : PySem.W.keepIn K (.ref fi_Many) = true)
    (d22 : K.lookup T22 = some o22)
    (e22 : o22.data = .seq #[.none] z22)
    (hnc : PySem.W.specialIn K (.builtin "object.__class__") "__get__" = some (some (.builtin "getset_descriptor.__get__")))
    (htk : PySem.W.takesIn K (.builtin "object.__class__") = some true)
    (ha_Many : PySem.W.findIn K (.ref C_Many) "__class__" = some (some (.builtin "object.__class__")))
    (hm_Many : PySem.W.mroIn K C_Many (.type "object") = some true)
    (n_Many__least : PySem.W.findIn K (.ref C_Many) "_least" = some none)
    (n_Many__most : PySem.W.findIn K (.ref C_Many) "_most" = some none)
    (n_Many__key : PySem.W.findIn K (.ref C_Many) "_key" = some none)
    (x_Many_least : PySem.W.findIn K (.ref C_Many) "least" = some (some (.ref pp_Many_least)))
    (g_Many_least : PySem.W.specialIn K (.ref pp_Many_least) "__get__" = some (some (.builtin "property.__get__")))
    (t_Many_least : PySem.W.takesIn K (.ref pp_Many_least) = some true)
    (r_Many_least : PySem.W.recIn K pp_Many_least "property" = some (.ref fp_Many_least :: rs_Many_least))
    (l23 : K.lookup fp_Many_least = some ⟨oc23, od23, .func (PySem.W.fnOf "least" "Many.least" (defArgs st_Many_least) (defBody st_Many_least) (defScope st_Many_least) .none kV23 dc23 pm23 an23 cd23 ct23), sl23⟩)
    (c23 : PySem.W.codeIn K cd23 "Many.least" = true)
    (k23 : PySem.W.keepIn K (.ref fp_Many_least) = true)
    (x_Many_most : PySem.W.findIn K (.ref C_Many) "most" = some (some (.ref pp_Many_most)))
    (g_Many_most : PySem.W.specialIn K (.ref pp_Many_most) "__get__" = some (some (.builtin "property.__get__")))
    (t_Many_most : PySem.W.takesIn K (.ref pp_Many_most) = some true)
    (r_Many_most : PySem.W.recIn K pp_Many_most "property" = some (.ref fp_Many_most :: rs_Many_most))
    (l24 : K.lookup fp_Many_most = some ⟨oc24, od24, .func (PySem.W.fnOf "most" "Many.most" (defArgs st_Many_most) (defBody st_Many_most) (defScope st_Many_most) .none kV24 dc24 pm24 an24 cd24 ct24), sl24⟩)
    (c24 : PySem.W.codeIn K cd24 "Many.most" = true)
    (k24 : PySem.W.keepIn K (.ref fp_Many_most) = true)
    (a_Table : PySem.W.nsIn K mainGlobals "Table" = some (some (.ref C_Table)))
    (pg_Table : PySem.W.plainGet K C_Table Str.empty = true)
    (hd_Table : PySem.W.hasDictIn K C_Table = true)
    (po_Table : PySem.W.plainOver K C_Table = true)
    (sa_Table : PySem.W.findIn K (.ref C_Table) "__setattr__" = some (some (.builtin "object.__setattr__")))
    (mk_Table : PySem.W.makesIn K C_Table = true)
    (in_Table : PySem.W.findIn K (.ref C_Table) "__init__" = some (some (.ref fi_Table)))
    (if_Table : PySem.W.isFn K (.ref fi_Table) = true)
    (kc_Table : PySem.W.keepIn K (.ref C_Table) = true)
    (l25 : K.lookup fi_Table = some ⟨oc25, od25, .func (PySem.W.fnOf "__init__" "Table.__init__" (defArgs st_Table___init__) (defBody st_Table___init__) (defScope st_Table___init__) .none kV25 dc25 pm25 an25 cd25 ct25), sl25⟩)
    (c25 : PySem.W.codeIn K cd25 "Table.__init__" = true)
    (k25 : PySem.W.keepIn K (.ref fi_Table) = true)
    (n_Table__near : PySem.W.findIn K (.ref C_Table) "_near" = some none)
    (n_Table__far : PySem.W.findIn K (.ref C_Table) "_far" = some none)
    (n_Table__total : PySem.W.findIn K (.ref C_Table) "_total" = some none)
    (x_Table__size : PySem.W.findIn K (.ref C_Table) "_size" = some (some (.ref fm_Table__size)))
    (y_Table__size : PySem.W.isFn K (.ref fm_Table__size) = true)
    (l26 : K.lookup fm_Table__size = some ⟨oc26, od26, .func (PySem.W.fnOf "_size" "Table._size" (defArgs st_Table__size) (defBody st_Table__size) (defScope st_Table__size) .none kV26 dc26 pm26 an26 cd26 ct26), sl26⟩)
    (c26 : PySem.W.codeIn K cd26 "Table._size" = true)
    (k26 : PySem.W.keepIn K (.ref fm_Table__size) = true)
    (x_Table__is_row : PySem.W.findIn K (.ref C_Table) "_is_row" = some (some (.ref fm_Table__is_row)))
    (y_Table__is_row : PySem.W.isFn K (.ref fm_Table__is_row) = true)
    (l27 : K.lookup fm_Table__is_row = some ⟨oc27, od27, .func (PySem.W.fnOf "_is_row" "Table._is_row" (defArgs st_Table__is_row) (defBody st_Table__is_row) (defScope st_Table__is_row) .none kV27 dc27 pm27 an27 cd27 ct27), sl27⟩)
    (c27 : PySem.W.codeIn K cd27 "Table._is_row" = true)
    (k27 : PySem.W.keepIn K (.ref fm_Table__is_row) = true)
    (x_Table__check_row : PySem.W.findIn K (.ref C_Table) "_check_row" = some (some (.ref fm_Table__check_row)))
    (y_Table__check_row : PySem.W.isFn K (.ref fm_Table__check_row) = true)
    (l28 : K.lookup fm_Table__check_row = some ⟨oc28, od28, .func (PySem.W.fnOf "_check_row" "Table._check_row" (defArgs st_Table__check_row) (defBody st_Table__check_row) (defScope st_Table__check_row) .none kV28 dc28 pm28 an28 cd28 ct28), sl28⟩)
    (c28 : PySem.W.codeIn K cd28 "Table._check_row" = true)
    (k28 : PySem.W.keepIn K (.ref fm_Table__check_row) = true)
    (x_Table__degree : PySem.W.findIn K (.ref C_Table) "_degree" = some (some (.ref fm_Table__degree)))
    (y_Table__degree : PySem.W.isFn K (.ref fm_Table__degree) = true)
    (l29 : K.lookup fm_Table__degree = some ⟨oc29, od29, .func (PySem.W.fnOf "_degree" "Table._degree" (defArgs st_Table__degree) (defBody st_Table__degree) (defScope st_Table__degree) .none kV29 dc29 pm29 an29 cd29 ct29), sl29⟩)
    (c29 : PySem.W.codeIn K cd29 "Table._degree" = true)
    (k29 : PySem.W.keepIn K (.ref fm_Table__degree) = true)
    (x_Table_degree : PySem.W.findIn K (.ref C_Table) "degree" = some (some (.ref fm_Table_degree)))
    (y_Table_degree : PySem.W.isFn K (.ref fm_Table_degree) = true)
    (l30 : K.lookup fm_Table_degree = some ⟨oc30, od30, .func (PySem.W.fnOf "degree" "Table.degree" (defArgs st_Table_degree) (defBody st_Table_degree) (defScope st_Table_degree) .none kV30 dc30 pm30 an30 cd30 ct30), sl30⟩)
    (c30 : PySem.W.codeIn K cd30 "Table.degree" = true)
    (k30 : PySem.W.keepIn K (.ref fm_Table_degree) = true)
    (a_law : PySem.W.nsIn K mainGlobals "law" = some (some (.ref f_law)))
    (l31 : K.lookup f_law = some ⟨oc31, od31, .func (PySem.W.fnOf "law" "law" (defArgs st_law) (defBody st_law) (defScope st_law) .none kV31 dc31 pm31 an31 cd31 ct31), sl31⟩)
    (c31 : PySem.W.codeIn K cd31 "law" = true)
    (k31 : PySem.W.keepIn K (.ref f_law) = true)
    : ∃ fd : FuncData, (∀ (s : Shared) (v : Value), BindsTo s fd ⟨[v], []⟩ [("_law_script", v)]) ∧ ∀ base : Heap, K.In base → base.Ns mainGlobals mg → FnG l.prog w K mg base CX0 8 fa fd ["_law_script"] (spLaw K) := by
  have e := hfa.symm.trans (PySem.W.mg_of X G a_law)
  cases e
  have M : Md K mg C_Many C_Table T_LINES T_ENDS := ⟨PySem.W.mg_none_of X G b_isinstance,
    PySem.W.mg_none_of X G b_int,
    PySem.W.mg_none_of X G b_bool,
    PySem.W.mg_none_of X G b_max,
    PySem.W.mg_none_of X G b_min,
    PySem.W.mg_none_of X G b_abs,
    PySem.W.mg_none_of X G b_divmod,
    PySem.W.mg_none_of X G b_len,
    PySem.W.mg_none_of X G b_range,
    PySem.W.mg_none_of X G b_all,
    PySem.W.mg_none_of X G b_repr,
    PySem.W.mg_none_of X G b_str,
    PySem.W.mg_none_of X G b_sorted,
    PySem.W.mg_none_of X G b_set,
    PySem.W.mg_none_of X G b_list,
    ⟨_, _, ⟨⟨_, _, _, _, _, _, _, _, _, _, rfl, l1, c1, .inl ⟨rfl, rfl⟩, .inl rfl⟩, k1⟩, PySem.W.mg_of X G a_is_integer⟩,
    ⟨_, _, ⟨⟨_, _, _, _, _, _, _, _, _, _, rfl, l2, c2, .inl ⟨rfl, rfl⟩, .inl rfl⟩, k2⟩, PySem.W.mg_of X G a_is_count⟩,
    ⟨_, _, ⟨⟨_, _, _, _, _, _, _, _, _, _, rfl, l3, c3, .inl ⟨rfl, rfl⟩, .inl rfl⟩, k3⟩, PySem.W.mg_of X G a_is_end⟩,
    ⟨_, _, ⟨⟨_, _, _, _, _, _, _, _, _, _, rfl, l4, c4, .inl ⟨rfl, rfl⟩, .inl rfl⟩, k4⟩, PySem.W.mg_of X G a_check_end⟩,
    ⟨_, _, ⟨⟨_, _, _, _, _, _, _, _, _, _, rfl, l5, c5, .inl ⟨rfl, rfl⟩, .inl rfl⟩, k5⟩, PySem.W.mg_of X G a__is_up_to⟩,
    ⟨_, _, ⟨⟨_, _, _, _, _, _, _, _, _, _, rfl, l6, c6, .inl ⟨rfl, rfl⟩, .inl rfl⟩, k6⟩, PySem.W.mg_of X G a_check_count⟩,
    ⟨_, _, ⟨⟨_, _, _, _, _, _, _, _, _, _, rfl, l7, c7, .inl ⟨rfl, rfl⟩, .inl rfl⟩, k7⟩, PySem.W.mg_of X G a__check_many⟩,
    ⟨_, _, ⟨⟨_, _, _, _, _, _, _, _, _, _, rfl, l8, c8, .inl ⟨rfl, rfl⟩, .inl rfl⟩, k8⟩, PySem.W.mg_of X G a_is_line_true⟩,
    ⟨_, _, ⟨⟨_, _, _, _, _, _, _, _, _, _, rfl, l9, c9, .inl ⟨rfl, rfl⟩, .inl rfl⟩, k9⟩, PySem.W.mg_of X G a_wrong_line⟩,
    ⟨_, _, ⟨⟨_, _, _, _, _, _, _, _, _, _, rfl, l10, c10, .inl ⟨rfl, rfl⟩, .inl rfl⟩, k10⟩, PySem.W.mg_of X G a_totals⟩,
    ⟨_, _, ⟨⟨_, _, _, _, _, _, _, _, _, _, rfl, l11, c11, .inl ⟨rfl, rfl⟩, .inl rfl⟩, k11⟩, PySem.W.mg_of X G a__law_pot_of⟩,
    ⟨_, _, ⟨⟨_, _, _, _, _, _, _, _, _, _, rfl, l12, c12, .inl ⟨rfl, rfl⟩, .inl rfl⟩, k12⟩, PySem.W.mg_of X G a__law_draw⟩,
    ⟨_, _, ⟨⟨_, _, _, _, _, _, _, _, _, _, rfl, l13, c13, .inl ⟨rfl, rfl⟩, .inl rfl⟩, k13⟩, PySem.W.mg_of X G a__law_pick⟩,
    ⟨_, _, ⟨⟨_, _, _, _, _, _, _, _, _, _, rfl, l14, c14, .inl ⟨rfl, rfl⟩, .inl rfl⟩, k14⟩, PySem.W.mg_of X G a__law_numbers_in⟩,
    ⟨_, _, ⟨⟨_, _, _, _, _, _, _, _, _, _, rfl, l15, c15, .inl ⟨rfl, rfl⟩, .inl rfl⟩, k15⟩, PySem.W.mg_of X G a__law_made_many⟩,
    ⟨_, _, ⟨⟨_, _, _, _, _, _, _, _, _, _, rfl, l16, c16, .inl ⟨rfl, rfl⟩, .inl rfl⟩, k16⟩, PySem.W.mg_of X G a__law_lets⟩,
    ⟨_, _, ⟨⟨_, _, _, _, _, _, _, _, _, _, rfl, l17, c17, .inl ⟨rfl, rfl⟩, .inl rfl⟩, k17⟩, PySem.W.mg_of X G a__law_nets_in⟩,
    ⟨_, _, ⟨⟨_, _, _, _, _, _, _, _, _, _, rfl, l18, c18, .inl ⟨rfl, rfl⟩, .inl rfl⟩, k18⟩, PySem.W.mg_of X G a__law_is_let⟩,
    ⟨_, _, ⟨⟨_, _, _, _, _, _, _, _, _, _, rfl, l19, c19, .inl ⟨rfl, rfl⟩, .inl rfl⟩, k19⟩, PySem.W.mg_of X G a__law_tables_right⟩,
    ⟨_, _, ⟨⟨_, _, _, _, _, _, _, _, _, _, rfl, l20, c20, .inl ⟨rfl, rfl⟩, .inl rfl⟩, k20⟩, PySem.W.mg_of X G a__law_wider⟩,
    ⟨_, _, ⟨⟨_, _, _, _, _, _, _, _, _, _, rfl, l21, c21, .inl ⟨rfl, rfl⟩, .inl rfl⟩, k21⟩, PySem.W.mg_of X G a__law_right⟩,
    PySem.W.mg_of X G a_LINES,
    fun H => Or.inr ⟨o_LINES, _, z_LINES, lc_LINES, e1LINES, e2LINES, by show 4 ≤ sizeLine; decide, (.cons ⟨_, rfl⟩ (.cons ⟨_, rfl⟩ (.cons ⟨_, rfl⟩ (.cons ⟨_, rfl⟩ .nil))))⟩,
    PySem.W.mg_of X G a_ENDS,
    fun H => Or.inr ⟨o_ENDS, _, z_ENDS, lc_ENDS, e1ENDS, e2ENDS, by show 2 ≤ sizeLine; decide, (.cons ⟨_, rfl⟩ (.cons ⟨_, rfl⟩ .nil))⟩,
    PySem.W.mg_of X G a_Many,
    ⟨pg_Many, hd_Many, po_Many, sa_Many⟩,
    ⟨_, _, ⟨mk_Many, in_Many, if_Many, kc_Many⟩, ⟨⟨_, _, _, _, _, _, _, _, _, _, rfl, l22, c22, .inr ⟨by simp, T22, o22, _, z22, rfl, d22, e22, (.cons rfl .nil)⟩, .inl rfl⟩, k22⟩⟩,
    fun e => .ins e ⟨pg_Many, hd_Many, po_Many, sa_Many⟩ ha_Many hnc htk hm_Many,
    n_Many__least,
    n_Many__most,
    n_Many__key,
    ⟨_, _, _, ⟨x_Many_least, g_Many_least, t_Many_least, _, r_Many_least⟩, ⟨⟨_, _, _, _, _, _, _, _, _, _, rfl, l23, c23, .inl ⟨rfl, rfl⟩, .inl rfl⟩, k23⟩⟩,
    ⟨_, _, _, ⟨x_Many_most, g_Many_most, t_Many_most, _, r_Many_most⟩, ⟨⟨_, _, _, _, _, _, _, _, _, _, rfl, l24, c24, .inl ⟨rfl, rfl⟩, .inl rfl⟩, k24⟩⟩,
    PySem.W.mg_of X G a_Table,
    ⟨pg_Table, hd_Table, po_Table, sa_Table⟩,
    ⟨_, _, ⟨mk_Table, in_Table, if_Table, kc_Table⟩, ⟨⟨_, _, _, _, _, _, _, _, _, _, rfl, l25, c25, .inl ⟨rfl, rfl⟩, .inl rfl⟩, k25⟩⟩,
    n_Table__near,
    n_Table__far,
    n_Table__total,
    ⟨_, _, ⟨x_Table__size, y_Table__size, k26⟩, ⟨⟨_, _, _, _, _, _, _, _, _, _, rfl, l26, c26, .inl ⟨rfl, rfl⟩, .inl rfl⟩, k26⟩⟩,
    ⟨_, _, ⟨x_Table__is_row, y_Table__is_row, k27⟩, ⟨⟨_, _, _, _, _, _, _, _, _, _, rfl, l27, c27, .inl ⟨rfl, rfl⟩, .inl rfl⟩, k27⟩⟩,
    ⟨_, _, ⟨x_Table__check_row, y_Table__check_row, k28⟩, ⟨⟨_, _, _, _, _, _, _, _, _, _, rfl, l28, c28, .inl ⟨rfl, rfl⟩, .inl rfl⟩, k28⟩⟩,
    ⟨_, _, ⟨x_Table__degree, y_Table__degree, k29⟩, ⟨⟨_, _, _, _, _, _, _, _, _, _, rfl, l29, c29, .inl ⟨rfl, rfl⟩, .inl rfl⟩, k29⟩⟩,
    ⟨_, _, ⟨x_Table_degree, y_Table_degree, k30⟩, ⟨⟨_, _, _, _, _, _, _, _, _, _, rfl, l30, c30, .inl ⟨rfl, rfl⟩, .inl rfl⟩, k30⟩⟩⟩
  exact ⟨_, fun s v => .of_eq rfl, fun base _ _ => ok_law M ⟨⟨_, _, _, _, _, _, _, _, _, _, rfl, l31, c31, .inl ⟨rfl, rfl⟩, .inl rfl⟩, k31⟩⟩
theorem walk {l : PySem.W.OpenLaw} {q : Program} {loose : List Str} {XP : (Str → Option Value) → Heap → Prop} {YP : World → Heap → Prop} {d : DefRec} {K : Params → PySem.W.Frag} (hn : l.most = some 63) (hdf : d.params.defaults = [])
    (hY : ∀ (w : World) (h : Heap), YP w h → (K w.params).In h)
    (F : ∀ (w : World) (mg : Str → Option Value) (fa : Addr) (h : Heap), (K w.params).In h → h.Ns mainGlobals mg → mg d.name = some (.ref fa) →
      ∃ fd : FuncData, (∀ (s : Shared) (u : Value), BindsTo s fd ⟨[u], []⟩ [("_law_script", u)]) ∧ ∀ base : Heap, (K w.params).In base → base.Ns mainGlobals mg → FnG l.prog w (K w.params) mg base CX0 8 fa fd ["_law_script"] (spLaw (K w.params))) :
    PySem.W.WalkO q loose XP YP l.row.toRowW d [] (fun f vs => PySem.call f vs) :=
  walkG (n := 63) (k := 8) (x := "_law_script") (sp := fun w => spLaw (K w.params)) hn (by decide) hdf ⟨⟨rfl, by decide, by decide⟩, rfl⟩ hY F (fun _ _ a ns hl _ hS => ⟨a, ns, rfl, hS, hl, fun _ => rfl⟩)
end My
open PySem PySem.W PyProof.Rows
set_option maxRecDepth 100000 in
set_option maxHeartbeats 0 in
theorem PySem.Challenge.cw_howmanyeach_k34_whole_totals_by_all_pair_holds : PySem.Challenge.rw_howmanyeach_k34_whole_totals_by_all_pair.Holds := by
  w_on; o_law; k_head; (case hw => w_witness2)
  k_fill
  refine My.walk (l := PySem.Challenge.rw_howmanyeach_k34_whole_totals_by_all_pair) rfl rfl (fun w h Y => PySem.W.kIn_of Y) ?F
  case F =>
    intro w mg fa h KX G hmg
    refine' My.all_mk KX G hmg ?b_isinstance ?b_int ?b_bool ?b_max ?b_min ?b_abs ?b_divmod ?b_len ?b_range ?b_all ?b_repr ?b_str ?b_sorted ?b_set ?b_list ?a_is_integer ?l1 ?c1 ?k1 ?a_is_count ?l2 ?c2 ?k2 ?a_is_end ?l3 ?c3 ?k3 ?a_check_end ?l4 ?c4 ?k4 ?a__is_up_to ?l5 ?c5 ?k5 ?a_check_count ?l6 ?c6 ?k6 ?a__check_many ?l7 ?c7 ?k7 ?a_is_line_true ?l8 ?c8 ?k8 ?a_wrong_line ?l9 ?c9 ?k9 ?a_totals ?l10 ?c10 ?k10 ?a__law_pot_of ?l11 ?c11 ?k11 ?a__law_draw ?l12 ?c12 ?k12 ?a__law_pick ?l13 ?c13 ?k13 ?a__law_numbers_in ?l14 ?c14 ?k14 ?a__law_made_many ?l15 ?c15 ?k15 ?a__law_lets ?l16 ?c16 ?k16 ?a__law_nets_in ?l17 ?c17 ?k17 ?a__law_is_let ?l18 ?c18 ?k18 ?a__law_tables_right ?l19 ?c19 ?k19 ?a__law_wider ?l20 ?c20 ?k20 ?a__law_right ?l21 ?c21 ?k21 ?a_LINES ?lc_LINES ?e1LINES ?e2LINES ?a_ENDS ?lc_ENDS ?e1ENDS ?e2ENDS ?a_Many ?pg_Many ?hd_Many ?po_Many ?sa_Many ?mk_Many ?in_Many ?if_Many ?kc_Many ?l22 ?c22 ?k22 ?d22 ?e22 ?hnc ?htk ?ha_Many ?hm_Many ?n_Many__least ?n_Many__most ?n_Many__key ?x_Many_least ?g_Many_least ?t_Many_least ?r_Many_least ?l23 ?c23 ?k23 ?x_Many_most ?g_Many_most ?t_Many_most ?r_Many_most ?l24 ?c24 ?k24 ?a_Table ?pg_Table ?hd_Table ?po_Table ?sa_Table ?mk_Table ?in_Table ?if_Table ?kc_Table ?l25 ?c25 ?k25 ?n_Table__near ?n_Table__far ?n_Table__total ?x_Table__size ?y_Table__size ?l26 ?c26 ?k26 ?x_Table__is_row ?y_Table__is_row ?l27 ?c27 ?k27 ?x_Table__check_row ?y_Table__check_row ?l28 ?c28 ?k28 ?x_Table__degree ?y_Table__degree ?l29 ?c29 ?k29 ?x_Table_degree ?y_Table_degree ?l30 ?c30 ?k30 ?a_law ?l31 ?c31 ?k31
    (case b_isinstance => k_is)
    (case b_int => k_is)
    (case b_bool => k_is)
    (case b_max => k_is)
    (case b_min => k_is)
    (case b_abs => k_is)
    (case b_divmod => k_is)
    (case b_len => k_is)
    (case b_range => k_is)
    (case b_all => k_is)
    (case b_repr => k_is)
    (case b_str => k_is)
    (case b_sorted => k_is)
    (case b_set => k_is)
    (case b_list => k_is)
    (case a_is_integer => k_is)
    (case l1 => k_is)
    (case c1 => k_is)
    (case k1 => k_is)
    (case a_is_count => k_is)
    (case l2 => k_is)
    (case c2 => k_is)
    (case k2 => k_is)
    (case a_is_end => k_is)
    (case l3 => k_is)
    (case c3 => k_is)
    (case k3 => k_is)
    (case a_check_end => k_is)
    (case l4 => k_is)
    (case c4 => k_is)
    (case k4 => k_is)
    (case a__is_up_to => k_is)
    (case l5 => k_is)
    (case c5 => k_is)
    (case k5 => k_is)
    (case a_check_count => k_is)
    (case l6 => k_is)
    (case c6 => k_is)
    (case k6 => k_is)
    (case a__check_many => k_is)
    (case l7 => k_is)
    (case c7 => k_is)
    (case k7 => k_is)
    (case a_is_line_true => k_is)
    (case l8 => k_is)
    (case c8 => k_is)
    (case k8 => k_is)
    (case a_wrong_line => k_is)
    (case l9 => k_is)
    (case c9 => k_is)
    (case k9 => k_is)
    (case a_totals => k_is)
    (case l10 => k_is)
    (case c10 => k_is)
    (case k10 => k_is)
    (case a__law_pot_of => k_is)
    (case l11 => k_is)
    (case c11 => k_is)
    (case k11 => k_is)
    (case a__law_draw => k_is)
    (case l12 => k_is)
    (case c12 => k_is)
    (case k12 => k_is)
    (case a__law_pick => k_is)
    (case l13 => k_is)
    (case c13 => k_is)
    (case k13 => k_is)
    (case a__law_numbers_in => k_is)
    (case l14 => k_is)
    (case c14 => k_is)
    (case k14 => k_is)
    (case a__law_made_many => k_is)
    (case l15 => k_is)
    (case c15 => k_is)
    (case k15 => k_is)
    (case a__law_lets => k_is)
    (case l16 => k_is)
    (case c16 => k_is)
    (case k16 => k_is)
    (case a__law_nets_in => k_is)
    (case l17 => k_is)
    (case c17 => k_is)
    (case k17 => k_is)
    (case a__law_is_let => k_is)
    (case l18 => k_is)
    (case c18 => k_is)
    (case k18 => k_is)
    (case a__law_tables_right => k_is)
    (case l19 => k_is)
    (case c19 => k_is)
    (case k19 => k_is)
    (case a__law_wider => k_is)
    (case l20 => k_is)
    (case c20 => k_is)
    (case k20 => k_is)
    (case a__law_right => k_is)
    (case l21 => k_is)
    (case c21 => k_is)
    (case k21 => k_is)
    (case a_LINES => k_is)
    (case lc_LINES => k_is)
    (case e1LINES => exact rfl)
    (case e2LINES => exact rfl)
    (case a_ENDS => k_is)
    (case lc_ENDS => k_is)
    (case e1ENDS => exact rfl)
    (case e2ENDS => exact rfl)
    (case a_Many => k_is)
    (case pg_Many => k_is)
    (case hd_Many => k_is)
    (case po_Many => k_is)
    (case sa_Many => k_is)
    (case mk_Many => k_is)
    (case in_Many => k_is)
    (case if_Many => k_is)
    (case kc_Many => k_is)
    (case l22 => k_is)
    (case c22 => k_is)
    (case k22 => k_is)
    (case d22 => k_is)
    (case e22 => exact rfl)
    (case hnc => k_is)
    (case htk => k_is)
    (case ha_Many => k_is)
    (case hm_Many => k_is)
    (case n_Many__least => k_is)
    (case n_Many__most => k_is)
    (case n_Many__key => k_is)
    (case x_Many_least => k_is)
    (case g_Many_least => k_is)
    (case t_Many_least => k_is)
    (case r_Many_least => k_is)
    (case l23 => k_is)
    (case c23 => k_is)
    (case k23 => k_is)
    (case x_Many_most => k_is)
    (case g_Many_most => k_is)
    (case t_Many_most => k_is)
    (case r_Many_most => k_is)
    (case l24 => k_is)
    (case c24 => k_is)
    (case k24 => k_is)
    (case a_Table => k_is)
    (case pg_Table => k_is)
    (case hd_Table => k_is)
    (case po_Table => k_is)
    (case sa_Table => k_is)
    (case mk_Table => k_is)
    (case in_Table => k_is)
    (case if_Table => k_is)
    (case kc_Table => k_is)
    (case l25 => k_is)
    (case c25 => k_is)
    (case k25 => k_is)
    (case n_Table__near => k_is)
    (case n_Table__far => k_is)
    (case n_Table__total => k_is)
    (case x_Table__size => k_is)
    (case y_Table__size => k_is)
    (case l26 => k_is)
    (case c26 => k_is)
    (case k26 => k_is)
    (case x_Table__is_row => k_is)
    (case y_Table__is_row => k_is)
    (case l27 => k_is)
    (case c27 => k_is)
    (case k27 => k_is)
    (case x_Table__check_row => k_is)
    (case y_Table__check_row => k_is)
    (case l28 => k_is)
    (case c28 => k_is)
    (case k28 => k_is)
    (case x_Table__degree => k_is)
    (case y_Table__degree => k_is)
    (case l29 => k_is)
    (case c29 => k_is)
    (case k29 => k_is)
    (case x_Table_degree => k_is)
    (case y_Table_degree => k_is)
    (case l30 => k_is)
    (case c30 => k_is)
    (case k30 => k_is)
    (case a_law => k_is)
    (case l31 => k_is)
    (case c31 => k_is)
    (case k31 => k_is)

