import PyProof.Rows.All
import Wide.All
import OpenK.AllK
import Wide.FinOn
import KE.KExcIs
import HandS.ForMost
import HandS.ForExc
import HandS.Wide
import HandS.Defaults
import HandS.IsInst
import HandS.ExcIs
import HandS.ExcOwn
import HandS.ExcValue
import HandS.ExcInit
import HandS.MakeKw
import HandS.MakeKwOnly
import HandS.Lambda
import HandS.TryOnly
import HandS.ClsMeth
import HandS.HeadWalk
import HandS.ExcField
import KE.GoesEnum
import HandS.Walk
import Lean
import KE.KStateDown
import HandS.More
import HandS.Words
import HandS.WordsExc
import HandS.Head0
import HandS.Head1
import HandS.Head2
import HandS.HeadEnd
import HandS.HeadHook1
import HandS.HeadHook2
import HandS.HeadHook4
import HandS.Zip
import HandS.ExcBuiltin
import HandS.EndOwn
import PySem.Challenge.RW_etasure_k01_rows_spread_cut_and_woven
set_option Elab.async false
set_option linter.all false
set_option maxRecDepth 100000
set_option maxHeartbeats 4000000
set_option pp.maxSteps 3000
namespace Xv
open PySem PySem.Spec PyProof.Rows L2
/-! ### errors of own classes as values -/
/-- at a an error of the class at C: without a dict, or with its dict at d -/
def ErrAt (H : Hp) (a C : Addr) : Prop := H a = some (ExO (.ref C) a) ∨ ∃ d fs, H a = some (exo a C (some d)) ∧ H d = some (exd d fs)
section
variable {X : Cx} {pins : List (Addr × Obj)} {σ : L2.St} {H : Hp} {s : Shared} {a C : Addr}
theorem errAt_inst (I : Inv X pins σ H s) (h : ErrAt H a C) : ∃ ox od, PySem.W.InstAt s.heap a ox C od := by
  rcases h with h | ⟨d, fs, h, hd⟩
  · have q : ObjOk X.prog X.w H s.heap a (ExO (.ref C) a) := I.hok a _ h
    obtain ⟨⟨oe, vs, e, z, dt, _⟩, _⟩ := q
    obtain ⟨oc, od, oda, osl⟩ := oe
    obtain ⟨z1, z2⟩ := z
    dsimp only at z1 z2 dt
    subst z1 z2 dt
    exact ⟨_, none, e, rfl, rfl, trivial⟩
  · obtain ⟨t1, ho⟩ := exo_at I.hok h
    obtain ⟨mA, ⟨od, es, ep, e2, _⟩, _⟩ := exd_at I.hok hd
    exact ⟨_, some od, ho, rfl, rfl, e2⟩
/-- isinstance(e, c), e such an error -/
def rIsErr (K : PySem.W.Frag) : List V → Hp → VK → Prop := fun xs H Q => ∃ (a C : Addr) (c : V) (cv : Value) (b : Bool), xs = [.ref a, c] ∧ ErrAt H a C ∧ ExcC K C ∧ (∀ u, RelV c u → u = cv) ∧ PySem.W.kitOne K (.ref C) cv = some b ∧ Q (.bl b) H
theorem call_isErr : CallR X (.builtin "isinstance") (rIsErr X.K) := by
  intro pins s σ H xs us Q I r h
  obtain ⟨a, C, c, cv, b, rfl, he, T, hc, hk, q⟩ := h
  obtain ⟨u1, u2, rfl, r1, r2⟩ := vals2 r
  cases (show u1 = Value.ref a from r1)
  have e2 := hc _ r2
  subst e2
  obtain ⟨ox, od, J⟩ := errAt_inst I he
  obtain ⟨cd, hcd, _⟩ := PySem.W.any_some T.hd
  exact PySem.W.kia_one (PySem.W.kitx_exc (by rw [hcd]; rfl) T.hg T.hk T.hs T.ha T.hn T.ht T.hm) I.kIn J hk (fun z => nomatch z) fun tk => ⟨.bl b, H, I.tok tk, rfl, q⟩
end
/-! ### e.f of an error that holds its fields -/
structure ErrRd (K : PySem.W.Frag) (C : Addr) (f : Str) : Prop where
  ga : PySem.W.findIn K (.ref C) "__getattribute__" = some (some (.builtin "BaseException.__getattribute__"))
  gg : PySem.W.findIn K (.ref C) "__getattr__" = some none
  sub : PySem.W.subIn K (.ref C) (.type "BaseException") = some true
  hd : PySem.W.hasDictIn K C = true
  no : PySem.W.findIn K (.ref C) f = some none
def tErrF (K : PySem.W.Frag) (f : Str) (te : TE) : TE := fun σ H Q => te σ H fun x H1 => ∃ (a C d : Addr) (fs : List (Str × V)) (v : V), x = .ref a ∧ H1 a = some (exo a C (some d)) ∧ H1 d = some (exd d fs) ∧ ErrRd K C f ∧ fs.lookup f = some v ∧ Q v H1
section
variable {X : Cx}
theorem pe_errF {e : Expr} {te : TE} {f : Str} {pos : Pos} (he : PE X e te) (hb : attributeBase e f X.env (eval e X.env) = eval e X.env := by rfl) : PE X (.Attribute e f pos) (tErrF X.K f te) := by
  refine ⟨fun pins s σ H Q I h => attr_of hb (thn (he.run pins s σ H _ I h) fun u s1 hh => ?_)⟩
  obtain ⟨x, H1, I1, rx, a, C, d, fs, v, ex, ha, hd, T, hl, q⟩ := hh
  subst ex
  cases (show u = Value.ref a from rx)
  obtain ⟨t1, ho⟩ := exo_at I1.hok ha
  obtain ⟨mA, hns, hr⟩ := exd_at I1.hok hd
  obtain ⟨od, hod, hlk⟩ := lookIn_ns hns
  obtain ⟨u, hu, ru⟩ := RelO.some_of (v := v) (o := mA f) (by rw [← hl]; exact hr f)
  have J : PySem.W.InstAt s1.heap a _ C (some od) := ⟨ho, rfl, rfl, hod⟩
  exact PySem.HandSPX.exc_get I1.kIn J T.ga T.gg T.sub (PySem.W.findObj_own T.hd T.no rfl (by rw [hlk, hu])) (handed_of ru) ⟨v, H1, I1.tok _, ru, q⟩
end
/-! ### S.__init__(self, ..), S an own class over ValueError without an __init__ of its own -/
section
variable {X : Cx} {o e : Expr} {es : List Expr} {ta : TA} {x : Str} {p1 p2 pos : Pos}
theorem pe_sinit {S : Addr} {mc : Value} {pl : Sem Bool} (hg : Gl X x) (hm : X.mg x = some (.ref S)) (kS : PySem.W.keepIn X.K (.ref S) = true) (rd : PySem.W.readsIn X.K S mc = true) (sg : PySem.W.specialIn X.K (.ref S) "__getattribute__" = some (some (.builtin "type.__getattribute__")))
    (vV : PySem.W.findCls X.K (.ref S) mc "__init__" = some (.val (.builtin "ValueError.__init__"))) (ha : PA X (e :: es) ta) (hdb : (x == ("__debug__" : Str)) = false := by decide)
    (hc : eval (.Call (.Attribute (.Name x p1) "__init__" p2) (e :: es) [] pos) X.env = (do
      let ov ← eval (.Name x p1) X.env
      standAt p2.atName
      let (f, first) ← holding [ov] (getMethod ov "__init__" pl)
      callWith pos f first (backTo pos (starEach (e :: es) X.env)) (backToKw pos (keywordEach [] X.env))) := by rfl)
    (he : starEach (e :: es) X.env = (false, eval e X.env) :: starEach es X.env := by rfl) (hpl : (backTo pos (starEach es X.env)).any (·.1) = false := by rfl) :
    PE X (.Call (.Attribute (.Name x p1) "__init__" p2) (e :: es) [] pos) (tVeI X.K ta) := by
  refine ⟨fun pins s σ H Q I h => PySem.W.methodCall_KW (ld_glob I hg hm ?_ hdb) hc⟩
  refine PySem.W.method_cls I.kIn sg (PySem.W.cls_value I.kIn rd vV (by decide +kernel) ?_)
  show wpAny _ _ (callWith pos (Value.builtin "ValueError.__init__") [] (backTo pos (starEach (e :: es) X.env)) []) _ _ _
  refine PyProof.Rows.callWith_method1 (thn (ha.run pos pins _ σ H _ (I.tok _) h) fun us s1 hh => ?_) he hpl
  obtain ⟨vs, H1, I1, r1, a, C, ws, ev, hl, T, ea, q⟩ := hh
  subst ev
  cases r1 with
  | @cons _ u0 _ ur ra rw' =>
    cases (show u0 = Value.ref a from ra)
    have hlen : ur.length ≤ sizeLine := by
      have e1 := Paired.length rw'
      rw [sizeLine_eq]
      omega
    exact oinit_ok T I1 ea hlen fun s' J => ⟨.non, H1, J, rfl, q⟩
end
/-! ### C(e, ..) of such a class as a value, its own __init__ walked as a def -/
def tErrV (C : Addr) (sp : Sp) (E : XK) (ta : TA) : TE := fun σ H Q => ta σ H fun vs H1 => vs.length ≤ 1000 ∧ ∀ a, H1 a = none → sp (.ref a :: vs) (upd H1 a (exo a C none)) (fun v H2 => v = .non ∧ Q (.ref a) H2) E
section
variable {X : Cx} {e : Expr} {es : List Expr} {ta : TA} {x : Str} {p pos : Pos}
theorem pe_errV {CX : CXT} {C fI : Addr} {k : Nat} {fd : FuncData} {ps : List Str} {sp : Sp} {E : XK} (T : OexC X.K C) (iC : PySem.W.findIn X.K (.ref C) "__init__" = some (some (.ref fI))) (tI : PySem.W.typeIn X.K (.ref fI) = some (.type "function"))
    (F1 : FnOk X.prog X.w X.K X.mg X.base CX k fI fd ps sp) (hr : Room (k + 1) X.A) (hb : Binds X.K fd ps []) (hx : Passes CX X E) (hg : Gl X x) (hm : X.mg x = some (.ref C)) (ha : PA X (e :: es) ta)
    (hdb : (x == ("__debug__" : Str)) = false := by decide) (he : starEach (e :: es) X.env = (false, eval e X.env) :: starEach es X.env := by rfl) (hpl : (backTo pos (starEach es X.env)).any (·.1) = false := by rfl) :
    PE X (.Call (.Name x p) (e :: es) [] pos) (tErrV C sp E ta) := by
  refine ⟨fun pins s σ H Q I h => wpAny_Call_Name_kw (ld_glob I hg hm ?_ hdb)⟩
  obtain ⟨nm, q, N, bs, bm, sn, sub, ab, col, dd, k0, k1, k2, k3, k5, hC, hbm⟩ := T.cls
  refine PySem.W.callWith_K (h₀ := X.base) I.ok.mod.kin T.kC (thn (ha.run pos pins s σ H _ I h) fun us s1 hh => ?_) he hpl
  obtain ⟨vs, H1, I1, r1, hz, q1⟩ := hh
  refine ⟨I1.kIn, ?_⟩
  show wpAny _ _ (call (.ref C) us) _ _ _
  obtain ⟨hp, g, dr, tk, os⟩ := s1
  have hq := q1 (hp.objs.size + 1) (I1.hok.fresh (Nat.le_succ _))
  have I2 : Inv X pins σ (upd H1 (hp.objs.size + 1) (exo (hp.objs.size + 1) C none)) ⟨(hp.push (PySem.W.kdv_tup us)).push (PySem.HandSPX.excO C hp.objs.size), g, dr, tk, os⟩ :=
    I1.laid (t' := tk) (fun b o z => Heap.get?_push_of_some _ (Heap.get?_push_of_some _ z)) (Nat.le_succ _) (L2.exo_ok (by heap_get))
  have r2 : Vals (V.ref (hp.objs.size + 1) :: vs) (Value.ref (hp.objs.size + 1) :: us) := .cons rfl r1
  have hl : (Value.ref (hp.objs.size + 1) :: us).length = ps.length := by rw [← r2.length]; exact F1.len _ _ _ _ hq
  have hb2 := hb _ (Value.ref (hp.objs.size + 1) :: us) I2.kIn (by simpa using hl)
  rw [List.append_nil] at hb2
  have hus : us.length ≤ sizeLine := by
    have e1 := Paired.length r1
    rw [sizeLine_eq]
    omega
  refine wpAny_call (PySem.HandSPX.call_own F.excBase_ValueError (fun Y => PySem.HandSPX.refsVE_contains Y bm hbm) (I1.kIn _ _ hC) (PySem.W.looks_findIn I1.kIn iC) (fun self => PySem.W.bind_fn I1.kIn self tI) hus (codeAny_mono
    (F1.run _ X.stack _ _ ⟨_, []⟩ _ _ _ E (hr.make C us []) (I2.env0.make C us []) hb2 r2 hq) fun r s' hq' => ?_))
  rcases r with er | fl
  · exact hx pins σ _ _ er s' I2 hq'
  · cases fl with
    | ret u =>
      obtain ⟨v, H', I3, rv, ev, q3⟩ := I2.after hq'
      subst ev
      exact ⟨rv, ⟨V.ref (hp.objs.size + 1), H', I3, rfl, q3⟩⟩
    | next => exact hq'.elim
    | brk => exact hq'.elim
    | cont => exact hq'.elim
end
end Xv

set_option Elab.async false
set_option linter.all false
set_option maxRecDepth 100000
set_option maxHeartbeats 4000000
set_option pp.maxSteps 3000
/-! try: .. except x as n: suite, the exception known behind the try -/
namespace Xv
open PySem PySem.Spec PyProof.Rows L2
/-- at a an exception of the class cls, its dict d -/
def ErX (cls : Value) (d : Option Addr) (a : Addr) : HO := .ext fun h => ∃ (oe : Obj) (vs : Array Value), h.get? a = some oe ∧ Zc cls d oe ∧ oe.data = .fields vs
section
variable {X : Cx} {pins : List (Addr × Obj)} {σ : L2.St} {H : Hp} {s : Shared} {a : Addr} {oe : Obj} {vs : Array Value} {cls : Value} {d : Option Addr}
/-- a pinned exception that was not there at the entry is tracked -/
theorem track (I : Inv X ((a, oe) :: pins) σ H s) (hex : X.ex = []) (n0 : X.s_0.heap.get? a = none) (hz : Zc cls d oe) (hd : oe.data = .fields vs) (hA : ∀ p ∈ X.pn ++ pins, p.1 ≠ a) : Inv X pins σ (upd H a (ErX cls d a)) s := by
  obtain ⟨ha, hn, nL, nF, _⟩ := I.pin (a, oe) (List.mem_append_right _ List.mem_cons_self)
  have old : ∀ b o, X.s_0.heap.get? b = some o → b ≠ a := fun b o e z => by
    rw [z, n0] at e
    cases e
  have nl : X.env.locals ≠ a := fun z => nL z.symm
  have cl : ∀ x c, X.env.cells.lookup x = some c → c ≠ a := fun x c e z => by
    obtain ⟨v, o, q1, q2⟩ := I.cell x c e
    rw [z] at q1
    have ha' : s.heap.get? a = some oe := ha
    rw [ha'] at q1
    cases q1
    rw [hd] at q2
    cases q2
  have J : Inv X pins σ H s := ClX.unpin I
  refine ⟨J.ok, J.os, J.bare, ⟨J.base.keep, J.base.slot, fun b o e n hx => ?_, J.base.there, fun b xs e => ?_, fun b o u e => ?_, fun b ps e => ?_⟩, J.loc, J.cell, ?_, fun x c e => ?_, fun p hp => ?_, fun b o e => ?_, J.len⟩
  · rw [upd_ne (old b o e)]
    exact J.base.free b o e n hx
  · have q := J.base.tups b xs e
    rw [upd_ne (ne_of_none q hn)]
    exact q
  · have q := J.base.frzs b o u e
    rw [upd_ne (ne_of_none q hn)]
    exact q
  · obtain ⟨more, q⟩ := J.base.tbls b ps e
    exact ⟨more, by rw [upd_ne (ne_of_none q hn)]; exact q⟩
  · rw [upd_ne nl]
    exact J.free
  · rw [upd_ne (cl x c e)]
    exact J.freeC x c e
  · obtain ⟨e1, e2, e3, e4, e5⟩ := J.pin p hp
    exact ⟨e1, by rw [upd_ne (hA p hp)]; exact e2, e3, e4, e5⟩
  · by_cases hb : b = a
    · subst hb
      rw [upd_same] at e
      cases e
      exact ⟨⟨oe, vs, ha, hz, hd⟩, ⟨oe, ha⟩, fun h1 h2 q k => by
        obtain ⟨o, w, q1, q2⟩ := q
        exact ⟨o, w, k o q1, q2⟩⟩
    · rw [upd_ne hb] at e
      exact (J.hok b o e).stay (fun c v _ q => q) (fun c q => by rw [upd_ne (ne_of_none q hn)]; exact q) fun c xs q => by rw [upd_ne (ne_of_none q hn)]; exact q
end
/-- what the clause wishes of an exception of the body: behind the suite the exception is known -/
def wKeep (K : PySem.W.Frag) (len : Nat) (c : Value) (i : Nat) (ts : TS) (Wout : WX) (D : Ends) : WX := fun cls d σ H => σ.length = len → ∃ b, PySem.W.exmOne K cls c = some b ∧
  (b = true → ∀ a, H a = none → ts { nx := fun σ' H' => D.nx (σ'.set i none) (upd H' a (ErX cls d a)), rt := fun _ _ => False, bk := fun _ _ => False, ct := fun _ _ => False } (σ.set i (some (.ref a))) H) ∧ (b = false → Wout cls d σ H)
section
variable {X : Cx} {x n : Str} {c : Value} {i : Nat} {body suite : List Stmt} {b0 : Stmt} {np pos pos' : Pos} {tb : WX → TS} {ts : TS} {Wout : WX}
theorem ps_try_keep (hs : X.stack = X.env :: X.outer) (hf : X.env.frame = some X.env.locals) (hN : X.N.Nodup) (hex : X.ex = []) (hi : X.N[i]? = some n) (hln : X.env.kindOf n = some .local) (hc : Names X x c) (tk : Takes X Wout)
    (hb : ∀ (W : WX) (pn : List (Addr × Obj)) (xe : Value → Shared → Prop), Takes (X.tr pn xe) W → PSs (X.tr pn xe) body (tb W)) (hsu : ∀ (a : Addr) (oe : Obj) (pn : List (Addr × Obj)), PSs (X.suite a ((a, oe) :: pn)) (b0 :: suite) ts) :
    PS X (.Try body [.ExceptHandler (some (.Name x np)) (some n) (b0 :: suite) pos'] [] [] pos) (fun D σ H => tb (wKeep X.K X.N.length c i ts Wout D) D σ H) := by
  refine ⟨fun pins s σ H D I h => ?_⟩
  have ok := I.ok
  have frm : X.A.frames = some (X.env :: X.outer) := by
    rw [ok.frames, hs]
  refine wpAny_Try_except (wpAny_mono ((hb (wKeep X.K X.N.length c i ts Wout D) (X.pn ++ pins) (fun e s1 => wpAny (model X.prog X.w) X.A (noteFrame e X.env) (fun _ s2 => wpAny (model X.prog X.w) X.A (setFlight e none) (fun _ s3 => wpAny (model X.prog X.w) X.A
    (handleBy e X.env [.ExceptHandler (some (.Name x np)) (some n) (b0 :: suite) pos']) (SP X pins D) X.xe s3) X.xe s2) X.xe s1) (fun u s' xx => ?_)).run [] s σ H D (I.toTry _) h) (fun f s1 hsp => ?_) (fun _ _ he => he))
  · obtain ⟨a, B, sI, pins', σ', H', cls, d, rfl, J', nb, up, sky, na, os, ag, hw⟩ := xx
    obtain ⟨b, hb1, hyes, hno⟩ := hw J'.len
    have J : Inv X pins σ' H' sI := J'.ofTry ok
    rw [hs] at sky
    refine Sky.land Zc.steady frm hf sky fun h3 fl3 up3 => ?_
    have J3 : Inv X pins σ' H' { s' with heap := h3 } := J.landed nb fl3.1 (up.trans up3) os ag
    obtain ⟨oe3, vs3, he3, hz3, hd3⟩ := fl3.there
    have nfr : a ∉ frs (X.env :: X.outer) := fun hm => by
      obtain ⟨_, o', e', hnf⟩ := fl3.2.2.1.mem hm
      rw [he3] at e'
      cases e'
      exact hnf _ hd3
    have nL : a ≠ X.env.locals := fun z => nfr (List.mem_filterMap.mpr ⟨X.env, List.mem_cons_self, by rw [hf, z]⟩)
    have nF : a ∉ X.fs := fun hm => by
      obtain ⟨e, he, q⟩ := List.mem_filterMap.mp hm
      exact nfr (List.mem_filterMap.mpr ⟨e, List.mem_cons_of_mem _ he, q⟩)
    have notB : B.get? a = none := fl3.2.1
    have onB : ∀ b o, sI.heap.get? b = some o → b ∉ frs (X.env :: X.outer) → b ≠ a := fun b o e hm z => by
      have q := nb b o e (by rw [hs]; exact hm)
      rw [z, notB] at q
      cases q
    have n0 : X.s_0.heap.get? a = none := by
      cases e : X.s_0.heap.get? a with
      | none => rfl
      | some o =>
        obtain ⟨o', q⟩ := J.base.there a o e (by rw [hex]; exact fun z => nomatch z)
        exact absurd rfl (onB a o' q nfr)
    have nP : ∀ p ∈ X.pn ++ pins, p.1 ≠ a := fun p hp => by
      obtain ⟨e1, _, e3, e4, _⟩ := J.pin p hp
      refine onB p.1 p.2 e1 fun hm => ?_
      rcases List.mem_cons.mp (show p.1 ∈ X.env.locals :: frs X.outer from by
        have q : frs (X.env :: X.outer) = X.env.locals :: frs X.outer := by
          show (X.env :: X.outer).filterMap (·.frame) = _
          rw [List.filterMap_cons, hf]
          rfl
        rw [← q]
        exact hm) with z | z
      · exact e3 z
      · exact e4 z
    have S3 := J3.suite he3 hd3 na nL nF
    refine wpAny_handleBy_cons (codeAny_handlers_test ?_) (by intro q; cases q)
    have LT : PySem.W.Looks (model X.prog X.w) h3 (typeOf (.ref a)) cls := fun A Q E s k q => wpAny_typeOf_ref (k _ _ he3) (by rw [hz3.1]; exact q)
    have LM := PySem.W.exm_one (M := model X.prog X.w) (J3.kIn) LT hb1
    have test : ∀ {Q : Value → Shared → Prop} {E : Value → Shared → Prop}, Q c { s' with heap := h3 } → wpAny (model X.prog X.w) (X.A.mark (some (.ref a))) (eval (.Name x np) X.env) Q E { s' with heap := h3 } := by
      intro Q E q
      obtain ⟨hg, hdbg, hm | ⟨hm, hv, hnn⟩⟩ := hc
      · exact ld_glob (X := X.suite a ((a, oe3) :: (X.pn ++ pins))) S3 hg hm q hdbg
      · exact ld_blt (X := X.suite a ((a, oe3) :: (X.pn ++ pins))) S3 hg hm hv q hnn hdbg
    refine test (LM.here ?_)
    cases b with
    | true =>
      refine codeAny_handlers_suite_as (HandSPX.lands_againZ fl3 fun h4 fl4 up4 => ?_)
      have J4 : Inv X pins σ' H' { s' with heap := h4 } := J.landed nb fl4.1 ((up.trans up3).trans up4) os ag
      obtain ⟨oe4, vs4, he4, hz4, hd4⟩ := fl4.there
      refine store_ok (X := X.suite a ((a, oe4) :: (X.pn ++ pins))) (v := .ref a) (J4.suite he4 hd4 na nL nF) hN hi (.inl hln) rfl (fun s5 S5 => ?_) (.inr hln)
      refine wpAny_mono ((hsu a oe4 (X.pn ++ pins)).run [] s5 _ H' _ S5 (hyes rfl a na)) (fun f s6 hsp => ?_) (fun _ _ z => False.elim z)
      cases f with
      | next =>
        obtain ⟨σ6, H6, S6, q6⟩ := hsp
        have P6 : Inv X ((a, oe4) :: pins) σ6 H6 s6 := (S6.unsuite ok).pins_of fun p hp => by
          rcases List.mem_cons.mp hp with z | z
          · rw [z]
            exact S6.pin (a, oe4) (List.mem_append_left _ List.mem_cons_self)
          · exact S6.pin p (List.mem_append_left _ (List.mem_cons_of_mem _ (List.mem_append_right _ z)))
        exact gone_ok P6 hN hi hln fun s7 J7 => ⟨_, _, track J7 hex n0 hz4 hd4 nP, q6⟩
      | brk =>
        obtain ⟨_, _, _, q6⟩ := hsp
        exact q6.elim
      | cont =>
        obtain ⟨_, _, _, q6⟩ := hsp
        exact q6.elim
      | ret u =>
        obtain ⟨_, _, _, _, _, q6⟩ := hsp
        exact q6.elim
    | false =>
      show wpAny _ X.A (handleBy (.ref a) X.env []) _ _ _
      refine wpAny_handleBy_nil ?_
      obtain ⟨k1, k2, k3, oe, vs, T, oT, ts', he, hz, hd, h1, hr⟩ := id fl3
      unfold PySem.passOn
      refine wpAny_bind (wpAny_field he hd h1 ?_)
      rw [if_neg (show ¬ ((Value.ref T == Value.none) = true) from by simp)]
      have fin : wpAny (model X.prog X.w) X.A (setFlight (.ref a) X.env.frame) (fun _ s4 => wpAny (model X.prog X.w) X.A (throw (.ref a) : Sem Flow) (SP X pins D) X.xe s4) X.xe { s' with heap := h3 } := by
        rw [hf]
        exact HandSPX.setFlight_upZ fl3 fun h4 hh4 up4 => wpAny_throw (tk _ _ ⟨a, B, sI, pins, σ', H', cls, d, rfl, J, nb, (up.trans up3).trans up4, .inr (.inr (by rw [hs]; exact hh4)), na, os, ag, hno rfl⟩)
      first
        | exact wpAny_bind (wpAny_pure (wpAny_bind fin))
        | exact wpAny_bind fin
  · cases f with
    | next =>
      obtain ⟨σ', H', J', q⟩ := hsp
      exact wpAny_execs_nil ⟨σ', H', J'.ofTry ok, q⟩
    | brk =>
      obtain ⟨σ', H', J', q⟩ := hsp
      exact ⟨σ', H', J'.ofTry ok, q⟩
    | cont =>
      obtain ⟨σ', H', J', q⟩ := hsp
      exact ⟨σ', H', J'.ofTry ok, q⟩
    | ret u =>
      obtain ⟨v, σ', H', J', r, q⟩ := hsp
      exact ⟨v, σ', H', J'.ofTry ok, r, q⟩
end
end Xv

set_option Elab.async false
set_option linter.all false
set_option maxRecDepth 100000
set_option maxHeartbeats 4000000
set_option pp.maxSteps 3000
/-! _law_caught: work() is called, its exception is handed back -/
namespace Xv
open PySem PySem.Spec PyProof.Rows L2 LamX
abbrev caughtBody (p1 p2 p3 p4 p5 p6 p7 p8 p9 pa pb pc pd pe : Pos) (j : Nat) : List Stmt := [.Assign [.Name "caught" p1] (.Constant .none j p2) p3,
  .Try [.Expr (.Call (.Name "work" p4) [] [] p5) p6] [.ExceptHandler (some (.Name "SeriesError" p7)) (some "error") [.Assign [.Name "caught" p8] (.Name "error" p9) pa] pb] [] [] pc, .Return (some (.Name "caught" pd)) pe]
/-- what is asked: work() gives whatever, or raises an exception that is caught -/
def TCaught (K : PySem.W.Frag) (CS : Addr) : (XK → Hp → VK → Prop) → Hp → VK → Prop := fun tl H Q =>
  tl (fun cls d H' => PySem.W.exmOne K cls (.ref CS) = some true ∧ ∀ a, H' a = none → Q (.ref a) (upd H' a (ErX cls d a))) H (fun _ H' => ∃ v, some (some V.non) = some (some v) ∧ Q v H')
theorem caught_gives {X : Cx} {sg : Scope} {g CS : Addr} {cdg : Value} {q : Str} {p1 p2 p3 p4 p5 p6 p7 p8 p9 pa pb pc pd pe : Pos} {j : Nat} (Sg : FnScope ["work", "caught", "error"] ["work"] sg) (v0 : sg.names.lookup ("work" : Str) = some NameKind.local) (v1 : sg.names.lookup ("caught" : Str) = some NameKind.local) (v2 : sg.names.lookup ("error" : Str) = some NameKind.local)
    (hge : sg.names.lookup ("SeriesError" : Str) = some NameKind.globalImplicit) (hme : X.mg "SeriesError" = some (.ref CS)) : GivesTo X ["work", "caught", "error"] "_law_caught" sg g cdg (caughtBody p1 p2 p3 p4 p5 p6 p7 p8 p9 pa pb pc pd pe j) "work" q (TCaught X.K CS) := by
  intro f c' s H Q tl act hc h
  have hgl : Gl (cxOf C8.CX0 X.prog X.w X.K X.mg X.base ["work", "caught", "error"] "_law_caught" sg g cdg X.A X.stack s H C8.E0).nox "SeriesError" := hge
  refine ⟨_, pss_cons (ps_set (i := 1) Sg.nd rfl (Or.inl v1) pe_non) (pss_cons (ps_try_keep (X := (cxOf C8.CX0 X.prog X.w X.K X.mg X.base ["work", "caught", "error"] "_law_caught" sg g cdg X.A X.stack s H C8.E0).nox) (c := .ref CS) (i := 2)
      (tb := fun W D σ H => ∃ Ech : XK, (∀ cls d σ' H', Ech cls d H' → W cls d σ' H') ∧ σ[0]? = some (some (.ref f)) ∧ H c' = some (CodeO c' q) ∧ tl Ech H (fun _ H' => D.nx σ H'))
      rfl rfl Sg.nd rfl rfl v2 ⟨hgl, by decide, .inl hme⟩ L2.takes0 (fun W pn xe tk => ?_) (fun a oe pn => pss_one (ps_set (i := 1) Sg.nd rfl (Or.inl v1) (pe_var (i := 2) rfl (Or.inl v2))))) (pss_one (ps_ret (pe_var (i := 1) rfl (Or.inl v1))))), ?_⟩
  · refine ⟨fun pins s' σ H' D I h' => ?_⟩
    obtain ⟨Ech, hW, h1, h2, h3⟩ := h'
    have hp := act W pn xe Ech p4 p5 tk hW
    have hq := pss_one (ps_expr (pos := p6) hp)
    exact hq.run pins s' σ H' D I ⟨h1, h2, h3⟩
  · refine ⟨fun cls d H' => PySem.W.exmOne X.K cls (.ref CS) = some true ∧ ∀ a, H' a = none → Q (.ref a) (upd H' a (ErX cls d a)), fun cls d σ' H' hE => ?_, rfl, hc, ?_⟩
    · obtain ⟨e1, e2⟩ := hE
      intro hl
      match σ', hl with
      | [s0, s1, s2], _ => exact ⟨true, e1, fun _ a ha => ⟨_, rfl, _, rfl, e2 a ha⟩, fun z => nomatch z⟩
    · exact h
/-- a caught exception of the class at C at a, its fields fs, if it has a dict -/
def ErC (H : Hp) (a C : Addr) (fs : Option (List (Str × V))) : Prop := (fs = none ∧ H a = some (ErX (.ref C) none a)) ∨ ∃ d xs, fs = some xs ∧ H a = some (ErX (.ref C) (some d) a) ∧ H d = some (.xd xs)
section
variable {X : Cx} {pins : List (Addr × Obj)} {σ : L2.St} {H : Hp} {s : Shared} {a C : Addr} {fs : Option (List (Str × V))}
theorem erC_same {H H' : Hp} (h : ErC H a C fs) (k : Same H H') : ErC H' a C fs := by
  rcases h with ⟨e, h⟩ | ⟨d, xs, e, h, hd⟩
  · exact .inl ⟨e, k _ _ h⟩
  · exact .inr ⟨d, xs, e, k _ _ h, k _ _ hd⟩
theorem erC_inst (I : Inv X pins σ H s) (h : ErC H a C fs) : ∃ ox od, PySem.W.InstAt s.heap a ox C od := by
  rcases h with ⟨_, h⟩ | ⟨d, xs, _, h, hd⟩
  · have q : ObjOk X.prog X.w H s.heap a (ErX (.ref C) none a) := I.hok a _ h
    obtain ⟨⟨oe, vs, e, z, dt⟩, _⟩ := q
    obtain ⟨oc, od, oda, osl⟩ := oe
    obtain ⟨z1, z2⟩ := z
    dsimp only at z1 z2 dt
    subst z1 z2 dt
    exact ⟨_, none, e, rfl, rfl, trivial⟩
  · have q : ObjOk X.prog X.w H s.heap a (ErX (.ref C) (some d) a) := I.hok a _ h
    obtain ⟨⟨oe, vs, e, z, dt⟩, _⟩ := q
    have hx : ObjOk X.prog X.w H s.heap d (.xd xs) := I.hok d _ hd
    obtain ⟨mA, hns, hr⟩ := hx
    obtain ⟨od, ho, hl⟩ := lookIn_ns hns
    exact ⟨oe, some od, e, z.1, by unfold PySem.W.notCls; rw [dt] <;> rfl, by rw [z.2]; exact ho⟩
/-- isinstance(e, c), e a caught exception -/
def rIsC (K : PySem.W.Frag) : List V → Hp → VK → Prop := fun xs H Q => ∃ (a C : Addr) (fs : Option (List (Str × V))) (c : V) (cv : Value) (b : Bool), xs = [.ref a, c] ∧ ErC H a C fs ∧ ExcC K C ∧ (∀ u, RelV c u → u = cv) ∧ PySem.W.kitOne K (.ref C) cv = some b ∧ Q (.bl b) H
theorem call_isC : CallR X (.builtin "isinstance") (rIsC X.K) := by
  intro pins s σ H xs us Q I r h
  obtain ⟨a, C, fs, c, cv, b, rfl, he, T, hc, hk, q⟩ := h
  obtain ⟨u1, u2, rfl, r1, r2⟩ := vals2 r
  cases (show u1 = Value.ref a from r1)
  have e2 := hc _ r2
  subst e2
  obtain ⟨ox, od, J⟩ := erC_inst I he
  obtain ⟨cd, hcd, _⟩ := PySem.W.any_some T.hd
  exact PySem.W.kia_one (PySem.W.kitx_exc (by rw [hcd]; rfl) T.hg T.hk T.hs T.ha T.hn T.ht T.hm) I.kIn J hk (fun z => nomatch z) fun tk => ⟨.bl b, H, I.tok tk, rfl, q⟩
end
/-- e.f, e a caught exception with fields -/
def tErC (K : PySem.W.Frag) (f : Str) (te : TE) : TE := fun σ H Q => te σ H fun x H1 => ∃ (a C : Addr) (fs : List (Str × V)) (v : V), x = .ref a ∧ ErC H1 a C (some fs) ∧ XfC K C ∧ PySem.W.findIn K (.ref C) f = some none ∧ fs.lookup f = some v ∧ Q v H1
theorem pe_erC {X : Cx} {e : Expr} {te : TE} {pos : Pos} {n : Str} (he : PE X e te) (hb : attributeBase e n X.env (eval e X.env) = eval e X.env := by rfl) : PE X (.Attribute e n pos) (tErC X.K n te) := by
  refine ⟨fun pins s σ H Q I h => attr_of hb (thn (he.run pins s σ H _ I h) fun u s1 hh => ?_)⟩
  obtain ⟨x, H1, I1, rx, a, C, fs, v, rfl, he, T, hno, l, q⟩ := hh
  obtain rfl : u = Value.ref a := rx
  rcases he with ⟨z, _⟩ | ⟨d, xs, z, h, hd⟩
  · cases z
  · cases z
    have qo : ObjOk X.prog X.w H1 s1.heap a (ErX (.ref C) (some d) a) := I1.hok a _ h
    obtain ⟨⟨oe, vs, e, z, dt⟩, _⟩ := qo
    have hx : ObjOk X.prog X.w H1 s1.heap d (.xd fs) := I1.hok d _ hd
    obtain ⟨mA, hns, hr⟩ := hx
    obtain ⟨od, ho, hl⟩ := lookIn_ns hns
    obtain ⟨u, hu, ru⟩ := RelO.some_of (v := v) (o := mA n) (by rw [← l]; exact hr n)
    have J : PySem.W.InstAt s1.heap a oe C (some od) := ⟨e, z.1, by unfold PySem.W.notCls; rw [dt] <;> rfl, by rw [z.2]; exact ho⟩
    exact HandSPX.exc_get I1.kIn J T.ga T.gg T.exC (PySem.W.findObj_own T.hdC hno rfl (by rw [hl, hu])) (handed_of ru) ⟨v, H1, I1.tok _, ru, q⟩
end Xv

set_option Elab.async false
set_option linter.all false
set_option maxRecDepth 100000
set_option maxHeartbeats 4000000
set_option pp.maxSteps 3000
namespace PySem
theorem meets_enumerate_new1 {v : Value} {o : Obj} {H : Heap → Prop} (B : Begins v o H) :
    Meets (Builtin.«enumerate.__new__» ⟨[.type "enumerate", v], []⟩) (fun _ R s => H s.heap ∧
      R (.ok (.ret (.ref (s.heap.push o).objs.size))) { s with heap := (s.heap.push o).push { cls := .type "enumerate", data := .fields #[.none, .bool false, .ref s.heap.objs.size, rawInt 0, .none, .none] } }) :=
  .of_wp fun prog w A R s h => by
    obtain ⟨hp, g, d, tk, os⟩ := s; obtain ⟨h1, h⟩ := h
    have hsub := sub_enumerate
    have q1 : ∀ {A' : Around} {E : Value → Shared → Prop} {Q : Value → Shared → Prop}, Q (.ref hp.objs.size) ⟨hp.push o, g, d, tk, os⟩ → wpAny (model prog w) A' (pyIter v) Q E ⟨hp, g, d, tk, os⟩ :=
      fun q => B.iter prog w _ _ ⟨hp, g, d, tk, os⟩ _ h1 q
    wp_walk using q1
    refine wpAny_stack_any fun st => wpAny_pure ?_
    split
    · rename_i c _ _ _ _ _
      cases (c == Value.type "enumerate")
      · wp_walk using q1
        exact ⟨_, rfl, h⟩
      · wp_walk using q1
        exact ⟨_, rfl, h⟩
    · wp_walk using q1
      exact ⟨_, rfl, h⟩
section
variable {prog : Program} {w : World} {A : Around} {E : Value → Shared → Prop} {s : Shared}
theorem enum_begins1 {v : Value} {o : Obj} {H : Heap → Prop} {Q : Value → Shared → Prop} (B : Begins v o H) (h1 : H s.heap)
    (h : ∀ h', IsEnum h' (s.heap.objs.size + 1) s.heap.objs.size 0 .none → h'.get? s.heap.objs.size = some o → h'.objs.size = s.heap.objs.size + 2 →
      (∀ b o, s.heap.get? b = some o → h'.get? b = some o) → Q (.ref (s.heap.objs.size + 1)) { s with heap := h' }) :
    wpAny (model prog w) A (call (.type "enumerate") [v]) Q E s := by
  refine callType_new F.called_enumerate (by decide) (F.typeCall_enumerate_1 _) (F.newCall_enumerate_1 _) (fun obj => F.args_object_init_2 obj _) F.entry_enumerate_new
    (meets_enumerate_new1 B) ⟨h1, ?_⟩
  have hz : (s.heap.push o).objs.size = s.heap.objs.size + 1 := Heap.size_push ..
  show _ ∧ _
  rw [hz]
  have he : IsEnum ((s.heap.push o).push { cls := .type "enumerate", data := .fields #[.none, .bool false, .ref s.heap.objs.size, rawInt 0, .none, .none] }) (s.heap.objs.size + 1) s.heap.objs.size 0 .none := by
    have := Heap.get?_push_size (s.heap.push o) (o := { cls := .type "enumerate", data := .fields #[.none, .bool false, .ref s.heap.objs.size, rawInt 0, .none, .none] }) rfl
    rw [hz] at this; exact this
  refine ⟨⟨_, he, rfl⟩, h _ he (Heap.get?_push_of_some _ (Heap.get?_push_size _ B.free)) (by rw [Heap.size_push, hz]) fun b o x => Heap.get?_push_of_some _ (Heap.get?_push_of_some _ x)⟩
end
end PySem
namespace Xv
open PySem PySem.Spec PyProof.Rows L2
/-- enumerate of a tuple -/
def IteT (K : PySem.W.Frag) (a : Addr) : It :=
  ⟨fun i H => ∃ (xs : List V) (x : V), SqT K H a xs ∧ xs[i]? = some x, fun i H v H' => ∃ T x, v = .ref T ∧ H T = none ∧ H' = upd H T (.tup [.int (i : Nat), x]) ∧ ∀ xs, SqT K H a xs → xs[i]? = some x, fun i H => ∃ xs : List V, SqT K H a xs ∧ xs.length = i⟩
theorem turn_enumT {P : Program} {w : World} {K : PySem.W.Frag} {elts : List Expr} {kk : Nat} {tpos : Pos} (a e it : Addr) (hat : a ≠ it) :
    Turn P w K (.Tuple elts kk tpos) (IteT K a) [e, it] e (fun i h => (∃ old, IsEnum h e it ((i : Nat) : Int) old) ∧ h.IsTupleIter it a i ∧ e ≠ it ∧ e ≠ a) where
  mem := by simp
  obj := fun i h st b hb => by
    obtain ⟨⟨old, he⟩, ⟨o, ho, hc, hd⟩, _⟩ := st
    have e' : b = e ∨ b = it := by simpa using hb
    rcases e' with z | z
    · rw [z]; exact ⟨_, he, fun v q => nomatch q⟩
    · rw [z]; exact ⟨o, ho, fun v q => by rw [hd] at q; cases q⟩
  keep := fun i h h' st k => let ⟨⟨old, he⟩, hi, hne, hea⟩ := st; ⟨⟨old, k e (by simp) _ he⟩, hi.at fun o q => k it (by simp) o q, hne, hea⟩
  item := by
    intro X hP hw hK hc i pins s σ H E I hf st hg
    subst hP hw hK
    obtain ⟨⟨old, he⟩, hit, hne, hea⟩ := st
    obtain ⟨xs, x, hq, hx⟩ := hg
    obtain ⟨its, rv, p, hz⟩ := I.tuple hq
    obtain ⟨u, hu, ru⟩ := rv.get hx
    have hel : e < s.heap.objs.size := Heap.lt_size he
    have hil : it < s.heap.objs.size := by obtain ⟨_, q, _⟩ := hit; exact Heap.lt_size q
    have hlt : i < its.toArray.size := by
      have := (List.getElem?_eq_some_iff.mp hu).1
      simpa using this
    refine wpAny_pyNext_enum_itemD (Draws.tuple (prog := X.prog) (w := X.w) (A := X.A.in1) (I.ok.hd hc) it a hat its.toArray) he ⟨hit, p⟩ hlt hne (by simp [hne, hea]) fun y h' tk hy ho hst' hT hsz hk => ?_
    obtain ⟨hit', _⟩ := hst'
    have ey : y = u := by
      have e1 : its.toArray[i]? = some u := by simpa using hu
      rw [e1] at hy
      exact (Option.some.inj hy).symm
    subst ey
    refine ⟨_, rfl, wpAny_letOwnedTupleGo_enum (s := { s with heap := h', toks := tk + 1 }) ho fun h'' he' sb => ?_⟩
    have hT2 : h''.get? s.heap.objs.size = some { cls := .type "tuple", data := .seq #[.int i tk, y] } := (sb.2 _ (Nat.ne_of_gt hel)).trans hT
    have new : ObjOk X.prog X.w (upd H s.heap.objs.size (.tup [.int (i : Nat), x])) h'' s.heap.objs.size (.tup [.int (i : Nat), x]) :=
      ⟨by show 2 ≤ sizeLine; decide, [.int i tk, y], .cons ⟨_, rfl⟩ (.cons ru .nil), ⟨_, hT2, rfl, _, rfl⟩⟩
    have I1 : Inv X pins σ (upd H s.heap.objs.size (.tup [.int (i : Nat), x])) { s with heap := h'', toks := tk + 1 } :=
      I.turnedNew (ch := [e, it]) (fun b ob hb q => (sb.2 b (fun z => hb (by simp [z]))).trans (hk b ob (fun z => hb (by simp [z])) (fun z => hb (by simp [z])) q)) hf (Nat.le_refl _) new
    refine ⟨.ref s.heap.objs.size, _, I1, rfl, ⟨_, x, rfl, I.hok.fresh (Nat.le_refl _), rfl, fun ys hy => by rw [I.tuple_inj hy hq]; exact hx⟩, ⟨⟨y, ?_⟩, hit'.at fun o q => (sb.2 it (Ne.symm hne)).trans q, hne, hea⟩, fun b hb => ?_⟩
    · have e1 : ((i + 1 : Nat) : Int) = (i : Int) + 1 := by omega
      rw [e1]; exact he'
    · have hb' : b < s.heap.objs.size := by
        have e' : b = e ∨ b = it := by simpa using hb
        rcases e' with z | z
        · rw [z]; exact hel
        · rw [z]; exact hil
      rw [upd_ne (Nat.ne_of_lt hb')]
      exact (hf b hb).1
  done := by
    intro X hP hw hK hc i pins s σ H E I hf st hg
    subst hP hw hK
    obtain ⟨⟨old, he⟩, hit, hne, hea⟩ := st
    obtain ⟨xs, hq, hx⟩ := hg
    obtain ⟨its, rv, p, hz⟩ := I.tuple hq
    obtain ⟨f0, f1, f2, f3, f4, f5⟩ := hf it (by simp)
    have hl := rv.length
    have en : i = its.toArray.size := by
      rw [List.size_toArray]
      omega
    subst en
    have D := Draws.tuple (prog := X.prog) (w := X.w) (A := X.A.in1) (I.ok.hd hc) it a hat its.toArray
    exact wpAny_pyNext_enum_endD D he ⟨hit, p⟩ fun h' eb => ⟨rfl, I.turned (t' := s.toks) (fun b o hb q => eb b o hb q) f0 f1 f3 f4 f5⟩
  self := fun A i s Q E st h => let ⟨⟨_, he⟩, _⟩ := st; wpAny_pyIter_enum he h
/-- enumerate of a list or a tuple -/
def iEnumT (K : PySem.W.Frag) (ta : TA) : TI := fun σ H R => ta σ H fun vs H1 => ∃ a xs, vs = [.ref a] ∧ ((SqL K H1 a xs ∧ R (Ite K a) H1) ∨ (SqT K H1 a xs ∧ R (IteT K a) H1))
theorem pi_enumT {X : Cx} {e : Expr} {ta : TA} {p pos tpos : Pos} {elts : List Expr} {kk : Nat} (hg : Gl X "enumerate") (hm : X.mg "enumerate" = none) (ha : PA X [e] ta) (hs : starEach [e] X.env = [(false, eval e X.env)] := by rfl) :
    PI X (.Tuple elts kk tpos) (.Call (.Name "enumerate" p) [e] [] pos) (iEnumT X.K ta) := by
  refine ⟨fun pins s σ H R I h => ?_⟩
  refine Call_ (ld_blt I hg hm boot_enumerate (PyProof.Rows.callWith_type1 (thn (ha.run pos pins s σ H _ I h) fun us s1 ⟨vs, H1, I1, r1, q1⟩ => ?_) hs rfl))
  obtain ⟨a, xs, ex, q⟩ := q1
  subst ex
  cases r1 with
  | cons r rr =>
    cases rr
    cases r
    rcases q with ⟨hq, q⟩ | ⟨hq, q⟩
    · obtain ⟨its, rv, p', hz⟩ := I1.list hq
      refine call_enumerate_list p'.isList fun h' he hit hsz hk => wpAny_pyIter_enum he ?_
      have I2 : Inv X pins σ H1 { s1 with heap := h' } := I1.kept (t' := s1.toks) hk
      refine ⟨s1.heap.objs.size + 1, [s1.heap.objs.size + 1, s1.heap.objs.size], _, _, H1, rfl, I2, turn_enum a (s1.heap.objs.size + 1) s1.heap.objs.size, ⟨⟨.none, he⟩, hit, Nat.succ_ne_self _⟩, fun b hb => ?_, q⟩
      have e' : b = s1.heap.objs.size + 1 ∨ b = s1.heap.objs.size := by simpa using hb
      have hle : s1.heap.objs.size ≤ b := by
        rcases e' with z | z
        · rw [z]; exact Nat.le_add_right _ _
        · rw [z]; exact Nat.le_refl _
      exact I1.fpOk hle (I1.hok.fresh hle)
    · obtain ⟨its, rv, p', hz⟩ := I1.tuple hq
      have p2 : s1.heap.IsTuple a its.toArray := p'
      have hal : a < s1.heap.objs.size := by
        obtain ⟨o, ho, _⟩ := p2
        exact Heap.lt_size ho
      refine enum_begins1 (begins_tuple a its.toArray) p2 fun h' he hit hsz hk => wpAny_pyIter_enum he ?_
      have I2 : Inv X pins σ H1 { s1 with heap := h' } := I1.kept (t' := s1.toks) hk
      refine ⟨s1.heap.objs.size + 1, [s1.heap.objs.size + 1, s1.heap.objs.size], _, _, H1, rfl, I2, turn_enumT a (s1.heap.objs.size + 1) s1.heap.objs.size (Nat.ne_of_lt hal),
        ⟨⟨.none, he⟩, ⟨_, hit, rfl, rfl⟩, Nat.succ_ne_self _, Nat.ne_of_gt (Nat.lt_succ_of_lt hal)⟩, fun b hb => ?_, q⟩
      have e' : b = s1.heap.objs.size + 1 ∨ b = s1.heap.objs.size := by simpa using hb
      have hle : s1.heap.objs.size ≤ b := by
        rcases e' with z | z
        · rw [z]; exact Nat.le_add_right _ _
        · rw [z]; exact Nat.le_refl _
      exact I1.fpOk hle (I1.hok.fresh hle)
theorem walk_enumT {K : PySem.W.Frag} {a : Addr} {xs : List V} : Walk (IteT K a) xs.length (fun H => SqT K H a xs) (YPair (fun i => some (.int (i : Nat))) (fun i => xs[i]?)) := by
  refine ⟨fun i _ hi q => ⟨xs, xs[i], q, by simp [hi]⟩, fun _ q => ⟨xs, q, rfl⟩, fun i H v H' _ q y => ?_⟩
  obtain ⟨T, x, h1, h2, h3, h4⟩ := y
  exact ⟨T, .int (i : Nat), x, h1, h2, h3, rfl, h4 xs q⟩
/-- a list or a tuple walked -/
def iSeq (K : PySem.W.Frag) (tl : TE) : TI := fun σ H R => tl σ H fun x H1 => ∃ a, x = .ref a ∧ (((∃ xs, SqL K H1 a xs) ∧ R (Itl K a) H1) ∨ ((∃ xs, SqT K H1 a xs) ∧ R (Itt K a) H1))
theorem pi_seq {X : Cx} {tg l : Expr} {tl : TE} (hl : PE X l tl) : PI X tg l (iSeq X.K tl) := by
  refine ⟨fun pins s σ H R I h => ?_⟩
  refine thn (hl.run pins s σ H _ I h) fun v s1 ⟨x, H1, I1, r1, q1⟩ => ?_
  obtain ⟨a, e, q⟩ := q1
  subst e
  cases r1
  rcases q with ⟨⟨xs, hq⟩, q⟩ | ⟨⟨xs, hq⟩, q⟩
  · obtain ⟨its, rv, p, hz⟩ := I1.list hq
    refine wpAny_pyIter_list p.isList ?_
    refine ⟨s1.heap.objs.size, [s1.heap.objs.size], _, _, H1, rfl, I1.kept (t' := s1.toks) fun b o e => Heap.get?_push_of_some _ e, turn_list a _, ⟨_, Heap.get?_push_size _ rfl, rfl, rfl⟩, fun b hb => ?_, q⟩
    have e : b = s1.heap.objs.size := by simpa using hb
    subst e
    exact I1.fpOk (Nat.le_refl _) (I1.hok.fresh (Nat.le_refl _))
  · obtain ⟨its, rv, p, hz⟩ := I1.tuple hq
    refine wpAny_pyIter_tuple (show s1.heap.IsTuple a its.toArray from p) ?_
    refine ⟨s1.heap.objs.size, [s1.heap.objs.size], _, _, H1, rfl, I1.kept (t' := s1.toks) fun b o e => Heap.get?_push_of_some _ e, turn_tuple a _, ⟨_, Heap.get?_push_size _ rfl, rfl, rfl⟩, fun b hb => ?_, q⟩
    have e : b = s1.heap.objs.size := by simpa using hb
    subst e
    exact I1.fpOk (Nat.le_refl _) (I1.hok.fresh (Nat.le_refl _))
/-! ### f(k = v, ..): keywords alone -/
section
variable {X : Cx} {p pos : Pos} {x : Str} {kws : List Keyword} {tk : TA} {CX : CXT} {k : Nat} {f : Addr} {fd : FuncData} {ps ks : List Str} {sp : Sp} {E : XK} {g : List Value → List Value → List Value} {gV : List V → List V → List V}
theorem pe_callK0 (F : FnOk X.prog X.w X.K X.mg X.base CX k f fd ps sp) (hr : Room k X.A) (hg : Gl X x) (hm : X.mg x = some (.ref f)) (hk : PySem.W.keepIn X.K (.ref f) = true) (hb : KBinds X.K fd ps ks g gV) (hx : Passes CX X E)
    (hkw : PK X kws tk) (hall : (backToKw pos (keywordEach kws X.env)).all (·.1.isSome) = true := by rfl) (hks : (backToKw pos (keywordEach kws X.env)).filterMap (·.1) = ks := by rfl)
    (hdb : (x == ("__debug__" : Str)) = false := by decide)
    (hpl : ((backTo pos (starEach [] X.env)).any (·.1) || (backToKw pos (keywordEach kws X.env)).any (·.1.isNone)) = false := by rfl) :
    PE X (.Call (.Name x p) [] kws pos) (tCallK sp gV E tNil tk) := by
  refine ⟨fun pins s σ H Q I h => ?_⟩
  refine wpAny_Call_Name_kw (ld_glob I hg hm ?_ hdb)
  refine PySem.W.callWith_KW0 (h₀ := X.base) I.ok.mod.kin hk hall (thn (hkw.run pos pins s σ H _ I h) fun ws s2 ⟨zs, H2, I2, rz, q2⟩ => ⟨I2.kIn, ?_⟩) hpl
  rw [hks]
  exact run_fnk (us := []) (vs := []) F hr hb hx I2 .nil rz q2
end
/-! ### xs[t::m] of a list, 0 ≤ t, 0 < m -/
/-- the items at lo, lo + m, .. -/
def stepV (xs : List V) (t m : Nat) : List V := (List.range ((xs.length - t + m - 1) / m)).filterMap fun k => xs[t + m * k]?
def tStepL (K : PySem.W.Frag) (te : TE) (tl ts : TO) : TE := fun σ H Q => te σ H fun x H1 => tl σ H1 fun l H2 => ts σ H2 fun u H3 => ∃ a xs, ∃ t m : Nat, x = .ref a ∧ l = some (t : Int) ∧ u = some (m : Int) ∧ 0 < m ∧ t ≤ xs.length ∧ SqL K H3 a xs ∧ ∀ p, H3 p = none → Q (.ref p) (upd H3 p (.lst (stepV xs t m)))
theorem pick_step {its : List Value} {t m : Nat} (hm : 0 < m) (ht : t ≤ its.length) : slicePick its.toArray (some (t : Int)) none (some (m : Int)) = ((List.range ((its.length - t + m - 1) / m)).filterMap fun k => its[t + m * k]?).toArray := by
  have hm' : (m : Int) > 0 := by omega
  have hm2 : ¬ ((t : Int) < 0) := by omega
  have e1 : max 0 (min (t : Int) (its.length : Int)) = (t : Int) := by omega
  unfold slicePick sliceBounds
  simp only [Option.getD_some, List.size_toArray, hm', if_true, hm2, if_false, e1]
  unfold sliceRange
  simp only [hm', if_true]
  congr 1
  have e2 : (if (t : Int) < (its.length : Int) then ((its.length : Int) - t + m - 1) / m else 0).toNat = (its.length - t + m - 1) / m := by
    by_cases h : (t : Int) < (its.length : Int)
    · rw [if_pos h]
      have e3 : ((its.length : Int) - t + m - 1) = ((its.length - t + m - 1 : Nat) : Int) := by omega
      rw [e3]
      rw [← Int.natCast_ediv]
      exact Int.toNat_natCast _
    · rw [if_neg h]
      have e3 : its.length - t + m - 1 = m - 1 := by omega
      rw [e3, Nat.div_eq_of_lt (by omega)]
      rfl
  rw [e2, List.filterMap_map]
  congr 1
  funext k
  have e4 : ((t : Int) + (m : Int) * (k : Int)).toNat = t + m * k := by
    rw [← Int.natCast_mul]
    omega
  show its.toArray[((t : Int) + (m : Int) * (k : Int)).toNat]? = _
  rw [e4]
  simp
theorem stepV_vals {xs : List V} {its : List Value} (r : Vals xs its) (t m : Nat) : ∀ n : Nat, Vals ((List.range n).filterMap fun k => xs[t + m * k]?) ((List.range n).filterMap fun k => its[t + m * k]?)
  | 0 => .nil
  | n + 1 => by
    rw [List.range_succ, List.filterMap_append, List.filterMap_append]
    refine (stepV_vals r t m n).append ?_
    show Vals (List.filterMap _ [n]) (List.filterMap _ [n])
    rw [List.filterMap_cons, List.filterMap_cons]
    cases e : xs[t + m * n]? with
    | none =>
      have e2 : its[t + m * n]? = none := by
        have hl := r.length
        rw [List.getElem?_eq_none_iff] at e ⊢
        omega
      rw [e2]
      exact .nil
    | some v =>
      obtain ⟨u, hu, ru⟩ := r.get e
      rw [hu]
      exact .cons ru .nil
theorem filterMap_range_le {f : Nat → Option V} : ∀ n : Nat, ((List.range n).filterMap f).length ≤ n
  | 0 => Nat.le_refl _
  | n + 1 => by
    rw [List.range_succ, List.filterMap_append, List.length_append]
    have h1 := filterMap_range_le (f := f) n
    have h2 : ([n].filterMap f).length ≤ 1 := by
      rw [List.filterMap_cons]
      cases f n <;> simp
    omega
theorem stepV_length {xs : List V} {t m : Nat} (hm : 0 < m) (ht : t ≤ xs.length) : (stepV xs t m).length ≤ xs.length := by
  refine Nat.le_trans (filterMap_range_le _) ?_
  refine Nat.le_trans (m := xs.length - t) ?_ (Nat.sub_le _ _)
  by_cases h : xs.length - t = 0
  · rw [h, Nat.div_eq_of_lt (by omega)]
    exact Nat.le_refl _
  · refine Nat.div_le_of_le_mul ?_
    generalize xs.length - t = d at *
    have h1 : 0 ≤ (d - 1) * (m - 1) := Nat.zero_le _
    obtain ⟨d', rfl⟩ : ∃ d', d = d' + 1 := ⟨d - 1, by omega⟩
    obtain ⟨m', rfl⟩ : ∃ m', m = m' + 1 := ⟨m - 1, by omega⟩
    have e : (m' + 1) * (d' + 1) = m' * d' + m' + d' + 1 := by
      rw [Nat.add_mul, Nat.mul_add]
      omega
    rw [e]
    omega
theorem pe_stepL {X : Cx} {e lo st : Expr} {te : TE} {tl ts : TO} {p3 pos : Pos} (he : PE X e te) (hl : PO X (some lo) tl) (hst : PO X (some st) ts) : PE X (.Subscript e (.Slice (some lo) none (some st) p3) pos) (tStepL X.K te tl ts) := by
  refine ⟨fun pins s σ H Q I h => ?_⟩
  refine Subscript_ (thn (he.run pins s σ H _ I h) fun v s1 ⟨x, H1, I1, r1, q1⟩ => ?_)
  refine wpAny_Slice (thn (hl.run pins s1 σ H1 _ I1 q1) fun vl s2 ⟨l, H2, I2, pl, q2⟩ => ?_)
  refine thn (po_none.run pins s2 σ H2 (fun o H3 => o = none ∧ H3 = H2) I2 ⟨rfl, rfl⟩) fun vu s3 ⟨u, H3, I3, pu, eu, e3⟩ => ?_
  subst eu e3
  refine thn (hst.run pins s3 σ H3 _ I3 q2) fun vs s4 ⟨o, H4, I4, ps, q4⟩ => ?_
  obtain ⟨a, xs, t, m, rfl, rfl, rfl, hm, ht, hx, q⟩ := q4
  cases r1
  have I5 : Inv X pins σ H4 { s4 with heap := s4.heap.push { cls := .type "slice", data := .fields #[vl, vu, vs] } } := I4.kept (t' := s4.toks) fun b ob q => Heap.get?_push_of_some _ q
  obtain ⟨its, r, hT, hz⟩ := I5.list hx
  have hlen := r.length
  show wpAny (model X.prog X.w) X.A (subscriptTail e (.Slice (some lo) none (some st) p3) (.ref a) (.ref s4.heap.objs.size)) (EP X pins σ Q) X.xe { s4 with heap := s4.heap.push { cls := .type "slice", data := .fields #[vl, vu, vs] } }
  refine tail_any (ops := [.ref a, .ref s4.heap.objs.size]) hT.isList.typeIs (PySem.slot_list_getitem.lookup) ?_ (by with_unfolding_all rfl)
  refine wpAny_getItem_list_slice hT.isList (Heap.IsSliceOf.new _ vl vu vs) pl pu ps (by
    intro z
    have z2 := Option.some.inj z
    omega) ?_ (by rw [List.size_toArray]; omega)
  rw [pick_step hm (by omega)]
  refine ⟨.ref _, _, I5.laid (t' := s4.toks) (o := .lst (stepV xs t m)) (fun b ob q => Heap.get?_push_of_some _ q) (Nat.le_refl _) ?_, rfl, q _ (I5.hok.fresh (Nat.le_refl _))⟩
  refine ⟨Nat.le_trans (stepV_length hm ht) hz, _, 0, ?_, Heap.get?_push_size _ rfl⟩
  rw [← hlen]
  exact stepV_vals r t m _
end Xv

set_option Elab.async false
set_option linter.all false
set_option maxRecDepth 100000
set_option maxHeartbeats 0
namespace Xv
open PySem PySem.Spec PyProof.Rows L2
/-! the classes' facts, asked of the written part -/
def veT : List Value := [.type "ValueError", .type "Exception", .type "BaseException", .type "object"]
def oexB (K : PySem.W.Frag) (C : Addr) : Bool := match K.lookup C with
  | some ⟨.type "type", _, .cls cd, sl⟩ => (match cd.mro, sl.toList with
    | .ref C' :: bm, [_, _, _, _, some (.builtin n), _] => decide (C' = C) && (decide (n = "ValueError.__new__") && (!cd.hasDel && (PySem.HandSPX.refsVE bm && cd.hasDict)))
    | _, _ => false)
  | _ => false
theorem oexB_ok {K : PySem.W.Frag} {C : Addr} (h : oexB K C = true) : ∃ nm q N bs bm sn sub ab col dd k0 k1 k2 k3 k5, K.lookup C = some (excClassObj nm q C N bs bm true sn sub ab col dd k0 k1 k2 k3 k5 "ValueError.__new__") ∧ PySem.HandSPX.refsVE bm = true := by
  unfold oexB at h
  split at h
  · rename_i dx cd sl ho
    split at h
    · rename_i C' bm k0 k1 k2 k3 n k5 hm hs
      simp only [Bool.and_eq_true, decide_eq_true_eq, Bool.not_eq_true'] at h
      obtain ⟨rfl, rfl, hd, hr, hh⟩ := h
      obtain ⟨nm, bs, mro, ns, qn, hdc, sn, sub, ab, col, del⟩ := cd
      dsimp only at hm hd hh
      subst hm hd hh
      obtain ⟨l⟩ := sl
      have hs' : l = [k0, k1, k2, k3, some (.builtin "ValueError.__new__"), k5] := hs
      subst hs'
      exact ⟨nm, qn, ns, bs, bm, sn, sub, ab, col, dx, k0, k1, k2, k3, k5, ho, hr⟩
    · cases h
  · cases h
def eqV2 (a b : Option Value) : Bool := decide (a = b)
/-- a class of errors whose way up is l -/
def clsB (K : PySem.W.Frag) (C : Addr) (l : List Value) : Bool := (match PySem.W.clsIn K C with
  | some cd => decide (cd.mro = l) && cd.hasDict
  | none => false) && (eqV2 (PySem.W.typeIn K (.ref C)) (some (.type "type")) && (He.eqO (PySem.W.findIn K (.ref C) "__getattribute__") (some (some (.builtin "BaseException.__getattribute__"))) && (He.eqO (PySem.W.findIn K (.ref C) "__getattr__") (some none) &&
    (He.eqO (PySem.W.findIn K (.ref C) "__class__") (some (some (.builtin "object.__class__"))) && PySem.W.keepIn K (.ref C)))))
structure ClsOk (K : PySem.W.Frag) (C : Addr) (l : List Value) : Prop where
  cl : ∃ cd, PySem.W.clsIn K C = some cd ∧ cd.mro = l ∧ cd.hasDict = true
  ty : PySem.W.typeIn K (.ref C) = some (.type "type")
  ga : PySem.W.findIn K (.ref C) "__getattribute__" = some (some (.builtin "BaseException.__getattribute__"))
  gg : PySem.W.findIn K (.ref C) "__getattr__" = some none
  gc : PySem.W.findIn K (.ref C) "__class__" = some (some (.builtin "object.__class__"))
  kp : PySem.W.keepIn K (.ref C) = true
theorem clsB_ok {K : PySem.W.Frag} {C : Addr} {l : List Value} (h : clsB K C l = true) : ClsOk K C l := by
  unfold clsB at h
  simp only [Bool.and_eq_true] at h
  obtain ⟨h1, h2, h3, h4, h5, h6⟩ := h
  refine ⟨?_, of_decide_eq_true h2, He.eqO_ok h3, He.eqO_ok h4, He.eqO_ok h5, h6⟩
  cases e : PySem.W.clsIn K C with
  | none =>
    rw [e] at h1
    cases h1
  | some cd =>
    rw [e] at h1
    have h1' : (decide (cd.mro = l) && cd.hasDict) = true := h1
    rw [Bool.and_eq_true] at h1'
    exact ⟨cd, rfl, of_decide_eq_true h1'.1, h1'.2⟩
theorem ClsOk.sub {K : PySem.W.Frag} {C : Addr} {l : List Value} (h : ClsOk K C l) (hl : l ≠ []) (b : Value) : PySem.W.subIn K (.ref C) b = some (l.contains b) := by
  obtain ⟨cd, e, rfl, _⟩ := h.cl
  show (PySem.W.clsIn K C).bind (fun cd => if cd.mro.isEmpty then none else some (cd.mro.contains b)) = _
  rw [e]
  show (if cd.mro.isEmpty = true then none else some (cd.mro.contains b)) = _
  rw [if_neg (by cases q : cd.mro with
    | nil => exact absurd q hl
    | cons _ _ => exact Bool.false_ne_true)]
theorem ClsOk.excC {K : PySem.W.Frag} {C : Addr} {l : List Value} (h : ClsOk K C l) (hl : l ≠ []) (h1 : l.contains (.type "BaseException") = true) (h2 : l.contains (.type "object") = true) (hn : PySem.W.specialIn K (.builtin "object.__class__") "__get__" = some (some (.builtin "getset_descriptor.__get__")))
    (ht : PySem.W.takesIn K (.builtin "object.__class__") = some true) : ExcC K C where
  hg := h.ga
  hk := h.gg
  hs := by rw [h.sub hl, h1]
  hd := by
    obtain ⟨cd, e, _, hd⟩ := h.cl
    show (PySem.W.clsIn K C).any (·.hasDict) = true
    rw [e]
    exact hd
  ha := h.gc
  hn := hn
  ht := ht
  hm := by
    have z := h.sub hl (.type "object")
    rw [h2] at z
    exact z
theorem ClsOk.kit {K : PySem.W.Frag} {C D : Addr} {l m : List Value} (h : ClsOk K C l) (hl : l ≠ []) (hD : ClsOk K D m) {b : Bool} (e : (decide (C = D) || l.contains (.ref D)) = b) : PySem.W.kitOne K (.ref C) (.ref D) = some b := by
  unfold PySem.W.kitOne
  by_cases q : C = D
  · subst q
    rw [if_pos (by simp)]
    rw [decide_eq_true rfl] at e
    exact congrArg some e
  · rw [if_neg (by simpa using q)]
    show (if ((PySem.W.clsIn K D).isSome && PySem.W.typeIn K (.ref D) == some (.type "type")) = true then PySem.W.subIn K (.ref C) (.ref D) else none) = some b
    obtain ⟨cd, ed, _⟩ := hD.cl
    rw [ed, hD.ty, if_pos (by rfl), h.sub hl]
    rw [decide_eq_false q, Bool.false_or] at e
    exact congrArg some e
theorem ClsOk.kitT {K : PySem.W.Frag} {C : Addr} {l : List Value} (h : ClsOk K C l) (hl : l ≠ []) {T : String} (hT : PySem.W.kitMeta T = true) (e : l.contains (.type T) = true) : PySem.W.kitOne K (.ref C) (.type T) = some true := by
  unfold PySem.W.kitOne
  rw [if_neg (by simp)]
  show (if PySem.W.kitMeta T = true then PySem.W.subIn K (.ref C) (.type T) else none) = some true
  rw [if_pos hT, h.sub hl, e]
def eqB (a b : Option Bool) : Bool := decide (a = b)
def cfB (r : Option PySem.W.CFound) : Bool := match r with
  | some (.val v) => decide (v = .builtin "ValueError.__init__")
  | _ => false
theorem cfB_ok {r : Option PySem.W.CFound} (h : cfB r = true) : r = some (.val (.builtin "ValueError.__init__")) := by
  unfold cfB at h
  split at h
  · rw [of_decide_eq_true h]
  · cases h
/-! a hook: the facts by names, more of them by a Bool, the law's own table of code objects -/
abbrev AlE : Type := He.AlD × Bool
def asE (g : Addr → Option Obj) (n : Nat) : List Addr := cStatics :: He.asD g n
def lawD : He.Defn := ("law", none)
def obsE (fa : List He.Fa) (fn : List He.DefD) (ext : PySem.W.Frag → Bool) (n : Nat) (g : Addr → Option Obj) : AlE := (He.obsD fa fn (He.frT g (asE g n)), ext (He.frT g (asE g n)) && He.tabsB g [lawD] (He.frT g (asE g n)))
structure SaysE (fa : List He.Fa) (fn : List He.DefD) (ext : PySem.W.Frag → Bool) (h : Heap) (K : PySem.W.Frag) : Prop where
  d : He.SaysD fa fn K
  more : ext K = true
  hd : PySem.W.codeHdIn K (He.cT K lawD).1 (He.cT K lawD).2 = true
  out : K.lookup (He.cT K lawD).2 = none
  empty : h.get? (He.cT K lawD).2 = some { cls := .none, data := .fields #[] }
theorem saysE_of {fa : List He.Fa} {fn : List He.DefD} {ext : PySem.W.Frag → Bool} {n : Nat} {h : Heap} (e : obsE fa fn ext n h.get? = (He.valD fn, true)) : SaysE fa fn ext h (He.frT h.get? (asE h.get? n)) := by
  have e1 : He.obsD fa fn (He.frT h.get? (asE h.get? n)) = He.valD fn := congrArg (fun z : AlE => z.1) e
  have e2 : (ext (He.frT h.get? (asE h.get? n)) && He.tabsB h.get? [lawD] (He.frT h.get? (asE h.get? n))) = true := congrArg (fun z : AlE => z.2) e
  obtain ⟨h1, h2⟩ := Bool.and_eq_true_iff.mp e2
  obtain ⟨h3, h4⟩ := Bool.and_eq_true_iff.mp (List.all_eq_true.mp h2 lawD (List.mem_singleton.mpr rfl))
  cases q : h.get? (He.cT (He.frT h.get? (asE h.get? n)) lawD).2 with
  | none =>
    rw [q] at h4
    cases h4
  | some o =>
    rw [q] at h4
    exact ⟨e1, h1, h3, He.frT_none q h4, by rw [q, He.emptyTab_eq h4]⟩
def hookE (fa : List He.Fa) (fn : List He.DefD) (ext : PySem.W.Frag → Bool) (n : Nat) : PySem.W.Hook where
  α := AlE
  obs := fun s => obsE fa fn ext n s.heap.get?
  val := fun _ => (He.valD fn, true)
  says := fun _ h => ∃ K : PySem.W.Frag, K.In h ∧ SaysE fa fn ext h K
  of := fun _ _ e => ⟨_, He.frT_in, saysE_of e⟩
  keeps := fun _ _ _ ⟨K, hK, c⟩ k => ⟨K, PySem.W.Frag.In.keeps hK k, ⟨c.d, c.more, c.hd, c.out, k _ _ c.empty⟩⟩
end Xv

set_option Elab.async false
set_option linter.all false
set_option maxRecDepth 100000
set_option maxHeartbeats 4000000
set_option pp.deepTerms false
set_option pp.maxSteps 3000
namespace Dr
open PySem PySem.Spec PyProof.Rows L2
def top (i : Nat) : Stmt := PySem.Challenge.pw_etasure_k01_rows_spread_cut_and_woven.main.body.getD i (.Pass ⟨0, 0, 0, 0⟩)
abbrev sBegun : Stmt := top 19
abbrev sBlend : Stmt := top 20
abbrev sTake : Stmt := top 21
abbrev sPick : Stmt := top 22
abbrev FnP (K : PySem.W.Frag) (x : Str) (st : Stmt) (f : Addr) (fd : FuncData) : Prop := FunD K x x (defArgs st) (defBody st) (defScope st) [] [] f fd
/-! ### the draw: a dict of four entries, two lists -/
def kLarge : Key := Sum.inr "large"
def kCells : Key := Sum.inr "cells"
def kRest : Key := Sum.inr "rest"
def kTurn : Key := Sum.inr "turn"
def drK (l c : Addr) (r t : Int) : List (Key × V) := [(kLarge, .ref l), (kCells, .ref c), (kRest, .int r), (kTurn, .int t)]
theorem k12 : ¬ kLarge = kCells := by decide +kernel
theorem k13 : ¬ kLarge = kRest := by decide +kernel
theorem k14 : ¬ kLarge = kTurn := by decide +kernel
theorem k23 : ¬ kCells = kRest := by decide +kernel
theorem k24 : ¬ kCells = kTurn := by decide +kernel
theorem k34 : ¬ kRest = kTurn := by decide +kernel
section
variable {l c : Addr} {r t z : Int}
theorem get_large : valV (drK l c r t) kLarge = some (.ref l) := valV_pos rfl
theorem get_cells : valV (drK l c r t) kCells = some (.ref c) := (valV_neg k12).trans (valV_pos rfl)
theorem get_rest : valV (drK l c r t) kRest = some (.int r) := (valV_neg k13).trans ((valV_neg k23).trans (valV_pos rfl))
theorem get_turn : valV (drK l c r t) kTurn = some (.int t) := (valV_neg k14).trans ((valV_neg k24).trans ((valV_neg k34).trans (valV_pos rfl)))
theorem put_rest : putK (drK l c r t) kRest (.int z) = drK l c z t := by
  have h1 := k13
  have h2 := k23
  have h3 : ¬ kTurn = kRest := fun e => k34 e.symm
  simp [putK, drK, h1, h2, h3]
theorem put_turn : putK (drK l c r t) kTurn (.int z) = drK l c r z := by
  have h1 := k14
  have h2 := k24
  have h3 := k34
  simp [putK, drK, h1, h2, h3]
end
/-- the draw at d, its lists at l and c -/
structure DrawAt (H : Hp) (d l c : Addr) (ls cs : List Int) (r t : Int) : Prop where
  dd : H d = some (.dK (drK l c r t))
  dl : H l = some (.lst (ls.map V.int))
  dc : H c = some (.lst (cs.map V.int))
  lc : l ≠ c
/-- all but d and l stays -/
def SameX (d l : Addr) (H H' : Hp) : Prop := ∀ b o, H b = some o → b ≠ d → b ≠ l → H' b = some o
/-- a draw at d (its list at l): what the callers keep -/
def Draw (H : Hp) (d l c : Addr) : Prop := ∃ ls cs r t, DrawAt H d l c ls cs r t
theorem SameX.refl (d l : Addr) (H : Hp) : SameX d l H H := fun _ _ e _ _ => e
theorem SameX.trans {d l : Addr} {H H1 H2 : Hp} (a : SameX d l H H1) (b : SameX d l H1 H2) : SameX d l H H2 := fun c o e n1 n2 => b c o (a c o e n1 n2) n1 n2
theorem SameX.of {d l : Addr} {H H' : Hp} (a : Same H H') : SameX d l H H' := fun c o e _ _ => a c o e
theorem DrawAt.nl {H : Hp} {d l c : Addr} {ls cs : List Int} {r t : Int} (D : DrawAt H d l c ls cs r t) : d ≠ l := ne_of D.dd D.dl (fun z => by cases z)
theorem DrawAt.nc {H : Hp} {d l c : Addr} {ls cs : List Int} {r t : Int} (D : DrawAt H d l c ls cs r t) : d ≠ c := ne_of D.dd D.dc (fun z => by cases z)
theorem DrawAt.same {H H' : Hp} {d l c : Addr} {ls cs : List Int} {r t : Int} (D : DrawAt H d l c ls cs r t) (s : Same H H') : DrawAt H' d l c ls cs r t := ⟨s _ _ D.dd, s _ _ D.dl, s _ _ D.dc, D.lc⟩
theorem Draw.same {H H' : Hp} {d l c : Addr} (D : Draw H d l c) (s : Same H H') : Draw H' d l c := by
  obtain ⟨ls, cs, r, t, D⟩ := D
  exact ⟨ls, cs, r, t, D.same s⟩
theorem Draw.put {H : Hp} {d l c p : Addr} {o : HO} (D : Draw H d l c) (h1 : p ≠ d) (h2 : p ≠ l) (h3 : p ≠ c) : Draw (upd H p o) d l c := by
  obtain ⟨ls, cs, r, t, D⟩ := D
  exact ⟨ls, cs, r, t, by rw [upd_ne h1.symm]; exact D.dd, by rw [upd_ne h2.symm]; exact D.dl, by rw [upd_ne h3.symm]; exact D.dc, D.lc⟩
theorem Draw.ne {H : Hp} {d l c p : Addr} (D : Draw H d l c) (n : H p = none) : p ≠ d ∧ p ≠ l ∧ p ≠ c := by
  obtain ⟨ls, cs, r, t, D⟩ := D
  exact ⟨(ne_of_none D.dd n).symm, (ne_of_none D.dl n).symm, (ne_of_none D.dc n).symm⟩
theorem DrawAt.rest {H : Hp} {d l c : Addr} {ls cs : List Int} {r t : Int} (D : DrawAt H d l c ls cs r t) (z : Int) : DrawAt (upd H d (.dK (drK l c z t))) d l c ls cs z t :=
  ⟨upd_same, by rw [upd_ne D.nl.symm]; exact D.dl, by rw [upd_ne D.nc.symm]; exact D.dc, D.lc⟩
theorem DrawAt.turn {H : Hp} {d l c : Addr} {ls cs : List Int} {r t : Int} (D : DrawAt H d l c ls cs r t) (z : Int) : DrawAt (upd H d (.dK (drK l c r z))) d l c ls cs r z :=
  ⟨upd_same, by rw [upd_ne D.nl.symm]; exact D.dl, by rw [upd_ne D.nc.symm]; exact D.dc, D.lc⟩
theorem DrawAt.pop {H : Hp} {d l c : Addr} {ls ls' cs : List Int} {r t : Int} (D : DrawAt H d l c ls cs r t) : DrawAt (upd H l (.lst (ls'.map V.int))) d l c ls' cs r t :=
  ⟨by rw [upd_ne D.nl]; exact D.dd, upd_same, by rw [upd_ne D.lc.symm]; exact D.dc, D.lc⟩
theorem sameX_d {H : Hp} {d l : Addr} {o : HO} : SameX d l H (upd H d o) := fun b o e n1 n2 => by rw [upd_ne n1]; exact e
theorem sameX_l {H : Hp} {d l : Addr} {o : HO} : SameX d l H (upd H l o) := fun b o e n1 n2 => by rw [upd_ne n2]; exact e
theorem sameX_new {H : Hp} {d l p : Addr} {o : HO} (n : H p = none) : SameX d l H (upd H p o) := fun b o e n1 n2 => by rw [upd_ne (ne_of_none e n)]; exact e
theorem same_new {H : Hp} {p : Addr} {o : HO} (n : H p = none) : Same H (upd H p o) := fun b o e => by rw [upd_ne (ne_of_none e n)]; exact e
theorem int_at {ns : List Int} {i : Nat} {x : V} (h : (ns.map V.int)[i]? = some x) : ∃ z, ns[i]? = some z ∧ x = .int z := by
  rw [List.getElem?_map] at h
  cases e : ns[i]? with
  | none =>
    rw [e] at h
    cases h
  | some z =>
    rw [e] at h
    exact ⟨z, rfl, (Option.some.inj h).symm⟩
theorem merge_dr {l c : Addr} {r t : Int} : mergeK [] (drK l c r t) = drK l c r t := by
  have h1 := k12
  have h2 := k13
  have h3 := k14
  have h4 := k23
  have h5 := k24
  have h6 := k34
  simp [mergeK, putK, drK, h1, h2, h3, h4, h5, h6]
theorem yesT {s : L2.St} {H : Hp} {A B : Hp → Prop} (h : A H) : tYes s H (fun b H3 => if b = true then A H3 else B H3) := by
  show if true = true then A H else B H
  rw [if_pos rfl]
  exact h
/-! ### lists of ints as data -/
def intsD (ls : List Int) : List PyData := ls.map PyData.int
theorem ints_lay : ∀ ls : List Int, PyData.canLayAll0 (intsD ls) = true
  | [] => rfl
  | z :: r => by
    show (PyData.canLay0 (.int z) && PyData.canLayAll0 (intsD r)) = true
    rw [ints_lay r]
    rfl
theorem ints_depth : ∀ ls : List Int, PyData.depthAll (intsD ls) = 0
  | [] => rfl
  | z :: r => by
    show max (PyData.depth (.int z)) (PyData.depthAll (intsD r)) = 0
    rw [ints_depth r]
    rfl
theorem ints_shaped (ls : List Int) : SeqAt.shaped (.list (intsD ls)) = true := by
  show (PyData.canLayAll0 (intsD ls) && decide (PyData.depthAll (intsD ls) + 1 ≤ 64)) = true
  rw [ints_lay, ints_depth]
  rfl
theorem ints_dp {K : PySem.W.Frag} {H : Hp} : ∀ ls : List Int, DpAll K H (ls.map V.int) (intsD ls)
  | [] => .nil
  | z :: r => .cons (.int z) (ints_dp r)
def spBegun (K : PySem.W.Frag) : Sp := fun vs H Q _ => ∃ (a : Addr) (ns : List Int), vs = [.ref a] ∧ SqL K H a (ns.map V.int) ∧ ns.length ≤ 1000 ∧
  ∀ (d l c : Addr) (H' : Hp), H d = none → H l = none → H c = none → Same H H' → Draw H' d l c → Q (.ref d) H'
section
variable {H : Hp} {d l c : Addr} {ls cs : List Int} {r t : Int}
theorem DrawAt.gLarge (D : DrawAt H d l c ls cs r t) : DGet H d (.str "large") (some (.ref l)) := by
  have z := DGet.k (k := kLarge) D.dd
  rw [get_large] at z
  exact z
theorem DrawAt.gCells (D : DrawAt H d l c ls cs r t) : DGet H d (.str "cells") (some (.ref c)) := by
  have z := DGet.k (k := kCells) D.dd
  rw [get_cells] at z
  exact z
theorem DrawAt.gRest (D : DrawAt H d l c ls cs r t) : DGet H d (.str "rest") (some (.int r)) := by
  have z := DGet.k (k := kRest) D.dd
  rw [get_rest] at z
  exact z
theorem DrawAt.gTurn (D : DrawAt H d l c ls cs r t) : DGet H d (.str "turn") (some (.int t)) := by
  have z := DGet.k (k := kTurn) D.dd
  rw [get_turn] at z
  exact z
theorem DrawAt.pRest (D : DrawAt H d l c ls cs r t) (z : Int) : DPut H d (.str "rest") (.int z) (upd H d (.dK (drK l c z t))) := by
  have q := DPut.k (k := kRest) (v := .int z) D.dd (by show 4 < sizeLine; decide)
  rw [put_rest] at q
  exact q
theorem DrawAt.pTurn (D : DrawAt H d l c ls cs r t) (z : Int) : DPut H d (.str "turn") (.int z) (upd H d (.dK (drK l c r z))) := by
  have q := DPut.k (k := kTurn) (v := .int z) D.dd (by show 4 < sizeLine; decide)
  rw [put_turn] at q
  exact q
end
def spBlend : Sp := fun vs H Q _ => ∃ (d l c : Addr) (ls cs : List Int) (r t : Int), vs = [.ref d] ∧ DrawAt H d l c ls cs r t ∧
  ∀ (v t' : Int) (H' : Hp), DrawAt H' d l c ls cs r t' → SameX d l H H' → Q (.int v) H'
def spTake : Sp := fun vs H Q _ => ∃ (d l c : Addr) (n : Int), vs = [.ref d, .int n] ∧ Draw H d l c ∧ 0 < n ∧ n.natAbs.log2 < 9000 ∧
  ∀ (v : Int) (H' : Hp), 0 ≤ v → v < n → Draw H' d l c → SameX d l H H' → Q (.int v) H'
section
variable {P : Program} {w : World} {K : PySem.W.Frag} {mg : Str → Option Value} {base : Heap} {f fB fT : Addr} {fd fdB fdT : FuncData}
theorem scBegun : FnScope ["script", "large", "cell"] ["script"] (defScope sBegun) := ⟨rfl, rfl, rfl, by decide +kernel, rfl, by decide +kernel, by decide +kernel⟩
theorem ok_begun (F : FnP K "_law_begun" sBegun f fd) (abs0 : mg "abs" = none) : FnOk P w K mg base CX0 1 f fd ["script"] (spBegun K) := by
  refine F.ok scBegun (fun vs H Q E h => ?_) (fun cdv A outer s H vs Q E hr h => ?_)
  · obtain ⟨a, ns, rfl, _⟩ := h
    rfl
  · obtain ⟨a, ns, rfl, hS, hlen, k⟩ := h
    refine ⟨_, PSs.nox (pss_cons (ps_setLc (i := 1) (own := [("cell", 2)]) (g := gName 2) rfl scBegun.nd rfl rfl (sw_true rfl rfl rfl (by decide +kernel)) (pi_list (pv 0)) (blkOk_by (own := [("cell", 2)]) (N := ["script", "large", "cell"]) (sc := defScope sBegun) (by decide +kernel))
        (fun _ _ _ _ _ => pg_name (i := 2) scBegun.nd rfl (Or.inl rfl)) (fun _ _ _ _ _ => pts_one (pt_cmpR op_ge (pe_callB call_abs (by rfl) abs0 boot_abs (pa_cons (pv 2) pa_nil)) (pe_op op_pow pe_int pe_int) (nomark _)))
        (fun _ _ _ _ _ => pe_op op_sub (pe_callB call_abs (by rfl) abs0 boot_abs (pa_cons (pv 2) pa_nil)) (pe_op op_pow pe_int pe_int)))
      (pss_one (ps_ret (pe_disp (pps_cons pe_str (pv 1) (pps_cons pe_str (pe_lc (own := [("cell", 2)]) (g := gName 2) rfl scBegun.nd (pi_list (pv 0)) (blkOk_by (own := [("cell", 2)]) (N := ["script", "large", "cell"]) (sc := defScope sBegun) (by decide +kernel))
        (fun _ _ _ _ _ => pg_name (i := 2) scBegun.nd rfl (Or.inl rfl)) (fun _ _ _ _ _ => pts_nil) (fun _ _ _ _ _ => pe_callB call_abs (by rfl) abs0 boot_abs (pa_cons (pv 2) pa_nil)))
        (pps_cons pe_str pe_int (pps_cons pe_str pe_int pps_nil)))) (by rfl) (by rfl) (fun z => by cases z) (by decide))))), ?_⟩
    refine ⟨_, rfl, a, rfl, ⟨_, hS⟩, fun D hD => lc_list (K := K) (a := a) (xs := ns.map V.int) (fun i H' => ∃ out : List Int, H' D = some (.lst (out.map V.int)) ∧ out.length ≤ i ∧ Same H H')
      ⟨[], upd_same, Nat.le_refl _, same_new hD⟩ (fun i H' _ ⟨_, _, _, s⟩ => s.seq hS) ?_ ?_⟩
    · rintro i x H' hi ⟨out, h1, h2, s⟩
      obtain ⟨z, hz, rfl⟩ := int_at hi
      have hlt : i < ns.length := by
        by_cases q : i < ns.length
        · exact q
        · rw [List.getElem?_eq_none (by omega)] at hz
          cases hz
      refine ⟨rfl, _, rfl, _, rfl, _, _, rfl, rfl, ⟨by decide, by decide, by decide⟩, _, _, rfl, rfl, _, rfl, ?_⟩
      refine ite2 (fun _ => ?_) (fun _ => ?_)
      · refine ⟨_, rfl, _, rfl, _, _, rfl, rfl, ⟨by decide, by decide, by decide⟩, _, _, rfl, rfl, _, h1, ?_, ?_⟩
        · rw [List.length_map]
          exact small1000 (by omega)
        · exact ⟨out ++ [(if z < 0 then -z else z) - 10 ^ (18 : Int).toNat], by rw [upd_same, List.map_append]; rfl, by rw [List.length_append]; show out.length + 1 ≤ i + 1; omega, fun b o e => by rw [upd_ne (ne_of_none e hD)]; exact s b o e⟩
      · exact ⟨out, h1, by omega, s⟩
    · rintro H1 ⟨out, h1, h2, s⟩
      intro p hp
      refine ⟨_, rfl, _, rfl, a, rfl, ⟨ns.map V.int, ?_⟩, fun D2 hD2 => lc_list (K := K) (a := a) (xs := ns.map V.int) (fun i H' => ∃ out : List Int, H' D2 = some (.lst (out.map V.int)) ∧ out.length ≤ i ∧ Same (upd H1 p (.dK [])) H')
        ⟨[], upd_same, Nat.le_refl _, same_new hD2⟩ (fun i H' _ ⟨_, _, _, s2⟩ => (s.trans ((same_new hp).trans s2)).seq hS) ?_ ?_⟩
      · exact ((same_new hp).seq (s.seq hS))
      · rintro i x H' hi ⟨out2, g1, g2, s2⟩
        obtain ⟨z, hz, rfl⟩ := int_at hi
        have hlt : i < ns.length := by
          by_cases q : i < ns.length
          · exact q
          · rw [List.getElem?_eq_none (by omega)] at hz
            cases hz
        refine ⟨rfl, yesT ?_⟩
        refine ⟨_, rfl, _, rfl, _, g1, ?_, ?_⟩
        · rw [List.length_map]
          exact small1000 (by omega)
        · exact ⟨out2 ++ [(if z < 0 then -z else z)], by rw [upd_same, List.map_append]; rfl, by rw [List.length_append]; show out2.length + 1 ≤ i + 1; omega, fun b o e => by rw [upd_ne (ne_of_none e hD2)]; exact s2 b o e⟩
      · rintro H2 ⟨out2, g1, g2, s2⟩
        have hp2 : H2 p = some (.dK []) := s2 _ _ upd_same
        refine ⟨hp2, drK D D2 0 0, rfl, (by show 4 ≤ 15; decide), ?_⟩
        have nD : D ≠ p := ne_of_none h1 hp
        have nD2 : D2 ≠ p := (ne_of_none upd_same hD2).symm
        have e1 : H2 D = some (.lst (out.map V.int)) := s2 _ _ (by rw [upd_ne nD]; exact h1)
        have nDD : D ≠ D2 := ne_of_none (o := .lst (out.map V.int)) (by rw [upd_ne nD]; exact h1) hD2
        have em : mergeK [] (drK D D2 0 0) = drK D D2 0 0 := merge_dr
        rw [em]
        refine k p D D2 _ (s.free hp) hD ((s.trans (same_new hp)).free hD2) (fun b o e => ?_) ⟨out, out2, 0, 0, upd_same, by rw [upd_ne nD]; exact e1, by rw [upd_ne nD2]; exact g1, nDD⟩
        have nb : b ≠ p := ne_of_none (s b o e) hp
        rw [upd_ne nb]
        exact s2 b o (by rw [upd_ne nb]; exact s b o e)
theorem scBlend : FnScope ["draw", "turn", "found", "prime", "stirred", "cell"] ["draw"] (defScope sBlend) := ⟨rfl, rfl, rfl, by decide +kernel, rfl, by decide +kernel, by decide +kernel⟩
theorem pow_small {z q : Int} (h0 : 0 ≤ z) (h1 : z < q) (hq : q ≤ 2147483648) : CPow z 5 := ⟨by decide, by decide, by
  have e : (2 : Nat) ^ 64 = 18446744073709551616 := by decide
  omega⟩
theorem ok_blend (F : FnP K "_law_blend" sBlend f fd) (int0 : mg "int" = none) : FnOk P w K mg base CX0 1 f fd ["draw"] spBlend := by
  refine F.ok scBlend (fun vs H Q E h => ?_) (fun cdv A outer s H vs Q E hr h => ?_)
  · obtain ⟨d, l, c, ls, cs, r, t, rfl, _⟩ := h
    rfl
  · obtain ⟨d, l, c, ls, cs, r, t, rfl, D, k⟩ := h
    have hu := hu_of hr
    refine ⟨_, PSs.nox (pss_cons (ps_par (i := 1) (j := 2) (by rfl) scBlend.nd rfl rfl (by decide) rfl rfl (pa_cons (pe_op op_add (pe_dget hu (pv 0) pe_str (fun _ _ => rfl)) pe_int) (pa_cons pe_int pa_nil)) (by rfl))
      (pss_cons (ps_dput hu (pv 0) pe_str (pv 1) rfl)
      (pss_cons (ps_for PassesOwn.never rfl (pi_list (pe_lst (pa_cons pe_int (pa_cons pe_int (pa_cons pe_int pa_nil))))) (pg_name (i := 3) scBlend.nd rfl (Or.inl rfl))
        (pss_cons (ps_set (i := 4) scBlend.nd rfl (Or.inl rfl) (pe_op op_mod (pe_callTy call_int1 (by rfl) int0 boot_int (pa_cons (pe_op op_add (pe_op op_mul (pv 1) pe_int) (pe_op op_fdiv (pv 3) pe_int)) pa_nil)) (pv 3)))
        (pss_cons (ps_for PassesOwn.never rfl (pi_list (pe_dget hu (pv 0) pe_str (fun _ _ => rfl))) (pg_name (i := 5) scBlend.nd rfl (Or.inl rfl))
          (pss_one (ps_set (i := 4) scBlend.nd rfl (Or.inl rfl) (pe_op op_mod (pe_callTy call_int1 (by rfl) int0 boot_int (pa_cons (pe_op op_add (pe_op op_add (pe_op op_mul (pv 4) pe_int) (pe_callTy call_int1 (by rfl) int0 boot_int (pa_cons (pv 5) pa_nil))) pe_int) pa_nil)) (pv 3)))))
        (pss_one (ps_set (i := 2) scBlend.nd rfl (Or.inl rfl) (pe_op op_add (pe_op op_mul (pv 2) pe_int) (pe_op op_mod (pe_callTy call_int1 (by rfl) int0 boot_int (pa_cons (pe_op op_pow (pv 4) pe_int) pa_nil)) (pv 3))))))))
      (pss_one (ps_ret (pv 2)))))), ?_⟩
    refine ⟨_, rfl, d, _, rfl, D.gTurn, _, _, rfl, rfl, _, _, rfl, ?_⟩
    refine ⟨_, rfl, _, rfl, d, _, rfl, D.pTurn _, ?_⟩
    have D1 := D.turn (t + 1)
    refine ⟨(by show 3 ≤ sizeLine; decide), fun p hp => ?_⟩
    have D2 := D1.same (same_new (o := .lst ([2147483629, 2147483587, 2147483579].map V.int)) hp)
    refine ⟨p, rfl, ⟨[2147483629, 2147483587, 2147483579].map V.int, SqL.of upd_same⟩, for_list (K := K) (a := p) (xs := [2147483629, 2147483587, 2147483579].map V.int)
      (fun i σ H2 => ∃ (v : Int) (x3 x4 x5 : Option V), σ = [some (.ref d), some (.int (t + 1)), some (.int v), x3, x4, x5] ∧ H2 = upd (upd H d (.dK (drK l c r (t + 1)))) p (.lst ([2147483629, 2147483587, 2147483579].map V.int)))
      ⟨0, none, none, none, rfl, rfl⟩ (fun i σ H2 _ ⟨_, _, _, _, _, e⟩ => by rw [e]; exact SqL.of upd_same) ?_ ?_⟩
    · rintro i x σ H2 hi ⟨v, x3, x4, x5, rfl, rfl⟩
      obtain ⟨q, hq, rfl⟩ := int_at hi
      have hq2 : 0 < q ∧ q ≤ 2147483648 := by
        rcases i with _ | _ | _ | i
        · cases hq; exact ⟨by decide, by decide⟩
        · cases hq; exact ⟨by decide, by decide⟩
        · cases hq; exact ⟨by decide, by decide⟩
        · cases hq
      refine ⟨_, rfl, _, _, rfl, rfl, .inr ⟨by decide, by decide⟩, _, rfl, _, _, rfl, rfl, ⟨by decide, by decide⟩, _, _, rfl, rfl, .inl ⟨_, rfl, _, rfl, _, _, rfl, rfl, hq2.1, ?_⟩⟩
      refine ⟨_, rfl, d, _, rfl, D2.gCells, c, rfl, ⟨cs.map V.int, SqL.of D2.dc⟩, for_list (K := K) (a := c) (xs := cs.map V.int)
        (fun j σ H2 => ∃ (z : Int) (y5 : Option V), σ = [some (.ref d), some (.int (t + 1)), some (.int v), some (.int q), some (.int z), y5] ∧ 0 ≤ z ∧ z < q ∧ H2 = upd (upd H d (.dK (drK l c r (t + 1)))) p (.lst ([2147483629, 2147483587, 2147483579].map V.int)))
        ⟨_, x5, rfl, Int.emod_nonneg _ (by omega), Int.emod_lt_of_pos _ hq2.1, rfl⟩ (fun j σ H2 _ ⟨_, _, _, _, _, e⟩ => by rw [e]; exact SqL.of D2.dc) ?_ ?_⟩
      · rintro j x σ H2 hj ⟨z, y5, rfl, z0, z1, rfl⟩
        obtain ⟨u, hu2, rfl⟩ := int_at hj
        refine ⟨_, rfl, _, _, rfl, rfl, .inr ⟨by decide, by decide⟩, _, rfl, .inl ⟨_, rfl, _, _, rfl, rfl, _, _, rfl, rfl, .inl ⟨_, rfl, _, rfl, _, _, rfl, rfl, hq2.1, ?_⟩⟩⟩
        exact ⟨_, some (.int u), rfl, Int.emod_nonneg _ (by omega), Int.emod_lt_of_pos _ hq2.1, rfl⟩
      · rintro σ H2 ⟨z, y5, rfl, z0, z1, rfl⟩
        refine ⟨_, rfl, _, _, rfl, rfl, .inr ⟨by decide, by decide⟩, _, rfl, _, _, rfl, rfl, pow_small z0 z1 hq2.2, .inl ⟨_, rfl, _, rfl, _, _, rfl, rfl, hq2.1, _, _, rfl, rfl, ?_⟩⟩
        exact ⟨_, some (.int q), some (.int z), y5, rfl, rfl⟩
    · rintro σ H2 ⟨v, x3, x4, x5, rfl, rfl⟩
      exact ⟨_, rfl, k v (t + 1) _ D2 (sameX_d.trans (sameX_new hp))⟩
theorem pop_ix (n : Nat) : seqIndex? 0 (n + 1) = some 0 := by
  unfold seqIndex?
  simp
theorem scTake : FnScope ["draw", "size", "found"] ["draw", "size"] (defScope sTake) := ⟨rfl, rfl, rfl, by decide +kernel, rfl, by decide +kernel, by decide +kernel⟩
theorem ok_take (F : FnP K "_law_take" sTake f fd) (int0 : mg "int" = none) (FB : FnP K "_law_blend" sBlend fB fdB) (gB : mg "_law_blend" = some (.ref fB)) : FnOk P w K mg base CX0 2 f fd ["draw", "size"] spTake := by
  have GB : FnOk P w K mg base CX0 1 fB fdB ["draw"] spBlend := ok_blend FB int0
  have bB : Binds K fdB ["draw"] [] := FB.bindsN fun _ _ _ _ _ _ us hl => match us, hl with | [_], _ => rfl
  refine F.ok scTake (fun vs H Q E h => ?_) (fun cdv A outer s H vs Q E hr h => ?_)
  · obtain ⟨d, l, c, n, rfl, _⟩ := h
    rfl
  · obtain ⟨d, l, c, n, rfl, ⟨ls, cs, r, t, D⟩, n0, n1, k⟩ := h
    have hu := hu_of hr
    refine ⟨_, PSs.nox (pss_cons (ps_while PassesOwn.never (PW.pt (pw_and (pt_cmpR op_eq (pe_dget hu (pv 0) pe_str (fun _ _ => rfl)) pe_int (nomark _)) (pw_and1 (pt_cmpR (op_neD hr.units) (pe_dget hu (pv 0) pe_str (fun _ _ => rfl)) (pe_lst pa_nil) (nomark _)))))
        (pss_one (ps_dput hu (pv 0) pe_str (pe_bm PySem.F.plainAttrs_list PySem.F.slot_list_pop PySem.F.type_list_pop mt_popAt (pe_dget hu (pv 0) pe_str (fun _ _ => rfl)) (pa_cons pe_int pa_nil)) rfl)))
      (pss_cons (ps_if (pt_cmpR op_eq (pe_dget hu (pv 0) pe_str (fun _ _ => rfl)) pe_int (nomark _))
          (pss_one (ps_dput hu (pv 0) pe_str (pe_call GB hr rfl gB FB.kp bB .nil pass0 (pa_cons (pv 0) pa_nil)) rfl)) pss_nil)
      (pss_cons (ps_set (i := 2) scTake.nd rfl (Or.inl rfl) (pe_op op_mod (pe_callTy call_int1 (by rfl) int0 boot_int (pa_cons (pe_dget hu (pv 0) pe_str (fun _ _ => rfl)) pa_nil)) (pv 1)))
      (pss_cons (ps_dput hu (pv 0) pe_str (pe_op op_fdivW (pe_callTy call_int1 (by rfl) int0 boot_int (pa_cons (pe_dget hu (pv 0) pe_str (fun _ _ => rfl)) pa_nil)) (pv 1)) rfl)
      (pss_one (ps_ret (pv 2))))))), ?_⟩
    refine ⟨fun m σ H' => ∃ (ls' : List Int) (r' : Int), σ = [some (.ref d), some (.int n), none] ∧ DrawAt H' d l c ls' cs r' t ∧ SameX d l H H' ∧ m = ls'.length, ⟨_, ls, r, rfl, D, SameX.refl _ _ _, rfl⟩, ?_⟩
    rintro m σ H1 ⟨ls1, r1, rfl, D1, s1, rfl⟩
    refine ⟨_, rfl, d, _, rfl, D1.gRest, rfl, _, rfl, ?_⟩
    refine ite2 (fun e0 => ?_) (fun e0 => ?_)
    · refine ⟨_, rfl, d, _, rfl, D1.gLarge, ?_⟩
      refine ⟨(by show 0 ≤ sizeLine; decide), fun p hp => ?_⟩
      have D2 := D1.same (same_new (o := .lst []) hp)
      have s2 := s1.trans (sameX_new (o := .lst []) hp)
      refine ⟨.list (intsD ls1), .list [], .lst (SqL.of D2.dl) (ints_dp _), .lst (SqL.of upd_same) .nil, ints_shaped _, rfl, _, rfl, ?_⟩
      cases ls1 with
      | nil =>
        refine iteF ?_
        have D1 := D2
        have s1 := s2
        refine ⟨_, rfl, d, _, rfl, D1.gRest, rfl, _, rfl, ?_⟩
        refine ite2 (fun _ => ?_) (fun _ => ?_)
        · refine ⟨_, rfl, d, l, c, _, cs, _, t, rfl, D1, fun v t' H2 D2 s2 => ?_⟩
          have DD := D2.rest v
          have SS := (s1.trans s2).trans (sameX_d (o := .dK (drK l c v t')))
          refine ⟨_, rfl, d, _, rfl, D2.pRest v, ?_⟩
          refine ⟨_, rfl, d, _, rfl, DD.gRest, .inl ⟨_, rfl, _, rfl, _, _, rfl, rfl, n0, ?_⟩⟩
          refine ⟨_, rfl, d, _, rfl, DD.gRest, .inl ⟨_, rfl, _, rfl, _, _, rfl, rfl, ⟨n0, n1⟩, _, rfl, d, _, rfl, DD.pRest _, _, rfl, ?_⟩⟩
          exact k _ _ (Int.emod_nonneg _ (by omega)) (Int.emod_lt_of_pos _ n0) ⟨_, cs, _, _, DD.rest _⟩ (SS.trans sameX_d)
        · have DD := D1
          have SS := s1
          refine ⟨_, rfl, d, _, rfl, DD.gRest, .inl ⟨_, rfl, _, rfl, _, _, rfl, rfl, n0, ?_⟩⟩
          refine ⟨_, rfl, d, _, rfl, DD.gRest, .inl ⟨_, rfl, _, rfl, _, _, rfl, rfl, ⟨n0, n1⟩, _, rfl, d, _, rfl, DD.pRest _, _, rfl, ?_⟩⟩
          exact k _ _ (Int.emod_nonneg _ (by omega)) (Int.emod_lt_of_pos _ n0) ⟨_, cs, _, _, DD.rest _⟩ (SS.trans sameX_d)
      | cons z zs =>
        refine iteT ⟨_, fun σ' H' e => e, ?_⟩
        refine ⟨_, rfl, d, _, rfl, D2.gLarge, .inl ⟨rfl, _, SqL.of D2.dl⟩, ?_⟩
        refine ⟨l, _, _, 0, V.int z, rfl, rfl, D2.dl, by decide, by decide, pop_ix _, rfl, ?_⟩
        have D3 := D2.pop (ls' := zs)
        refine ⟨_, rfl, d, _, rfl, D3.pRest _, ?_⟩
        exact ⟨zs.length, Nat.lt_succ_self _, zs, z, rfl, D3.rest z, (s2.trans sameX_l).trans sameX_d, rfl⟩
    · refine iteF ?_
      refine ⟨_, rfl, d, _, rfl, D1.gRest, rfl, _, rfl, ?_⟩
      refine ite2 (fun _ => ?_) (fun _ => ?_)
      · refine ⟨_, rfl, d, l, c, _, cs, _, t, rfl, D1, fun v t' H2 D2 s2 => ?_⟩
        have DD := D2.rest v
        have SS := (s1.trans s2).trans (sameX_d (o := .dK (drK l c v t')))
        refine ⟨_, rfl, d, _, rfl, D2.pRest v, ?_⟩
        refine ⟨_, rfl, d, _, rfl, DD.gRest, .inl ⟨_, rfl, _, rfl, _, _, rfl, rfl, n0, ?_⟩⟩
        refine ⟨_, rfl, d, _, rfl, DD.gRest, .inl ⟨_, rfl, _, rfl, _, _, rfl, rfl, ⟨n0, n1⟩, _, rfl, d, _, rfl, DD.pRest _, _, rfl, ?_⟩⟩
        exact k _ _ (Int.emod_nonneg _ (by omega)) (Int.emod_lt_of_pos _ n0) ⟨_, cs, _, _, DD.rest _⟩ (SS.trans sameX_d)
      · have DD := D1
        have SS := s1
        refine ⟨_, rfl, d, _, rfl, DD.gRest, .inl ⟨_, rfl, _, rfl, _, _, rfl, rfl, n0, ?_⟩⟩
        refine ⟨_, rfl, d, _, rfl, DD.gRest, .inl ⟨_, rfl, _, rfl, _, _, rfl, rfl, ⟨n0, n1⟩, _, rfl, d, _, rfl, DD.pRest _, _, rfl, ?_⟩⟩
        exact k _ _ (Int.emod_nonneg _ (by omega)) (Int.emod_lt_of_pos _ n0) ⟨_, cs, _, _, DD.rest _⟩ (SS.trans sameX_d)
/-! ### _law_pick -/
def spPick (K : PySem.W.Frag) : Sp := fun vs H Q _ => ∃ (d l c a : Addr) (xs : List V), vs = [.ref d, .ref a] ∧ Draw H d l c ∧ (∀ H', SameX d l H H' → SqL K H' a xs) ∧ xs ≠ [] ∧ xs.length ≤ 1000 ∧
  ∀ (v : V) (H' : Hp), v ∈ xs → Draw H' d l c → SameX d l H H' → Q v H'
theorem log_small {n : Nat} (h : n ≤ 1000) : ((n : Int)).natAbs.log2 < 9000 := by
  have e : ((n : Int)).natAbs = n := by omega
  rw [e]
  by_cases z : n = 0
  · rw [z]
    decide
  · have k : n.log2 < 10 := (Nat.log2_lt z).mpr (by omega)
    omega
theorem scPick : FnScope ["draw", "some"] ["draw", "some"] (defScope sPick) := ⟨rfl, rfl, rfl, by decide +kernel, rfl, by decide +kernel, by decide +kernel⟩
theorem ok_pick (F : FnP K "_law_pick" sPick f fd) (len0 : mg "len" = none) (GT : FnOk P w K mg base CX0 2 fT fdT ["draw", "size"] spTake) (bT : Binds K fdT ["draw", "size"] []) (gT : mg "_law_take" = some (.ref fT)) (kT : PySem.W.keepIn K (.ref fT) = true) :
    FnOk P w K mg base CX0 3 f fd ["draw", "some"] (spPick K) := by
  refine F.ok scPick (fun vs H Q E h => ?_) (fun cdv A outer s H vs Q E hr h => ?_)
  · obtain ⟨d, l, c, a, xs, rfl, _⟩ := h
    rfl
  · obtain ⟨d, l, c, a, xs, rfl, D, hA, hne, hlen, q⟩ := h
    refine ⟨_, PSs.nox (pss_one (ps_ret (pe_ix ix_list (pv 1) (pe_call GT hr rfl gT kT bT .nil pass0 (pa_cons (pv 0) (pa_cons (pe_callB call_len (by rfl) len0 PySem.boot_len (pa_cons (pv 1) pa_nil)) pa_nil))) (fun _ _ => rfl)))), ?_⟩
    have h0 : 0 < xs.length := List.length_pos_iff.mpr hne
    refine ⟨_, rfl, _, rfl, _, rfl, _, xs.length, rfl, .inl ⟨_, hA H (SameX.refl _ _ _), rfl⟩, d, l, c, _, rfl, D, by omega, log_small hlen, fun v H' v0 v1 D' s' => ?_⟩
    obtain ⟨i, rfl⟩ : ∃ i : Nat, v = (i : Int) := ⟨v.toNat, by omega⟩
    have hi : i < xs.length := by omega
    refine ⟨a, xs, _, xs[i], rfl, rfl, hA H' s', atI_nat (by simp [hi]), ?_⟩
    exact q _ _ (List.getElem_mem hi) D' s'
end
end Dr

set_option Elab.async false
set_option linter.all false
set_option maxRecDepth 100000
set_option maxHeartbeats 4000000
set_option pp.maxSteps 3000
namespace K01
open PySem PySem.Spec PyProof.Rows L2 Dr Xv
abbrev sNum : Stmt := top 6
abbrev sWithin : Stmt := top 7
abbrev sNums : Stmt := top 8
abbrev sNumL : Stmt := top 9
abbrev sIsRow : Stmt := top 13
abbrev sChk : Stmt := top 14
abbrev sSpread : Stmt := top 15
abbrev sSect : Stmt := top 16
abbrev sWoven : Stmt := top 17
abbrev sCaught : Stmt := top 23
abbrev sSome : Stmt := top 24
abbrev sLWov : Stmt := top 25
abbrev sLaw : Stmt := top 26
abbrev sInit : Stmt := inClass (top 4) 0
/-- a plain value: nothing, a truth value, a number, a text, a list, a tuple, a dict -/
inductive PV (H : Hp) : V → Prop
  | non : PV H .non
  | bl (b : Bool) : PV H (.bl b)
  | int (i : Int) : PV H (.int i)
  | str (x : Str) : PV H (.str x)
  | lst {a : Addr} {xs : List V} : H a = some (.lst xs) → PV H (.ref a)
  | tup {a : Addr} {xs : List V} : H a = some (.tup xs) → PV H (.ref a)
  | dK {a : Addr} {kvs : List (Key × V)} : H a = some (.dK kvs) → PV H (.ref a)
theorem PV.same {H H' : Hp} {x : V} (h : PV H x) (s : Same H H') : PV H' x := by
  cases h with
  | non => exact .non
  | bl b => exact .bl b
  | int i => exact .int i
  | str x => exact .str x
  | lst e => exact .lst (s _ _ e)
  | tup e => exact .tup (s _ _ e)
  | dK e => exact .dK (s _ _ e)
def isNum : V → Bool
  | .int _ => true
  | _ => false
/-- isinstance(x, int), isinstance(x, bool) of a plain value -/
def kInt : V → Bool
  | .int _ => true
  | .bl _ => true
  | _ => false
def kBool : V → Bool
  | .bl _ => true
  | _ => false
theorem PV.ty {K : PySem.W.Frag} {H : Hp} {x : V} (h : PV H x) : ∃ t, TyX K H x t ∧ PySem.W.kitOne K t (.type "int") = some (kInt x) ∧ PySem.W.kitOne K t (.type "bool") = some (kBool x) := by
  cases h with
  | non => exact ⟨_, .base .non, kit_ty (r := false) (by decide +kernel), kit_ty (r := false) (by decide +kernel)⟩
  | bl b => exact ⟨_, .base (.bl b), kit_ty (r := true) (by decide +kernel), kit_ty (r := true) (by decide +kernel)⟩
  | int i => exact ⟨_, .base (.int i), kit_ty (r := true) (by decide +kernel), kit_ty (r := false) (by decide +kernel)⟩
  | str x => exact ⟨_, .base (.str x), kit_ty (r := false) (by decide +kernel), kit_ty (r := false) (by decide +kernel)⟩
  | lst e => exact ⟨_, .base (.lst e), kit_ty (r := false) (by decide +kernel), kit_ty (r := false) (by decide +kernel)⟩
  | tup e => exact ⟨_, .base (.tup e), kit_ty (r := false) (by decide +kernel), kit_ty (r := false) (by decide +kernel)⟩
  | dK e => exact ⟨_, .base (.dK e), kit_ty (r := false) (by decide +kernel), kit_ty (r := false) (by decide +kernel)⟩
theorem kInt_num (x : V) : (kInt x && !kBool x) = isNum x := by
  cases x <;> rfl
section
variable {P : Program} {w : World} {K : PySem.W.Frag} {mg : Str → Option Value} {base : Heap} {f : Addr} {fd : FuncData}
def spNum : Sp := fun vs H Q _ => ∃ x, vs = [x] ∧ PV H x ∧ Q (.bl (isNum x)) H
theorem scNum : FnScope ["thing"] ["thing"] (defScope sNum) := ⟨rfl, rfl, rfl, by decide +kernel, rfl, by decide +kernel, by decide +kernel⟩
theorem ok_num (F : FnP K "is_number" sNum f fd) (isi0 : mg "isinstance" = none) (int0 : mg "int" = none) (bool0 : mg "bool" = none) : FnOk P w K mg base CX0 1 f fd ["thing"] spNum := by
  refine F.ok scNum (fun vs H Q E h => ?_) (fun cdv A outer s H vs Q E hr h => ?_)
  · obtain ⟨x, rfl, _⟩ := h
    rfl
  · obtain ⟨x, rfl, hx, q⟩ := h
    refine ⟨_, PSs.nox (pss_one (ps_ret (pe_and (pe_callB call_isi (by rfl) isi0 boot_isinstance (pa_cons (pv 0) (pa_cons (pe_bltn (v := .ty "int") rfl int0 boot_int rfl) pa_nil)))
      (pe_one (pe_not (pe_callB call_isi (by rfl) isi0 boot_isinstance (pa_cons (pv 0) (pa_cons (pe_bltn (v := .ty "bool") rfl bool0 boot_bool rfl) pa_nil)))))))), ?_⟩
    obtain ⟨t, ty, k1, k2⟩ := hx.ty (K := K)
    refine ⟨_, rfl, x, _, t, _, _, rfl, .ty "int", ty, k1, kInt x, rfl, ?_⟩
    have e := kInt_num x
    cases hk : kInt x with
    | true =>
      refine iteT ⟨_, rfl, x, _, t, _, _, rfl, .ty "bool", ty, k2, kBool x, rfl, ?_⟩
      rw [hk, Bool.true_and] at e
      rw [e]
      exact q
    | false =>
      refine iteF ?_
      rw [hk, Bool.false_and] at e
      rw [e]
      exact q
/-- least <= thing <= greatest, a number -/
def within (x : V) (lo hi : Int) : Bool := match x with
  | .int i => decide (lo ≤ i) && decide (i ≤ hi)
  | _ => false
def spWithin : Sp := fun vs H Q _ => ∃ (x : V) (lo hi : Int), vs = [x, .int lo, .int hi] ∧ PV H x ∧ Q (.bl (within x lo hi)) H
theorem scWithin : FnScope ["thing", "least", "greatest"] ["thing", "least", "greatest"] (defScope sWithin) := ⟨rfl, rfl, rfl, by decide +kernel, rfl, by decide +kernel, by decide +kernel⟩
theorem ok_within {fN : Addr} {fdN : FuncData} (F : FnP K "is_within" sWithin f fd) (GN : FnOk P w K mg base CX0 1 fN fdN ["thing"] spNum) (bN : L2.Binds K fdN ["thing"] []) (gN : mg "is_number" = some (.ref fN)) (kN : PySem.W.keepIn K (.ref fN) = true) :
    FnOk P w K mg base CX0 2 f fd ["thing", "least", "greatest"] spWithin := by
  refine F.ok scWithin (fun vs H Q E h => ?_) (fun cdv A outer s H vs Q E hr h => ?_)
  · obtain ⟨x, lo, hi, rfl, _⟩ := h
    rfl
  · obtain ⟨x, lo, hi, rfl, hx, q⟩ := h
    refine ⟨_, PSs.nox (pss_one (ps_ret (pe_and (pe_call GN hr rfl gN kN bN .nil pass0 (pa_cons (pv 0) pa_nil)) (pe_one (pe_chain op_le op_le (pv 1) (pv 0) (pv 2)))))), ?_⟩
    refine ⟨_, rfl, x, rfl, hx, isNum x, rfl, ?_⟩
    cases x with
    | int i =>
      refine iteT ⟨_, rfl, _, rfl, _, _, rfl, rfl, _, rfl, ?_⟩
      have e : within (.int i) lo hi = (decide (lo ≤ i) && decide (i ≤ hi)) := rfl
      rw [e] at q
      by_cases c : lo ≤ i
      · rw [decide_eq_true c, Bool.true_and] at q
        rw [decide_eq_true c]
        exact iteT ⟨_, rfl, _, _, rfl, rfl, q⟩
      · rw [decide_eq_false c, Bool.false_and] at q
        rw [decide_eq_false c]
        exact iteF q
    | _ => exact iteF q
/-- what it holds, as a list or a tuple -/
inductive Items (H : Hp) : V → Option (List V) → Prop
  | non : Items H .non none
  | bl (b : Bool) : Items H (.bl b) none
  | int (i : Int) : Items H (.int i) none
  | str (x : Str) : Items H (.str x) none
  | lst {a : Addr} {xs : List V} : H a = some (.lst xs) → Items H (.ref a) (some xs)
  | tup {a : Addr} {xs : List V} : H a = some (.tup xs) → Items H (.ref a) (some xs)
theorem Items.same {H H' : Hp} {x : V} {o : Option (List V)} (h : Items H x o) (s : Same H H') : Items H' x o := by
  cases h with
  | non => exact .non
  | bl b => exact .bl b
  | int i => exact .int i
  | str x => exact .str x
  | lst e => exact .lst (s _ _ e)
  | tup e => exact .tup (s _ _ e)
theorem Items.pv {H : Hp} {x : V} {o : Option (List V)} (h : Items H x o) : PV H x := by
  cases h with
  | non => exact .non
  | bl b => exact .bl b
  | int i => exact .int i
  | str x => exact .str x
  | lst e => exact .lst e
  | tup e => exact .tup e
def AllPV (H : Hp) (o : Option (List V)) : Prop := ∀ xs, o = some xs → ∀ v ∈ xs, PV H v
theorem AllPV.same {H H' : Hp} {o : Option (List V)} (h : AllPV H o) (s : Same H H') : AllPV H' o := fun xs e v hv => (h xs e v hv).same s
/-! ### are_numbers -/
def spNums : Sp := fun vs H Q _ => ∃ (a : Addr) (xs : List V), vs = [.ref a] ∧ Items H (.ref a) (some xs) ∧ xs.length < sizeLine ∧ (∀ v ∈ xs, PV H v) ∧ ∀ H', Same H H' → Q (.bl (xs.all isNum)) H'
theorem scNums : FnScope ["things", "thing"] ["things"] (defScope sNums) := ⟨rfl, rfl, rfl, by decide +kernel, rfl, by decide +kernel, by decide +kernel⟩
theorem take_snoc {α β : Type} {f : α → β} {xs : List α} {i : Nat} {x : α} (h : xs[i]? = some x) : (xs.take i).map f ++ [f x] = (xs.take (i + 1)).map f := by
  obtain ⟨hi, e⟩ := List.getElem?_eq_some_iff.mp h
  rw [List.take_succ, h]
  simp
theorem take_len {α β : Type} {f : α → β} {xs : List α} {i : Nat} : ((xs.take i).map f).length ≤ xs.length := by
  rw [List.length_map, List.length_take]
  omega
theorem ok_nums {fN : Addr} {fdN : FuncData} (F : FnP K "are_numbers" sNums f fd) (all0 : mg "all" = none) (GN : FnOk P w K mg base CX0 1 fN fdN ["thing"] spNum) (bN : L2.Binds K fdN ["thing"] []) (gN : mg "is_number" = some (.ref fN)) (kN : PySem.W.keepIn K (.ref fN) = true) :
    FnOk P w K mg base CX0 2 f fd ["things"] spNums := by
  refine F.ok scNums (fun vs H Q E h => ?_) (fun cdv A outer s H vs Q E hr h => ?_)
  · obtain ⟨a, xs, rfl, _⟩ := h
    rfl
  · obtain ⟨a, xs, rfl, hi, hl, hp, q⟩ := h
    cases hi with
    | lst e =>
      refine ⟨_, PSs.nox (pss_one (ps_ret (pe_callB (cr_all rfl) (by rfl) all0 (by decide +kernel) (pa_cons (pe_lc (own := [("thing", 1)]) (g := gName 1) rfl scNums.nd (pi_list (pv 0)) (blkOk_by (own := [("thing", 1)]) (N := ["things", "thing"]) (sc := defScope sNums) (by decide +kernel))
        (fun _ _ _ _ _ => pg_name (i := 1) scNums.nd rfl (Or.inl rfl)) (fun _ _ _ _ _ => pts_nil) (fun _ _ _ _ _ => pe_call GN hr rfl gN kN bN .nil pass0 (pa_cons (pv 1) pa_nil))) pa_nil)))), ?_⟩
      refine ⟨_, rfl, a, rfl, ⟨_, SqL.of e⟩, fun D hD => lc_list (K := K) (a := a) (xs := xs) (fun i H' => H' D = some (.lst ((xs.take i).map fun v => V.bl (isNum v))) ∧ Same H H')
        ⟨upd_same, same_new hD⟩ (fun i H' _ ⟨_, s⟩ => SqL.of (s _ _ e)) ?_ ?_⟩
      · rintro i x H' hi ⟨h1, s⟩
        refine ⟨rfl, yesT ⟨_, rfl, x, rfl, (hp x (List.mem_of_getElem? hi)).same s, _, h1, ?_, ?_, ?_⟩⟩
        · exact Nat.lt_of_le_of_lt take_len hl
        · rw [upd_same, take_snoc hi]
        · exact fun b o e => by rw [upd_ne (ne_of_none e hD)]; exact s b o e
      · rintro H1 ⟨h1, s⟩
        rw [List.take_length] at h1
        refine ⟨D, xs.map isNum, rfl, ?_, ?_⟩
        · rw [List.map_map]
          exact SqL.of h1
        · have e2 : (xs.map isNum).all id = xs.all isNum := by
            rw [List.all_map]
            rfl
          rw [e2]
          exact q _ s
    | tup e =>
      refine ⟨_, PSs.nox (pss_one (ps_ret (pe_callB (cr_all rfl) (by rfl) all0 (by decide +kernel) (pa_cons (pe_lc (own := [("thing", 1)]) (g := gName 1) rfl scNums.nd (pi_tup (pv 0)) (blkOk_by (own := [("thing", 1)]) (N := ["things", "thing"]) (sc := defScope sNums) (by decide +kernel))
        (fun _ _ _ _ _ => pg_name (i := 1) scNums.nd rfl (Or.inl rfl)) (fun _ _ _ _ _ => pts_nil) (fun _ _ _ _ _ => pe_call GN hr rfl gN kN bN .nil pass0 (pa_cons (pv 1) pa_nil))) pa_nil)))), ?_⟩
      refine ⟨_, rfl, a, rfl, ⟨_, SqT.of e⟩, fun D hD => lc_tup (K := K) (a := a) (xs := xs) (fun i H' => H' D = some (.lst ((xs.take i).map fun v => V.bl (isNum v))) ∧ Same H H')
        ⟨upd_same, same_new hD⟩ (fun i H' _ ⟨_, s⟩ => SqT.of (s _ _ e)) ?_ ?_⟩
      · rintro i x H' hi ⟨h1, s⟩
        refine ⟨rfl, yesT ⟨_, rfl, x, rfl, (hp x (List.mem_of_getElem? hi)).same s, _, h1, ?_, ?_, ?_⟩⟩
        · exact Nat.lt_of_le_of_lt take_len hl
        · rw [upd_same, take_snoc hi]
        · exact fun b o e => by rw [upd_ne (ne_of_none e hD)]; exact s b o e
      · rintro H1 ⟨h1, s⟩
        rw [List.take_length] at h1
        refine ⟨D, xs.map isNum, rfl, ?_, ?_⟩
        · rw [List.map_map]
          exact SqL.of h1
        · have e2 : (xs.map isNum).all id = xs.all isNum := by
            rw [List.all_map]
            rfl
          rw [e2]
          exact q _ s
def itemsOk (x : Option (List V)) : Bool := match x with
  | some xs => xs.all isNum
  | none => false
def short (o : Option (List V)) : Prop := ∀ xs, o = some xs → xs.length < sizeLine
theorem isi_seq {H : Hp} {x : V} {o : Option (List V)} (h : Items H x o) : ∃ t, TyX K H x t ∧ PySem.W.kitAny K t [.type "list", .type "tuple"] = some o.isSome := by
  cases h with
  | non => exact ⟨_, .base .non, kitAny_cons (b := false) (kit_ty (by decide +kernel)) (fun _ => kitAny_cons (b := false) (kit_ty (by decide +kernel)) (fun _ => rfl) (fun z => nomatch z)) (fun z => nomatch z)⟩
  | bl b => exact ⟨_, .base (.bl b), kitAny_cons (b := false) (kit_ty (by decide +kernel)) (fun _ => kitAny_cons (b := false) (kit_ty (by decide +kernel)) (fun _ => rfl) (fun z => nomatch z)) (fun z => nomatch z)⟩
  | int i => exact ⟨_, .base (.int i), kitAny_cons (b := false) (kit_ty (by decide +kernel)) (fun _ => kitAny_cons (b := false) (kit_ty (by decide +kernel)) (fun _ => rfl) (fun z => nomatch z)) (fun z => nomatch z)⟩
  | str x => exact ⟨_, .base (.str x), kitAny_cons (b := false) (kit_ty (by decide +kernel)) (fun _ => kitAny_cons (b := false) (kit_ty (by decide +kernel)) (fun _ => rfl) (fun z => nomatch z)) (fun z => nomatch z)⟩
  | lst e => exact ⟨_, .base (.lst e), kitAny_cons (b := true) (kit_ty (by decide +kernel)) (fun z => nomatch z) (fun _ => rfl)⟩
  | tup e => exact ⟨_, .base (.tup e), kitAny_cons (b := false) (kit_ty (by decide +kernel)) (fun _ => kitAny_cons (b := true) (kit_ty (by decide +kernel)) (fun z => nomatch z) (fun _ => rfl)) (fun z => nomatch z)⟩
/-! ### is_number_list -/
def spNumL : Sp := fun vs H Q _ => ∃ (x : V) (o : Option (List V)), vs = [x] ∧ Items H x o ∧ short o ∧ AllPV H o ∧ ∀ H', Same H H' → Q (.bl (itemsOk o)) H'
theorem scNumL : FnScope ["thing"] ["thing"] (defScope sNumL) := ⟨rfl, rfl, rfl, by decide +kernel, rfl, by decide +kernel, by decide +kernel⟩
theorem ok_numL {fN : Addr} {fdN : FuncData} (F : FnP K "is_number_list" sNumL f fd) (isi0 : mg "isinstance" = none) (list0 : mg "list" = none) (tuple0 : mg "tuple" = none) (GN : FnOk P w K mg base CX0 2 fN fdN ["things"] spNums) (bN : L2.Binds K fdN ["things"] []) (gN : mg "are_numbers" = some (.ref fN)) (kN : PySem.W.keepIn K (.ref fN) = true) :
    FnOk P w K mg base CX0 3 f fd ["thing"] spNumL := by
  refine F.ok scNumL (fun vs H Q E h => ?_) (fun cdv A outer s H vs Q E hr h => ?_)
  · obtain ⟨x, o, rfl, _⟩ := h
    rfl
  · obtain ⟨x, o, rfl, hi, hl, hp, q⟩ := h
    refine ⟨_, PSs.nox (pss_one (ps_ret (pe_and (pe_callB call_isiT (by rfl) isi0 boot_isinstance (pa_cons (pv 0) (pa_cons (pe_tup (pa_cons (pe_bltn (v := .ty "list") rfl list0 (by decide +kernel) rfl) (pa_cons (pe_bltn (v := .ty "tuple") rfl tuple0 (by decide +kernel) rfl) pa_nil))) pa_nil)))
      (pe_one (pe_call GN hr rfl gN kN bN .nil pass0 (pa_cons (pv 0) pa_nil)))))), ?_⟩
    refine ⟨_, rfl, (by show 2 ≤ sizeLine; decide), fun tp htp => ?_⟩
    have s1 : Same H (upd H tp (.tup [.ty "list", .ty "tuple"])) := same_new htp
    obtain ⟨t, ty, k1⟩ := isi_seq (K := K) (hi.same s1)
    refine ⟨x, tp, _, t, _, o.isSome, rfl, upd_same, .cons (.ty "list") (.cons (.ty "tuple") .nil), ty, k1, o.isSome, rfl, ?_⟩
    cases o with
    | none =>
      refine iteF ?_
      exact q _ s1
    | some xs =>
      refine iteT ?_
      have hi2 := hi.same s1
      have hx : ∃ a, x = .ref a := by
        cases hi with
        | lst e => exact ⟨_, rfl⟩
        | tup e => exact ⟨_, rfl⟩
      obtain ⟨a, rfl⟩ := hx
      exact ⟨_, rfl, a, xs, rfl, hi2, hl xs rfl, fun v hv => (hp xs rfl v hv).same s1, fun H' s2 => q _ (s1.trans s2)⟩
/-! ### is_row, check_row -/
def isRow (o : Option (List V)) : Bool := match o with
  | some xs => xs.all isNum && (decide (1 ≤ (xs.length : Int)) && decide ((xs.length : Int) ≤ 3001))
  | none => false
def spIsRow : Sp := fun vs H Q _ => ∃ (x : V) (o : Option (List V)), vs = [x] ∧ Items H x o ∧ short o ∧ AllPV H o ∧ ∀ H', Same H H' → Q (.bl (isRow o)) H'
theorem scIsRow : FnScope ["thing"] ["thing"] (defScope sIsRow) := ⟨rfl, rfl, rfl, by decide +kernel, rfl, by decide +kernel, by decide +kernel⟩
theorem ok_isRow {fN : Addr} {fdN : FuncData} (F : FnP K "is_row" sIsRow f fd) (len0 : mg "len" = none) {tL : Tok} (gL : mg "LONGEST_ROW" = some (.int 3001 tL)) (GN : FnOk P w K mg base CX0 3 fN fdN ["thing"] spNumL) (bN : L2.Binds K fdN ["thing"] []) (gN : mg "is_number_list" = some (.ref fN)) (kN : PySem.W.keepIn K (.ref fN) = true) :
    FnOk P w K mg base CX0 4 f fd ["thing"] spIsRow := by
  refine F.ok scIsRow (fun vs H Q E h => ?_) (fun cdv A outer s H vs Q E hr h => ?_)
  · obtain ⟨x, o, rfl, _⟩ := h
    rfl
  · obtain ⟨x, o, rfl, hi, hl, hp, q⟩ := h
    refine ⟨_, PSs.nox (pss_one (ps_ret (pe_and (pe_call GN hr rfl gN kN bN .nil pass0 (pa_cons (pv 0) pa_nil)) (pe_one (pe_chain op_le op_le pe_int (pe_callB call_len (by rfl) len0 PySem.boot_len (pa_cons (pv 0) pa_nil)) (pe_glob (v := .int 3001) rfl gL ⟨_, rfl⟩)))))), ?_⟩
    refine ⟨_, rfl, x, o, rfl, hi, hl, hp, fun H1 s1 => ⟨itemsOk o, rfl, ?_⟩⟩
    cases o with
    | none =>
      refine iteF ?_
      exact q _ s1
    | some xs =>
      have e0 : itemsOk (some xs) = xs.all isNum := rfl
      have e1 : isRow (some xs) = (xs.all isNum && (decide (1 ≤ (xs.length : Int)) && decide ((xs.length : Int) ≤ 3001))) := rfl
      rw [e1] at q
      rw [e0]
      cases hx : xs.all isNum with
      | false =>
        rw [hx] at q
        exact iteF (q _ s1)
      | true =>
        rw [hx, Bool.true_and] at q
        refine iteT ?_
        have fin : ∀ k : Bool, (k = true → (if decide ((xs.length : Int) ≤ 3001) = true then Q (.bl true) H1 else Q (.bl false) H1)) → True := fun _ _ => trivial
        have q1 := q H1 s1
        cases hi with
        | lst e =>
          refine ⟨_, rfl, _, xs.length, rfl, .inl ⟨_, SqL.of (s1 _ _ e), rfl⟩, ?_⟩
          refine ⟨_, _, rfl, rfl, _, rfl, ?_⟩
          by_cases c : 1 ≤ (xs.length : Int)
          · rw [decide_eq_true c, Bool.true_and] at q1
            rw [decide_eq_true c]
            exact iteT ⟨_, _, rfl, rfl, q1⟩
          · rw [decide_eq_false c, Bool.false_and] at q1
            rw [decide_eq_false c]
            exact iteF q1
        | tup e =>
          refine ⟨_, rfl, _, xs.length, rfl, .inr ⟨_, SqT.of (s1 _ _ e), rfl⟩, ?_⟩
          refine ⟨_, _, rfl, rfl, _, rfl, ?_⟩
          by_cases c : 1 ≤ (xs.length : Int)
          · rw [decide_eq_true c, Bool.true_and] at q1
            rw [decide_eq_true c]
            exact iteT ⟨_, _, rfl, rfl, q1⟩
          · rw [decide_eq_false c, Bool.false_and] at q1
            rw [decide_eq_false c]
            exact iteF q1
structure Txt (K : PySem.W.Frag) (mg : Str → Option Value) (cS cN cR cT fI : Addr) : Prop where
  gS : mg "SeriesError" = some (.ref cS)
  gN : mg "BadNumber" = some (.ref cN)
  gR : mg "BadRow" = some (.ref cR)
  gT : mg "TooMany" = some (.ref cT)
  xN : PySem.W.excIn K cN [.type "ValueError", .type "Exception", .type "BaseException", .type "object"] "ValueError.__new__" = true
  xR : PySem.W.excIn K cR [.type "ValueError", .type "Exception", .type "BaseException", .type "object"] "ValueError.__new__" = true
  kN : PySem.W.keepIn K (.ref cN) = true
  kR : PySem.W.keepIn K (.ref cR) = true
  bN : PySem.W.subIn K (.ref cN) (.type "BaseException") = some true
  bR : PySem.W.subIn K (.ref cR) (.type "BaseException") = some true
  tN : PySem.W.typeIn K (.ref cN) = some (.type "type")
  tR : PySem.W.typeIn K (.ref cR) = some (.type "type")
  mN : PySem.W.exmOne K (.ref cN) (.ref cS) = some true
  mR : PySem.W.exmOne K (.ref cR) (.ref cS) = some true
  mT : PySem.W.exmOne K (.ref cT) (.ref cS) = some true
  eN : ExcC K cN
  eR : ExcC K cR
  eT : ExcC K cT
  iN : PySem.W.kitOne K (.ref cN) (.ref cN) = some true
  iR : PySem.W.kitOne K (.ref cR) (.ref cR) = some true
  iT : PySem.W.kitOne K (.ref cT) (.ref cT) = some true
  ox : OexC K cT
  iC : PySem.W.findIn K (.ref cT) "__init__" = some (some (.ref fI))
  tI : PySem.W.typeIn K (.ref fI) = some (.type "function")
  xf : XfC K cT
  no : PySem.W.findIn K (.ref cT) "most" = some none
  kS : PySem.W.keepIn K (.ref cS) = true
  rS : PySem.W.readsIn K cS (.type "type") = true
  sS : PySem.W.specialIn K (.ref cS) "__getattribute__" = some (some (.builtin "type.__getattribute__"))
  vS : PySem.W.findCls K (.ref cS) (.type "type") "__init__" = some (.val (.builtin "ValueError.__init__"))
variable {cS cN cR cT fI : Addr} {fdI : FuncData}
/-! ### TooMany -/
def spInit (C : Addr) : Sp := fun vs H Q _ => ∃ (a : Addr) (v : V), vs = [.ref a, v] ∧ H a = some (exo a C none) ∧ ∀ d, H d = none → d ≠ a → Q .non (upd (upd H d (exd d [(("most" : Str), v)])) a (exo a C (some d)))
theorem scInit : FnScope ["self", "most"] ["self", "most"] (defScope sInit) := ⟨rfl, rfl, rfl, by decide +kernel, rfl, by decide +kernel, by decide +kernel⟩
abbrev FInit (K : PySem.W.Frag) (fI : Addr) (fdI : FuncData) : Prop := FunD K "__init__" "TooMany.__init__" (defArgs sInit) (defBody sInit) (defScope sInit) [] [] fI fdI
theorem ok_init (F : FInit K fI fdI) (T : Txt K mg cS cN cR cT fI) : FnOk P w K mg base CX0 1 fI fdI ["self", "most"] (spInit cT) := by
  refine F.ok scInit (fun vs H Q E h => ?_) (fun cdv A outer s H vs Q E hr h => ?_)
  · obtain ⟨a, v, rfl, _⟩ := h
    rfl
  · obtain ⟨a, v, rfl, ha, q⟩ := h
    refine ⟨_, PSs.nox (pss_cons (ps_expr (pe_sinit rfl T.gS T.kS T.rS T.sS T.vS (pa_cons (pv 0) (pa_cons pe_str pa_nil)))) (pss_one (ps_ost (pv 0) (pv 1)))), ?_⟩
    refine ⟨_, rfl, a, cT, _, rfl, (by show 1 ≤ 1000; decide), T.ox, ha, ?_⟩
    exact ⟨_, rfl, _, rfl, a, cT, rfl, T.ox, T.no, .inl ⟨ha, fun d hd nd => q d hd nd⟩⟩
/-- raise TooMany(e): what it leaves -/
theorem tooMany_left {H : Hp} {a d C : Addr} {fs : List (Str × V)} (ha : H a = none) (hd : (upd H a (exo a C none)) d = none) (nd : d ≠ a) :
    ∀ b o, H b = some o → (upd (del (upd (upd (upd H a (exo a C none)) d (exd d fs)) a (exo a C (some d))) a) d (.xd fs)) b = some o := fun b o e => by
  rw [upd_ne nd] at hd
  have n1 : b ≠ d := ne_of_none e hd
  have n2 : b ≠ a := ne_of_none e ha
  rw [upd_ne n1, del_ne n2, upd_ne n2, upd_ne n1, upd_ne n2]
  exact e
def spChk (cR : Addr) : Sp := fun vs H Q E => ∃ (x : V) (o : Option (List V)), vs = [x] ∧ Items H x o ∧ short o ∧ AllPV H o ∧ (isRow o = true → ∀ H', Same H H' → Q .non H') ∧ (isRow o = false → ∀ H', Same H H' → E (.ref cR) none H')
theorem scChk : FnScope ["row"] ["row"] (defScope sChk) := ⟨rfl, rfl, rfl, by decide +kernel, rfl, by decide +kernel, by decide +kernel⟩
theorem ok_chk {fN : Addr} {fdN : FuncData} (F : FnP K "check_row" sChk f fd) (T : Txt K mg cS cN cR cT fI) (GN : FnOk P w K mg base CX0 4 fN fdN ["thing"] spIsRow) (bN : L2.Binds K fdN ["thing"] []) (gN : mg "is_row" = some (.ref fN)) (kN : PySem.W.keepIn K (.ref fN) = true) :
    FnOk P w K mg base (L2.CX P w) 5 f fd ["row"] (spChk cR) := by
  refine F.ok scChk (fun vs H Q E h => ?_) (fun cdv A outer s H vs Q E hr h => ?_)
  · obtain ⟨x, o, rfl, _⟩ := h
    rfl
  · obtain ⟨x, o, rfl, hi, hl, hp, q1, q2⟩ := h
    refine ⟨_, pss_one (ps_if (pt_not (pt_val (pe_call GN hr rfl gN kN bN .nil pass0 (pa_cons (pv 0) pa_nil)))) (pss_one (ps_raise rfl (takes_of rfl rfl rfl rfl) (pmk_own PySem.F.excBase_ValueError T.xR T.gR T.kR (raises_own T.bR T.tR) rfl))) pss_nil), ?_⟩
    refine ⟨_, rfl, x, o, rfl, hi, hl, hp, fun H1 s1 => ⟨isRow o, rfl, ?_⟩⟩
    cases h : isRow o with
    | true => exact iteF (q1 h _ s1)
    | false => exact iteT (q2 h _ s1)
end
end K01

set_option Elab.async false
set_option linter.all false
set_option maxRecDepth 100000
set_option maxHeartbeats 4000000
set_option pp.maxSteps 3000
namespace K01
open PySem PySem.Spec PyProof.Rows L2 Dr Xv
/-! ### row_spread -/
def zer (n : Nat) : List V := List.replicate n (.int 0)
def spread (xs : List V) (k : Nat) : List V := xs.flatMap fun x => x :: zer (k - 1)
theorem spread_len {k : Nat} (hk : 0 < k) : ∀ xs : List V, (spread xs k).length = k * xs.length
  | [] => rfl
  | x :: r => by
    show ((x :: zer (k - 1)) ++ spread r k).length = k * (r.length + 1)
    rw [List.length_append, spread_len hk r, Nat.mul_add]
    show (zer (k - 1)).length + 1 + _ = _
    rw [zer, List.length_replicate]
    omega
theorem spread_take {xs : List V} {k i : Nat} {x : V} (h : xs[i]? = some x) : spread (xs.take (i + 1)) k = spread (xs.take i) k ++ (x :: zer (k - 1)) := by
  rw [List.take_succ, h]
  show spread (xs.take i ++ [x]) k = _
  unfold spread
  rw [List.flatMap_append]
  simp
theorem spread_set {xs : List V} {k i : Nat} {x : V} (hk : 0 < k) (h : xs[i]? = some x) : (spread (xs.take i) k ++ zer (k * (xs.length - i))).set (k * i) x = spread (xs.take (i + 1)) k ++ zer (k * (xs.length - (i + 1))) := by
  obtain ⟨hi, e⟩ := List.getElem?_eq_some_iff.mp h
  have hl : (spread (xs.take i) k).length = k * i := by
    rw [spread_len hk, List.length_take]
    congr 1
    omega
  have e1 : k * (xs.length - i) = (k - 1) + k * (xs.length - (i + 1)) + 1 := by
    have e2 : xs.length - i = (xs.length - (i + 1)) + 1 := by omega
    rw [e2, Nat.mul_add]
    omega
  rw [List.set_append_right _ _ (by omega), hl, Nat.sub_self, e1]
  show _ ++ List.set (List.replicate _ _) 0 x = _
  rw [List.replicate_succ, List.set_cons_zero, spread_take h, List.append_assoc]
  congr 1
  show _ :: List.replicate _ _ = x :: (List.replicate _ _ ++ List.replicate _ _)
  rw [List.replicate_append_replicate]
section
variable {P : Program} {w : World} {K : PySem.W.Frag} {mg : Str → Option Value} {base : Heap} {f fI fC fW : Addr} {fd fdI fdC fdW : FuncData} {cS cN cR cT : Addr}
def spSpread (cN cR cT : Addr) : Sp := fun vs H Q E => ∃ (x m : V) (o : Option (List V)), vs = [x, m] ∧ Items H x o ∧ short o ∧ AllPV H o ∧ PV H m ∧ (isRow o = false → ∀ H', Same H H' → E (.ref cR) none H') ∧
  (isRow o = true → within m 1 360 = false → ∀ H', Same H H' → E (.ref cN) none H') ∧
  (∀ xs (k : Nat), o = some xs → isRow o = true → m = .int (k : Int) → 1 ≤ k → k ≤ 360 → 3001 < k * xs.length → ∀ H' d, Same H H' → H' d = some (.xd [(("most" : Str), .int 3000)]) → E (.ref cT) (some d) H') ∧
  (∀ xs (k : Nat), o = some xs → isRow o = true → m = .int (k : Int) → 1 ≤ k → k ≤ 360 → k * xs.length ≤ 3001 → ∀ H' p, Same H H' → H p = none → H' p = some (.lst (spread xs k)) → Q (.ref p) H')
theorem scSpread : FnScope ["row", "m", "spread", "n", "x"] ["row", "m"] (defScope sSpread) := ⟨rfl, rfl, rfl, by decide +kernel, rfl, by decide +kernel, by decide +kernel⟩
theorem isRow_some {o : Option (List V)} (h : isRow o = true) : ∃ xs, o = some xs ∧ xs.all isNum = true ∧ 1 ≤ xs.length ∧ xs.length ≤ 3001 := by
  cases o with
  | none => cases h
  | some xs =>
    have e1 : (xs.all isNum && (decide (1 ≤ (xs.length : Int)) && decide ((xs.length : Int) ≤ 3001))) = true := h
    simp only [Bool.and_eq_true, decide_eq_true_eq] at e1
    exact ⟨xs, rfl, e1.1, by omega, by omega⟩
theorem within_int {m : V} {lo hi : Int} (h : within m lo hi = true) : ∃ i, m = .int i ∧ lo ≤ i ∧ i ≤ hi := by
  cases m with
  | int i =>
    have e : (decide (lo ≤ i) && decide (i ≤ hi)) = true := h
    simp only [Bool.and_eq_true, decide_eq_true_eq] at e
    exact ⟨i, rfl, e.1, e.2⟩
  | _ => cases h
theorem items_ref {H : Hp} {x : V} {xs : List V} (h : Items H x (some xs)) : ∃ a, x = .ref a ∧ (H a = some (.lst xs) ∨ H a = some (.tup xs)) := by
  cases h with
  | lst e => exact ⟨_, rfl, .inl e⟩
  | tup e => exact ⟨_, rfl, .inr e⟩
theorem ok_spread (F : FnP K "row_spread" sSpread f fd) (T : Txt K mg cS cN cR cT fI) (FI : FInit K fI fdI) (len0 : mg "len" = none) (enum0 : mg "enumerate" = none) {tL tM : Tok} (gL : mg "LONGEST_ROW" = some (.int 3001 tL)) (gM : mg "MOST_ROWS" = some (.int 360 tM))
    (GC : FnOk P w K mg base (L2.CX P w) 5 fC fdC ["row"] (spChk cR)) (bC : L2.Binds K fdC ["row"] []) (gC : mg "check_row" = some (.ref fC)) (kC : PySem.W.keepIn K (.ref fC) = true)
    (GW : FnOk P w K mg base CX0 2 fW fdW ["thing", "least", "greatest"] spWithin) (bW : L2.Binds K fdW ["thing", "least", "greatest"] []) (gW : mg "is_within" = some (.ref fW)) (kW : PySem.W.keepIn K (.ref fW) = true) :
    FnOk P w K mg base (L2.CX P w) 6 f fd ["row", "m"] (spSpread cN cR cT) := by
  have GI : FnOk P w K mg base CX0 1 fI fdI ["self", "most"] (spInit cT) := ok_init FI T
  have bI : L2.Binds K fdI ["self", "most"] [] := FI.bindsN fun _ _ _ _ _ _ us hl => match us, hl with | [_, _], _ => rfl
  refine F.ok scSpread (fun vs H Q E h => ?_) (fun cdv A outer s H vs Q E hr h => ?_)
  · obtain ⟨x, m, o, rfl, _⟩ := h
    rfl
  · obtain ⟨x, m, o, rfl, hi, hl, hp, hm, q1, q2, q3, q4⟩ := h
    refine ⟨_, pss_cons (ps_expr (pe_call GC hr rfl gC kC bC .nil (passes_call (takes_of rfl rfl rfl rfl) (fun _ _ _ _ h => h)) (pa_cons (pv 0) pa_nil)))
      (pss_cons (ps_if (pt_not (pt_val (pe_call GW (hr.mono (by decide)) rfl gW kW bW .nil pass0 (pa_cons (pv 1) (pa_cons pe_int (pa_cons (pe_glob (v := .int 360) rfl gM ⟨_, rfl⟩) pa_nil)))))) (pss_one (ps_raise rfl (takes_of rfl rfl rfl rfl) (pmk_own PySem.F.excBase_ValueError T.xN T.gN T.kN (raises_own T.bN T.tN) rfl))) pss_nil)
      (pss_cons (ps_if (pt_cmpR op_gt (pe_op op_mul (pv 1) (pe_callB call_len (by rfl) len0 PySem.boot_len (pa_cons (pv 0) pa_nil))) (pe_glob (v := .int 3001) rfl gL ⟨_, rfl⟩) (nomark _))
          (pss_one (ps_raise rfl (takes_of rfl rfl rfl rfl) (pmk_oex T.ox T.iC T.tI GI (hr.mono (by decide)) bI .nil pass0 rfl T.gT (pa_cons (pe_op op_sub (pe_glob (v := .int 3001) rfl gL ⟨_, rfl⟩) pe_int) pa_nil)))) pss_nil)
      (PSs.nox (pss_cons (ps_set (i := 2) scSpread.nd rfl (Or.inl rfl) (pe_op op_rep (pe_lst (pa_cons pe_int pa_nil)) (pe_op op_mul (pv 1) (pe_callB call_len (by rfl) len0 PySem.boot_len (pa_cons (pv 0) pa_nil)))))
      (pss_cons (ps_for PassesOwn.never rfl (pi_enumT (by rfl) enum0 (pa_cons (pv 0) pa_nil)) (pg_tup rfl (pgs_cons (pg_name (i := 3) scSpread.nd rfl (Or.inl rfl)) (pgs_cons (pg_name (i := 4) scSpread.nd rfl (Or.inl rfl)) pgs_nil)))
        (pss_one (ps_asg (pv 4) (pg_sub (pv 2) (pe_op op_mul (pv 1) (pv 3)) set_list))))
      (pss_one (ps_ret (pv 2)))))))), ?_⟩
    refine ⟨_, rfl, x, o, rfl, hi, hl, hp, fun hrow H1 s1 => ?_, fun hrow H1 s1 => q1 hrow _ s1⟩
    refine ⟨_, rfl, m, 1, 360, rfl, hm.same s1, within m 1 360, rfl, ?_⟩
    cases hw : within m 1 360 with
    | false => exact iteT (q2 hrow hw _ s1)
    | true =>
      refine iteF ?_
      obtain ⟨i, rfl, i1, i2⟩ := within_int hw
      obtain ⟨k, rfl⟩ : ∃ k : Nat, i = (k : Int) := ⟨i.toNat, by omega⟩
      obtain ⟨xs, rfl, hall, l1, l2⟩ := isRow_some hrow
      obtain ⟨a, rfl, hx⟩ := items_ref hi
      have hlen : ∀ H', Same H H' → (∃ ys, SqL K H' a ys ∧ xs.length = ys.length) ∨ (∃ ys, SqT K H' a ys ∧ xs.length = ys.length) := fun H' s => by
        rcases hx with e | e
        · exact .inl ⟨xs, SqL.of (s _ _ e), rfl⟩
        · exact .inr ⟨xs, SqT.of (s _ _ e), rfl⟩
      refine ⟨_, rfl, _, rfl, _, xs.length, rfl, hlen _ s1, _, _, rfl, rfl, .inl ⟨by omega, by omega⟩, ?_⟩
      refine ⟨_, _, rfl, rfl, _, rfl, ?_⟩
      by_cases c : 3001 < k * xs.length
      · have c' : ((k : Int) * (xs.length : Int) > 3001) := by
          rw [← Int.natCast_mul]
          omega
        rw [decide_eq_true c']
        refine iteT ⟨_, _, rfl, rfl, (by show 1 ≤ 1000; decide), fun e he => ⟨e, _, rfl, upd_same, fun d hd nd => ?_⟩⟩
        refine ⟨rfl, d, [(("most" : Str), .int (3001 - 1))], upd_same, by rw [upd_ne nd, upd_same], ?_, ?_⟩
        · rw [upd_ne nd] at hd
          exact hd
        · exact q3 xs k rfl hrow rfl (by omega) (by omega) c _ d (s1.trans (tooMany_left he hd nd)) upd_same
      · have c' : ¬ ((k : Int) * (xs.length : Int) > 3001) := by
          rw [← Int.natCast_mul]
          omega
        rw [decide_eq_false c']
        refine iteF ?_
        refine ⟨(by show 1 ≤ sizeLine; decide), fun z hz => ?_⟩
        have s2 : Same H (upd H1 z (.lst [.int 0])) := s1.trans (same_new hz)
        refine ⟨_, rfl, _, rfl, _, xs.length, rfl, hlen _ s2, _, _, rfl, rfl, .inl ⟨by omega, by omega⟩, ?_⟩
        have e1 : ((k : Int) * (xs.length : Int)).toNat = k * xs.length := by
          rw [← Int.natCast_mul]
          exact Int.toNat_natCast _
        refine ⟨z, _, _, rfl, rfl, upd_same, ?_, ?_, ?_, fun p hp2 => ?_⟩
        · rw [← Int.natCast_mul]
          omega
        · rw [← Int.natCast_mul]
          omega
        · rw [e1, sizeLine_eq]
          show 1 * _ ≤ _
          omega
        · have e2 : (List.replicate ((k : Int) * (xs.length : Int)).toNat [V.int 0]).flatten = zer (k * xs.length) := by
            rw [e1]
            show _ = List.replicate _ _
            generalize k * xs.length = n
            induction n with
            | zero => rfl
            | succ n ih => rw [List.replicate_succ, List.flatten_cons, ih, List.replicate_succ]; rfl
          rw [e2]
          have s3 : Same H (upd (upd H1 z (.lst [.int 0])) p (.lst (zer (k * xs.length)))) := s2.trans (same_new hp2)
          have hpn : H p = none := by
            cases e : H p with
            | none => rfl
            | some o =>
              rw [s2 _ _ e] at hp2
              cases hp2
          have turn : ∀ (i : Nat) (v : V) (σ : L2.St) (H2 H3 : Hp), i < xs.length → (∃ y3 y4, σ = [some (.ref a), some (.int (k : Int)), some (.ref p), y3, y4] ∧ Same H H2 ∧ H2 p = some (.lst (spread (xs.take i) k ++ zer (k * (xs.length - i))))) →
              YPair (fun i => some (.int (i : Nat))) (fun i => xs[i]?) i H2 v H3 → ∃ T x, v = .ref T ∧ H3 T = some (.tup [.int (i : Nat), x]) ∧ xs[i]? = some x ∧ Same H H3 ∧ H3 p = some (.lst (spread (xs.take i) k ++ zer (k * (xs.length - i)))) := by
            rintro i v σ H2 H3 hi ⟨y3, y4, _, sa, hpp⟩ ⟨T, x1, x2, rfl, hT, rfl, e1, e2⟩
            cases Option.some.inj e1
            exact ⟨T, x2, rfl, upd_same, e2, sa.trans (same_new hT), by rw [upd_ne (ne_of_none hpp hT)]; exact hpp⟩
          have ixk : ∀ i, i < xs.length → ixN (spread (xs.take i) k ++ zer (k * (xs.length - i))).length ((k : Int) * ((i : Nat) : Int)) = some (k * i) := by
            intro i hi
            have e3 : (spread (xs.take i) k ++ zer (k * (xs.length - i))).length = k * xs.length := by
              rw [List.length_append, spread_len (by omega), List.length_take, zer, List.length_replicate]
              have e4 : min i xs.length = i := by omega
              rw [e4, ← Nat.mul_add]
              congr 1
              omega
            rw [e3]
            unfold ixN
            rw [← Int.natCast_mul]
            rw [if_pos (Int.natCast_nonneg _), if_pos ?_]
            · rfl
            · have e5 : k * i < k * xs.length := Nat.mul_lt_mul_of_pos_left hi (by omega)
              omega
          have fin : ∀ H2 : Hp, Same H H2 → H2 p = some (.lst (spread (xs.take xs.length) k ++ zer (k * (xs.length - xs.length)))) → Q (.ref p) H2 := fun H2 sa h => by
            rw [List.take_length, Nat.sub_self, Nat.mul_zero] at h
            have e6 : spread xs k ++ zer 0 = spread xs k := List.append_nil _
            rw [e6] at h
            exact q4 xs k rfl hrow rfl (by omega) (by omega) (by omega) H2 p sa hpn h
          have h00 : (upd (upd H1 z (.lst [.int 0])) p (.lst (zer (k * xs.length)))) p = some (.lst (spread (xs.take 0) k ++ zer (k * (xs.length - 0)))) := by
            rw [upd_same]
            rfl
          have put : ∀ (i : Nat) (x : V) (H3 : Hp), xs[i]? = some x → Same H H3 → H3 p = some (.lst (spread (xs.take i) k ++ zer (k * (xs.length - i)))) → Same H (upd H3 p (.lst ((spread (xs.take i) k ++ zer (k * (xs.length - i))).set (k * i) x))) ∧
              (upd H3 p (.lst ((spread (xs.take i) k ++ zer (k * (xs.length - i))).set (k * i) x))) p = some (.lst (spread (xs.take (i + 1)) k ++ zer (k * (xs.length - (i + 1))))) := fun i x H3 hx sa h => by
            refine ⟨fun b o e => ?_, ?_⟩
            · rw [upd_ne (ne_of_none e hpn)]
              exact sa b o e
            · rw [upd_same, spread_set (by omega) hx]
          rcases hx with e | e
          · refine ⟨_, rfl, a, xs, rfl, .inl ⟨SqL.of (s3 _ _ e), for_it walk_enum (fun i σ H2 => ∃ y3 y4, σ = [some (.ref a), some (.int (k : Int)), some (.ref p), y3, y4] ∧ Same H H2 ∧ H2 p = some (.lst (spread (xs.take i) k ++ zer (k * (xs.length - i)))))
              ⟨_, _, rfl, s3, h00⟩ (fun i σ H2 _ ⟨_, _, _, sa, _⟩ => SqL.of (sa _ _ e)) ?_ ?_⟩⟩
            · rintro i v σ H2 H3 hi hP hY
              obtain ⟨T', x', rfl, hT, hxx, sb, hpb⟩ := turn i v σ H2 H3 hi hP hY
              obtain ⟨y3, y4, rfl, sa, hpp⟩ := hP
              obtain ⟨g1, g2⟩ := put i x' H3 hxx sb hpb
              refine ⟨T', _, rfl, SqT.of hT, rfl, _, _, rfl, _, _, rfl, rfl, ?_⟩
              exact ⟨_, rfl, _, rfl, _, rfl, _, rfl, _, _, rfl, rfl, .inl ⟨by omega, by omega⟩, p, _, _, _, rfl, rfl, hpb, ixk i hi, _, _, rfl, g1, g2⟩
            · rintro σ H2 ⟨y3, y4, rfl, sa, h⟩
              exact ⟨_, rfl, fin H2 sa h⟩
          · refine ⟨_, rfl, a, xs, rfl, .inr ⟨SqT.of (s3 _ _ e), for_it walk_enumT (fun i σ H2 => ∃ y3 y4, σ = [some (.ref a), some (.int (k : Int)), some (.ref p), y3, y4] ∧ Same H H2 ∧ H2 p = some (.lst (spread (xs.take i) k ++ zer (k * (xs.length - i)))))
              ⟨_, _, rfl, s3, h00⟩ (fun i σ H2 _ ⟨_, _, _, sa, _⟩ => SqT.of (sa _ _ e)) ?_ ?_⟩⟩
            · rintro i v σ H2 H3 hi hP hY
              obtain ⟨T', x', rfl, hT, hxx, sb, hpb⟩ := turn i v σ H2 H3 hi hP hY
              obtain ⟨y3, y4, rfl, sa, hpp⟩ := hP
              obtain ⟨g1, g2⟩ := put i x' H3 hxx sb hpb
              refine ⟨T', _, rfl, SqT.of hT, rfl, _, _, rfl, _, _, rfl, rfl, ?_⟩
              exact ⟨_, rfl, _, rfl, _, rfl, _, rfl, _, _, rfl, rfl, .inl ⟨by omega, by omega⟩, p, _, _, _, rfl, rfl, hpb, ixk i hi, _, _, rfl, g1, g2⟩
            · rintro σ H2 ⟨y3, y4, rfl, sa, h⟩
              exact ⟨_, rfl, fin H2 sa h⟩
end
end K01

set_option Elab.async false
set_option linter.all false
set_option maxRecDepth 100000
set_option maxHeartbeats 4000000
set_option pp.maxSteps 3000
namespace K01
open PySem PySem.Spec PyProof.Rows L2 Dr Xv
/-! ### row_section -/
section
variable {P : Program} {w : World} {K : PySem.W.Frag} {mg : Str → Option Value} {base : Heap} {f fI fC fW : Addr} {fd fdI fdC fdW : FuncData} {cS cN cR cT : Addr}
def spSect (cN cR : Addr) : Sp := fun vs H Q E => ∃ (x m t : V) (o : Option (List V)), vs = [x, m, t] ∧ Items H x o ∧ (∀ a, x = .ref a → ∃ xs, H a = some (.lst xs)) ∧ short o ∧ AllPV H o ∧ PV H m ∧ PV H t ∧ (isRow o = false → ∀ H', Same H H' → E (.ref cR) none H') ∧
  (isRow o = true → within m 1 360 = false → ∀ H', Same H H' → E (.ref cN) none H') ∧
  (∀ k : Int, isRow o = true → m = .int k → 1 ≤ k → k ≤ 360 → within t 0 (k - 1) = false → ∀ H', Same H H' → E (.ref cN) none H') ∧
  (∀ xs (k j : Nat), o = some xs → isRow o = true → m = .int (k : Int) → t = .int (j : Int) → 1 ≤ k → k ≤ 360 → j < k → xs.length ≤ j → ∀ H', Same H H' → E (.ref cR) none H') ∧
  (∀ xs (k j : Nat), o = some xs → isRow o = true → m = .int (k : Int) → t = .int (j : Int) → 1 ≤ k → k ≤ 360 → j < k → j < xs.length → ∀ H' p, Same H H' → H p = none → H' p = some (.lst (stepV xs j k)) → Q (.ref p) H')
theorem scSect : FnScope ["row", "m", "t"] ["row", "m", "t"] (defScope sSect) := ⟨rfl, rfl, rfl, by decide +kernel, rfl, by decide +kernel, by decide +kernel⟩
theorem free_back {H H1 : Hp} {p : Addr} (s : Same H H1) (h : H1 p = none) : H p = none := by
  cases e : H p with
  | none => rfl
  | some o =>
    rw [s _ _ e] at h
    cases h
theorem ok_sect (F : FnP K "row_section" sSect f fd) (T : Txt K mg cS cN cR cT fI) (len0 : mg "len" = none) (list0 : mg "list" = none) {tM : Tok} (gM : mg "MOST_ROWS" = some (.int 360 tM))
    (GC : FnOk P w K mg base (L2.CX P w) 5 fC fdC ["row"] (spChk cR)) (bC : L2.Binds K fdC ["row"] []) (gC : mg "check_row" = some (.ref fC)) (kC : PySem.W.keepIn K (.ref fC) = true)
    (GW : FnOk P w K mg base CX0 2 fW fdW ["thing", "least", "greatest"] spWithin) (bW : L2.Binds K fdW ["thing", "least", "greatest"] []) (gW : mg "is_within" = some (.ref fW)) (kW : PySem.W.keepIn K (.ref fW) = true) :
    FnOk P w K mg base (L2.CX P w) 6 f fd ["row", "m", "t"] (spSect cN cR) := by
  refine F.ok scSect (fun vs H Q E h => ?_) (fun cdv A outer s H vs Q E hr h => ?_)
  · obtain ⟨x, m, t, o, rfl, _⟩ := h
    rfl
  · obtain ⟨x, m, t, o, rfl, hi, hL, hl, hp, hm, ht, q1, q2, q3, q4, q5⟩ := h
    refine ⟨_, pss_cons (ps_expr (pe_call GC hr rfl gC kC bC .nil (passes_call (takes_of rfl rfl rfl rfl) (fun _ _ _ _ h => h)) (pa_cons (pv 0) pa_nil)))
      (pss_cons (ps_if (pt_not (pt_val (pe_call GW (hr.mono (by decide)) rfl gW kW bW .nil pass0 (pa_cons (pv 1) (pa_cons pe_int (pa_cons (pe_glob (v := .int 360) rfl gM ⟨_, rfl⟩) pa_nil)))))) (pss_one (ps_raise rfl (takes_of rfl rfl rfl rfl) (pmk_own PySem.F.excBase_ValueError T.xN T.gN T.kN (raises_own T.bN T.tN) rfl))) pss_nil)
      (pss_cons (ps_if (pt_not (pt_val (pe_call GW (hr.mono (by decide)) rfl gW kW bW .nil pass0 (pa_cons (pv 2) (pa_cons pe_int (pa_cons (pe_op op_sub (pv 1) pe_int) pa_nil)))))) (pss_one (ps_raise rfl (takes_of rfl rfl rfl rfl) (pmk_own PySem.F.excBase_ValueError T.xN T.gN T.kN (raises_own T.bN T.tN) rfl))) pss_nil)
      (pss_cons (ps_if (pt_cmpR op_ge (pv 2) (pe_callB call_len (by rfl) len0 PySem.boot_len (pa_cons (pv 0) pa_nil)) (nomark _)) (pss_one (ps_raise rfl (takes_of rfl rfl rfl rfl) (pmk_own PySem.F.excBase_ValueError T.xR T.gR T.kR (raises_own T.bR T.tR) rfl))) pss_nil)
      (PSs.nox (pss_one (ps_ret (pe_callTy call_list_of (by rfl) list0 (by decide +kernel) (pa_cons (pe_stepL (pv 0) (po_some (pv 2)) (po_some (pv 1))) pa_nil)))))))), ?_⟩
    refine ⟨_, rfl, x, o, rfl, hi, hl, hp, fun hrow H1 s1 => ?_, fun hrow H1 s1 => q1 hrow _ s1⟩
    refine ⟨_, rfl, m, 1, 360, rfl, hm.same s1, within m 1 360, rfl, ?_⟩
    cases hw : within m 1 360 with
    | false => exact iteT (q2 hrow hw _ s1)
    | true =>
      refine iteF ?_
      obtain ⟨i, rfl, i1, i2⟩ := within_int hw
      obtain ⟨k, rfl⟩ : ∃ k : Nat, i = (k : Int) := ⟨i.toNat, by omega⟩
      refine ⟨_, rfl, _, rfl, _, _, rfl, rfl, t, 0, _, rfl, ht.same s1, within t 0 ((k : Int) - 1), rfl, ?_⟩
      cases hw2 : within t 0 ((k : Int) - 1) with
      | false => exact iteT (q3 k hrow rfl i1 i2 hw2 _ s1)
      | true =>
        refine iteF ?_
        obtain ⟨j', rfl, j1, j2⟩ := within_int hw2
        obtain ⟨j, rfl⟩ : ∃ j : Nat, j' = (j : Int) := ⟨j'.toNat, by omega⟩
        obtain ⟨xs, rfl, hall, l1, l2⟩ := isRow_some hrow
        obtain ⟨a, rfl, hx⟩ := items_ref hi
        have e : H a = some (.lst xs) := by
          rcases hx with e | e
          · exact e
          · obtain ⟨ys, e2⟩ := hL a rfl
            rw [e] at e2
            cases e2
        refine ⟨_, rfl, _, rfl, _, xs.length, rfl, .inl ⟨_, SqL.of (s1 _ _ e), rfl⟩, _, _, rfl, rfl, _, rfl, ?_⟩
        by_cases c : xs.length ≤ j
        · have c' : ((j : Int) ≥ (xs.length : Int)) := by omega
          rw [decide_eq_true c']
          exact iteT (q4 xs k j rfl hrow rfl rfl (by omega) (by omega) (by omega) c _ s1)
        · have c' : ¬ ((j : Int) ≥ (xs.length : Int)) := by omega
          rw [decide_eq_false c']
          refine iteF ?_
          refine ⟨_, rfl, _, rfl, _, rfl, _, rfl, _, rfl, a, xs, j, k, rfl, rfl, rfl, by omega, by omega, SqL.of (s1 _ _ e), fun p hp2 => ?_⟩
          have s2 : Same H (upd H1 p (.lst (stepV xs j k))) := s1.trans (same_new hp2)
          refine ⟨p, _, rfl, .inl (SqL.of upd_same), fun l hl2 => ?_⟩
          exact q5 xs k j rfl hrow rfl rfl (by omega) (by omega) (by omega) (by omega) _ l (s2.trans (same_new hl2)) (free_back s2 hl2) upd_same
end
end K01

set_option Elab.async false
set_option linter.all false
set_option maxRecDepth 100000
set_option maxHeartbeats 4000000
set_option pp.maxSteps 3000
namespace K01
open PySem PySem.Spec PyProof.Rows L2 Dr Xv
/-! ### row_woven: the mathematics -/
/-- how many coefficients are known: the least m * len + t -/
def IsSize (ls : List (List V)) (s : Nat) : Prop := (∃ t l, ls[t]? = some l ∧ s = ls.length * l.length + t) ∧ ∀ t l, ls[t]? = some l → s ≤ ls.length * l.length + t
def wovenAt (ls : List (List V)) (n : Nat) : V := ((ls.getD (n % ls.length) []).getD (n / ls.length) .non)
def woven (ls : List (List V)) (s : Nat) : List V := (List.range s).map (wovenAt ls)
theorem lt_at {m k t n : Nat} (hm : 0 < m) (ht : t = n % m) : n / m < k ↔ n < m * k + t := by
  have e := Nat.div_add_mod n m
  subst ht
  constructor
  · intro h
    have h1 : m * (n / m) < m * k := Nat.mul_lt_mul_of_pos_left h hm
    omega
  · intro h
    refine Nat.lt_of_not_le fun h2 => ?_
    have h1 : m * k ≤ m * (n / m) := Nat.mul_le_mul_left m h2
    omega
/-- n stands below the size: its place is there -/
theorem size_lt {ls : List (List V)} {s n : Nat} (hs : IsSize ls s) (h : n < s) : ∃ l v, ls[n % ls.length]? = some l ∧ l[n / ls.length]? = some v ∧ n / ls.length < l.length ∧ wovenAt ls n = v := by
  obtain ⟨⟨t0, l0, e0, _⟩, h2⟩ := hs
  have hm : 0 < ls.length := by
    have := (List.getElem?_eq_some_iff.mp e0).1
    omega
  have hlt : n % ls.length < ls.length := Nat.mod_lt _ hm
  have e1 : ls[n % ls.length]? = some ls[n % ls.length] := by simp [hlt]
  have h3 := h2 _ _ e1
  have h4 : n / ls.length < ls[n % ls.length].length := (lt_at hm rfl).mpr (by omega)
  refine ⟨_, ls[n % ls.length][n / ls.length], e1, by simp [h4], h4, ?_⟩
  unfold wovenAt
  rw [List.getD_eq_getElem?_getD, List.getD_eq_getElem?_getD (l := ls), e1]
  simp [h4]
theorem size_at {ls : List (List V)} {s : Nat} (hs : IsSize ls s) : ∃ l, ls[s % ls.length]? = some l ∧ ¬ s / ls.length < l.length := by
  obtain ⟨⟨t, l, e, h1⟩, _⟩ := hs
  have ht : t < ls.length := (List.getElem?_eq_some_iff.mp e).1
  have hm : 0 < ls.length := by omega
  have e1 : s % ls.length = t := by
    rw [h1, Nat.mul_add_mod, Nat.mod_eq_of_lt ht]
  have e2 : s / ls.length = l.length := by
    rw [h1, Nat.mul_add_div hm, Nat.div_eq_of_lt ht, Nat.add_zero]
  rw [e1, e2]
  exact ⟨l, e, Nat.lt_irrefl _⟩
abbrev rLen (K : PySem.W.Frag) : List V → Hp → VK → Prop := fun xs H Q => ∃ x n, xs = [x] ∧ LenV K x H n ∧ Q (V.int (n : Nat)) H
section
variable {P : Program} {w : World} {K : PySem.W.Frag} {mg : Str → Option Value} {base : Heap} {f fI fC fW : Addr} {fd fdI fdC fdW : FuncData} {cS cN cR cT : Addr}
/-- the rows' items -/
def RowsAt (H : Hp) (rs : List V) (os : List (Option (List V))) : Prop := os.length = rs.length ∧ ∀ (i : Nat) (r : V), rs[i]? = some r → ∃ o, os[i]? = some o ∧ Items H r o ∧ short o ∧ AllPV H o
theorem RowsAt.same {H H' : Hp} {rs : List V} {os : List (Option (List V))} (h : RowsAt H rs os) (s : Same H H') : RowsAt H' rs os := ⟨h.1, fun i r e => by
  obtain ⟨o, e1, e2, e3, e4⟩ := h.2 i r e
  exact ⟨o, e1, e2.same s, e3, e4.same s⟩⟩
def spWoven (cR cT : Addr) : Sp := fun vs H Q E => ∃ (x : V) (o : Option (List V)), vs = [x] ∧ Items H x o ∧ short o ∧ (o = none → ∀ H', Same H H' → E (.ref cR) none H') ∧
  (∀ rs, o = some rs → ¬ (1 ≤ rs.length ∧ rs.length ≤ 360) → ∀ H', Same H H' → E (.ref cR) none H') ∧
  (∀ rs, o = some rs → 1 ≤ rs.length ∧ rs.length ≤ 360 → ∃ os, RowsAt H rs os ∧ ((∃ x ∈ os, isRow x = false) → ∀ H', Same H H' → E (.ref cR) none H') ∧
    (∀ ls s, os = ls.map some → (∀ x ∈ os, isRow x = true) → IsSize ls s → (3001 < s → ∀ H' d, Same H H' → H' d = some (.xd [(("most" : Str), .int 3000)]) → E (.ref cT) (some d) H') ∧
      (s ≤ 3001 → ∀ H' p, Same H H' → H p = none → H' p = some (.lst (woven ls s)) → Q (.ref p) H')))
theorem scWoven : FnScope ["rows", "row", "m", "size", "t", "n"] ["rows"] (defScope sWoven) := ⟨rfl, rfl, rfl, by decide +kernel, rfl, by decide +kernel, by decide +kernel⟩
theorem ok_woven (F : FnP K "row_woven" sWoven f fd) (T : Txt K mg cS cN cR cT fI) (FI : FInit K fI fdI) (len0 : mg "len" = none) (isi0 : mg "isinstance" = none) (list0 : mg "list" = none) (tuple0 : mg "tuple" = none) (min0 : mg "min" = none) (range0 : mg "range" = none) (enum0 : mg "enumerate" = none)
    {tL tM : Tok} (gL : mg "LONGEST_ROW" = some (.int 3001 tL)) (gM : mg "MOST_ROWS" = some (.int 360 tM))
    (GC : FnOk P w K mg base (L2.CX P w) 5 fC fdC ["row"] (spChk cR)) (bC : L2.Binds K fdC ["row"] []) (gC : mg "check_row" = some (.ref fC)) (kC : PySem.W.keepIn K (.ref fC) = true) :
    FnOk P w K mg base (L2.CX P w) 6 f fd ["rows"] (spWoven cR cT) := by
  have GI : FnOk P w K mg base CX0 1 fI fdI ["self", "most"] (spInit cT) := ok_init FI T
  have bI : L2.Binds K fdI ["self", "most"] [] := FI.bindsN fun _ _ _ _ _ _ us hl => match us, hl with | [_, _], _ => rfl
  refine F.ok scWoven (fun vs H Q E h => ?_) (fun cdv A outer s H vs Q E hr h => ?_)
  · obtain ⟨x, o, rfl, _⟩ := h
    rfl
  · obtain ⟨x, o, rfl, hi, hl, q1, q2, q3⟩ := h
    refine ⟨_, pss_cons (ps_if (PW.pt (pw_or (pt_not (pt_val (pe_callB call_isiT (by rfl) isi0 boot_isinstance (pa_cons (pv 0) (pa_cons (pe_tup (pa_cons (pe_bltn (v := .ty "list") rfl list0 (by decide +kernel) rfl) (pa_cons (pe_bltn (v := .ty "tuple") rfl tuple0 (by decide +kernel) rfl) pa_nil))) pa_nil)))))
        (pw_or1 (pt_not (pt_chain op_le op_le pe_int (pe_callB call_len (by rfl) len0 PySem.boot_len (pa_cons (pv 0) pa_nil)) (pe_glob (v := .int 360) rfl gM ⟨_, rfl⟩))))))
        (pss_one (ps_raise rfl (takes_of rfl rfl rfl rfl) (pmk_own PySem.F.excBase_ValueError T.xR T.gR T.kR (raises_own T.bR T.tR) rfl))) pss_nil)
      (pss_cons (ps_for (passes_of rfl) rfl (pi_seq (pv 0)) (pg_name (i := 1) scWoven.nd rfl (Or.inl rfl))
        (pss_one (ps_expr (pe_call GC hr rfl gC kC bC .nil (passes_call (takes_of rfl rfl rfl rfl) (fun _ _ _ _ h => h)) (pa_cons (pv 1) pa_nil)))))
      (pss_cons (ps_set (i := 2) scWoven.nd rfl (Or.inr rfl) (pe_callB call_len (by rfl) len0 PySem.boot_len (pa_cons (pv 0) pa_nil)))
      (pss_cons (ps_set (i := 3) scWoven.nd rfl (Or.inl rfl) (pe_callB (cr_min rfl) (by rfl) min0 (by decide +kernel) (pa_cons (pe_lc (own := [("t", 4), ("row", 1)]) (g := gTup K 2 (gCons (gName 4) (gCons (gName 1) gNil))) rfl scWoven.nd (pi_enumT (by rfl) enum0 (pa_cons (pv 0) pa_nil)) (blkOk_by (own := [("t", 4), ("row", 1)]) (N := ["rows", "row", "m", "size", "t", "n"]) (sc := defScope sWoven) (by decide +kernel))
          (fun _ _ _ _ _ => pg_tup rfl (pgs_cons (pg_name (i := 4) scWoven.nd rfl (Or.inl rfl)) (pgs_cons (pg_name (i := 1) scWoven.nd rfl (Or.inl rfl)) pgs_nil))) (fun _ _ _ _ _ => pts_nil)
          (fun _ _ _ _ _ => pe_op op_add (pe_op op_mul (pv 2) (pe_callB (r := rLen K) call_len (by rfl) len0 PySem.boot_len (pa_cons (pv 1) pa_nil))) (pv 4))) pa_nil)))
      (pss_cons (ps_if (pt_cmpR op_gt (pv 3) (pe_glob (v := .int 3001) rfl gL ⟨_, rfl⟩) (nomark _))
          (pss_one (ps_raise rfl (takes_of rfl rfl rfl rfl) (pmk_oex T.ox T.iC T.tI GI (hr.mono (by decide)) bI .nil pass0 rfl T.gT (pa_cons (pe_op op_sub (pe_glob (v := .int 3001) rfl gL ⟨_, rfl⟩) pe_int) pa_nil)))) pss_nil)
      (PSs.nox (pss_one (ps_ret (pe_lc (own := [("n", 5)]) (g := gName 5) rfl scWoven.nd (pi_range1 (by rfl) range0 (pa_cons (pv 3) pa_nil)) (blkOk_by (own := [("n", 5)]) (N := ["rows", "row", "m", "size", "t", "n"]) (sc := defScope sWoven) (by decide +kernel))
          (fun _ _ _ _ _ => pg_name (i := 5) scWoven.nd rfl (Or.inl rfl)) (fun _ _ _ _ _ => pts_nil)
          (fun _ _ _ _ _ => pe_ix (r := rIx K) ix_seq (pe_ix (r := rIx K) ix_seq (pv 0) (pe_op op_modN (pv 5) (pv 2)) (fun _ _ => rfl)) (pe_op op_fdivN (pv 5) (pv 2)) (fun _ _ => rfl)))))))))), ?_⟩
    refine ⟨_, rfl, (by show 2 ≤ sizeLine; decide), fun tp htp => ?_⟩
    have s1 : Same H (upd H tp (.tup [.ty "list", .ty "tuple"])) := same_new htp
    obtain ⟨tt, ty, k1⟩ := isi_seq (K := K) (hi.same s1)
    refine ⟨x, tp, _, tt, _, o.isSome, rfl, upd_same, .cons (.ty "list") (.cons (.ty "tuple") .nil), ty, k1, o.isSome, rfl, ?_⟩
    generalize upd H tp (.tup [.ty "list", .ty "tuple"]) = H1 at s1 ty
    cases o with
    | none => exact iteT (q1 rfl _ s1)
    | some rs =>
      refine iteF ?_
      obtain ⟨a, rfl, hx⟩ := items_ref hi
      have hlen : ∀ H', Same H H' → LenV K (.ref a) H' rs.length := fun H' s => by
        rcases hx with e | e
        · exact .inl ⟨rs, SqL.of (s _ _ e), rfl⟩
        · exact .inr ⟨rs, SqT.of (s _ _ e), rfl⟩
      refine ⟨_, rfl, _, rs.length, rfl, hlen _ s1, _, _, rfl, rfl, _, rfl, ?_⟩
      by_cases c1 : 1 ≤ rs.length
      · have c1' : (1 : Int) ≤ (rs.length : Int) := by omega
        rw [decide_eq_true c1']
        refine iteT ⟨_, _, rfl, rfl, _, rfl, ?_⟩
        by_cases c2 : rs.length ≤ 360
        · have c2' : (rs.length : Int) ≤ 360 := by omega
          rw [decide_eq_true c2']
          refine iteF ?_
          obtain ⟨os, hR, qE, qD⟩ := q3 rs rfl ⟨c1, c2⟩
          have turn : ∀ (i : Nat) (x : V) (H2 : Hp), rs[i]? = some x → Same H H2 → ∃ o, os[i]? = some o ∧ Items H2 x o ∧ short o ∧ AllPV H2 o := fun i x H2 hx s => by
            obtain ⟨o, e1, e2, e3, e4⟩ := hR.2 i x hx
            exact ⟨o, e1, e2.same s, e3, e4.same s⟩
          rcases hx with e | e
          · refine ⟨_, rfl, a, rfl, .inl ⟨⟨rs, SqL.of (s1 _ _ e)⟩, for_it walk_list (fun i σ H2 => ∃ y1, σ = [some (.ref a), y1, none, none, none, none] ∧ Same H H2 ∧ ∀ j : Nat, j < i → ∀ o, os[j]? = some o → isRow o = true)
              ⟨_, rfl, s1, fun j hj => absurd hj (Nat.not_lt_zero _)⟩ (fun i σ H2 _ ⟨_, _, sa, _⟩ => SqL.of (sa _ _ e)) ?_ ?_⟩⟩
            · rintro i x σ H2 H3 hi ⟨y1, rfl, sa, hall⟩ ⟨rfl, hx⟩
              obtain ⟨o, e1, e2, e3, e4⟩ := turn i x _ hx sa
              refine ⟨_, rfl, x, o, rfl, e2, e3, e4, fun hrow H4 s4 => ⟨_, rfl, sa.trans s4, fun j hj o' ho' => ?_⟩, fun hrow H4 s4 => qE ⟨o, List.mem_of_getElem? e1, hrow⟩ _ (sa.trans s4)⟩
              by_cases ej : j = i
              · subst ej
                rw [e1] at ho'
                cases ho'
                exact hrow
              · exact hall j (by omega) o' ho'
            · rintro σ H2 ⟨y1, rfl, sa, hall⟩
              have hall2 : ∀ o ∈ os, isRow o = true := fun o ho => by
                obtain ⟨j, hj⟩ := List.mem_iff_getElem?.mp ho
                have hj2 := (List.getElem?_eq_some_iff.mp hj).1
                rw [hR.1] at hj2
                exact hall j hj2 o hj
              obtain ⟨ls, rfl⟩ : ∃ ls : List (List V), os = ls.map some := ⟨os.map fun o => o.getD [], by
                rw [List.map_map]
                refine (List.map_id' os).symm.trans ?_
                refine List.map_congr_left fun o ho => ?_
                obtain ⟨xs, rfl, _⟩ := isRow_some (hall2 o ho)
                rfl⟩
              have hll : ls.length = rs.length := by
                have z := hR.1
                rwa [List.length_map] at z
              have at_ : ∀ (i : Nat) (x : V) (H2 : Hp), rs[i]? = some x → Same H H2 → ∃ l, ls[i]? = some l ∧ (∃ b, x = .ref b ∧ (H2 b = some (.lst l) ∨ H2 b = some (.tup l))) ∧ l.length ≤ 3001 := fun i x H2 hx s => by
                obtain ⟨o, e1, e2, e3, e4⟩ := turn i x H2 hx s
                have hrow := hall2 o (List.mem_of_getElem? e1)
                rw [List.getElem?_map] at e1
                obtain ⟨l, e5, rfl⟩ := Option.map_eq_some_iff.mp e1
                obtain ⟨xs, e6, _, _, l2⟩ := isRow_some hrow
                cases e6
                exact ⟨l, e5, items_ref e2, l2⟩
              refine ⟨_, rfl, _, rs.length, rfl, hlen _ sa, ?_⟩
              refine ⟨_, rfl, a, rs, rfl, .inl ⟨SqL.of (sa _ _ e), fun D hD => lc_it walk_enum (fun i H' => H' D = some (.lst (((List.range i).map fun j => ((rs.length * (ls.getD j []).length + j : Nat) : Int)).map V.int)) ∧ Same H H')
                ⟨by rw [upd_same]; rfl, sa.trans (same_new hD)⟩ (fun i H' _ ⟨_, sb⟩ => SqL.of (sb _ _ e)) ?_ ?_⟩⟩
              · rintro i v H3 H4 hi ⟨h3, sb⟩ ⟨T', x1, x2, rfl, hT, rfl, e1, e2⟩
                cases Option.some.inj e1
                have s4 : Same H (upd H3 T' (.tup [.int (i : Nat), x2])) := sb.trans (same_new hT)
                obtain ⟨l, e5, ⟨b, rfl, hb⟩, hl3⟩ := at_ i x2 _ e2 s4
                have lb : LenV K (.ref b) (upd H3 T' (.tup [.int (i : Nat), .ref b])) l.length := by
                  rcases hb with hb | hb
                  · exact .inl ⟨l, SqL.of hb, rfl⟩
                  · exact .inr ⟨l, SqT.of hb, rfl⟩
                have hgd : ls.getD i [] = l := by rw [List.getD_eq_getElem?_getD, e5]; rfl
                have hDT : D ≠ T' := ne_of_none h3 hT
                refine ⟨T', _, rfl, SqT.of upd_same, rfl, _, _, rfl, _, _, rfl, rfl, rfl, yesT ?_⟩
                refine ⟨_, rfl, _, rfl, _, l.length, rfl, lb, _, _, rfl, rfl, .inl ⟨by omega, by omega⟩, _, rfl, _, _, rfl, rfl, _, by rw [upd_ne hDT]; exact h3, ?_, ?_, ?_⟩
                · rw [List.length_map, List.length_map, List.length_range, sizeLine_eq]
                  omega
                · rw [upd_same, List.range_succ, List.map_append, List.map_append]
                  show _ = some (HO.lst (_ ++ [V.int ((rs.length * (ls.getD i []).length + i : Nat) : Int)]))
                  rw [hgd]
                  congr 4

                · intro b' o' e'
                  rw [upd_ne (ne_of_none (sa _ _ e') hD)]
                  exact s4 _ _ e'
              · rintro H3 ⟨h3, sb⟩
                refine ⟨D, _, rfl, SqL.of h3, ?_, fun mn hmem hmin => ?_⟩
                · rw [List.length_map, List.length_range]
                  omega
                · obtain ⟨t0, ht0, et0⟩ := List.mem_map.mp hmem
                  rw [List.mem_range] at ht0
                  have e8 : ls[t0]? = some (ls.getD t0 []) := by
                    rw [List.getD_eq_getElem?_getD]
                    have : t0 < ls.length := by omega
                    simp [this]
                  obtain ⟨s, rfl⟩ : ∃ s : Nat, mn = (s : Int) := ⟨_, et0.symm⟩
                  have hs : IsSize ls s := by
                    refine ⟨⟨t0, _, e8, ?_⟩, fun t l hl => ?_⟩
                    · rw [hll]
                      first | omega | skip
                    · have htl := (List.getElem?_eq_some_iff.mp hl).1
                      have hg : ls.getD t [] = l := by rw [List.getD_eq_getElem?_getD, hl]; rfl
                      have z := hmin ((rs.length * (ls.getD t []).length + t : Nat) : Int) (List.mem_map.mpr ⟨t, List.mem_range.mpr (by omega), rfl⟩)
                      rw [hg] at z
                      rw [hll]
                      omega
                  obtain ⟨qB, qG⟩ := qD ls s rfl hall2 hs
                  refine ⟨_, rfl, _, _, rfl, rfl, _, rfl, ?_⟩
                  by_cases c : 3001 < s
                  · have c' : ((s : Int) > 3001) := by omega
                    rw [decide_eq_true c']
                    refine iteT ⟨_, _, rfl, rfl, (by show 1 ≤ 1000; decide), fun e he => ⟨e, _, rfl, upd_same, fun d hd nd => ?_⟩⟩
                    refine ⟨rfl, d, [(("most" : Str), .int (3001 - 1))], upd_same, by rw [upd_ne nd, upd_same], ?_, ?_⟩
                    · rw [upd_ne nd] at hd
                      exact hd
                    · exact qB c _ d (sb.trans (tooMany_left he hd nd)) upd_same
                  · have c' : ¬ ((s : Int) > 3001) := by omega
                    rw [decide_eq_false c']
                    refine iteF ?_
                    refine ⟨_, rfl, _, rfl, by omega, by omega, fun D2 hD2 => lc_range (lo := 0) (n := s) (fun i H' => H' D2 = some (.lst ((List.range i).map (wovenAt ls))) ∧ Same H H')
                      ⟨by rw [upd_same]; rfl, sb.trans (same_new hD2)⟩ ?_ ?_⟩
                    · rintro i H4 hi ⟨h4, sc⟩
                      obtain ⟨l, v, e9, e10, hlt, e11⟩ := size_lt hs hi
                      rw [hll] at e9 e10 hlt
                      have hr1 : i % rs.length < rs.length := Nat.mod_lt _ (by omega)
                      have e12 : rs[i % rs.length]? = some rs[i % rs.length] := by simp [hr1]
                      obtain ⟨l', e13, ⟨b, e14, hb⟩, hl3⟩ := at_ _ _ _ e12 sc
                      rw [e9] at e13
                      cases e13
                      rw [e14] at e12
                      have em : (0 + (i : Int)).fmod (rs.length : Int) = ((i % rs.length : Nat) : Int) := by
                        rw [Int.zero_add, Int.fmod_eq_emod_of_nonneg _ (by omega)]
                        rfl
                      have ed : (0 + (i : Int)).fdiv (rs.length : Int) = ((i / rs.length : Nat) : Int) := by
                        rw [Int.zero_add, Int.fdiv_eq_ediv_of_nonneg _ (by omega)]
                        rfl
                      refine ⟨rfl, yesT ?_⟩
                      refine ⟨_, rfl, _, rfl, _, rfl, _, _, rfl, rfl, by omega, ?_⟩
                      refine .inl ⟨a, rs, _, V.ref b, rfl, rfl, SqL.of (sc _ _ e), by rw [em]; exact atI_nat e12, ?_⟩
                      refine ⟨_, rfl, _, rfl, _, _, rfl, rfl, ⟨by omega, by omega⟩, ?_⟩
                      have fin : D2 ≠ D2 ∨ (∃ acc, H4 D2 = some (.lst acc) ∧ acc.length < sizeLine ∧ ((upd H4 D2 (.lst (acc ++ [v]))) D2 = some (.lst ((List.range (i + 1)).map (wovenAt ls))) ∧ Same H (upd H4 D2 (.lst (acc ++ [v]))))) := by
                        refine .inr ⟨_, h4, ?_, ?_, ?_⟩
                        · rw [List.length_map, List.length_range, sizeLine_eq]
                          omega
                        · rw [upd_same, List.range_succ, List.map_append]
                          show _ = some (HO.lst (_ ++ [wovenAt ls i]))
                          rw [e11]
                        · intro b' o' e'
                          rw [upd_ne (ne_of_none (sb _ _ e') hD2)]
                          exact sc _ _ e'
                      have fin2 := fin.resolve_left (fun z => z rfl)
                      rcases hb with hb | hb
                      · exact .inl ⟨b, l, _, v, rfl, rfl, SqL.of hb, by rw [ed]; exact atI_nat e10, fin2⟩
                      · exact .inr (.inl ⟨b, l, _, v, rfl, rfl, SqT.of hb, by rw [ed]; exact atI_nat e10, fin2⟩)
                    · rintro H4 ⟨h4, sc⟩
                      exact qG (by omega) _ D2 sc (free_back sb hD2) h4
          · refine ⟨_, rfl, a, rfl, .inr ⟨⟨rs, SqT.of (s1 _ _ e)⟩, for_it walk_tup (fun i σ H2 => ∃ y1, σ = [some (.ref a), y1, none, none, none, none] ∧ Same H H2 ∧ ∀ j : Nat, j < i → ∀ o, os[j]? = some o → isRow o = true)
              ⟨_, rfl, s1, fun j hj => absurd hj (Nat.not_lt_zero _)⟩ (fun i σ H2 _ ⟨_, _, sa, _⟩ => SqT.of (sa _ _ e)) ?_ ?_⟩⟩
            · rintro i x σ H2 H3 hi ⟨y1, rfl, sa, hall⟩ ⟨rfl, hx⟩
              obtain ⟨o, e1, e2, e3, e4⟩ := turn i x _ hx sa
              refine ⟨_, rfl, x, o, rfl, e2, e3, e4, fun hrow H4 s4 => ⟨_, rfl, sa.trans s4, fun j hj o' ho' => ?_⟩, fun hrow H4 s4 => qE ⟨o, List.mem_of_getElem? e1, hrow⟩ _ (sa.trans s4)⟩
              by_cases ej : j = i
              · subst ej
                rw [e1] at ho'
                cases ho'
                exact hrow
              · exact hall j (by omega) o' ho'
            · rintro σ H2 ⟨y1, rfl, sa, hall⟩
              have hall2 : ∀ o ∈ os, isRow o = true := fun o ho => by
                obtain ⟨j, hj⟩ := List.mem_iff_getElem?.mp ho
                have hj2 := (List.getElem?_eq_some_iff.mp hj).1
                rw [hR.1] at hj2
                exact hall j hj2 o hj
              obtain ⟨ls, rfl⟩ : ∃ ls : List (List V), os = ls.map some := ⟨os.map fun o => o.getD [], by
                rw [List.map_map]
                refine (List.map_id' os).symm.trans ?_
                refine List.map_congr_left fun o ho => ?_
                obtain ⟨xs, rfl, _⟩ := isRow_some (hall2 o ho)
                rfl⟩
              have hll : ls.length = rs.length := by
                have z := hR.1
                rwa [List.length_map] at z
              have at_ : ∀ (i : Nat) (x : V) (H2 : Hp), rs[i]? = some x → Same H H2 → ∃ l, ls[i]? = some l ∧ (∃ b, x = .ref b ∧ (H2 b = some (.lst l) ∨ H2 b = some (.tup l))) ∧ l.length ≤ 3001 := fun i x H2 hx s => by
                obtain ⟨o, e1, e2, e3, e4⟩ := turn i x H2 hx s
                have hrow := hall2 o (List.mem_of_getElem? e1)
                rw [List.getElem?_map] at e1
                obtain ⟨l, e5, rfl⟩ := Option.map_eq_some_iff.mp e1
                obtain ⟨xs, e6, _, _, l2⟩ := isRow_some hrow
                cases e6
                exact ⟨l, e5, items_ref e2, l2⟩
              refine ⟨_, rfl, _, rs.length, rfl, hlen _ sa, ?_⟩
              refine ⟨_, rfl, a, rs, rfl, .inr ⟨SqT.of (sa _ _ e), fun D hD => lc_it walk_enumT (fun i H' => H' D = some (.lst (((List.range i).map fun j => ((rs.length * (ls.getD j []).length + j : Nat) : Int)).map V.int)) ∧ Same H H')
                ⟨by rw [upd_same]; rfl, sa.trans (same_new hD)⟩ (fun i H' _ ⟨_, sb⟩ => SqT.of (sb _ _ e)) ?_ ?_⟩⟩
              · rintro i v H3 H4 hi ⟨h3, sb⟩ ⟨T', x1, x2, rfl, hT, rfl, e1, e2⟩
                cases Option.some.inj e1
                have s4 : Same H (upd H3 T' (.tup [.int (i : Nat), x2])) := sb.trans (same_new hT)
                obtain ⟨l, e5, ⟨b, rfl, hb⟩, hl3⟩ := at_ i x2 _ e2 s4
                have lb : LenV K (.ref b) (upd H3 T' (.tup [.int (i : Nat), .ref b])) l.length := by
                  rcases hb with hb | hb
                  · exact .inl ⟨l, SqL.of hb, rfl⟩
                  · exact .inr ⟨l, SqT.of hb, rfl⟩
                have hgd : ls.getD i [] = l := by rw [List.getD_eq_getElem?_getD, e5]; rfl
                have hDT : D ≠ T' := ne_of_none h3 hT
                refine ⟨T', _, rfl, SqT.of upd_same, rfl, _, _, rfl, _, _, rfl, rfl, rfl, yesT ?_⟩
                refine ⟨_, rfl, _, rfl, _, l.length, rfl, lb, _, _, rfl, rfl, .inl ⟨by omega, by omega⟩, _, rfl, _, _, rfl, rfl, _, by rw [upd_ne hDT]; exact h3, ?_, ?_, ?_⟩
                · rw [List.length_map, List.length_map, List.length_range, sizeLine_eq]
                  omega
                · rw [upd_same, List.range_succ, List.map_append, List.map_append]
                  show _ = some (HO.lst (_ ++ [V.int ((rs.length * (ls.getD i []).length + i : Nat) : Int)]))
                  rw [hgd]
                  congr 4

                · intro b' o' e'
                  rw [upd_ne (ne_of_none (sa _ _ e') hD)]
                  exact s4 _ _ e'
              · rintro H3 ⟨h3, sb⟩
                refine ⟨D, _, rfl, SqL.of h3, ?_, fun mn hmem hmin => ?_⟩
                · rw [List.length_map, List.length_range]
                  omega
                · obtain ⟨t0, ht0, et0⟩ := List.mem_map.mp hmem
                  rw [List.mem_range] at ht0
                  have e8 : ls[t0]? = some (ls.getD t0 []) := by
                    rw [List.getD_eq_getElem?_getD]
                    have : t0 < ls.length := by omega
                    simp [this]
                  obtain ⟨s, rfl⟩ : ∃ s : Nat, mn = (s : Int) := ⟨_, et0.symm⟩
                  have hs : IsSize ls s := by
                    refine ⟨⟨t0, _, e8, ?_⟩, fun t l hl => ?_⟩
                    · rw [hll]
                      first | omega | skip
                    · have htl := (List.getElem?_eq_some_iff.mp hl).1
                      have hg : ls.getD t [] = l := by rw [List.getD_eq_getElem?_getD, hl]; rfl
                      have z := hmin ((rs.length * (ls.getD t []).length + t : Nat) : Int) (List.mem_map.mpr ⟨t, List.mem_range.mpr (by omega), rfl⟩)
                      rw [hg] at z
                      rw [hll]
                      omega
                  obtain ⟨qB, qG⟩ := qD ls s rfl hall2 hs
                  refine ⟨_, rfl, _, _, rfl, rfl, _, rfl, ?_⟩
                  by_cases c : 3001 < s
                  · have c' : ((s : Int) > 3001) := by omega
                    rw [decide_eq_true c']
                    refine iteT ⟨_, _, rfl, rfl, (by show 1 ≤ 1000; decide), fun e he => ⟨e, _, rfl, upd_same, fun d hd nd => ?_⟩⟩
                    refine ⟨rfl, d, [(("most" : Str), .int (3001 - 1))], upd_same, by rw [upd_ne nd, upd_same], ?_, ?_⟩
                    · rw [upd_ne nd] at hd
                      exact hd
                    · exact qB c _ d (sb.trans (tooMany_left he hd nd)) upd_same
                  · have c' : ¬ ((s : Int) > 3001) := by omega
                    rw [decide_eq_false c']
                    refine iteF ?_
                    refine ⟨_, rfl, _, rfl, by omega, by omega, fun D2 hD2 => lc_range (lo := 0) (n := s) (fun i H' => H' D2 = some (.lst ((List.range i).map (wovenAt ls))) ∧ Same H H')
                      ⟨by rw [upd_same]; rfl, sb.trans (same_new hD2)⟩ ?_ ?_⟩
                    · rintro i H4 hi ⟨h4, sc⟩
                      obtain ⟨l, v, e9, e10, hlt, e11⟩ := size_lt hs hi
                      rw [hll] at e9 e10 hlt
                      have hr1 : i % rs.length < rs.length := Nat.mod_lt _ (by omega)
                      have e12 : rs[i % rs.length]? = some rs[i % rs.length] := by simp [hr1]
                      obtain ⟨l', e13, ⟨b, e14, hb⟩, hl3⟩ := at_ _ _ _ e12 sc
                      rw [e9] at e13
                      cases e13
                      rw [e14] at e12
                      have em : (0 + (i : Int)).fmod (rs.length : Int) = ((i % rs.length : Nat) : Int) := by
                        rw [Int.zero_add, Int.fmod_eq_emod_of_nonneg _ (by omega)]
                        rfl
                      have ed : (0 + (i : Int)).fdiv (rs.length : Int) = ((i / rs.length : Nat) : Int) := by
                        rw [Int.zero_add, Int.fdiv_eq_ediv_of_nonneg _ (by omega)]
                        rfl
                      refine ⟨rfl, yesT ?_⟩
                      refine ⟨_, rfl, _, rfl, _, rfl, _, _, rfl, rfl, by omega, ?_⟩
                      refine .inr (.inl ⟨a, rs, _, V.ref b, rfl, rfl, SqT.of (sc _ _ e), by rw [em]; exact atI_nat e12, ?_⟩)
                      refine ⟨_, rfl, _, rfl, _, _, rfl, rfl, ⟨by omega, by omega⟩, ?_⟩
                      have fin : D2 ≠ D2 ∨ (∃ acc, H4 D2 = some (.lst acc) ∧ acc.length < sizeLine ∧ ((upd H4 D2 (.lst (acc ++ [v]))) D2 = some (.lst ((List.range (i + 1)).map (wovenAt ls))) ∧ Same H (upd H4 D2 (.lst (acc ++ [v]))))) := by
                        refine .inr ⟨_, h4, ?_, ?_, ?_⟩
                        · rw [List.length_map, List.length_range, sizeLine_eq]
                          omega
                        · rw [upd_same, List.range_succ, List.map_append]
                          show _ = some (HO.lst (_ ++ [wovenAt ls i]))
                          rw [e11]
                        · intro b' o' e'
                          rw [upd_ne (ne_of_none (sb _ _ e') hD2)]
                          exact sc _ _ e'
                      have fin2 := fin.resolve_left (fun z => z rfl)
                      rcases hb with hb | hb
                      · exact .inl ⟨b, l, _, v, rfl, rfl, SqL.of hb, by rw [ed]; exact atI_nat e10, fin2⟩
                      · exact .inr (.inl ⟨b, l, _, v, rfl, rfl, SqT.of hb, by rw [ed]; exact atI_nat e10, fin2⟩)
                    · rintro H4 ⟨h4, sc⟩
                      exact qG (by omega) _ D2 sc (free_back sb hD2) h4
        · have c2' : ¬ (rs.length : Int) ≤ 360 := by omega
          rw [decide_eq_false c2']
          exact iteT (q2 rs rfl (fun z => c2 z.2) _ s1)
      · have c1' : ¬ (1 : Int) ≤ (rs.length : Int) := by omega
        rw [decide_eq_false c1']
        refine iteF ⟨_, rfl, iteT (q2 rs rfl (fun z => c1 z.1) _ s1)⟩
end
end K01

set_option Elab.async false
set_option linter.all false
set_option maxRecDepth 100000
set_option maxHeartbeats 4000000
set_option pp.maxSteps 3000
namespace K01
open PySem PySem.Spec PyProof.Rows L2 Dr Xv
section
variable {P : Program} {w : World} {K : PySem.W.Frag} {mg : Str → Option Value} {base : Heap} {f fT : Addr} {fd fdT : FuncData}
/-! ### _law_some_row -/
def spSome : Sp := fun vs H Q _ => ∃ (d l c : Addr) (n : Nat), vs = [.ref d, .int (n : Int)] ∧ Draw H d l c ∧ 1 ≤ n ∧ n ≤ 1000 ∧
  ∀ (p : Addr) (ns : List Int) (H' : Hp), 1 ≤ ns.length → ns.length ≤ n → H p = none → Draw H' d l c → SameX d l H H' → H' p = some (.lst (ns.map V.int)) → Q (.ref p) H'
theorem scSome : FnScope ["draw", "most", "k"] ["draw", "most"] (defScope sSome) := ⟨rfl, rfl, rfl, by decide +kernel, rfl, by decide +kernel, by decide +kernel⟩
theorem freeX {H H1 : Hp} {d l D : Addr} (s : SameX d l H H1) (n : H1 D = none) (nd : D ≠ d) (nl : D ≠ l) : H D = none := by
  cases e : H D with
  | none => rfl
  | some o =>
    rw [s _ _ e nd nl] at n
    cases n
theorem ok_some (F : FnP K "_law_some_row" sSome f fd) (range0 : mg "range" = none) (GT : FnOk P w K mg base CX0 2 fT fdT ["draw", "size"] spTake) (bT : L2.Binds K fdT ["draw", "size"] []) (gT : mg "_law_take" = some (.ref fT)) (kT : PySem.W.keepIn K (.ref fT) = true) :
    FnOk P w K mg base CX0 3 f fd ["draw", "most"] spSome := by
  refine F.ok scSome (fun vs H Q E h => ?_) (fun cdv A outer s H vs Q E hr h => ?_)
  · obtain ⟨d, l, c, n, rfl, _⟩ := h
    rfl
  · obtain ⟨d, l, c, n, rfl, hD, n1, n2, q⟩ := h
    refine ⟨_, PSs.nox (pss_one (ps_ret (pe_lc (own := [("k", 2)]) (g := gName 2) rfl scSome.nd (pi_range1 (by rfl) range0 (pa_cons (pe_op op_add pe_int (pe_call GT hr rfl gT kT bT .nil pass0 (pa_cons (pv 0) (pa_cons (pv 1) pa_nil)))) pa_nil)) (blkOk_by (own := [("k", 2)]) (N := ["draw", "most", "k"]) (sc := defScope sSome) (by decide +kernel))
          (fun _ _ _ _ _ => pg_name (i := 2) scSome.nd rfl (Or.inl rfl)) (fun _ _ _ _ _ => pts_nil)
          (fun _ _ _ _ _ => pe_op op_sub (pe_call GT hr rfl gT kT bT .nil pass0 (pa_cons (pv 0) (pa_cons pe_int pa_nil))) pe_int)))), ?_⟩
    refine ⟨_, rfl, _, rfl, d, l, c, _, rfl, hD, by omega, log_small n2, fun v H1 v0 v1 hD1 s1 => ⟨_, _, rfl, rfl, _, rfl, by omega, by omega, fun D hDn => ?_⟩⟩
    obtain ⟨k, rfl⟩ : ∃ k : Nat, v = (k : Int) := ⟨v.toNat, by omega⟩
    obtain ⟨nd, nl, nc⟩ := hD1.ne hDn
    have hDn0 : H D = none := freeX s1 hDn nd nl
    have hn : (1 + (k : Int) - 0).toNat = k + 1 := by omega
    refine lc_range (lo := 0) (n := (1 + (k : Int) - 0).toNat) (fun i H' => ∃ ns : List Int, ns.length = i ∧ H' D = some (.lst (ns.map V.int)) ∧ Draw H' d l c ∧ SameX d l H H') ?_ ?_ ?_
    · exact ⟨[], rfl, upd_same, hD1.same (same_new hDn), s1.trans (sameX_new hDn)⟩
    · rintro i H2 hi ⟨ns, rfl, h2, hD2, s2⟩
      refine ⟨rfl, yesT ⟨_, rfl, d, l, c, _, rfl, hD2, by decide, by decide, fun v H3 v0 v1 hD3 s3 => ⟨_, _, rfl, rfl, _, s3 _ _ h2 nd nl, ?_, ns ++ [v - 9], ?_, ?_, ?_, ?_⟩⟩⟩
      · rw [List.length_map, sizeLine_eq]
        omega
      · rw [List.length_append]
        rfl
      · rw [upd_same, List.map_append]
        rfl
      · exact hD3.put nd nl nc
      · exact fun b o e b1 b2 => by
          rw [upd_ne (ne_of_none e hDn0)]
          exact (s2.trans s3) b o e b1 b2
    · rintro H2 ⟨ns, hl, h2, hD2, s2⟩
      exact q D ns H2 (by omega) (by omega) hDn0 hD2 s2 h2
/-! ### _law_woven -/
def ListsAt (H : Hp) (rs : List V) (ls : List (List V)) : Prop := ls.length = rs.length ∧ ∀ (i : Nat) (l : List V), ls[i]? = some l → l.length ≤ 3001 ∧ ∃ b, rs[i]? = some (.ref b) ∧ H b = some (.lst l)
theorem ListsAt.same {H H' : Hp} {rs : List V} {ls : List (List V)} (h : ListsAt H rs ls) (s : Same H H') : ListsAt H' rs ls := ⟨h.1, fun i l e => by
  obtain ⟨h1, b, e1, e2⟩ := h.2 i l e
  exact ⟨h1, b, e1, s _ _ e2⟩⟩
def spLWov : Sp := fun vs H Q _ => ∃ (a : Addr) (rs : List V) (ls : List (List V)) (s : Nat), vs = [.ref a] ∧ H a = some (.lst rs) ∧ ListsAt H rs ls ∧ rs.length ≤ 1000 ∧ IsSize ls s ∧ s ≤ 3001 ∧
  ∀ (p : Addr) (H' : Hp), H p = none → Same H H' → H' p = some (.lst (woven ls s)) → Q (.ref p) H'
theorem scLWov : FnScope ["rows", "found", "n"] ["rows"] (defScope sLWov) := ⟨rfl, rfl, rfl, by decide +kernel, rfl, by decide +kernel, by decide +kernel⟩
theorem ok_lwov (F : FnP K "_law_woven" sLWov f fd) (len0 : mg "len" = none) : FnOk P w K mg base CX0 1 f fd ["rows"] spLWov := by
  refine F.ok scLWov (fun vs H Q E h => ?_) (fun cdv A outer s H vs Q E hr h => ?_)
  · obtain ⟨a, rs, ls, s, rfl, _⟩ := h
    rfl
  · obtain ⟨a, rs, ls, z, rfl, ha, hls, hl1, hs, hz, q⟩ := h
    have hu := hu_of hr
    refine ⟨_, PSs.nox (pss_cons (ps_par (i := 1) (j := 2) (by rfl) scLWov.nd rfl rfl (by decide) rfl rfl (pa_cons (pe_lst pa_nil) (pa_cons pe_int pa_nil)) (by rfl))
      (pss_cons (ps_while PassesOwn.never (pt_cmpR op_lt (pe_op op_fdivN (pv 2) (pe_callB call_len (by rfl) len0 PySem.boot_len (pa_cons (pv 0) pa_nil))) (pe_callB call_len (by rfl) len0 PySem.boot_len (pa_cons (pe_ix ix_list (pv 0) (pe_op op_modN (pv 2) (pe_callB call_len (by rfl) len0 PySem.boot_len (pa_cons (pv 0) pa_nil))) (fun _ _ => rfl)) pa_nil)) (nomark _))
        (pss_cons (ps_expr (pe_bm PySem.F.plainAttrs_list PySem.F.slot_list_append PySem.F.type_list_append mt_append (pv 1) (pa_cons (pe_ix ix_list (pe_ix ix_list (pv 0) (pe_op op_modN (pv 2) (pe_callB call_len (by rfl) len0 PySem.boot_len (pa_cons (pv 0) pa_nil))) (fun _ _ => rfl)) (pe_op op_fdivN (pv 2) (pe_callB call_len (by rfl) len0 PySem.boot_len (pa_cons (pv 0) pa_nil))) (fun _ _ => rfl)) pa_nil)))
        (pss_one (ps_set (i := 2) scLWov.nd rfl (Or.inl rfl) (pe_op op_add (pv 2) pe_int)))))
      (pss_one (ps_ret (pv 1))))), ?_⟩
    refine ⟨(by show 0 ≤ sizeLine; decide), fun p hp => ⟨_, _, rfl, ?_⟩⟩
    refine ⟨fun m σ H' => ∃ n : Nat, σ = [some (.ref a), some (.ref p), some (.int (n : Int))] ∧ n ≤ z ∧ Same H H' ∧ H' p = some (.lst ((List.range n).map (wovenAt ls))) ∧ m = z - n, ⟨_, 0, rfl, Nat.zero_le _, same_new hp, by rw [upd_same]; rfl, rfl⟩, ?_⟩
    rintro m σ H1 ⟨n, rfl, hn, s1, h1, rfl⟩
    have hlen : LenV K (.ref a) H1 rs.length := .inl ⟨rs, SqL.of (s1 _ _ ha), rfl⟩
    have hpos : 0 < rs.length := by
      obtain ⟨⟨t0, l0, e0, _⟩, _⟩ := hs
      have := (List.getElem?_eq_some_iff.mp e0).1
      rw [hls.1] at this
      omega
    have em : (n : Int).fmod (rs.length : Int) = ((n % rs.length : Nat) : Int) := by
      rw [Int.fmod_eq_emod_of_nonneg _ (by omega)]
      rfl
    have ed : (n : Int).fdiv (rs.length : Int) = ((n / rs.length : Nat) : Int) := by
      rw [Int.fdiv_eq_ediv_of_nonneg _ (by omega)]
      rfl
    have hmod : n % rs.length < rs.length := Nat.mod_lt _ hpos
    obtain ⟨l, el⟩ : ∃ l, ls[n % rs.length]? = some l := ⟨ls[n % rs.length]'(by rw [hls.1]; exact hmod), by simp [hls.1, hmod]⟩
    obtain ⟨hl3, b, eb, hb⟩ := hls.2 _ _ el
    have hb1 := s1 _ _ hb
    refine ⟨_, rfl, _, rfl, _, rs.length, rfl, hlen, _, _, rfl, rfl, ⟨by omega, by omega⟩, ?_⟩
    refine ⟨_, rfl, _, rfl, _, rfl, _, rs.length, rfl, hlen, _, _, rfl, rfl, by omega, ?_⟩
    refine ⟨a, rs, _, V.ref b, rfl, rfl, SqL.of (s1 _ _ ha), by rw [em]; exact atI_nat eb, ?_⟩
    refine ⟨_, l.length, rfl, .inl ⟨l, SqL.of hb1, rfl⟩, _, _, rfl, rfl, _, rfl, ?_⟩
    by_cases c : n < z
    · obtain ⟨l', v, e1, e2, e3, e4⟩ := size_lt hs c
      rw [hls.1] at e1 e2 e3
      rw [el] at e1
      cases e1
      have c' : ((n : Int).fdiv (rs.length : Int)) < (l.length : Int) := by
        rw [ed]
        omega
      rw [decide_eq_true c']
      refine iteT ⟨_, fun σ' H' e => e, ?_⟩
      refine ⟨_, rfl, .inl ⟨rfl, _, SqL.of h1⟩, ?_⟩
      refine ⟨_, rfl, _, rfl, _, rfl, _, rs.length, rfl, hlen, _, _, rfl, rfl, by omega, ?_⟩
      refine ⟨a, rs, _, V.ref b, rfl, rfl, SqL.of (s1 _ _ ha), by rw [em]; exact atI_nat eb, ?_⟩
      refine ⟨_, rfl, _, rfl, _, rs.length, rfl, hlen, _, _, rfl, rfl, ⟨by omega, by omega⟩, ?_⟩
      refine ⟨b, l, _, v, rfl, rfl, SqL.of hb1, by rw [ed]; exact atI_nat e2, ?_⟩
      refine ⟨p, _, v, rfl, rfl, h1, ?_, ?_⟩
      · rw [List.length_map, List.length_range, sizeLine_eq]
        omega
      · refine ⟨_, rfl, _, _, rfl, rfl, ?_⟩
        refine ⟨z - (n + 1), by omega, n + 1, rfl, by omega, fun b' o' e' => by rw [upd_ne (ne_of_none e' hp)]; exact s1 _ _ e', ?_, rfl⟩
        rw [upd_same, List.range_succ, List.map_append]
        show _ = some (HO.lst (_ ++ [wovenAt ls n]))
        rw [e4]
    · have hnz : n = z := by omega
      subst hnz
      obtain ⟨l', e1, e2⟩ := size_at hs
      rw [hls.1] at e1 e2
      rw [el] at e1
      cases e1
      have c' : ¬ ((n : Int).fdiv (rs.length : Int)) < (l.length : Int) := by
        rw [ed]
        omega
      rw [decide_eq_false c']
      refine iteF ⟨_, rfl, q p H1 hp s1 h1⟩
end
end K01

set_option Elab.async false
set_option linter.all false
set_option maxRecDepth 100000
set_option maxHeartbeats 4000000
set_option pp.maxSteps 3000
namespace K01
open PySem PySem.Spec PyProof.Rows L2 Dr Xv
/-! ### keywords in the opposite sequence -/
def gR {α : Type} (us ws : List α) : List α := match us with
  | [] => ws.reverse
  | _ => []
theorem kbR {K : PySem.W.Frag} {x qual : Str} {params : Arguments} {body : List Stmt} {scope : Scope} {kws : List (Str × V)} {f : Addr} {fd : FuncData} {ps : List Str} (F : FunD K x qual params body scope [] kws f fd) (hps : ps ≠ [])
    (h : ∀ (kV doc pm : Value) (an : Option Addr) (cdv ct : Value) (ws : List Value), ws.length = ps.length → bindArgs (PySem.W.fnOf x qual params body scope .none kV doc pm an cdv ct) ⟨[], ps.reverse.zip ws⟩ = pure (ps.zip ws.reverse)) : KBinds K fd ps ps.reverse gR gR := by
  obtain ⟨oc, od, dV, kV, doc, pm, an, cdv, ct, osl, rfl, lk, hcd, hD, hK⟩ := F.ex
  refine ⟨fun s us ws hK' hl => ?_, fun {vs us zs ws} r1 r2 => ?_⟩
  · cases us with
    | cons u r =>
      exact absurd (List.length_eq_zero_iff.mp hl.symm) hps
    | nil =>
      rcases hD with ⟨_, rfl⟩ | ⟨e, _⟩
      · refine BindsTo.of_eq (h kV doc pm an cdv ct ws ?_)
        rw [← hl]
        exact (List.length_reverse).symm
      · exact absurd rfl e
  · cases r1 with
    | nil => exact r2.reverse
    | cons _ _ => exact .nil
/-! ### lists of ints -/
theorem all_num (ns : List Int) : (ns.map V.int).all isNum = true := by
  rw [List.all_map]
  exact List.all_eq_true.mpr fun _ _ => rfl
theorem row_ints {ns : List Int} (h1 : 1 ≤ ns.length) (h2 : ns.length ≤ 3001) : isRow (some (ns.map V.int)) = true := by
  show ((ns.map V.int).all isNum && (decide (1 ≤ ((ns.map V.int).length : Int)) && decide (((ns.map V.int).length : Int) ≤ 3001))) = true
  rw [all_num, List.length_map, decide_eq_true (by omega : 1 ≤ (ns.length : Int)), decide_eq_true (by omega : (ns.length : Int) ≤ 3001)]
  rfl
theorem pv_ints {H : Hp} (ns : List Int) : AllPV H (some (ns.map V.int)) := by
  intro xs e v hv
  cases e
  obtain ⟨z, _, rfl⟩ := List.mem_map.mp hv
  exact .int z
theorem short_ints {ns : List Int} (h2 : ns.length ≤ 3001) : short (some (ns.map V.int)) := by
  intro xs e
  cases e
  rw [List.length_map, sizeLine_eq]
  omega
def spreadI (ns : List Int) (k : Nat) : List Int := ns.flatMap fun x => x :: List.replicate (k - 1) 0
theorem spread_ints (ns : List Int) (k : Nat) : spread (ns.map V.int) k = (spreadI ns k).map V.int := by
  unfold spread spreadI zer
  rw [List.flatMap_map, List.map_flatMap]
  congr 1
  funext x
  rw [List.map_cons, List.map_replicate]
theorem spread_at {k : Nat} (hk : 0 < k) : ∀ (xs : List V) (i : Nat), (spread xs k)[k * i]? = xs[i]?
  | [], i => by simp [spread]
  | x :: r, 0 => rfl
  | x :: r, i + 1 => by
    have e : spread (x :: r) k = (x :: zer (k - 1)) ++ spread r k := rfl
    have l : (x :: zer (k - 1)).length = k := by
      show (List.replicate (k - 1) _).length + 1 = k
      rw [List.length_replicate]
      omega
    rw [e, List.getElem?_append_right (by rw [l, Nat.mul_add]; omega), l, Nat.mul_add, Nat.mul_one, Nat.add_sub_cancel]
    exact spread_at hk r i
theorem filterMap_all {f : Nat → Option V} {g : Nat → V} : ∀ n : Nat, (∀ i, i < n → f i = some (g i)) → (List.range n).filterMap f = (List.range n).map g
  | 0, _ => rfl
  | n + 1, h => by
    rw [List.range_succ, List.filterMap_append, List.map_append, filterMap_all n fun i hi => h i (by omega)]
    congr 1
    rw [List.filterMap_cons, h n (by omega)]
    rfl
theorem range_get (xs : List V) : (List.range xs.length).map (fun i => xs.getD i .non) = xs := by
  refine List.ext_getElem (by simp) fun i h1 h2 => ?_
  simp at h1
  simp [h1]
theorem div_step {L m : Nat} (hm : 0 < m) : (m * L + m - 1) / m = L := by
  have e : m * L + m - 1 = m * L + (m - 1) := by omega
  rw [e, Nat.mul_add_div hm, Nat.div_eq_of_lt (by omega), Nat.add_zero]
theorem step_spread {k : Nat} (hk : 0 < k) (xs : List V) : stepV (spread xs k) 0 k = xs := by
  unfold stepV
  rw [spread_len hk, Nat.sub_zero, div_step hk]
  rw [filterMap_all (g := fun i => xs.getD i .non) xs.length fun i hi => by
    rw [Nat.zero_add, spread_at hk]
    simp [hi]]
  exact range_get xs
/-! ### sections -/
/-- the places below L that are t modulo m -/
theorem places {t m : Nat} (ht : t < m) : ∀ L : Nat, (List.range L).filter (fun n => decide (n % m = t)) = (List.range ((L + (m - 1 - t)) / m)).map fun k => t + m * k
  | 0 => by
    rw [Nat.div_eq_of_lt (by omega)]
    rfl
  | L + 1 => by
    have hm : 0 < m := by omega
    rw [List.range_succ, List.filter_append, places ht L]
    have e := Nat.div_add_mod L m
    have hL := Nat.mod_lt L hm
    generalize hq : L / m = q at *
    generalize hr : L % m = r at *
    have c1 : (L + (m - 1 - t)) / m = q + (r + (m - 1 - t)) / m := by
      have e2 : L + (m - 1 - t) = m * q + (r + (m - 1 - t)) := by omega
      rw [e2, Nat.mul_add_div hm]
    have c2 : (L + 1 + (m - 1 - t)) / m = q + (r + 1 + (m - 1 - t)) / m := by
      have e2 : L + 1 + (m - 1 - t) = m * q + (r + 1 + (m - 1 - t)) := by omega
      rw [e2, Nat.mul_add_div hm]
    rw [c1, c2]
    by_cases h : r = t
    · subst h
      have d1 : (r + (m - 1 - r)) / m = 0 := Nat.div_eq_of_lt (by omega)
      have d2 : (r + 1 + (m - 1 - r)) / m = 1 := by
        have e3 : r + 1 + (m - 1 - r) = m := by omega
        rw [e3, Nat.div_self hm]
      rw [d1, d2, Nat.add_zero, List.range_succ, List.map_append]
      congr 1
      rw [List.filter_cons_of_pos (by simp [hr])]
      have e4 : L = r + m * q := by omega
      rw [e4]
      rfl
    · have d1 : (r + (m - 1 - t)) / m = (r + 1 + (m - 1 - t)) / m := by
        by_cases hlt : r < t
        · rw [Nat.div_eq_of_lt (by omega), Nat.div_eq_of_lt (by omega)]
        · have e3 : r + (m - 1 - t) = m * 1 + (r - t - 1) := by omega
          have e4 : r + 1 + (m - 1 - t) = m * 1 + (r - t) := by omega
          rw [e3, e4, Nat.mul_add_div hm, Nat.mul_add_div hm, Nat.div_eq_of_lt (by omega), Nat.div_eq_of_lt (by omega)]
      rw [d1, List.filter_cons_of_neg (by simp [hr, h])]
      exact List.append_nil _
/-- the law's own section -/
def secV (xs : List V) (t m : Nat) : Nat → List V
  | 0 => []
  | i + 1 => if i % m = t then secV xs t m i ++ [xs.getD i .non] else secV xs t m i
theorem secV_filter (xs : List V) (t m : Nat) : ∀ i, secV xs t m i = ((List.range i).filter (fun n => decide (n % m = t))).map fun n => xs.getD n .non
  | 0 => rfl
  | i + 1 => by
    rw [List.range_succ, List.filter_append, List.map_append, ← secV_filter xs t m i]
    show (if i % m = t then _ else _) = _
    by_cases h : i % m = t
    · rw [if_pos h, List.filter_cons_of_pos (by simp [h])]
      rfl
    · rw [if_neg h, List.filter_cons_of_neg (by simp [h])]
      exact (List.append_nil _).symm
theorem sec_count {L t m : Nat} (ht : t < m) (hL : t ≤ L) : L - t + m - 1 = L + (m - 1 - t) := by omega
theorem count_lt {L t m k : Nat} (ht : t < m) (hL : t ≤ L) (hk : k < (L - t + m - 1) / m) : t + m * k < L := by
  have hm : 0 < m := by omega
  have h1 := (Nat.le_div_iff_mul_le hm).mp (Nat.succ_le_of_lt hk)
  rw [Nat.succ_mul, Nat.mul_comm] at h1
  omega
theorem stepV_eq {xs : List V} {t m : Nat} (ht : t < m) (hL : t ≤ xs.length) : stepV xs t m = (List.range ((xs.length - t + m - 1) / m)).map fun k => xs.getD (t + m * k) .non := by
  unfold stepV
  refine filterMap_all _ fun k hk => ?_
  have h := count_lt ht hL hk
  simp [h]
theorem sec_step {xs : List V} {t m : Nat} (ht : t < m) (hL : t ≤ xs.length) : secV xs t m xs.length = stepV xs t m := by
  rw [secV_filter, places ht, stepV_eq ht hL, List.map_map, sec_count ht hL]
  rfl
theorem stepV_len {xs : List V} {t m : Nat} (ht : t < m) (hL : t ≤ xs.length) : (stepV xs t m).length = (xs.length - t + m - 1) / m := by
  rw [stepV_eq ht hL, List.length_map, List.length_range]
/-- all sections woven are the row -/
theorem sections_size {xs : List V} {m : Nat} (hm : 0 < m) (hL : m ≤ xs.length) : IsSize ((List.range m).map fun k => stepV xs k m) xs.length := by
  have at_ : ∀ t l, ((List.range m).map fun k => stepV xs k m)[t]? = some l → t < m ∧ l = stepV xs t m := fun t l h => by
    rw [List.getElem?_map] at h
    obtain ⟨k, e1, e2⟩ := Option.map_eq_some_iff.mp h
    obtain ⟨h1, h2⟩ := List.getElem?_eq_some_iff.mp e1
    rw [List.length_range] at h1
    rw [List.getElem_range] at h2
    subst h2
    exact ⟨h1, e2.symm⟩
  rw [IsSize, List.length_map, List.length_range]
  refine ⟨⟨xs.length % m, stepV xs (xs.length % m) m, ?_, ?_⟩, fun t l h => ?_⟩
  · have := Nat.mod_lt xs.length hm
    simp [this]
  · have h1 := Nat.mod_lt xs.length hm
    have h2 := Nat.mod_le xs.length m
    have e := Nat.div_add_mod xs.length m
    rw [stepV_len h1 h2]
    generalize xs.length / m = q at *
    generalize xs.length % m = r at *
    have e2 : xs.length - r + m - 1 = m * q + m - 1 := by omega
    rw [e2, div_step hm]
    omega
  · obtain ⟨h1, rfl⟩ := at_ t l h
    rw [stepV_len h1 (by omega)]
    have h2 := Nat.div_add_mod (xs.length - t + m - 1) m
    have h3 := Nat.mod_lt (xs.length - t + m - 1) hm
    omega
theorem sections_woven {xs : List V} {m : Nat} (hm : 0 < m) (hL : m ≤ xs.length) : woven ((List.range m).map fun k => stepV xs k m) xs.length = xs := by
  unfold woven
  refine Eq.trans (List.map_congr_left fun n hn => ?_) (range_get xs)
  rw [List.mem_range] at hn
  unfold wovenAt
  rw [List.length_map, List.length_range]
  have h1 := Nat.mod_lt n hm
  have e : ((List.range m).map fun k => stepV xs k m).getD (n % m) [] = stepV xs (n % m) m := by
    rw [List.getD_eq_getElem?_getD]
    simp [h1]
  have e2 := Nat.div_add_mod n m
  have h2 : n % m ≤ xs.length := by omega
  rw [e, List.getD_eq_getElem?_getD, stepV_eq h1 h2, List.getElem?_map]
  have h3 : n / m < (xs.length - n % m + m - 1) / m := by
    rw [Nat.lt_iff_add_one_le, Nat.le_div_iff_mul_le hm, Nat.succ_mul, Nat.mul_comm]
    omega
  have e3 : n % m + m * (n / m) = n := by omega
  rw [List.getElem?_range h3]
  show xs.getD (n % m + m * (n / m)) .non = _
  rw [e3]
/-- some least size -/
theorem size_ex : ∀ (ls : List (List V)) (c n : Nat), n ≤ ls.length → 0 < n → ∃ s, (∃ t l, t < n ∧ ls[t]? = some l ∧ s = c * l.length + t) ∧ ∀ t l, t < n → ls[t]? = some l → s ≤ c * l.length + t
  | ls, c, 0, _, h => absurd h (Nat.lt_irrefl _)
  | ls, c, 1, h, _ => by
    have h0 : 0 < ls.length := h
    refine ⟨c * ls[0].length + 0, ⟨0, ls[0], by omega, by simp [h0], rfl⟩, fun t l ht hl => ?_⟩
    have e : t = 0 := by omega
    subst e
    have e2 : ls[0]? = some ls[0] := by simp [h0]
    rw [e2] at hl
    cases hl
    exact Nat.le_refl _
  | ls, c, n + 2, h, _ => by
    obtain ⟨s, ⟨t, l, h1, h2, h3⟩, h4⟩ := size_ex ls c (n + 1) (by omega) (by omega)
    have hn : n + 1 < ls.length := by omega
    have en : ls[n + 1]? = some ls[n + 1] := by simp [hn]
    by_cases q : s ≤ c * ls[n + 1].length + (n + 1)
    · refine ⟨s, ⟨t, l, by omega, h2, h3⟩, fun t' l' ht hl => ?_⟩
      by_cases e : t' = n + 1
      · subst e
        rw [en] at hl
        cases hl
        exact q
      · exact h4 t' l' (by omega) hl
    · refine ⟨c * ls[n + 1].length + (n + 1), ⟨n + 1, _, by omega, en, rfl⟩, fun t' l' ht hl => ?_⟩
      by_cases e : t' = n + 1
      · subst e
        rw [en] at hl
        cases hl
        exact Nat.le_refl _
      · have := h4 t' l' (by omega) hl
        omega
theorem size_some {ls : List (List V)} (h : 0 < ls.length) : ∃ s, IsSize ls s := by
  obtain ⟨s, ⟨t, l, h1, h2, h3⟩, h4⟩ := size_ex ls ls.length ls.length (Nat.le_refl _) h
  exact ⟨s, ⟨t, l, h2, h3⟩, fun t' l' hl => h4 t' l' (List.getElem?_eq_some_iff.mp hl).1 hl⟩
theorem size_uniq {ls : List (List V)} {s s' : Nat} (h : IsSize ls s) (h' : IsSize ls s') : s = s' := by
  obtain ⟨⟨t, l, e, q⟩, g⟩ := h
  obtain ⟨⟨t', l', e', q'⟩, g'⟩ := h'
  have h1 := g t' l' e'
  have h2 := g' t l e
  omega
theorem size_rep {n : Nat} {l : List V} (hn : 0 < n) : IsSize (List.replicate n l) (n * l.length) := by
  rw [IsSize, List.length_replicate]
  refine ⟨⟨0, l, by simp [hn], rfl⟩, fun t l' h => ?_⟩
  have e := List.mem_of_getElem? h
  rw [List.mem_replicate] at e
  rw [e.2]
  omega
theorem woven_rep {n k : Nat} {v : V} (hn : 0 < n) : woven (List.replicate n (List.replicate k v)) (n * k) = List.replicate (n * k) v := by
  unfold woven
  refine List.eq_replicate_iff.mpr ⟨by rw [List.length_map, List.length_range], fun b hb => ?_⟩
  obtain ⟨i, hi, rfl⟩ := List.mem_map.mp hb
  rw [List.mem_range] at hi
  unfold wovenAt
  rw [List.length_replicate]
  have h1 := Nat.mod_lt i hn
  have h2 : i / n < k := Nat.div_lt_of_lt_mul hi
  rw [List.getD_eq_getElem?_getD, List.getD_eq_getElem?_getD]
  simp [h1, h2]
end K01

set_option Elab.async false
set_option linter.all false
set_option maxRecDepth 100000
set_option maxHeartbeats 4000000
set_option pp.maxSteps 3000
namespace K01
open PySem PySem.Spec PyProof.Rows L2 Dr Xv LamX
/-- what the law calls -/
structure Fns (P : Program) (w : World) (K : PySem.W.Frag) (mg : Str → Option Value) (base : Heap) (cS cN cR cT fI : Addr) : Type where
  (fb ft fp fs fw fsp fse fwo fc : Addr)
  (fdb fdt fdp fds fdw fdsp fdse fdwo fdc : FuncData)
  GB : FnOk P w K mg base CX0 1 fb fdb ["script"] (spBegun K)
  bB : L2.Binds K fdb ["script"] []
  gB : mg "_law_begun" = some (.ref fb)
  kB : PySem.W.keepIn K (.ref fb) = true
  GT : FnOk P w K mg base CX0 2 ft fdt ["draw", "size"] spTake
  bT : L2.Binds K fdt ["draw", "size"] []
  gT : mg "_law_take" = some (.ref ft)
  kT : PySem.W.keepIn K (.ref ft) = true
  GP : FnOk P w K mg base CX0 3 fp fdp ["draw", "some"] (spPick K)
  bP : L2.Binds K fdp ["draw", "some"] []
  gP : mg "_law_pick" = some (.ref fp)
  kP : PySem.W.keepIn K (.ref fp) = true
  GS : FnOk P w K mg base CX0 3 fs fds ["draw", "most"] spSome
  bS : L2.Binds K fds ["draw", "most"] []
  gS : mg "_law_some_row" = some (.ref fs)
  kS : PySem.W.keepIn K (.ref fs) = true
  GW : FnOk P w K mg base CX0 1 fw fdw ["rows"] spLWov
  bW : L2.Binds K fdw ["rows"] []
  gW : mg "_law_woven" = some (.ref fw)
  kW : PySem.W.keepIn K (.ref fw) = true
  GSp : FnOk P w K mg base (L2.CX P w) 6 fsp fdsp ["row", "m"] (spSpread cN cR cT)
  bSp : L2.Binds K fdsp ["row", "m"] []
  hSp : KBinds K fdsp ["row", "m"] ["m", "row"] gR gR
  gSp : mg "row_spread" = some (.ref fsp)
  kSp : PySem.W.keepIn K (.ref fsp) = true
  GSe : FnOk P w K mg base (L2.CX P w) 6 fse fdse ["row", "m", "t"] (spSect cN cR)
  bSe : L2.Binds K fdse ["row", "m", "t"] []
  hSe : KBinds K fdse ["row", "m", "t"] ["t", "m", "row"] gR gR
  gSe : mg "row_section" = some (.ref fse)
  kSe : PySem.W.keepIn K (.ref fse) = true
  GWo : FnOk P w K mg base (L2.CX P w) 6 fwo fdwo ["rows"] (spWoven cR cT)
  bWo : L2.Binds K fdwo ["rows"] []
  hWo : KBinds K fdwo ["rows"] ["rows"] gR gR
  gWo : mg "row_woven" = some (.ref fwo)
  kWo : PySem.W.keepIn K (.ref fwo) = true
  FC : FnP K "_law_caught" sCaught fc fdc
  gC : mg "_law_caught" = some (.ref fc)
  isi0 : mg "isinstance" = none
  len0 : mg "len" = none
  range0 : mg "range" = none
  min0 : mg "min" = none
  enum0 : mg "enumerate" = none
  tuple0 : mg "tuple" = none
def NL : List Str := List.map Str.ofString ["script", "lap", "wide", "item", "due", "rows", "checks", "error", "late", "bad", "draw", "m", "odd", "row", "t", "n", "k"]
theorem scLaw : FnScope NL ["script"] (defScope sLaw) := ⟨rfl, rfl, rfl, by decide +kernel, rfl, by decide +kernel, by decide +kernel⟩
def qL : Str := (envOfC "law" (defScope sLaw) 0 0 .none).qual ++ "<lambda>"
def noArgs : Arguments := { posonlyargs := [], args := [], vararg := none, kwonlyargs := [], kw_defaults := [], kwarg := none, defaults := [] }
section
variable {P : Program} {w : World} {K : PySem.W.Frag} {mg : Str → Option Value} {base : Heap} {cS cN cR cT fI : Addr} {f c Pt : Addr} {A : Around} {outer : List Env} {s : Shared} {H : Hp} {E : XK}
abbrev XL (P : Program) (w : World) (K : PySem.W.Frag) (mg : Str → Option Value) (base : Heap) (f c : Addr) (A : Around) (outer : List Env) (s : Shared) (H : Hp) (E : XK) : Cx := (cxOf CX0 P w K mg base NL "law" (defScope sLaw) f (.ref c) A outer s H E).nox
theorem scCaught : FnScope ["work", "caught", "error"] ["work"] (defScope sCaught) := ⟨rfl, rfl, rfl, by decide +kernel, rfl, by decide +kernel, by decide +kernel⟩
/-- _law_caught(lambda: body) -/
theorem pe_law {body : Expr} {scope : Scope} {t : XK → TE} {k : Nat} {p lpos pos : Pos} (G : Fns P w K mg base cS cN cR cT fI) (T : Txt K mg cS cN cR cT fI) (TB : TabB base mg c Pt) (hr : Room (k + 2) (XL P w K mg base f c A outer s H E).A) (L : lamSB (defScope sLaw) scope = true)
    (hg : Gl (XL P w K mg base f c A outer s H E) "_law_caught")
    (hbody : ∀ (A' : Around) (outer' : List Env) (s' : Shared) (H' : Hp) (E' : XK) (f' c' : Addr), Room k (A'.deeper (lamEnv (XL P w K mg base f c A outer s H E) scope s'.heap.objs.size f' c')) → PE (lamCx (XL P w K mg base f c A outer s H E) A' outer' s' H' E' scope f' c') body (t E')) :
    PE (XL P w K mg base f c A outer s H E) (.Call (.Name "_law_caught" p) [.Lambda noArgs body scope lpos] [] pos) (tLam [(Pt, qL)] (TCaught K cS) t) := by
  obtain ⟨oc, od, dV, kV, doc, pm, an, cdv, ct, osl, e, lk, hcd, hD, hK⟩ := G.FC.ex
  have bC : L2.Binds K G.fdc ["work"] [] := G.FC.bindsN fun _ _ _ _ _ _ us hl => match us, hl with | [_], _ => rfl
  rw [e] at lk bC
  exact pe_lamcall (X := XL P w K mg base f c A outer s H E) (T := [(Pt, qL)]) (a := "work") hg G.gC G.FC.kp lk hcd bC scCaught rfl (Or.inl rfl)
    (caught_gives scCaught rfl rfl rfl rfl T.gS) TB rfl (List.mem_singleton.mpr rfl) (fun p hp _ => by rw [List.mem_singleton.mp hp]; rfl) hr (lamS_by L) rfl (fun _ _ _ _ _ => rfl) hbody
end
end K01

set_option Elab.async false
set_option linter.all false
set_option maxRecDepth 100000
set_option maxHeartbeats 4000000
set_option pp.maxSteps 3000
namespace K01
open PySem PySem.Spec PyProof.Rows L2 Dr Xv LamX
def forBody : Stmt → List Stmt
  | .For _ _ b _ _ => b
  | _ => []
abbrev lapB : List Stmt := forBody ((defBody sLaw).getD 1 (.Pass ⟨0, 0, 0, 0⟩))
/-- all but the draw and the tables stays -/
def Keep (d l : Addr) (H H' : Hp) : Prop := ∀ b o, H b = some o → b ≠ d → b ≠ l → (∀ ps, o ≠ .tbl ps) → H' b = some o
/-- a list of the law's own -/
structure Own (H : Hp) (d l p : Addr) (xs : List V) : Prop where
  at_ : H p = some (.lst xs)
  nd : p ≠ d
  nl : p ≠ l
/-- the draw and the tables -/
structure Wd (Pt : Addr) (H : Hp) (d l c : Addr) : Prop where
  dr : Draw H d l c
  tb : Tabs [(Pt, qL)] H
section
variable {H H' : Hp} {d l c p Pt : Addr} {xs : List V}
theorem Own.same (h : Own H d l p xs) (s : Same H H') : Own H' d l p xs := ⟨s _ _ h.at_, h.nd, h.nl⟩
theorem Own.sx (h : Own H d l p xs) (s : SameX d l H H') : Own H' d l p xs := ⟨s _ _ h.at_ h.nd h.nl, h.nd, h.nl⟩
theorem Own.ext (h : Own H d l p xs) (s : ExtN H H') : Own H' d l p xs := ⟨s _ _ h.at_ (fun ps z => by cases z), h.nd, h.nl⟩
theorem Own.new (D : Draw H d l c) (n : H p = none) : Own (upd H p (.lst xs)) d l p xs := ⟨upd_same, (D.ne n).1, (D.ne n).2.1⟩
theorem Wd.same (W : Wd Pt H d l c) (s : Same H H') : Wd Pt H' d l c := ⟨W.dr.same s, W.tb.ext s⟩
theorem Wd.sx (W : Wd Pt H d l c) (s : SameX d l H H') (D : Draw H' d l c) : Wd Pt H' d l c := by
  refine ⟨D, fun p hp => ?_⟩
  obtain ⟨ls, cs, r, t, D0⟩ := W.dr
  obtain ⟨ps, h1, h2, h3⟩ := W.tb p hp
  refine ⟨ps, s _ _ h1 (ne_of h1 D0.dd (fun z => by cases z)) (ne_of h1 D0.dl (fun z => by cases z)), h2, fun pos cv hc => ?_⟩
  obtain ⟨k, e1, e2⟩ := h3 pos cv hc
  refine ⟨k, e1, s _ _ e2 (ne_of e2 D0.dd (fun z => ?_)) (ne_of e2 D0.dl (fun z => ?_))⟩
  · unfold CodeO at z
    cases z
  · unfold CodeO at z
    cases z
theorem Draw.ext (D : Draw H d l c) (s : ExtN H H') : Draw H' d l c := by
  obtain ⟨ls, cs, r, t, D0⟩ := D
  exact ⟨ls, cs, r, t, s _ _ D0.dd (fun ps z => by cases z), s _ _ D0.dl (fun ps z => by cases z), s _ _ D0.dc (fun ps z => by cases z), D0.lc⟩
end
section
variable {P : Program} {w : World} {K : PySem.W.Frag} {mg : Str → Option Value} {base : Heap} {cS cN cR cT fI : Addr} {f c Pt : Addr} {A : Around} {outer : List Env} {s : Shared} {H : Hp} {E : XK}
theorem iteF' {b : Bool} {A B : Prop} (h : b = false) (q : B) : if b = true then A else B := by
  rw [h]
  exact iteF q
theorem iteT' {b : Bool} {A B : Prop} (h : b = true) (q : A) : if b = true then A else B := by
  rw [h]
  exact iteT q
section
variable {H : Hp} {p : Addr} {ns : List Int} {m t : Nat} {cN cR cT : Addr} {Q : VK} {E : XK}
theorem within_yes {i lo hi : Int} (h1 : lo ≤ i) (h2 : i ≤ hi) : within (.int i) lo hi = true := by
  show (decide (lo ≤ i) && decide (i ≤ hi)) = true
  rw [decide_eq_true h1, decide_eq_true h2]
  rfl
theorem int_eq {a b : Nat} (h : V.int (a : Int) = V.int (b : Int)) : a = b := by
  injection h with h
  omega
theorem use_spread (hp : Items H (.ref p) (some (ns.map V.int))) (l1 : 1 ≤ ns.length) (l2 : ns.length ≤ 60) (m1 : 1 ≤ m) (m2 : m ≤ 40) (q : ∀ H' r, Same H H' → H r = none → H' r = some (.lst ((spreadI ns m).map V.int)) → Q (.ref r) H') :
    spSpread cN cR cT [.ref p, .int (m : Int)] H Q E := by
  have hrow := row_ints l1 (by omega : ns.length ≤ 3001)
  refine ⟨_, _, _, rfl, hp, short_ints (by omega), pv_ints _, .int _, fun z => ?_, fun _ z => ?_, fun xs k e _ em k1 k2 h => ?_, fun xs k e _ em k1 k2 h H' r s n hr => ?_⟩
  · rw [hrow] at z
    cases z
  · rw [within_yes (by omega) (by omega)] at z
    cases z
  · cases e
    have := int_eq em
    subst this
    rw [List.length_map] at h
    have := Nat.mul_le_mul m2 l2
    omega
  · cases e
    have := int_eq em
    subst this
    rw [spread_ints] at hr
    exact q H' r s n hr
theorem use_sect {xs : List V} (hp : H p = some (.lst xs)) (hrow : isRow (some xs) = true) (hs : short (some xs)) (hv : AllPV H (some xs)) (m1 : 1 ≤ m) (m2 : m ≤ 40) (ht : t < m) (hl : t < xs.length) (q : ∀ H' r, Same H H' → H r = none → H' r = some (.lst (stepV xs t m)) → Q (.ref r) H') :
    spSect cN cR [.ref p, .int (m : Int), .int (t : Int)] H Q E := by
  refine ⟨_, _, _, _, rfl, .lst hp, fun a e => ⟨xs, by cases e; exact hp⟩, hs, hv, .int _, .int _, fun z => ?_, fun _ z => ?_, fun k _ em _ _ z => ?_, fun xs' k j e _ em et k1 k2 hjk h => ?_, fun xs' k j e _ em et k1 k2 hjk h H' r s n hr => ?_⟩
  · rw [hrow] at z
    cases z
  · rw [within_yes (by omega) (by omega)] at z
    cases z
  · injection em with em
    rw [within_yes (by omega) (by omega)] at z
    cases z
  · cases e
    have := int_eq em
    have := int_eq et
    omega
  · cases e
    have := int_eq em
    subst this
    have := int_eq et
    subst this
    exact q H' r s n hr
theorem use_sect_end {xs : List V} (hp : H p = some (.lst xs)) (hrow : isRow (some xs) = true) (hs : short (some xs)) (hv : AllPV H (some xs)) (m1 : 1 ≤ m) (m2 : m ≤ 40) (ht : t < m) (hl : xs.length ≤ t) (q : ∀ H', Same H H' → E (.ref cR) none H') :
    spSect cN cR [.ref p, .int (m : Int), .int (t : Int)] H Q E := by
  refine ⟨_, _, _, _, rfl, .lst hp, fun a e => ⟨xs, by cases e; exact hp⟩, hs, hv, .int _, .int _, fun z => ?_, fun _ z => ?_, fun k _ em _ _ z => ?_, fun xs' k j e _ em et k1 k2 hjk h => q, fun xs' k j e _ em et k1 k2 hjk h H' r s n hr => ?_⟩
  · rw [hrow] at z
    cases z
  · rw [within_yes (by omega) (by omega)] at z
    cases z
  · injection em with em
    rw [within_yes (by omega) (by omega)] at z
    cases z
  · cases e
    have := int_eq em
    have := int_eq et
    omega
/-- rows that are lists of the law -/
structure RL (H : Hp) (rs : List V) (ls : List (List V)) : Prop where
  len : ls.length = rs.length
  at_ : ∀ (i : Nat) (l : List V), ls[i]? = some l → isRow (some l) = true ∧ (∀ v ∈ l, ∃ z : Int, v = .int z) ∧ ∃ b, rs[i]? = some (.ref b) ∧ H b = some (.lst l)
theorem RL.rows {rs : List V} {ls : List (List V)} (h : RL H rs ls) : RowsAt H rs (ls.map some) := by
  refine ⟨by rw [List.length_map]; exact h.len, fun i r e => ?_⟩
  have hi := (List.getElem?_eq_some_iff.mp e).1
  have hi2 : i < ls.length := by rw [h.len]; exact hi
  have e2 : ls[i]? = some ls[i] := by simp [hi2]
  obtain ⟨h1, h2, b, h3, h4⟩ := h.at_ i _ e2
  rw [e] at h3
  cases h3
  refine ⟨some ls[i], by rw [List.getElem?_map, e2]; rfl, .lst h4, fun xs ex => ?_, fun xs ex v hv => ?_⟩
  · cases ex
    obtain ⟨xs, ex, _, _, l2⟩ := isRow_some h1
    cases ex
    rw [sizeLine_eq]
    omega
  · cases ex
    obtain ⟨z, rfl⟩ := h2 v hv
    exact .int z
theorem RL.all {rs : List V} {ls : List (List V)} (h : RL H rs ls) : ∀ x ∈ ls.map some, isRow x = true := fun x hx => by
  obtain ⟨l, hl, rfl⟩ := List.mem_map.mp hx
  obtain ⟨i, hi⟩ := List.mem_iff_getElem?.mp hl
  exact (h.at_ i l hi).1
theorem RL.lists {rs : List V} {ls : List (List V)} (h : RL H rs ls) : ListsAt H rs ls := by
  refine ⟨h.len, fun i l e => ?_⟩
  obtain ⟨h1, _, b, h3, h4⟩ := h.at_ i l e
  obtain ⟨xs, ex, _, _, l2⟩ := isRow_some h1
  cases ex
  exact ⟨l2, b, h3, h4⟩
theorem RL.same {H' : Hp} {rs : List V} {ls : List (List V)} (h : RL H rs ls) (s : Same H H') : RL H' rs ls := ⟨h.len, fun i l e => by
  obtain ⟨h1, h2, b, h3, h4⟩ := h.at_ i l e
  exact ⟨h1, h2, b, h3, s _ _ h4⟩⟩
theorem some_map {a b : List (List V)} (h : a.map some = b.map some) : a = b := by
  have := congrArg (List.filterMap id) h
  rw [List.filterMap_map, List.filterMap_map] at this
  simpa using this
theorem use_woven {x : V} {rs : List V} {ls : List (List V)} {s : Nat} (hi : Items H x (some rs)) (R : RL H rs ls) (l1 : 1 ≤ rs.length) (l2 : rs.length ≤ 360) (hs : IsSize ls s) (h3 : s ≤ 3001) (q : ∀ H' p, Same H H' → H p = none → H' p = some (.lst (woven ls s)) → Q (.ref p) H') :
    spWoven cR cT [x] H Q E := by
  refine ⟨_, _, rfl, hi, fun xs e => ?_, fun z => (nomatch z), fun rs' e n => ?_, fun rs' e n => ?_⟩
  · cases e
    rw [sizeLine_eq]
    omega
  · cases e
    exact absurd ⟨l1, l2⟩ n
  · cases e
    refine ⟨_, R.rows, fun ⟨y, hy, hn⟩ => ?_, fun ls' s' e _ hs' => ?_⟩
    · rw [R.all y hy] at hn
      cases hn
    · have e2 := some_map e
      subst e2
      have e3 := size_uniq hs hs'
      subst e3
      exact ⟨fun h => absurd h (by omega), fun _ => q⟩
end
def stepI (ns : List Int) (t m : Nat) : List Int := (List.range ((ns.length - t + m - 1) / m)).filterMap fun k => ns[t + m * k]?
theorem stepV_ints (ns : List Int) (t m : Nat) : stepV (ns.map V.int) t m = (stepI ns t m).map V.int := by
  unfold stepV stepI
  rw [List.map_filterMap, List.length_map]
  congr 1
  funext k
  rw [List.getElem?_map]
theorem spreadI_len {k : Nat} (hk : 0 < k) (ns : List Int) : (spreadI ns k).length = k * ns.length := by
  have h := congrArg List.length (spread_ints ns k)
  rw [spread_len hk, List.length_map, List.length_map] at h
  exact h.symm
section
variable {H : Hp} {p : Addr} {m t : Nat} {cN cR : Addr} {Q : VK} {E : XK}
theorem use_sectI {xs : List V} {ti : Int} (et : ti = (t : Int)) (hp : H p = some (.lst xs)) (hrow : isRow (some xs) = true) (hs : short (some xs)) (hv : AllPV H (some xs)) (m1 : 1 ≤ m) (m2 : m ≤ 40) (ht : t < m) (hl : t < xs.length) (q : ∀ H' r, Same H H' → H r = none → H' r = some (.lst (stepV xs t m)) → Q (.ref r) H') :
    spSect cN cR [.ref p, .int (m : Int), .int ti] H Q E := by
  subst et
  exact use_sect hp hrow hs hv m1 m2 ht hl q
theorem all_int : ∀ {xs : List V}, (∀ v ∈ xs, ∃ z : Int, v = .int z) → ∃ ws : List Int, xs = ws.map V.int
  | [], _ => ⟨[], rfl⟩
  | x :: r, h => by
    obtain ⟨z, rfl⟩ := h x List.mem_cons_self
    obtain ⟨ws, rfl⟩ := all_int (xs := r) fun v hv => h v (List.mem_cons_of_mem _ hv)
    exact ⟨z :: ws, rfl⟩
theorem woven_ints {ls : List (List V)} {s : Nat} (hs : IsSize ls s) (h : ∀ (i : Nat) (l : List V), ls[i]? = some l → ∀ v ∈ l, ∃ z : Int, v = .int z) : ∃ ws : List Int, woven ls s = ws.map V.int := by
  refine all_int fun v hv => ?_
  obtain ⟨n, hn, rfl⟩ := List.mem_map.mp hv
  rw [List.mem_range] at hn
  obtain ⟨l, v, e1, e2, _, e4⟩ := size_lt hs hn
  rw [e4]
  exact h _ l e1 v (List.mem_of_getElem? e2)
theorem Wd.upd {Pt d l c D' : Addr} {xs ys : List V} (W : Wd Pt H d l c) (h : H D' = some (.lst xs)) (n1 : D' ≠ d) (n2 : D' ≠ l) (n3 : D' ≠ c) : Wd Pt (upd H D' (.lst ys)) d l c := by
  refine ⟨W.dr.put n1 n2 n3, fun p hp => ?_⟩
  obtain ⟨ps, h1, h2, h3⟩ := W.tb p hp
  refine ⟨ps, by rw [upd_ne (ne_of h1 h (fun z => by cases z))]; exact h1, h2, fun pos cv hc => ?_⟩
  obtain ⟨k, e1, e2⟩ := h3 pos cv hc
  have nk : k ≠ D' := ne_of e2 h (fun z => by
    unfold CodeO at z
    cases z)
  exact ⟨k, e1, by rw [upd_ne nk]; exact e2⟩
theorem Own.upd {d l p D' : Addr} {xs : List V} {o : HO} (O : Own H d l p xs) (h : p ≠ D') : Own (upd H D' o) d l p xs := ⟨by rw [upd_ne h]; exact O.at_, O.nd, O.nl⟩
end
theorem tn {σ : L2.St} {H : Hp} {Q : List V → Hp → Prop} (h : Q [] H) : tNil σ H Q := h
theorem tn0 {v : V} {σ : L2.St} {H : Hp} {Q : List V → Hp → Prop} (h : Q [v] H) : tCons (tC v) tNil σ H Q := h
/-- the law's slots: the draw is known -/
def Slots (d : Addr) (σ : L2.St) : Prop := ∃ x0 x1 x2 x3 x4 x5 x6 x7 x8 x9 x11 x12 x13 x14 x15 x16, σ = [x0, x1, x2, x3, x4, x5, x6, x7, x8, x9, some (.ref d), x11, x12, x13, x14, x15, x16]
theorem eq_no (ls : List Int) : (!PyData.eqv (.list (intsD ls)) (.list (intsD ls))) = false := by
  have e := SeqAt.eqv_refl (.list (intsD ls)) (show PyData.canLay0 (.list (intsD ls)) = true from ints_lay ls)
  rw [e]
  rfl
theorem lap_ok (G : Fns P w K mg base cS cN cR cT fI) (T : Txt K mg cS cN cR cT fI) (TB : TabB base mg c Pt) (hr : Room 9 (XL P w K mg base f c A outer s H E).A) :
    ∃ t, PSs (XL P w K mg base f c A outer s H E) lapB t ∧ ∀ (D : Ends) (σ : L2.St) (H0 : Hp) (d l cc : Addr), Slots d σ → Wd Pt H0 d l cc → (∀ σ' H', Slots d σ' → Wd Pt H' d l cc → D.nx σ' H') → t D σ H0 := by
  have hr8 : Room 8 (XL P w K mg base f c A outer s H E).A := hr.mono (by decide)
  have hr6 : Room 6 (XL P w K mg base f c A outer s H E).A := hr.mono (by decide)
  have hr3 : Room 3 (XL P w K mg base f c A outer s H E).A := hr.mono (by decide)
  have hr2 : Room 2 (XL P w K mg base f c A outer s H E).A := hr.mono (by decide)
  have hr1 : Room 1 (XL P w K mg base f c A outer s H E).A := hr.mono (by decide)
  have hx : ∀ {X : Cx}, Passes (L2.CX X.prog X.w) X (fun _ _ _ => False) := fun {X} => passes_call L2.takes0 (fun _ _ _ _ z => z)
  refine ⟨_, pss_cons (ps_asg (pe_tup (pa_cons (pe_call G.GS hr3 rfl G.gS G.kS G.bS .nil pass0 (pa_cons (pv 10) (pa_cons pe_int pa_nil)))
        (pa_cons (pe_op op_add pe_int (pe_call G.GT hr2 rfl G.gT G.kT G.bT .nil pass0 (pa_cons (pv 10) (pa_cons (pe_call G.GP hr3 rfl G.gP G.kP G.bP .nil pass0 (pa_cons (pv 10) (pa_cons (pe_lst (pa_cons pe_int (pa_cons pe_int (pa_cons pe_int pa_nil)))) pa_nil))) pa_nil)))) pa_nil)))
        (pg_tup rfl (pgs_cons (pg_name (i := 13) scLaw.nd rfl (Or.inr rfl)) (pgs_cons (pg_name (i := 11) scLaw.nd rfl (Or.inr rfl)) pgs_nil))))
    (pss_cons (ps_set (i := 14) scLaw.nd rfl (Or.inr rfl) (pe_call G.GT hr2 rfl G.gT G.kT G.bT .nil pass0 (pa_cons (pv 10) (pa_cons (pv 11) pa_nil))))
    (pss_cons (ps_set (i := 2) scLaw.nd rfl (Or.inl rfl) (pe_lst pa_nil))
    (pss_cons (ps_for PassesOwn.never rfl (pi_list (pv 13)) (pg_name (i := 3) scLaw.nd rfl (Or.inl rfl))
      (pss_one (ps_set (i := 2) scLaw.nd rfl (Or.inl rfl) (pe_op op_cat (pe_op op_cat (pv 2) (pe_lst (pa_cons (pv 3) pa_nil))) (pe_op op_rep (pe_lst (pa_cons pe_int pa_nil)) (pe_op op_sub (pv 11) pe_int))))))
    (pss_cons (ps_if (PW.pt (pw_or (pt_cmpR (op_neD hr.units) (pe_call G.GSp hr6 rfl G.gSp G.kSp G.bSp .nil hx (pa_cons (pv 13) (pa_cons (pv 11) pa_nil))) (pv 2) (nomark _))
        (pw_or1 (pt_cmpR (op_neD hr.units) (pe_callK0 G.GSp hr6 rfl G.gSp G.kSp G.hSp hx (pk_cons (pv 11) (pk_cons (pe_callTy call_tuple_of (by rfl) G.tuple0 (by decide +kernel) (pa_cons (pv 13) pa_nil)) pk_nil))) (pv 2) (nomark _)))))
      (pss_one (ps_ret pe_bl)) pss_nil)
    (C8.pss_cut (ps_if (pt_cmpR op_lt (pv 14) (pe_callB call_len (by rfl) G.len0 PySem.boot_len (pa_cons (pv 13) pa_nil)) (nomark _))
      (pss_cons (ps_setLc (i := 4) (own := [("n", 15), ("item", 3)]) (g := gTup K 2 (gCons (gName 15) (gCons (gName 3) gNil))) rfl scLaw.nd rfl rfl (sw_true rfl rfl rfl (by decide +kernel)) (pi_enumT (by rfl) G.enum0 (pa_cons (pv 13) pa_nil)) (blkOk_by (own := [("n", 15), ("item", 3)]) (N := NL) (sc := defScope sLaw) (by decide +kernel))
          (fun _ _ _ _ _ => pg_tup rfl (pgs_cons (pg_name (i := 15) scLaw.nd rfl (Or.inl rfl)) (pgs_cons (pg_name (i := 3) scLaw.nd rfl (Or.inl rfl)) pgs_nil)))
          (fun _ _ _ _ _ => pts_one (pt_cmpR op_eq (pe_op op_modN (pv 15) (pv 11)) (pv 14) (nomark _))) (fun _ _ _ _ _ => pv 3))
      (pss_one (ps_if (PW.pt (pw_or (pt_cmpR (op_neD hr.units) (pe_call G.GSe hr6 rfl G.gSe G.kSe G.bSe .nil hx (pa_cons (pv 13) (pa_cons (pv 11) (pa_cons (pv 14) pa_nil)))) (pv 4) (nomark _))
        (pw_or (pt_cmpR (op_neD hr.units) (pe_callK0 G.GSe hr6 rfl G.gSe G.kSe G.hSe hx (pk_cons (pv 14) (pk_cons (pv 11) (pk_cons (pv 13) pk_nil)))) (pv 4) (nomark _))
        (pw_or1 (pt_cmpR (op_neD hr.units) (pe_call G.GSe hr6 rfl G.gSe G.kSe G.bSe .nil hx (pa_cons (pv 2) (pa_cons (pv 11) (pa_cons pe_int pa_nil)))) (pv 13) (nomark _))))))
        (pss_one (ps_ret pe_bl)) pss_nil)))
      (pss_one (ps_if (pt_not (pt_val (pe_callB call_isC (by rfl) G.isi0 boot_isinstance (pa_cons (pe_law (t := fun E' => tCall (spSect cN cR) [] E' (tCons (tVar 13) (tCons (tVar 11) (tCons (tVar 14) tNil)))) G T TB hr8 (by decide +kernel) rfl
          (fun A' outer' s' H' E' f' c' hr' => pe_call G.GSe hr' rfl G.gSe G.kSe G.bSe .nil (passes_call (takes_of rfl rfl rfl rfl) (fun _ _ _ _ h => h)) (pa_cons (pv 13) (pa_cons (pv 11) (pa_cons (pv 14) pa_nil)))))
          (pa_cons (pe_glob (v := .ref cR) rfl T.gR rfl) pa_nil))))) (pss_one (ps_ret pe_bl)) pss_nil)))
    (pss_cons (ps_setLc (i := 5) (own := [("k", 16)]) (g := gName 16) rfl scLaw.nd rfl rfl (sw_true rfl rfl rfl (by decide +kernel)) (pi_range1 (by rfl) G.range0 (pa_cons (pe_op op_add pe_int (pe_call G.GT hr2 rfl G.gT G.kT G.bT .nil pass0 (pa_cons (pv 10) (pa_cons pe_int pa_nil)))) pa_nil)) (blkOk_by (own := [("k", 16)]) (N := NL) (sc := defScope sLaw) (by decide +kernel))
          (fun _ _ _ _ _ => pg_name (i := 16) scLaw.nd rfl (Or.inl rfl)) (fun _ _ _ _ _ => pts_nil)
          (fun _ _ _ _ _ => pe_call G.GS hr3 rfl G.gS G.kS G.bS .nil pass0 (pa_cons (pv 10) (pa_cons pe_int pa_nil))))
    (pss_cons (ps_set (i := 4) scLaw.nd rfl (Or.inl rfl) (pe_call G.GW hr1 rfl G.gW G.kW G.bW .nil pass0 (pa_cons (pv 5) pa_nil)))
    (pss_cons (ps_if (PW.pt (pw_or (pt_cmpR (op_neD hr.units) (pe_call G.GWo hr6 rfl G.gWo G.kWo G.bWo .nil hx (pa_cons (pv 5) pa_nil)) (pv 4) (nomark _))
        (pw_or1 (pt_cmpR (op_neD hr.units) (pe_callK0 G.GWo hr6 rfl G.gWo G.kWo G.hWo hx (pk_cons (pe_callTy call_tuple_of (by rfl) G.tuple0 (by decide +kernel) (pa_cons (pv 5) pa_nil)) pk_nil)) (pv 4) (nomark _)))))
      (pss_one (ps_ret pe_bl)) pss_nil)
    (pss_one (ps_if (PW.pt (pw_and (pt_cmpR op_ge (pe_callB call_len (by rfl) G.len0 PySem.boot_len (pa_cons (pv 13) pa_nil)) (pv 11) (nomark _))
        (pw_and1 (pt_cmpR (op_neD hr.units) (pe_call G.GWo hr6 rfl G.gWo G.kWo G.bWo .nil hx (pa_cons (pe_lc (own := [("k", 16)]) (g := gName 16) rfl scLaw.nd (pi_range1 (by rfl) G.range0 (pa_cons (pv 11) pa_nil)) (blkOk_by (own := [("k", 16)]) (N := NL) (sc := defScope sLaw) (by decide +kernel))
          (fun _ _ _ _ _ => pg_name (i := 16) scLaw.nd rfl (Or.inl rfl)) (fun _ _ _ _ _ => pts_nil)
          (fun _ _ _ _ _ => pe_call G.GSe hr6 rfl G.gSe G.kSe G.bSe .nil hx (pa_cons (pv 13) (pa_cons (pv 11) (pa_cons (pv 16) pa_nil))))) pa_nil)) (pv 13) (nomark _)))))
      (pss_one (ps_ret pe_bl)) pss_nil)))))))))), ?_⟩
  rintro D σ H0 d l cc ⟨x0, x1, x2, x3, x4, x5, x6, x7, x8, x9, x11, x12, x13, x14, x15, x16, rfl⟩ W0 q
  refine ⟨_, rfl, d, l, cc, 60, rfl, W0.dr, by decide, by decide, fun p ns H1 n1 n2 hp D1 s1 h1 => ?_⟩
  have W1 := W0.sx s1 D1
  have nd : p ≠ d := (W0.dr.ne hp).1
  have nl : p ≠ l := (W0.dr.ne hp).2.1
  have O1 : Own H1 d l p (ns.map V.int) := ⟨h1, nd, nl⟩
  refine ⟨_, rfl, _, rfl, (by show 3 ≤ sizeLine; decide), fun z hz => ?_⟩
  have W2 := W1.same (same_new (o := .lst [.int 5, .int 12, .int 40]) hz)
  have O2 := O1.same (same_new (o := .lst [.int 5, .int 12, .int 40]) hz)
  have Oz : Own _ d l z [.int 5, .int 12, .int 40] := Own.new W1.dr hz
  refine ⟨d, l, cc, z, [.int 5, .int 12, .int 40], rfl, W2.dr, fun H' s' => SqL.of (Oz.sx s').at_, by simp, by show 3 ≤ 1000; decide, fun v H3 hv D3 s3 => ?_⟩
  have W3 := W2.sx s3 D3
  have O3 := O2.sx s3
  obtain ⟨sz, rfl, hsz1, hsz2⟩ : ∃ sz : Nat, v = .int (sz : Int) ∧ 0 < sz ∧ sz ≤ 40 := by
    simp only [List.mem_cons, List.not_mem_nil, or_false] at hv
    rcases hv with rfl | rfl | rfl
    · exact ⟨5, rfl, by decide, by decide⟩
    · exact ⟨12, rfl, by decide, by decide⟩
    · exact ⟨40, rfl, by decide, by decide⟩
  refine ⟨d, l, cc, _, rfl, D3, by omega, log_small (by omega), fun mv H4 mv0 mv1 D4 s4 => ?_⟩
  have W4 := W3.sx s4 D4
  have O4 := O3.sx s4
  obtain ⟨m', rfl⟩ : ∃ m' : Nat, mv = (m' : Int) := ⟨mv.toNat, by omega⟩
  obtain ⟨m, em, m1, m2⟩ : ∃ m : Nat, 1 + (m' : Int) = (m : Int) ∧ 1 ≤ m ∧ m ≤ 40 := ⟨1 + m', by omega, by omega, by omega⟩
  refine ⟨_, _, rfl, rfl, ?_⟩
  refine ⟨(by show 2 ≤ sizeLine; decide), fun tp htp => ?_⟩
  refine ⟨tp, [.ref p, .int (m : Int)], rfl, SqT.of (by
    rw [upd_same]
    show some (HO.tup [V.ref p, V.int (1 + (m' : Int))]) = _
    rw [em]), rfl, _, _, rfl, _, _, rfl, rfl, ?_⟩
  refine ⟨_, rfl, _, rfl, d, l, cc, _, rfl, (W4.same (same_new htp)).dr, by omega, log_small (by omega), fun tv H6 tv0 tv1 D6 s6 => ?_⟩
  have W5 := W4.same (same_new (o := .tup [.ref p, .int (1 + (m' : Int))]) htp)
  have O5 := O4.same (same_new (o := .tup [.ref p, .int (1 + (m' : Int))]) htp)
  have W6 := W5.sx s6 D6
  have O6 := O5.sx s6
  obtain ⟨t, rfl⟩ : ∃ t : Nat, tv = (t : Int) := ⟨tv.toNat, by omega⟩
  have ht : t < m := by omega
  clear s6 s4 s3 s1 W5 W4 W3 W2 W1 O5 O4 O3 O2 O1 D6 D4 D3 D1 htp hz Oz
  refine ⟨(by show 0 ≤ sizeLine; decide), fun wd hwd => ?_⟩
  have W7 := W6.same (same_new (o := .lst []) hwd)
  have O7 := O6.same (same_new (o := .lst []) hwd)
  have Ow7 : Own _ d l wd [] := Own.new W6.dr hwd
  generalize upd H6 wd (.lst []) = H7 at W7 O7 Ow7
  clear W6 O6 hwd
  have len1 : ∀ i, i ≤ ns.length → (spread ((ns.map V.int).take i) m).length ≤ 2400 := fun i hi => by
    rw [spread_len (by omega), List.length_take, List.length_map]
    have e1 : min i ns.length ≤ 60 := by omega
    have := Nat.mul_le_mul m2 e1
    omega
  refine ⟨_, rfl, p, rfl, ⟨_, SqL.of O7.at_⟩, for_list (K := K) (a := p) (xs := ns.map V.int)
    (fun i σ H' => ∃ y3 wd', σ = [x0, x1, some (.ref wd'), y3, x4, x5, x6, x7, x8, x9, some (.ref d), some (.int (m : Int)), x12, some (.ref p), some (.int (t : Int)), x15, x16] ∧ Wd Pt H' d l cc ∧ Own H' d l p (ns.map V.int) ∧ Own H' d l wd' (spread ((ns.map V.int).take i) m))
    ⟨_, wd, rfl, W7, O7, Ow7⟩ (fun i σ H' _ ⟨_, _, _, _, O, _⟩ => SqL.of O.at_) ?_ ?_⟩
  · rintro i x σ H8 hi ⟨y3, wd', rfl, W8, O8, Ow8⟩
    obtain ⟨hi2, hi3⟩ := List.getElem?_eq_some_iff.mp hi
    rw [List.length_map] at hi2
    have e9 := spread_take (k := m) hi
    have l9 := len1 (i + 1) hi2
    have l8 := len1 i (by omega)
    refine ⟨_, rfl, _, rfl, (by show 1 ≤ sizeLine; decide), fun a1 h1 => ?_⟩
    have s1 : Same H8 (upd H8 a1 (.lst [x])) := same_new h1
    refine ⟨wd', a1, _, [x], rfl, rfl, s1 _ _ Ow8.at_, upd_same, ?_, fun a2 h2 => ?_⟩
    · show _ + 1 ≤ sizeLine
      rw [sizeLine_eq]
      omega
    have s2 := s1.trans (same_new (o := .lst (spread ((ns.map V.int).take i) m ++ [x])) h2)
    refine ⟨(by show 1 ≤ sizeLine; decide), fun a3 h3 => ?_⟩
    have s3 := s2.trans (same_new (o := .lst [V.int 0]) h3)
    refine ⟨_, rfl, _, _, rfl, rfl, a3, _, _, rfl, rfl, upd_same, by omega, by omega, ?_, fun a4 h4 => ?_⟩
    · show 1 * _ ≤ sizeLine
      rw [sizeLine_eq]
      omega
    have e4 : (List.replicate ((m : Int) - 1).toNat [V.int 0]).flatten = zer (m - 1) := by
      have e5 : ((m : Int) - 1).toNat = m - 1 := by omega
      rw [e5]
      show _ = List.replicate _ _
      generalize m - 1 = n
      induction n with
      | zero => rfl
      | succ n ih => rw [List.replicate_succ, List.flatten_cons, ih, List.replicate_succ]; rfl
    have h2' : H8 a2 = none := s1.free h2
    have s4 := s3.trans (same_new (o := .lst (List.replicate ((m : Int) - 1).toNat [V.int 0]).flatten) h4)
    refine ⟨a2, a4, (spread ((ns.map V.int).take i) m ++ [x]), _, rfl, rfl, same_new h4 _ _ (same_new h3 _ _ upd_same), upd_same, ?_, fun a5 h5 => ?_⟩
    · rw [e4, sizeLine_eq]
      rw [e9, List.length_append, List.length_cons] at l9
      rw [List.length_append, List.length_cons, List.length_nil]
      omega
    have s5 := s4.trans (same_new (o := .lst ((spread ((ns.map V.int).take i) m ++ [x]) ++ (List.replicate ((m : Int) - 1).toNat [V.int 0]).flatten)) h5)
    refine ⟨_, a5, rfl, W8.same s5, O8.same s5, ?_⟩
    rw [e9]
    have O9 := Own.new (xs := ((spread ((ns.map V.int).take i) m ++ [x]) ++ (List.replicate ((m : Int) - 1).toNat [V.int 0]).flatten)) (W8.same s4).dr h5
    have e10 : spread ((ns.map V.int).take i) m ++ (x :: zer (m - 1)) = (spread ((ns.map V.int).take i) m ++ [x]) ++ (List.replicate ((m : Int) - 1).toNat [V.int 0]).flatten := by
      rw [e4, List.append_assoc]
      rfl
    rw [e10]
    exact O9
  · rintro σ H8 ⟨y3, wd', rfl, W8, O8, Ow8⟩
    have etake : (ns.map V.int).take (ns.map V.int).length = ns.map V.int := List.take_length
    rw [etake, spread_ints] at Ow8
    clear W7 O7 Ow7
    have hrow := row_ints n1 (by omega : ns.length ≤ 3001)
    refine ⟨_, rfl, _, rfl, tn <| use_spread (.lst O8.at_) n1 n2 m1 m2 fun H9 r1 s9 _ hr1 => ?_⟩
    have W9 := W8.same s9
    have O9 := O8.same s9
    have Ow9 := Ow8.same s9
    refine ⟨_, rfl, .list (intsD (spreadI ns m)), .list (intsD (spreadI ns m)), .lst (SqL.of hr1) (ints_dp _), .lst (SqL.of Ow9.at_) (ints_dp _), ints_shaped _, ints_shaped _, _, rfl, iteF' (eq_no _) ?_⟩
    clear hr1 s9 W8 O8 Ow8
    refine ⟨_, rfl, _, rfl, p, _, rfl, .inl ⟨SqL.of O9.at_, fun t1 ht1 => ?_⟩⟩
    have s10 := same_new (o := .tup (ns.map V.int)) ht1
    refine tn <| use_spread (.tup upd_same) n1 n2 m1 m2 fun H11 r1 s11 _ hr1 => ?_
    have s12 := s10.trans s11
    have W11 := W9.same s12
    have O11 := O9.same s12
    have Ow11 := Ow9.same s12
    refine ⟨_, rfl, .list (intsD (spreadI ns m)), .list (intsD (spreadI ns m)), .lst (SqL.of hr1) (ints_dp _), .lst (SqL.of Ow11.at_) (ints_dp _), ints_shaped _, ints_shaped _, _, rfl, iteF' (eq_no _) ?_⟩
    clear hr1 s10 s11 s12 W9 O9 Ow9
    refine ⟨fun σ' H' => ∃ y4, σ' = [x0, x1, some (.ref wd'), y3, y4, x5, x6, x7, x8, x9, some (.ref d), some (.int (m : Int)), x12, some (.ref p), some (.int (t : Int)), x15, x16] ∧ Wd Pt H' d l cc ∧ Own H' d l p (ns.map V.int), ?_, ?_⟩
    · refine ⟨_, rfl, _, rfl, _, _, rfl, .inl ⟨_, SqL.of O11.at_, rfl⟩, _, _, rfl, rfl, _, rfl, ?_⟩
      have hshort := short_ints (by omega : ns.length ≤ 3001)
      by_cases c : t < ns.length
      · have c2 : t < (ns.map V.int).length := by
          rw [List.length_map]
          exact c
        refine iteT' (decide_eq_true (by omega)) ?_
        refine ⟨_, rfl, p, _, rfl, .inl ⟨SqL.of O11.at_, fun D' hD' => lc_it walk_enum (fun i H' => H' D' = some (.lst (secV (ns.map V.int) t m i)) ∧ Same H11 H' ∧ (secV (ns.map V.int) t m i).length ≤ i)
          ⟨upd_same, same_new hD', Nat.le_refl _⟩ (fun i H' _ ⟨_, sb, _⟩ => SqL.of (sb _ _ O11.at_)) ?_ ?_⟩⟩
        · rintro i v H12 H13 hi ⟨h12, sb, hl12⟩ ⟨T', y1, y2, rfl, hT, rfl, e1, e2⟩
          cases Option.some.inj e1
          have s4 : Same H11 (upd H12 T' (.tup [.int (i : Nat), y2])) := sb.trans (same_new hT)
          have hDT : D' ≠ T' := ne_of_none h12 hT
          rw [List.length_map] at hi
          have e2' : (ns.map V.int)[i]? = some y2 := e2
          have eg : (ns.map V.int).getD i .non = y2 := by rw [List.getD_eq_getElem?_getD, e2']; rfl
          refine ⟨T', _, rfl, SqT.of upd_same, rfl, _, _, rfl, _, _, rfl, rfl, rfl, ?_⟩
          have em2 : ((i : Nat) : Int).fmod (m : Int) = ((i % m : Nat) : Int) := by
            rw [Int.fmod_eq_emod_of_nonneg _ (by omega)]
            rfl
          refine ⟨_, rfl, _, rfl, _, _, rfl, rfl, by omega, ?_⟩
          refine ⟨_, rfl, rfl, _, rfl, ?_⟩
          have es : secV (ns.map V.int) t m (i + 1) = if i % m = t then secV (ns.map V.int) t m i ++ [(ns.map V.int).getD i .non] else secV (ns.map V.int) t m i := rfl
          rw [eg] at es
          by_cases q2 : i % m = t
          · rw [if_pos q2] at es
            refine iteT' (decide_eq_true (by
              show V.int (((i : Nat) : Int).fmod (m : Int)) = V.int (t : Int)
              rw [em2, q2])) ?_
            refine ⟨_, rfl, _, by rw [upd_ne hDT]; exact h12, ?_, ?_, ?_, ?_⟩
            · rw [sizeLine_eq]
              omega
            · rw [upd_same, es]
            · intro b' o' e'
              rw [upd_ne (ne_of_none e' hD')]
              exact s4 _ _ e'
            · rw [es, List.length_append, List.length_cons, List.length_nil]
              omega
          · rw [if_neg q2] at es
            refine iteF' (decide_eq_false (fun z => q2 (int_eq (by
              have z' : V.int (((i : Nat) : Int).fmod (m : Int)) = V.int (t : Int) := z
              rw [em2] at z'
              exact z')))) ⟨by rw [upd_ne hDT, es]; exact h12, s4, by rw [es]; omega⟩
        · rintro H12 ⟨h12, sb, _⟩
          have e3 : secV (ns.map V.int) t m (ns.map V.int).length = stepV (ns.map V.int) t m := sec_step ht (by omega)
          rw [e3, stepV_ints] at h12
          have W12 := W11.same sb
          have O12 := O11.same sb
          have Ow12 := Ow11.same sb
          refine ⟨_, rfl, _, rfl, _, rfl, tn <| use_sect O12.at_ hrow hshort (pv_ints _) m1 m2 ht c2 fun H13 r1 s13 _ hr1 => ?_⟩
          rw [stepV_ints] at hr1
          refine ⟨_, rfl, .list (intsD (stepI ns t m)), .list (intsD (stepI ns t m)), .lst (SqL.of hr1) (ints_dp _), .lst (SqL.of (s13 _ _ h12)) (ints_dp _), ints_shaped _, ints_shaped _, _, rfl, iteF' (eq_no _) ?_⟩
          refine ⟨_, rfl, _, rfl, _, rfl, tn <| use_sect (O12.same s13).at_ hrow hshort (pv_ints _) m1 m2 ht c2 fun H14 r2 s14 _ hr2 => ?_⟩
          rw [stepV_ints] at hr2
          have s15 := s13.trans s14
          refine ⟨_, rfl, .list (intsD (stepI ns t m)), .list (intsD (stepI ns t m)), .lst (SqL.of hr2) (ints_dp _), .lst (SqL.of (s15 _ _ h12)) (ints_dp _), ints_shaped _, ints_shaped _, _, rfl, iteF' (eq_no _) ?_⟩
          have l4 : (spreadI ns m).length ≤ 2400 := by
            rw [spreadI_len (by omega)]
            exact Nat.mul_le_mul m2 n2
          have l3 : 1 ≤ (spreadI ns m).length := by
            rw [spreadI_len (by omega)]
            exact Nat.mul_le_mul m1 n1
          refine ⟨_, rfl, _, rfl, tn0 <| use_sect (t := 0) (Ow12.same s15).at_ (row_ints l3 (by omega)) (short_ints (by omega)) (pv_ints _) m1 m2 (by omega) (by rw [List.length_map]; omega) fun H16 r3 s16 _ hr3 => ?_⟩
          rw [← spread_ints, step_spread (by omega)] at hr3
          have s17 := s15.trans s16
          refine ⟨_, rfl, .list (intsD ns), .list (intsD ns), .lst (SqL.of hr3) (ints_dp _), .lst (SqL.of (O12.same s17).at_) (ints_dp _), ints_shaped _, ints_shaped _, _, rfl, iteF' (eq_no _) ?_⟩
          exact ⟨_, rfl, W12.same s17, O12.same s17⟩
      · have c2 : (ns.map V.int).length ≤ t := by
          rw [List.length_map]
          omega
        refine iteF' (decide_eq_false (by rw [List.length_map]; omega)) ?_
        refine ⟨W11.tb, fun H12 eN T12 => ?_⟩
        refine ⟨_, rfl, _, rfl, _, rfl, tn <| use_sect_end (O11.ext eN).at_ hrow hshort (pv_ints _) m1 m2 ht c2 fun H13 s13 => ⟨T.mR, fun a ha => ?_⟩⟩
        refine ⟨a, cR, none, _, _, _, rfl, .inl ⟨rfl, upd_same⟩, T.eR, fun u r => r, T.iR, _, rfl, iteF ?_⟩
        have s14 : Same H12 (upd H13 a (ErX (.ref cR) none a)) := s13.trans (same_new ha)
        exact ⟨_, rfl, (Wd.mk (Draw.ext W11.dr eN) T12).same s14, (O11.ext eN).same s14⟩
    · rintro σ9 H9 ⟨y4, rfl, W9, O9⟩
      clear W11 O11 Ow11
      have lrow : (ns.map V.int).length = ns.length := List.length_map _
      refine ⟨_, rfl, d, l, cc, 9, rfl, W9.dr, by decide, by decide, fun v H10 v0 v1 D10 s10 => ⟨_, _, rfl, rfl, _, rfl, by omega, by omega, fun Dl hDl => ?_⟩⟩
      have W10 := W9.sx s10 D10
      have O10 := O9.sx s10
      obtain ⟨k, rfl⟩ : ∃ k : Nat, v = (k : Int) := ⟨v.toNat, by omega⟩
      obtain ⟨nd2, nl2, nc2⟩ := D10.ne hDl
      have npD : p ≠ Dl := ne_of_none O10.at_ hDl
      refine lc_range (lo := 0) (n := (1 + (k : Int) - 0).toNat) (fun i H' => ∃ (bs : List Addr) (lss : List (List Int)), bs.length = i ∧ lss.length = i ∧ H' Dl = some (.lst (bs.map V.ref)) ∧ (∀ (j : Nat) (ls : List Int), lss[j]? = some ls → 1 ≤ ls.length ∧ ls.length ≤ 12 ∧ ∃ b, bs[j]? = some b ∧ b ≠ Dl ∧ Own H' d l b (ls.map V.int)) ∧ Wd Pt H' d l cc ∧ Own H' d l p (ns.map V.int)) ?_ ?_ ?_
      · exact ⟨[], [], rfl, rfl, upd_same, fun j ls h => by simp at h, W10.same (same_new hDl), O10.same (same_new hDl)⟩
      · rintro i H11 hi ⟨bs, lss, rfl, hl2, hD, hall, W11, O11⟩
        refine ⟨rfl, yesT ⟨_, rfl, d, l, cc, 12, rfl, W11.dr, by decide, by decide, fun r ns' H12 r1 r2 hr Dr sr hr' => ?_⟩⟩
        have hD2 := sr _ _ hD nd2 nl2
        have W12 := W11.sx sr Dr
        have hrD : r ≠ Dl := fun z => by
          rw [z, hD] at hr
          cases hr
        obtain ⟨n3, n4, _⟩ := W11.dr.ne hr
        refine ⟨_, hD2, ?_, bs ++ [r], lss ++ [ns'], by simp, by simp [hl2], ?_, fun j ls hj => ?_, W12.upd hD2 nd2 nl2 nc2, (O11.sx sr).upd npD⟩
        · rw [List.length_map, sizeLine_eq]
          omega
        · rw [upd_same, List.map_append]
          rfl
        · by_cases hjl : j < lss.length
          · rw [List.getElem?_append_left hjl] at hj
            obtain ⟨a1, a2, b, a3, a4, a5⟩ := hall j ls hj
            exact ⟨a1, a2, b, by rw [List.getElem?_append_left (by omega)]; exact a3, a4, (a5.sx sr).upd a4⟩
          · have ej : j = lss.length := by
              have := (List.getElem?_eq_some_iff.mp hj).1
              rw [List.length_append, List.length_cons, List.length_nil] at this
              omega
            subst ej
            rw [List.getElem?_append_right (Nat.le_refl _), Nat.sub_self] at hj
            have ej2 : ns' = ls := Option.some.inj hj
            subst ej2
            refine ⟨r1, r2, r, ?_, hrD, ⟨by rw [upd_ne hrD]; exact hr', n3, n4⟩⟩
            rw [hl2, List.getElem?_append_right (Nat.le_refl _), Nat.sub_self]
            rfl
      · rintro H11 ⟨bs, lss, hl1, hl2, hD, hall, W11, O11⟩
        clear W9 O9 W10 O10
        have hn : lss.length = 1 + k := by omega
        have R : RL H11 (bs.map V.ref) (lss.map fun ls => ls.map V.int) := by
          refine ⟨by rw [List.length_map, List.length_map]; omega, fun i li hi => ?_⟩
          rw [List.getElem?_map] at hi
          obtain ⟨ls, e1, rfl⟩ := Option.map_eq_some_iff.mp hi
          obtain ⟨a1, a2, b, a3, _, a5⟩ := hall i ls e1
          refine ⟨row_ints a1 (by omega), fun v hv => ?_, b, by rw [List.getElem?_map, a3]; rfl, a5.at_⟩
          obtain ⟨z, _, rfl⟩ := List.mem_map.mp hv
          exact ⟨z, rfl⟩
        have hls : (lss.map fun ls => ls.map V.int).length = 1 + k := by rw [List.length_map, hn]
        obtain ⟨sz2, hsz⟩ := size_some (ls := lss.map fun ls => ls.map V.int) (by omega)
        have hsz3 : sz2 ≤ 3001 := by
          have h0 : 0 < lss.length := by omega
          have e0 : lss[0]? = some lss[0] := by simp [h0]
          obtain ⟨a1, a2, _⟩ := hall 0 _ e0
          have h5 := hsz.2 0 (lss[0].map V.int) (by rw [List.getElem?_map, e0]; rfl)
          rw [hls, List.length_map] at h5
          have h6 : (1 + k) * lss[0].length ≤ 9 * 12 := Nat.mul_le_mul (by omega) a2
          omega
        obtain ⟨ws, hws⟩ := woven_ints hsz (fun i li hi => (R.at_ i li hi).2.1)
        have hbl : (bs.map V.ref).length = 1 + k := by rw [List.length_map]; omega
        refine ⟨_, rfl, Dl, _, _, sz2, rfl, hD, R.lists, by omega, hsz, hsz3, fun du H12 _ s12 hdu => ?_⟩
        rw [hws] at hdu
        have R12 := R.same s12
        have W12 := W11.same s12
        have O12 := O11.same s12
        have hD12 := s12 _ _ hD
        refine ⟨_, rfl, tn <| use_woven (.lst hD12) R12 (by omega) (by omega) hsz hsz3 fun H13 r1 s13 _ hr1 => ?_⟩
        rw [hws] at hr1
        refine ⟨_, rfl, .list (intsD ws), .list (intsD ws), .lst (SqL.of hr1) (ints_dp _), .lst (SqL.of (s13 _ _ hdu)) (ints_dp _), ints_shaped _, ints_shaped _, _, rfl, iteF' (eq_no _) ?_⟩
        refine ⟨_, rfl, Dl, _, rfl, .inl ⟨SqL.of (s13 _ _ hD12), fun t2 ht2 => ?_⟩⟩
        have s14 := s13.trans (same_new (o := .tup (bs.map V.ref)) ht2)
        refine tn <| use_woven (.tup upd_same) (R12.same s14) (by omega) (by omega) hsz hsz3 fun H15 r2 s15 _ hr2 => ?_
        rw [hws] at hr2
        have s16 := s14.trans s15
        refine ⟨_, rfl, .list (intsD ws), .list (intsD ws), .lst (SqL.of hr2) (ints_dp _), .lst (SqL.of (s16 _ _ hdu)) (ints_dp _), ints_shaped _, ints_shaped _, _, rfl, iteF' (eq_no _) ?_⟩
        have W15 := W12.same s16
        have O15 := O12.same s16
        clear W11 O11 W12 O12 R12 R hr1 hr2 s15 s14 s13 s12 s16 hD12 hdu
        refine ⟨_, rfl, _, _, rfl, .inl ⟨_, SqL.of O15.at_, rfl⟩, _, rfl, _, _, rfl, rfl, _, rfl, ?_⟩
        by_cases cm : m ≤ (ns.map V.int).length
        · refine iteT' (decide_eq_true (by omega)) ?_
          refine ⟨_, rfl, _, rfl, by omega, by omega, fun D2 hD2 => lc_range (lo := 0) (n := (m : Int).toNat) (fun i H' => ∃ bs : List Addr, bs.length = i ∧ H' D2 = some (.lst (bs.map V.ref)) ∧ (∀ (j : Nat), j < i → ∃ b, bs[j]? = some b ∧ H' b = some (.lst (stepV (ns.map V.int) j m)) ∧ b ≠ D2) ∧ Same H15 H')
            ⟨[], rfl, upd_same, fun j h => absurd h (Nat.not_lt_zero _), same_new hD2⟩ ?_ ?_⟩
          · rintro i H16 hi ⟨bs2, rfl, hd2, hall2, s16⟩
            refine ⟨rfl, yesT ⟨_, rfl, _, rfl, _, rfl, tn <| use_sectI (t := bs2.length) (by omega) (s16 _ _ O15.at_) hrow (short_ints (by omega)) (pv_ints _) m1 m2 (by omega) (by omega) fun H17 r s17 hr0 hr => ?_⟩⟩
            have nr : r ≠ D2 := fun z => by
              rw [z, hd2] at hr0
              cases hr0
            refine ⟨_, s17 _ _ hd2, ?_, bs2 ++ [r], by simp, ?_, fun j hj => ?_, fun b o e => ?_⟩
            · rw [List.length_map, sizeLine_eq]
              omega
            · rw [upd_same, List.map_append]
              rfl
            · by_cases hj2 : j < bs2.length
              · obtain ⟨b, b1, b2, b3⟩ := hall2 j hj2
                exact ⟨b, by rw [List.getElem?_append_left hj2]; exact b1, by rw [upd_ne b3]; exact s17 _ _ b2, b3⟩
              · have ej : j = bs2.length := by omega
                subst ej
                exact ⟨r, by rw [List.getElem?_append_right (Nat.le_refl _), Nat.sub_self]; rfl, by rw [upd_ne nr]; exact hr, nr⟩
            · rw [upd_ne (ne_of_none e hD2)]
              exact (s16.trans s17) _ _ e
          · rintro H16 ⟨bs2, hl3, hd2, hall2, s16⟩
            have hbm : bs2.length = m := by omega
            have R : RL H16 (bs2.map V.ref) ((List.range m).map fun k => stepV (ns.map V.int) k m) := by
              refine ⟨by rw [List.length_map, List.length_map, List.length_range, hbm], fun i li hi => ?_⟩
              rw [List.getElem?_map] at hi
              obtain ⟨k2, e1, rfl⟩ := Option.map_eq_some_iff.mp hi
              obtain ⟨g1, g2⟩ := List.getElem?_eq_some_iff.mp e1
              rw [List.length_range] at g1
              rw [List.getElem_range] at g2
              subst g2
              obtain ⟨b, b1, b2, b3⟩ := hall2 i (by omega)
              refine ⟨?_, fun v hv => ?_, b, by rw [List.getElem?_map, b1]; rfl, b2⟩
              · have lsec := stepV_len (xs := ns.map V.int) g1 (by omega)
                rw [stepV_ints, List.length_map, List.length_map] at lsec
                rw [stepV_ints]
                refine row_ints ?_ ?_
                · rw [lsec]
                  exact (Nat.le_div_iff_mul_le (by omega)).mpr (by omega)
                · rw [lsec]
                  exact Nat.le_trans (Nat.div_le_self _ _) (by omega)
              · rw [stepV_ints] at hv
                obtain ⟨z, _, rfl⟩ := List.mem_map.mp hv
                exact ⟨z, rfl⟩
            have hsec := sections_size (xs := ns.map V.int) (m := m) (by omega) cm
            have hbl2 : (bs2.map V.ref).length = m := by rw [List.length_map, hbm]
            refine tn <| use_woven (.lst hd2) R (by omega) (by omega) hsec (by omega) fun H17 r s17 _ hr => ?_
            rw [sections_woven (by omega) cm] at hr
            have s18 := s16.trans s17
            refine ⟨_, rfl, .list (intsD ns), .list (intsD ns), .lst (SqL.of hr) (ints_dp _), .lst (SqL.of (O15.same s18).at_) (ints_dp _), ints_shaped _, ints_shaped _, _, rfl, iteF' (eq_no _) ?_⟩
            exact q _ _ ⟨_, _, _, _, _, _, _, _, _, _, _, _, _, _, _, _, rfl⟩ (W15.same s18)
        · refine iteF' (decide_eq_false (by omega)) ?_
          exact q _ _ ⟨_, _, _, _, _, _, _, _, _, _, _, _, _, _, _, _, rfl⟩ W15
end
end K01

set_option Elab.async false
set_option linter.all false
set_option maxRecDepth 100000
set_option maxHeartbeats 4000000
set_option pp.maxSteps 3000
namespace K01
open PySem PySem.Spec PyProof.Rows L2 Dr Xv LamX
abbrev tailB : List Stmt := (defBody sLaw).drop 2
section
variable {H H' : Hp} {d l cc p Pt : Addr} {cN cR cT : Addr} {Q : VK} {E : XK}
/-- a value that is no row -/
inductive BadV (H : Hp) (d l : Addr) : V → Prop
  | non : BadV H d l .non
  | str (x : Str) : BadV H d l (.str x)
  | nil {a : Addr} : Own H d l a [] → BadV H d l (.ref a)
  | tr {a : Addr} : Own H d l a [.bl true] → BadV H d l (.ref a)
theorem BadV.mono {v : V} (B : BadV H d l v) (f : ∀ a xs, v = .ref a → Own H d l a xs → Own H' d l a xs) : BadV H' d l v := by
  cases B with
  | non => exact .non
  | str x => exact .str x
  | nil O => exact .nil (f _ _ rfl O)
  | tr O => exact .tr (f _ _ rfl O)
theorem BadV.out {v : V} (B : BadV H d l v) : ∃ o, Items H v o ∧ short o ∧ AllPV H o ∧ isRow o = false ∧ ∀ a, v = .ref a → ∃ xs, H a = some (.lst xs) := by
  cases B with
  | non => exact ⟨none, .non, fun _ e => (nomatch e), fun _ e => (nomatch e), rfl, fun a e => (nomatch e)⟩
  | str x => exact ⟨none, .str x, fun _ e => (nomatch e), fun _ e => (nomatch e), rfl, fun a e => (nomatch e)⟩
  | nil O => exact ⟨some [], .lst O.at_, fun _ e => (by cases e; decide), fun _ e v hv => (by cases e; cases hv), rfl, fun a e => (by cases e; exact ⟨_, O.at_⟩)⟩
  | tr O =>
    refine ⟨some [.bl true], .lst O.at_, fun _ e => (by cases e; decide), fun _ e v hv => ?_, rfl, fun a e => (by cases e; exact ⟨_, O.at_⟩)⟩
    cases e
    rw [List.mem_singleton.mp hv]
    exact .bl true
def OddV (v : V) : Prop := (∀ H, PV H v) ∧ within v 1 360 = false
theorem OddV.no {v : V} {k : Int} (h : OddV v) (e : v = .int k) (h1 : 1 ≤ k) (h2 : k ≤ 360) : False := by
  have z := h.2
  rw [e, within_yes h1 h2] at z
  cases z
theorem spread_bad {v m : V} (B : BadV H d l v) (O : OddV m) (q : ∀ H', Same H H' → E (.ref cR) none H') : spSpread cN cR cT [v, m] H Q E := by
  obtain ⟨o, h1, h2, h3, h4, _⟩ := B.out
  have no : ¬ isRow o = true := fun z => by
    rw [h4] at z
    cases z
  exact ⟨v, m, o, rfl, h1, h2, h3, O.1 H, fun _ => q, fun z => absurd z no, fun _ _ _ z => absurd z no, fun _ _ _ z => absurd z no⟩
theorem ones_row {ns : List Int} (h : H p = some (.lst (ns.map V.int))) (l1 : 1 ≤ ns.length) (l2 : ns.length ≤ 3001) : Items H (.ref p) (some (ns.map V.int)) ∧ short (some (ns.map V.int)) ∧ AllPV H (some (ns.map V.int)) ∧ isRow (some (ns.map V.int)) = true :=
  ⟨.lst h, short_ints l2, pv_ints _, row_ints l1 l2⟩
theorem spread_odd {ns : List Int} {m : V} (h : H p = some (.lst (ns.map V.int))) (l1 : 1 ≤ ns.length) (l2 : ns.length ≤ 3001) (O : OddV m) (q : ∀ H', Same H H' → E (.ref cN) none H') : spSpread cN cR cT [.ref p, m] H Q E := by
  obtain ⟨a1, a2, a3, a4⟩ := ones_row h l1 l2
  exact ⟨_, m, _, rfl, a1, a2, a3, O.1 H, fun z => (by rw [a4] at z; cases z), fun _ _ => q, fun _ _ _ _ e h1 h2 => (O.no e (by omega) (by omega)).elim, fun _ _ _ _ e h1 h2 => (O.no e (by omega) (by omega)).elim⟩
theorem sect_bad {v m t : V} (B : BadV H d l v) (O : OddV m) (ht : PV H t) (q : ∀ H', Same H H' → E (.ref cR) none H') : spSect cN cR [v, m, t] H Q E := by
  obtain ⟨o, h1, h2, h3, h4, h5⟩ := B.out
  have no : ¬ isRow o = true := fun z => by
    rw [h4] at z
    cases z
  exact ⟨v, m, t, o, rfl, h1, h5, h2, h3, O.1 H, ht, fun _ => q, fun z => absurd z no, fun _ z => absurd z no, fun _ _ _ _ z => absurd z no, fun _ _ _ _ z => absurd z no⟩
theorem sect_odd {ns : List Int} {m t : V} (h : H p = some (.lst (ns.map V.int))) (l1 : 1 ≤ ns.length) (l2 : ns.length ≤ 3001) (O : OddV m) (ht : PV H t) (q : ∀ H', Same H H' → E (.ref cN) none H') : spSect cN cR [.ref p, m, t] H Q E := by
  obtain ⟨a1, a2, a3, a4⟩ := ones_row h l1 l2
  exact ⟨_, m, t, _, rfl, a1, fun a e => (by cases e; exact ⟨_, h⟩), a2, a3, O.1 H, ht, fun z => (by rw [a4] at z; cases z), fun _ _ => q, fun _ _ e h1 h2 => (O.no e h1 h2).elim, fun _ _ _ _ _ e _ h1 h2 => (O.no e (by omega) (by omega)).elim, fun _ _ _ _ _ e _ h1 h2 => (O.no e (by omega) (by omega)).elim⟩
theorem sect_t {ns : List Int} {t : V} (h : H p = some (.lst (ns.map V.int))) (l1 : 1 ≤ ns.length) (l2 : ns.length ≤ 3001) (ht : PV H t) (hw : within t 0 1 = false) (q : ∀ H', Same H H' → E (.ref cN) none H') : spSect cN cR [.ref p, .int 2, t] H Q E := by
  obtain ⟨a1, a2, a3, a4⟩ := ones_row h l1 l2
  have no : ∀ (k j : Nat), V.int 2 = .int (k : Int) → t = .int (j : Int) → j < k → False := fun k j e1 e2 h => by
    injection e1 with e1
    rw [e2, within_yes (by omega) (by omega)] at hw
    cases hw
  exact ⟨_, _, t, _, rfl, a1, fun a e => (by cases e; exact ⟨_, h⟩), a2, a3, .int 2, ht, fun z => (by rw [a4] at z; cases z), fun _ z => (by rw [within_yes (by decide) (by decide)] at z; cases z), fun _ _ _ _ _ _ => q, fun _ k j _ _ e1 e2 _ _ h => (no k j e1 e2 h).elim, fun _ k j _ _ e1 e2 _ _ h => (no k j e1 e2 h).elim⟩
theorem spread_many {ns : List Int} {k : Nat} (h : H p = some (.lst (ns.map V.int))) (l1 : 1 ≤ ns.length) (l2 : ns.length ≤ 3001) (k1 : 1 ≤ k) (k2 : k ≤ 360) (hk : 3001 < k * ns.length) (q : ∀ H' d, Same H H' → H' d = some (.xd [(("most" : Str), .int 3000)]) → E (.ref cT) (some d) H') : spSpread cN cR cT [.ref p, .int (k : Int)] H Q E := by
  obtain ⟨a1, a2, a3, a4⟩ := ones_row h l1 l2
  refine ⟨_, _, _, rfl, a1, a2, a3, .int _, fun z => (by rw [a4] at z; cases z), fun _ z => (by rw [within_yes (by omega) (by omega)] at z; cases z), fun _ _ _ _ _ _ _ _ => q, fun xs k' e _ ek _ _ hle => ?_⟩
  cases e
  have := int_eq ek
  subst this
  rw [List.length_map] at hle
  omega
/-- values that are no list of rows -/
inductive BadW (H : Hp) : V → Prop
  | non : BadW H .non
  | nil {a : Addr} : H a = some (.lst []) → BadW H (.ref a)
  | two {a b1 b2 : Addr} : H a = some (.lst [.ref b1, .ref b2]) → H b1 = some (.lst [.int 1]) → H b2 = some (.lst []) → BadW H (.ref a)
  | five {a : Addr} : H a = some (.lst [.int 5]) → BadW H (.ref a)
  | many {a b : Addr} : H a = some (.lst (List.replicate 361 (.ref b))) → BadW H (.ref a)
theorem woven_bad {v : V} (B : BadW H v) (q : ∀ H', Same H H' → E (.ref cR) none H') : spWoven cR cT [v] H Q E := by
  have row0 : isRow (some []) = false := rfl
  cases B with
  | non => exact ⟨_, none, rfl, .non, fun _ e => (nomatch e), fun _ => q, fun _ e => (nomatch e), fun _ e => (nomatch e)⟩
  | nil e => exact ⟨_, _, rfl, .lst e, fun _ e => (by cases e; decide), fun z => (nomatch z), fun _ _ _ => q, fun rs e h => (by cases e; exact absurd h.1 (by decide))⟩
  | two e e1 e2 =>
    refine ⟨_, _, rfl, .lst e, fun _ e => (by cases e; show 2 < sizeLine; decide), fun z => (nomatch z), fun _ _ _ => q, fun rs er h => ?_⟩
    cases er
    refine ⟨[some [.int 1], some []], ⟨rfl, fun i r hi => ?_⟩, fun _ => q, fun ls s e hall _ => ?_⟩
    · match i, hi with
      | 0, hi => cases hi; exact ⟨_, rfl, .lst e1, fun _ e => (by cases e; decide), fun _ e v hv => (by cases e; rw [List.mem_singleton.mp hv]; exact .int 1)⟩
      | 1, hi => cases hi; exact ⟨_, rfl, .lst e2, fun _ e => (by cases e; decide), fun _ e v hv => (by cases e; cases hv)⟩
    · have z := hall (some []) (by simp)
      rw [row0] at z
      cases z
  | five e =>
    refine ⟨_, _, rfl, .lst e, fun _ e => (by cases e; decide), fun z => (nomatch z), fun _ _ _ => q, fun rs er h => ?_⟩
    cases er
    refine ⟨[none], ⟨rfl, fun i r hi => ?_⟩, fun _ => q, fun ls s e hall _ => ?_⟩
    · match i, hi with
      | 0, hi => cases hi; exact ⟨_, rfl, .int 5, fun _ e => (nomatch e), fun _ e => (nomatch e)⟩
    · have z := hall none (by simp)
      cases z
  | many e =>
    refine ⟨_, _, rfl, .lst e, fun _ e => ?_, fun z => (nomatch z), fun _ _ _ => q, fun rs er h => ?_⟩
    · cases e
      rw [List.length_replicate]
      decide
    · cases er
      rw [List.length_replicate] at h
      exact absurd h.2 (by decide)
theorem ones_at {k : Nat} : List.replicate k (V.int 1) = (List.replicate k (1 : Int)).map V.int := by
  rw [List.map_replicate]
theorem rep_rl {a : Addr} {n k : Nat} (ha : H a = some (.lst (List.replicate k (.int 1)))) (k1 : 1 ≤ k) (k2 : k ≤ 3001) : RL H (List.replicate n (.ref a)) (List.replicate n (List.replicate k (.int 1))) := by
  refine ⟨by rw [List.length_replicate, List.length_replicate], fun i li hi => ?_⟩
  have hlt := (List.getElem?_eq_some_iff.mp hi).1
  rw [List.length_replicate] at hlt
  have e := List.mem_of_getElem? hi
  rw [List.mem_replicate] at e
  obtain ⟨_, rfl⟩ := e
  refine ⟨?_, fun v hv => ?_, a, by simp [hlt], ha⟩
  · rw [ones_at]
    exact row_ints (by rw [List.length_replicate]; exact k1) (by rw [List.length_replicate]; exact k2)
  · rw [List.mem_replicate] at hv
    exact ⟨1, hv.2⟩
theorem woven_many {a : Addr} {n k : Nat} (hp : H p = some (.lst (List.replicate n (.ref a)))) (ha : H a = some (.lst (List.replicate k (.int 1)))) (n1 : 1 ≤ n) (n2 : n ≤ 360) (k1 : 1 ≤ k) (k2 : k ≤ 3001) (hk : 3001 < n * k)
    (q : ∀ H' d, Same H H' → H' d = some (.xd [(("most" : Str), .int 3000)]) → E (.ref cT) (some d) H') : spWoven cR cT [.ref p] H Q E := by
  have R := rep_rl (n := n) ha k1 k2
  have hs := size_rep (l := List.replicate k (V.int 1)) (by omega : 0 < n)
  rw [List.length_replicate] at hs
  refine ⟨_, _, rfl, .lst hp, fun xs e => ?_, fun z => (nomatch z), fun rs' e no => ?_, fun rs' e no => ?_⟩
  · cases e
    rw [List.length_replicate, sizeLine_eq]
    omega
  · cases e
    rw [List.length_replicate] at no
    exact absurd ⟨n1, n2⟩ no
  · cases e
    refine ⟨_, R.rows, fun ⟨y, hy, hn⟩ => ?_, fun ls' s' e _ hs' => ?_⟩
    · rw [R.all y hy] at hn
      cases hn
    · have e2 := some_map e
      subst e2
      have e3 := size_uniq hs hs'
      subst e3
      exact ⟨fun _ => q, fun h => absurd h (by omega)⟩
theorem rep1 {x : V} : ∀ n : Nat, (List.replicate n [x]).flatten = List.replicate n x
  | 0 => rfl
  | n + 1 => by
    rw [List.replicate_succ, List.flatten_cons, rep1 n, List.replicate_succ]
    rfl
/-- the checks so far -/
structure ChkS (Pt : Addr) (H : Hp) (d l cc ck : Addr) (n : Nat) (bad : V) : Prop where
  W : Wd Pt H d l cc
  O : Own H d l ck (List.replicate n (.bl true))
  nc : ck ≠ cc
  B : BadV H d l bad
  nb : ∀ a, bad = .ref a → a ≠ ck
variable {ck : Addr} {n : Nat} {bad : V}
theorem ChkS.same (C : ChkS Pt H d l cc ck n bad) (s : Same H H') : ChkS Pt H' d l cc ck n bad := ⟨C.W.same s, C.O.same s, C.nc, C.B.mono fun _ _ _ O => O.same s, C.nb⟩
theorem ChkS.sx (C : ChkS Pt H d l cc ck n bad) (s : SameX d l H H') (D : Draw H' d l cc) : ChkS Pt H' d l cc ck n bad := ⟨C.W.sx s D, C.O.sx s, C.nc, C.B.mono fun _ _ _ O => O.sx s, C.nb⟩
theorem ChkS.ext (C : ChkS Pt H d l cc ck n bad) (s : ExtN H H') (T : Tabs [(Pt, qL)] H') : ChkS Pt H' d l cc ck n bad := ⟨⟨Draw.ext C.W.dr s, T⟩, C.O.ext s, C.nc, C.B.mono fun _ _ _ O => O.ext s, C.nb⟩
theorem ChkS.add (C : ChkS Pt H d l cc ck n bad) : ChkS Pt (upd H ck (.lst (List.replicate n (.bl true) ++ [.bl true]))) d l cc ck (n + 1) bad := by
  refine ⟨C.W.upd C.O.at_ C.O.nd C.O.nl C.nc, ⟨?_, C.O.nd, C.O.nl⟩, C.nc, C.B.mono fun a xs e O => O.upd (C.nb a e), C.nb⟩
  rw [upd_same, List.replicate_succ']
end
section
variable {P : Program} {w : World} {K : PySem.W.Frag} {mg : Str → Option Value} {base : Heap} {cS cN cR cT fI : Addr} {f c Pt : Addr} {A : Around} {outer : List Env} {s : Shared} {H : Hp} {E : XK}
theorem tail_ok (G : Fns P w K mg base cS cN cR cT fI) (T : Txt K mg cS cN cR cT fI) (TB : TabB base mg c Pt) (hr : Room 9 (XL P w K mg base f c A outer s H E).A) :
    ∃ t, PSs (XL P w K mg base f c A outer s H E) tailB t ∧ ∀ (D : Ends) (σ : L2.St) (H0 : Hp) (d l cc : Addr), Slots d σ → Wd Pt H0 d l cc → (∀ H', D.rt (.bl true) H') → t D σ H0 := by
  have hr8 : Room 8 (XL P w K mg base f c A outer s H E).A := hr.mono (by decide)
  have hr6 : Room 6 (XL P w K mg base f c A outer s H E).A := hr.mono (by decide)
  have hr3 : Room 3 (XL P w K mg base f c A outer s H E).A := hr.mono (by decide)
  have hx : ∀ {X : Cx}, Passes (L2.CX X.prog X.w) X (fun _ _ _ => False) := fun {X} => passes_call L2.takes0 (fun _ _ _ _ z => z)
  refine ⟨_, pss_cons (ps_asg (pe_tup (pa_cons (pe_call G.GP hr3 rfl G.gP G.kP G.bP .nil pass0 (pa_cons (pv 10) (pa_cons (pe_lst (pa_cons pe_non (pa_cons (pe_lst pa_nil) (pa_cons (pe_lst (pa_cons pe_bl pa_nil)) (pa_cons pe_str pa_nil))))) pa_nil)))
        (pa_cons (pe_call G.GP hr3 rfl G.gP G.kP G.bP .nil pass0 (pa_cons (pv 10) (pa_cons (pe_lst (pa_cons pe_non (pa_cons pe_int (pa_cons pe_int (pa_cons pe_bl (pa_cons pe_str pa_nil)))))) pa_nil))) pa_nil)))
        (pg_tup rfl (pgs_cons (pg_name (i := 9) scLaw.nd rfl (Or.inr rfl)) (pgs_cons (pg_name (i := 12) scLaw.nd rfl (Or.inr rfl)) pgs_nil))))
    (pss_cons (ps_set (i := 6) scLaw.nd rfl (Or.inl rfl) (pe_lst (pa_cons (pe_callB call_isC (by rfl) G.isi0 boot_isinstance (pa_cons (pe_law (t := fun E' => tCall (spSpread cN cR cT) [] E' (tCons (tVar 9) (tCons (tVar 12) tNil))) G T TB hr8 (by decide +kernel) rfl
          (fun A' outer' s' H' E' f' c' hr' => pe_call G.GSp hr' rfl G.gSp G.kSp G.bSp .nil (passes_call (takes_of rfl rfl rfl rfl) (fun _ _ _ _ h => h)) (pa_cons (pv 9) (pa_cons (pv 12) pa_nil)))) (pa_cons (pe_glob (v := .ref cR) rfl T.gR rfl) pa_nil))) pa_nil)))
    (pss_cons (ps_expr (pe_bm PySem.F.plainAttrs_list PySem.F.slot_list_append PySem.F.type_list_append mt_append (pv 6) (pa_cons (pe_callB call_isC (by rfl) G.isi0 boot_isinstance (pa_cons (pe_law (t := fun E' => tCall (spSpread cN cR cT) [] E' (tCons (tLst (tCons (tC (.int 1)) tNil)) (tCons (tVar 12) tNil))) G T TB hr8 (by decide +kernel) rfl
          (fun A' outer' s' H' E' f' c' hr' => pe_call G.GSp hr' rfl G.gSp G.kSp G.bSp .nil (passes_call (takes_of rfl rfl rfl rfl) (fun _ _ _ _ h => h)) (pa_cons (pe_lst (pa_cons pe_int pa_nil)) (pa_cons (pv 12) pa_nil)))) (pa_cons (pe_glob (v := .ref cN) rfl T.gN rfl) pa_nil))) pa_nil)))
    (pss_cons (ps_expr (pe_bm PySem.F.plainAttrs_list PySem.F.slot_list_append PySem.F.type_list_append mt_append (pv 6) (pa_cons (pe_callB call_isC (by rfl) G.isi0 boot_isinstance (pa_cons (pe_law (t := fun E' => tCall (spSect cN cR) [] E' (tCons (tVar 9) (tCons (tVar 12) (tCons (tC (.int 0)) tNil)))) G T TB hr8 (by decide +kernel) rfl
          (fun A' outer' s' H' E' f' c' hr' => pe_call G.GSe hr' rfl G.gSe G.kSe G.bSe .nil (passes_call (takes_of rfl rfl rfl rfl) (fun _ _ _ _ h => h)) (pa_cons (pv 9) (pa_cons (pv 12) (pa_cons pe_int pa_nil))))) (pa_cons (pe_glob (v := .ref cR) rfl T.gR rfl) pa_nil))) pa_nil)))
    (pss_cons (ps_expr (pe_bm PySem.F.plainAttrs_list PySem.F.slot_list_append PySem.F.type_list_append mt_append (pv 6) (pa_cons (pe_callB call_isC (by rfl) G.isi0 boot_isinstance (pa_cons (pe_law (t := fun E' => tCall (spSect cN cR) [] E' (tCons (tLst (tCons (tC (.int 1)) (tCons (tC (.int 2)) tNil))) (tCons (tVar 12) (tCons (tC (.int 0)) tNil)))) G T TB hr8 (by decide +kernel) rfl
          (fun A' outer' s' H' E' f' c' hr' => pe_call G.GSe hr' rfl G.gSe G.kSe G.bSe .nil (passes_call (takes_of rfl rfl rfl rfl) (fun _ _ _ _ h => h)) (pa_cons (pe_lst (pa_cons pe_int (pa_cons pe_int pa_nil))) (pa_cons (pv 12) (pa_cons pe_int pa_nil))))) (pa_cons (pe_glob (v := .ref cN) rfl T.gN rfl) pa_nil))) pa_nil)))
    (pss_cons (ps_expr (pe_bm PySem.F.plainAttrs_list PySem.F.slot_list_append PySem.F.type_list_append mt_append (pv 6) (pa_cons (pe_callB call_isC (by rfl) G.isi0 boot_isinstance (pa_cons (pe_law (t := fun E' => tCall (spSect cN cR) [] E' (tCons (tLst (tCons (tC (.int 1)) (tCons (tC (.int 2)) tNil))) (tCons (tC (.int 2)) (tCons (tCall (spPick K) [] E0 (tCons (tVar 10) (tCons (tLst (tCons (tUn (rU fun i => .int (-i)) (tC (.int 1))) (tCons (tC (.int 2)) (tCons (tC .non) (tCons (tC (.bl true)) tNil))))) tNil))) tNil)))) G T TB hr8 (by decide +kernel) rfl
          (fun A' outer' s' H' E' f' c' hr' => pe_call G.GSe hr' rfl G.gSe G.kSe G.bSe .nil (passes_call (takes_of rfl rfl rfl rfl) (fun _ _ _ _ h => h)) (pa_cons (pe_lst (pa_cons pe_int (pa_cons pe_int pa_nil))) (pa_cons pe_int (pa_cons (pe_call G.GP (hr'.mono (by decide)) rfl G.gP G.kP G.bP .nil pass0 (pa_cons (pv 10) (pa_cons (pe_lst (pa_cons (pe_un un_neg pe_int) (pa_cons pe_int (pa_cons pe_non (pa_cons pe_bl pa_nil))))) pa_nil))) pa_nil))))) (pa_cons (pe_glob (v := .ref cN) rfl T.gN rfl) pa_nil))) pa_nil)))
    (pss_cons (ps_expr (pe_bm PySem.F.plainAttrs_list PySem.F.slot_list_append PySem.F.type_list_append mt_append (pv 6) (pa_cons (pe_callB call_isC (by rfl) G.isi0 boot_isinstance (pa_cons (pe_law (t := fun E' => tCall (spWoven cR cT) [] E' (tCons (tCall (spPick K) [] E0 (tCons (tVar 10) (tCons (tLst (tCons (tC .non) (tCons (tLst tNil) (tCons (tLst (tCons (tLst (tCons (tC (.int 1)) tNil)) (tCons (tLst tNil) tNil))) (tCons (tLst (tCons (tC (.int 5)) tNil)) (tCons (tOp rRep (tLst (tCons (tLst (tCons (tC (.int 1)) tNil)) tNil)) (tC (.int 361))) tNil)))))) tNil))) tNil)) G T TB hr8 (by decide +kernel) rfl
          (fun A' outer' s' H' E' f' c' hr' => pe_call G.GWo hr' rfl G.gWo G.kWo G.bWo .nil (passes_call (takes_of rfl rfl rfl rfl) (fun _ _ _ _ h => h)) (pa_cons (pe_call G.GP (hr'.mono (by decide)) rfl G.gP G.kP G.bP .nil pass0 (pa_cons (pv 10) (pa_cons (pe_lst (pa_cons pe_non (pa_cons (pe_lst pa_nil) (pa_cons (pe_lst (pa_cons (pe_lst (pa_cons pe_int pa_nil)) (pa_cons (pe_lst pa_nil) pa_nil))) (pa_cons (pe_lst (pa_cons pe_int pa_nil)) (pa_cons (pe_op op_rep (pe_lst (pa_cons (pe_lst (pa_cons pe_int pa_nil)) pa_nil)) pe_int) pa_nil)))))) pa_nil))) pa_nil))) (pa_cons (pe_glob (v := .ref cR) rfl T.gR rfl) pa_nil))) pa_nil)))
    (pss_cons (ps_set (i := 7) scLaw.nd rfl (Or.inl rfl) (pe_law (t := fun E' => tCall (spSpread cN cR cT) [] E' (tCons (tOp rRep (tLst (tCons (tC (.int 1)) tNil)) (tC (.int 10))) (tCons (tC (.int 301)) tNil))) G T TB hr8 (by decide +kernel) rfl
          (fun A' outer' s' H' E' f' c' hr' => pe_call G.GSp hr' rfl G.gSp G.kSp G.bSp .nil (passes_call (takes_of rfl rfl rfl rfl) (fun _ _ _ _ h => h)) (pa_cons (pe_op op_rep (pe_lst (pa_cons pe_int pa_nil)) pe_int) (pa_cons pe_int pa_nil)))))
    (pss_cons (ps_expr (pe_bm PySem.F.plainAttrs_list PySem.F.slot_list_append PySem.F.type_list_append mt_append (pv 6) (pa_cons (pe_and (pe_callB call_isC (by rfl) G.isi0 boot_isinstance (pa_cons (pv 7) (pa_cons (pe_glob (v := .ref cT) rfl T.gT rfl) pa_nil))) (pe_one (pe_cmpR op_eq (pe_erC (pv 7)) pe_int (nomark _)))) pa_nil)))
    (pss_cons (ps_set (i := 8) scLaw.nd rfl (Or.inl rfl) (pe_law (t := fun E' => tCall (spWoven cR cT) [] E' (tCons (tOp rRep (tLst (tCons (tOp rRep (tLst (tCons (tC (.int 1)) tNil)) (tC (.int 31))) tNil)) (tC (.int 100))) tNil)) G T TB hr8 (by decide +kernel) rfl
          (fun A' outer' s' H' E' f' c' hr' => pe_call G.GWo hr' rfl G.gWo G.kWo G.bWo .nil (passes_call (takes_of rfl rfl rfl rfl) (fun _ _ _ _ h => h)) (pa_cons (pe_op op_rep (pe_lst (pa_cons (pe_op op_rep (pe_lst (pa_cons pe_int pa_nil)) pe_int) pa_nil)) pe_int) pa_nil))))
    (pss_cons (ps_expr (pe_bm PySem.F.plainAttrs_list PySem.F.slot_list_append PySem.F.type_list_append mt_append (pv 6) (pa_cons (pe_and (pe_callB call_isC (by rfl) G.isi0 boot_isinstance (pa_cons (pv 8) (pa_cons (pe_glob (v := .ref cT) rfl T.gT rfl) pa_nil)))
          (pe_one (pe_cmpR (op_eqD hr.units) (pe_call G.GWo hr6 rfl G.gWo G.kWo G.bWo .nil hx (pa_cons (pe_op op_rep (pe_lst (pa_cons (pe_op op_rep (pe_lst (pa_cons pe_int pa_nil)) pe_int) pa_nil)) pe_int) pa_nil)) (pe_op op_rep (pe_lst (pa_cons pe_int pa_nil)) pe_int) (nomark _)))) pa_nil)))
    (pss_one (ps_ret (pe_cmpR op_notIn_seq pe_bl (pv 6) (by rfl)))))))))))))), ?_⟩
  rintro D σ H0 d l cc ⟨x0, x1, x2, x3, x4, x5, x6, x7, x8, x9, x11, x12, x13, x14, x15, x16, rfl⟩ W0 q
  -- bad
  refine ⟨_, rfl, (by show 0 ≤ sizeLine; decide), fun e1 he1 => ⟨(by show 1 ≤ sizeLine; decide), fun e2 he2 => ⟨(by show 4 ≤ sizeLine; decide), fun z hz => ?_⟩⟩⟩
  have O1 : Own _ d l e1 [] := Own.new W0.dr he1
  have W1 := W0.same (same_new (o := .lst []) he1)
  have O2 : Own _ d l e2 [.bl true] := Own.new W1.dr he2
  have W2 := W1.same (same_new (o := .lst [.bl true]) he2)
  have O3 : Own _ d l z [.non, .ref e1, .ref e2, .str "12"] := Own.new W2.dr hz
  have W3 := W2.same (same_new (o := .lst [.non, .ref e1, .ref e2, .str "12"]) hz)
  have O1' := (O1.same (same_new (o := .lst [.bl true]) he2)).same (same_new (o := .lst [.non, .ref e1, .ref e2, .str "12"]) hz)
  have O2' := O2.same (same_new (o := .lst [.non, .ref e1, .ref e2, .str "12"]) hz)
  refine ⟨d, l, cc, z, _, rfl, W3.dr, fun H' s' => SqL.of (O3.sx s').at_, by simp, (by show 4 ≤ 1000; decide), fun bad H4 hbad D4 s4 => ?_⟩
  have W4 := W3.sx s4 D4
  have B4 : BadV H4 d l bad := by
    simp only [List.mem_cons, List.not_mem_nil, or_false] at hbad
    rcases hbad with rfl | rfl | rfl | rfl
    · exact .non
    · exact .nil (O1'.sx s4)
    · exact .tr (O2'.sx s4)
    · exact .str _
  clear O1 O2 O3 O1' O2' W1 W2 W3 s4 hbad D4 hz he1 he2
  -- odd
  refine ⟨_, rfl, (by show 5 ≤ sizeLine; decide), fun z hz => ?_⟩
  have O5 : Own _ d l z [.non, .int 0, .int 361, .bl true, .str "2"] := Own.new W4.dr hz
  have W5 := W4.same (same_new (o := .lst [.non, .int 0, .int 361, .bl true, .str "2"]) hz)
  have B5 := B4.mono (H' := upd H4 z (.lst [.non, .int 0, .int 361, .bl true, .str "2"])) fun _ _ _ O => O.same (same_new hz)
  refine ⟨d, l, cc, z, _, rfl, W5.dr, fun H' s' => SqL.of (O5.sx s').at_, by simp, (by show 5 ≤ 1000; decide), fun odd H6 hodd D6 s6 => ?_⟩
  have W6 := W5.sx s6 D6
  have B6 := B5.mono fun _ _ _ O => O.sx s6
  have hO : OddV odd := by
    simp only [List.mem_cons, List.not_mem_nil, or_false] at hodd
    rcases hodd with rfl | rfl | rfl | rfl | rfl
    · exact ⟨fun _ => .non, rfl⟩
    · exact ⟨fun _ => .int _, rfl⟩
    · exact ⟨fun _ => .int _, rfl⟩
    · exact ⟨fun _ => .bl _, rfl⟩
    · exact ⟨fun _ => .str _, rfl⟩
  refine ⟨(by show 2 ≤ sizeLine; decide), fun tp htp => ?_⟩
  refine ⟨tp, _, rfl, SqT.of upd_same, rfl, _, _, rfl, _, _, rfl, rfl, ?_⟩
  have W7 := W6.same (same_new (o := .tup [bad, odd]) htp)
  have B7 := B6.mono (H' := upd H6 tp (.tup [bad, odd])) fun _ _ _ O => O.same (same_new htp)
  generalize upd H6 tp (.tup [bad, odd]) = H7 at W7 B7
  clear O5 W4 W5 W6 B4 B5 B6 s6 hodd D6 hz htp W0
  -- checks
  refine ⟨W7.tb, fun H8 eN T8 => ?_⟩
  have W8 : Wd Pt H8 d l cc := ⟨Draw.ext W7.dr eN, T8⟩
  have B8 := B7.mono fun _ _ _ O => O.ext eN
  refine ⟨_, rfl, _, rfl, tn <| spread_bad B8 hO fun H9 s9 => ⟨T.mR, fun a ha => ?_⟩⟩
  refine ⟨a, cR, none, _, _, _, rfl, .inl ⟨rfl, upd_same⟩, T.eR, fun u r => r, T.iR, ?_⟩
  have s10 : Same H8 (upd H9 a (ErX (.ref cR) none a)) := s9.trans (same_new ha)
  refine ⟨(by show 1 ≤ sizeLine; decide), fun ck hck => ?_⟩
  have W10 := W8.same s10
  have B10 := B8.mono fun _ _ _ O => O.same s10
  have C : ChkS Pt (upd (upd H9 a (ErX (.ref cR) none a)) ck (.lst [.bl true])) d l cc ck 1 bad := ⟨W10.same (same_new hck), Own.new (xs := [.bl true]) W10.dr hck, (W10.dr.ne hck).2.2, B10.mono fun _ _ _ O => O.same (same_new hck), fun b e => by
    subst e
    have hb : ∃ xs, (upd H9 a (ErX (.ref cR) none a)) b = some (.lst xs) := by
      cases B10 with
      | nil O => exact ⟨_, O.at_⟩
      | tr O => exact ⟨_, O.at_⟩
    obtain ⟨xs, hb⟩ := hb
    exact ne_of_none hb hck⟩
  clear W7 B7 W8 B8 W10 B10 s10 s9
  generalize upd (upd H9 a (ErX (.ref cR) none a)) ck (.lst [.bl true]) = H11 at C ⊢
  clear ha hck T8 eN
  -- row_spread([1], odd)
  refine ⟨_, rfl, .inl ⟨rfl, _, SqL.of C.O.at_⟩, C.W.tb, fun H12 eN T12 => ?_⟩
  have C2 := C.ext eN T12
  refine ⟨(by show 1 ≤ sizeLine; decide), fun e1 he1 => ⟨_, rfl, tn <| spread_odd (ns := [1]) upd_same (by decide) (by decide) hO fun H13 s13 => ⟨T.mN, fun a ha => ?_⟩⟩⟩
  refine ⟨a, cN, none, _, _, _, rfl, .inl ⟨rfl, upd_same⟩, T.eN, fun u r => r, T.iN, ?_⟩
  have C3 := C2.same (((same_new (o := .lst [.int 1]) he1).trans s13).trans (same_new (o := ErX (.ref cN) none a) ha))
  refine ⟨ck, _, _, rfl, rfl, C3.O.at_, (by rw [List.length_replicate]; decide), ?_⟩
  have C4 := C3.add
  clear C C2 C3 ha s13 he1 eN T12
  -- row_section(bad, odd, 0)
  refine ⟨_, rfl, .inl ⟨rfl, _, SqL.of C4.O.at_⟩, C4.W.tb, fun H12 eN T12 => ?_⟩
  have C5 := C4.ext eN T12
  refine ⟨_, rfl, _, rfl, tn0 <| sect_bad C5.B hO (.int 0) fun H13 s13 => ⟨T.mR, fun a ha => ?_⟩⟩
  refine ⟨a, cR, none, _, _, _, rfl, .inl ⟨rfl, upd_same⟩, T.eR, fun u r => r, T.iR, ?_⟩
  have C6 := C5.same (s13.trans (same_new (o := ErX (.ref cR) none a) ha))
  refine ⟨ck, _, _, rfl, rfl, C6.O.at_, (by rw [List.length_replicate]; decide), ?_⟩
  have C7 := C6.add
  clear C4 C5 C6 ha s13 eN T12
  -- row_section([1, 2], odd, 0)
  refine ⟨_, rfl, .inl ⟨rfl, _, SqL.of C7.O.at_⟩, C7.W.tb, fun H12 eN T12 => ?_⟩
  have C8 := C7.ext eN T12
  refine ⟨(by show 2 ≤ sizeLine; decide), fun e1 he1 => ⟨_, rfl, tn0 <| sect_odd (ns := [1, 2]) upd_same (by decide) (by decide) hO (.int 0) fun H13 s13 => ⟨T.mN, fun a ha => ?_⟩⟩⟩
  refine ⟨a, cN, none, _, _, _, rfl, .inl ⟨rfl, upd_same⟩, T.eN, fun u r => r, T.iN, ?_⟩
  have C9 := C8.same (((same_new (o := .lst [.int 1, .int 2]) he1).trans s13).trans (same_new (o := ErX (.ref cN) none a) ha))
  refine ⟨ck, _, _, rfl, rfl, C9.O.at_, (by rw [List.length_replicate]; decide), ?_⟩
  have C10 := C9.add
  clear C7 C8 C9 ha s13 he1 eN T12
  -- row_section([1, 2], 2, ..)
  refine ⟨_, rfl, .inl ⟨rfl, _, SqL.of C10.O.at_⟩, C10.W.tb, fun H12 eN T12 => ?_⟩
  have C11 := C10.ext eN T12
  refine ⟨(by show 2 ≤ sizeLine; decide), fun e1 he1 => ⟨_, rfl, _, rfl, (by show 4 ≤ sizeLine; decide), fun z hz => ?_⟩⟩
  have Oe : Own (upd H12 e1 (.lst [.int 1, .int 2])) d l e1 [.int 1, .int 2] := Own.new C11.W.dr he1
  have C12 := C11.same (same_new (o := .lst [.int 1, .int 2]) he1)
  have Oz : Own (upd (upd H12 e1 (.lst [.int 1, .int 2])) z (.lst [.int (-1), .int 2, .non, .bl true])) d l z [.int (-1), .int 2, .non, .bl true] := Own.new C12.W.dr hz
  have Oe2 := Oe.same (same_new (o := .lst [.int (-1), .int 2, .non, .bl true]) hz)
  have C13 := C12.same (same_new (o := .lst [.int (-1), .int 2, .non, .bl true]) hz)
  refine ⟨d, l, cc, z, [.int (-1), .int 2, .non, .bl true], rfl, C13.W.dr, fun H' s' => SqL.of (Oz.sx s').at_, by simp, (by show 4 ≤ 1000; decide), fun tv H13 htv D13 s13 => ?_⟩
  have C14 := C13.sx s13 D13
  have Oe3 := Oe2.sx s13
  have htv2 : PV H13 tv ∧ within tv 0 1 = false := by
    simp only [List.mem_cons, List.not_mem_nil, or_false] at htv
    rcases htv with rfl | rfl | rfl | rfl
    · exact ⟨.int _, rfl⟩
    · exact ⟨.int _, rfl⟩
    · exact ⟨.non, rfl⟩
    · exact ⟨.bl _, rfl⟩
  refine tn <| sect_t (ns := [1, 2]) Oe3.at_ (by decide) (by decide) htv2.1 htv2.2 fun H14 s14 => ⟨T.mN, fun a ha => ?_⟩
  refine ⟨a, cN, none, _, _, _, rfl, .inl ⟨rfl, upd_same⟩, T.eN, fun u r => r, T.iN, ?_⟩
  have C15 := C14.same (s14.trans (same_new (o := ErX (.ref cN) none a) ha))
  refine ⟨ck, _, _, rfl, rfl, C15.O.at_, (by rw [List.length_replicate]; decide), ?_⟩
  have C16 := C15.add
  clear C10 C11 C12 C13 C14 C15 Oe Oz Oe2 Oe3 ha s13 s14 he1 hz eN T12 htv htv2 D13
  -- row_woven of what is no list of rows
  refine ⟨_, rfl, .inl ⟨rfl, _, SqL.of C16.O.at_⟩, C16.W.tb, fun H12 eN T12 => ?_⟩
  have C17 := C16.ext eN T12
  refine ⟨_, rfl, (by show 0 ≤ sizeLine; decide), fun a1 h1 => ⟨(by show 1 ≤ sizeLine; decide), fun a2 h2 => ⟨(by show 0 ≤ sizeLine; decide), fun a3 h3 => ⟨(by show 2 ≤ sizeLine; decide), fun a4 h4 => ⟨(by show 1 ≤ sizeLine; decide), fun a5 h5 => ⟨(by show 1 ≤ sizeLine; decide), fun a6 h6 => ⟨(by show 1 ≤ sizeLine; decide), fun a7 h7 => ?_⟩⟩⟩⟩⟩⟩⟩
  have W0 := C17.W
  have O1 := Own.new (xs := []) W0.dr h1
  have W1 := W0.same (same_new (o := .lst []) h1)
  have O2 := Own.new (xs := [.int 1]) W1.dr h2
  have W2 := W1.same (same_new (o := .lst [.int 1]) h2)
  have O3 := Own.new (xs := []) W2.dr h3
  have W3 := W2.same (same_new (o := .lst []) h3)
  have O4 := Own.new (xs := [.ref a2, .ref a3]) W3.dr h4
  have W4 := W3.same (same_new (o := .lst [.ref a2, .ref a3]) h4)
  have O5 := Own.new (xs := [.int 5]) W4.dr h5
  have W5 := W4.same (same_new (o := .lst [.int 5]) h5)
  have W6 := W5.same (same_new (o := .lst [.int 1]) h6)
  have W7 := W6.same (same_new (o := .lst [.ref a6]) h7)
  refine ⟨a7, _, _, rfl, rfl, upd_same, by decide, by decide, (by show 1 * 361 ≤ sizeLine; decide), fun a8 h8 => ?_⟩
  have O8 := Own.new (xs := (List.replicate (361 : Int).toNat [V.ref a6]).flatten) W7.dr h8
  have W8 := W7.same (same_new (o := .lst (List.replicate (361 : Int).toNat [V.ref a6]).flatten) h8)
  have t8 := same_new (o := .lst (List.replicate (361 : Int).toNat [V.ref a6]).flatten) h8
  have t7 := (same_new (o := .lst [.ref a6]) h7).trans t8
  have t6 := (same_new (o := .lst [.int 1]) h6).trans t7
  have t5 := (same_new (o := .lst [.int 5]) h5).trans t6
  have t4 := (same_new (o := .lst [.ref a2, .ref a3]) h4).trans t5
  have t3 := (same_new (o := .lst []) h3).trans t4
  have t2 := (same_new (o := .lst [.int 1]) h2).trans t3
  have t1 := (same_new (o := .lst []) h1).trans t2
  have O1' := O1.same t2
  have O2' := O2.same t3
  have O3' := O3.same t4
  have O4' := O4.same t5
  have O5' := O5.same t6
  have C18 := C17.same t1
  refine ⟨(by show 5 ≤ sizeLine; decide), fun z hz => ?_⟩
  have Oz := Own.new (xs := [.non, .ref a1, .ref a4, .ref a5, .ref a8]) W8.dr hz
  have C19 := C18.same (same_new (o := .lst [.non, .ref a1, .ref a4, .ref a5, .ref a8]) hz)
  refine ⟨d, l, cc, z, [.non, .ref a1, .ref a4, .ref a5, .ref a8], rfl, C19.W.dr, fun H' s' => SqL.of (Oz.sx s').at_, by simp, (by show 5 ≤ 1000; decide), fun wv H13 hwv D13 s13 => ?_⟩
  have C20 := C19.sx s13 D13
  have sz := same_new (o := .lst [.non, .ref a1, .ref a4, .ref a5, .ref a8]) hz
  have hbw : BadW H13 wv := by
    simp only [List.mem_cons, List.not_mem_nil, or_false] at hwv
    rcases hwv with rfl | rfl | rfl | rfl | rfl
    · exact .non
    · exact .nil ((O1'.same sz).sx s13).at_
    · exact .two ((O4'.same sz).sx s13).at_ ((O2'.same sz).sx s13).at_ ((O3'.same sz).sx s13).at_
    · exact .five ((O5'.same sz).sx s13).at_
    · refine .many (b := a6) ?_
      have z8 := ((O8.same sz).sx s13).at_
      rw [rep1] at z8
      exact z8
  refine tn <| woven_bad hbw fun H14 s14 => ⟨T.mR, fun a ha => ?_⟩
  refine ⟨a, cR, none, _, _, _, rfl, .inl ⟨rfl, upd_same⟩, T.eR, fun u r => r, T.iR, ?_⟩
  have C21 := C20.same (s14.trans (same_new (o := ErX (.ref cR) none a) ha))
  refine ⟨ck, _, _, rfl, rfl, C21.O.at_, (by rw [List.length_replicate]; decide), ?_⟩
  have C22 := C21.add
  clear C16 C17 C18 C19 C20 C21 W0 W1 W2 W3 W4 W5 W6 W7 W8 O1 O2 O3 O4 O5 O8 O1' O2' O3' O4' O5' Oz t1 t2 t3 t4 t5 t6 t7 t8 sz hbw hwv s13 s14 ha hz D13 eN T12 h1 h2 h3 h4 h5 h6 h7 h8
  -- row_spread([1] * 10, 301)
  refine ⟨C22.W.tb, fun H12 eN T12 => ?_⟩
  have C23 := C22.ext eN T12
  refine ⟨(by show 1 ≤ sizeLine; decide), fun a1 h1 => ⟨a1, _, _, rfl, rfl, upd_same, by decide, by decide, (by show 1 * 10 ≤ sizeLine; decide), fun a2 h2 => ?_⟩⟩
  refine tn0 <| spread_many (ns := List.replicate 10 1) (k := 301) upd_same (by decide) (by decide) (by decide) (by decide) (by decide) fun H13 d' s13 hd' => ⟨T.mT, fun a ha => ?_⟩
  have Er : ErC (upd H13 a (ErX (.ref cT) (some d') a)) a cT (some [(("most" : Str), V.int 3000)]) := .inr ⟨d', _, rfl, upd_same, by rw [upd_ne (ne_of_none hd' ha)]; exact hd'⟩
  have C24 := C23.same ((((same_new (o := .lst [.int 1]) h1).trans (same_new (o := .lst (List.replicate (10 : Int).toNat [V.int 1]).flatten) h2)).trans s13).trans (same_new (o := ErX (.ref cT) (some d') a) ha))
  generalize upd H13 a (ErX (.ref cT) (some d') a) = H14 at Er C24 ⊢
  clear C22 C23 eN T12 h1 h2 s13 hd' ha
  -- isinstance(error, TooMany) and error.most == 3000
  refine ⟨_, rfl, .inl ⟨rfl, _, SqL.of C24.O.at_⟩, _, rfl, a, cT, _, _, _, _, rfl, Er, T.eT, fun u r => r, T.iT, true, rfl, iteT ?_⟩
  refine ⟨_, rfl, a, cT, _, _, rfl, Er, T.xf, T.no, rfl, rfl, ?_⟩
  refine ⟨ck, _, _, rfl, rfl, C24.O.at_, (by rw [List.length_replicate]; decide), ?_⟩
  have C25 := C24.add
  -- row_woven([[1] * 31] * 100)
  refine ⟨C25.W.tb, fun H15 eN T15 => ?_⟩
  have C26 := C25.ext eN T15
  refine ⟨(by show 1 ≤ sizeLine; decide), fun a1 h1 => ⟨a1, _, _, rfl, rfl, upd_same, by decide, by decide, (by show 1 * 31 ≤ sizeLine; decide), fun a2 h2 => ⟨(by show 1 ≤ sizeLine; decide), fun a3 h3 => ⟨a3, _, _, rfl, rfl, upd_same, by decide, by decide, (by show 1 * 100 ≤ sizeLine; decide), fun a4 h4 => ?_⟩⟩⟩⟩
  have k1 := same_new (o := .lst [.int 1]) h1
  have k2 := same_new (o := .lst (List.replicate (31 : Int).toNat [V.int 1]).flatten) h2
  have k3 := same_new (o := .lst [.ref a2]) h3
  have k4 := same_new (o := .lst (List.replicate (100 : Int).toNat [V.ref a2]).flatten) h4
  refine tn <| woven_many (a := a2) (n := 100) (k := 31) (by rw [upd_same, rep1]; rfl) ((k3.trans k4) _ _ (by rw [upd_same, rep1]; rfl)) (by decide) (by decide) (by decide) (by decide) (by decide) fun H16 d2 s16 hd2 => ⟨T.mT, fun b hb => ?_⟩
  have Er2 : ErC (upd H16 b (ErX (.ref cT) (some d2) b)) b cT (some [(("most" : Str), V.int 3000)]) := .inr ⟨d2, _, rfl, upd_same, by rw [upd_ne (ne_of_none hd2 hb)]; exact hd2⟩
  have C27 := C26.same ((((k1.trans k2).trans (k3.trans k4)).trans s16).trans (same_new (o := ErX (.ref cT) (some d2) b) hb))
  generalize upd H16 b (ErX (.ref cT) (some d2) b) = H17 at Er2 C27 ⊢
  clear C24 C25 C26 eN T15 h1 h2 h3 h4 k1 k2 k3 k4 s16 hd2 hb Er
  -- isinstance(late, TooMany) and row_woven(..) == [1] * 3000
  refine ⟨_, rfl, .inl ⟨rfl, _, SqL.of C27.O.at_⟩, _, rfl, b, cT, _, _, _, _, rfl, Er2, T.eT, fun u r => r, T.iT, true, rfl, iteT ?_⟩
  refine ⟨(by show 1 ≤ sizeLine; decide), fun a1 h1 => ⟨a1, _, _, rfl, rfl, upd_same, by decide, by decide, (by show 1 * 30 ≤ sizeLine; decide), fun a2 h2 => ⟨(by show 1 ≤ sizeLine; decide), fun a3 h3 => ⟨a3, _, _, rfl, rfl, upd_same, by decide, by decide, (by show 1 * 100 ≤ sizeLine; decide), fun a4 h4 => ?_⟩⟩⟩⟩
  have k1 := same_new (o := .lst [.int 1]) h1
  have k2 := same_new (o := .lst (List.replicate (30 : Int).toNat [V.int 1]).flatten) h2
  have k3 := same_new (o := .lst [.ref a2]) h3
  have k4 := same_new (o := .lst (List.replicate (100 : Int).toNat [V.ref a2]).flatten) h4
  have hsz := size_rep (n := 100) (l := List.replicate 30 (V.int 1)) (by decide)
  rw [List.length_replicate] at hsz
  have h4' : ∀ {H9 : Hp}, (upd H9 a4 (.lst (List.replicate (100 : Int).toNat [V.ref a2]).flatten)) a4 = some (.lst (List.replicate 100 (V.ref a2))) := fun {H9} => by
    rw [upd_same, rep1]
    rfl
  refine tn <| use_woven (.lst h4') (rep_rl (n := 100) (k := 30) ((k3.trans k4) _ _ (by rw [upd_same, rep1]; rfl)) (by decide) (by decide)) (by rw [List.length_replicate]; decide) (by rw [List.length_replicate]; decide) hsz (by decide) fun H18 r s18 _ hr => ?_
  rw [woven_rep (n := 100) (k := 30) (by decide)] at hr
  refine ⟨(by show 1 ≤ sizeLine; decide), fun a5 h5 => ⟨a5, _, _, rfl, rfl, upd_same, by decide, by decide, (by show 1 * 3000 ≤ sizeLine; decide), fun a6 h6 => ?_⟩⟩
  have k5 := same_new (o := .lst [.int 1]) h5
  have k6 := same_new (o := .lst (List.replicate (3000 : Int).toNat [V.int 1]).flatten) h6
  have hA : (upd (upd H18 a5 (.lst [.int 1])) a6 (.lst (List.replicate (3000 : Int).toNat [V.int 1]).flatten)) a6 = some (.lst ((List.replicate (100 * 30) (1 : Int)).map V.int)) := by
    rw [upd_same, rep1, ones_at]
    rfl
  have hB := (k5.trans k6) _ _ hr
  rw [ones_at] at hB
  refine ⟨.list (intsD (List.replicate (100 * 30) 1)), .list (intsD (List.replicate (100 * 30) 1)), .lst (SqL.of hB) (ints_dp _), .lst (SqL.of hA) (ints_dp _), ints_shaped _, ints_shaped _, ?_⟩
  have eY : PyData.eqv (.list (intsD (List.replicate (100 * 30) 1))) (.list (intsD (List.replicate (100 * 30) 1))) = true := SeqAt.eqv_refl (.list (intsD _)) (show PyData.canLay0 (.list (intsD _)) = true from ints_lay _)
  rw [eY]
  have C28 := C27.same (((k1.trans k2).trans (k3.trans k4)).trans (s18.trans (k5.trans k6)))
  refine ⟨ck, _, _, rfl, rfl, C28.O.at_, (by rw [List.length_replicate]; decide), ?_⟩
  have C29 := C28.add
  -- False not in checks
  refine ⟨_, rfl, ck, _, rfl, .inl (SqL.of C29.O.at_), rfl, rfl, ?_⟩
  exact q _
end
end K01

set_option Elab.async false
set_option linter.all false
set_option maxRecDepth 100000
set_option maxHeartbeats 4000000
set_option pp.maxSteps 3000
namespace K01
open PySem PySem.Spec PyProof.Rows L2 Dr Xv LamX
section
variable {P : Program} {w : World} {K : PySem.W.Frag} {mg : Str → Option Value} {base : Heap} {cS cN cR cT fI : Addr} {f c Pt : Addr} {fd : FuncData}
def spLaw (K : PySem.W.Frag) (Pt : Addr) : Sp := fun vs H Q _ => ∃ (a : Addr) (ns : List Int), vs = [.ref a] ∧ SqL K H a (ns.map V.int) ∧ ns.length ≤ 1000 ∧ H Pt = some (.tbl #[]) ∧ ∀ H', Q (.bl true) H'
theorem ok_law (F : FnP K "law" sLaw f fd) (hc : fd.code = .ref c) (G : Fns P w K mg base cS cN cR cT fI) (T : Txt K mg cS cN cR cT fI) (TB : TabB base mg c Pt) : FnOk P w K mg base CX0 10 f fd ["script"] (spLaw K Pt) := by
  obtain ⟨oc, od, dV, kV, doc, pm, an, cdv, ct, osl, rfl, lk, hcd, _, _⟩ := F.ex
  have e : cdv = .ref c := hc
  subst e
  refine fn_of lk hcd scLaw (fun vs H Q E h => ?_) fun A outer s H vs Q E hr h => ?_
  · obtain ⟨a, ns, rfl, _⟩ := h
    rfl
  · obtain ⟨a, ns, rfl, hS, hlen, hT, q⟩ := h
    have hr' : Room 9 (XL P w K mg base f c A outer s H E).A := hr
    obtain ⟨tL, hL, rL⟩ := lap_ok (f := f) (c := c) (A := A) (outer := outer) (s := s) (H := H) (E := E) G T TB hr'
    obtain ⟨tT, hTl, rT⟩ := tail_ok (f := f) (c := c) (A := A) (outer := outer) (s := s) (H := H) (E := E) G T TB hr'
    refine ⟨_, PSs.nox (pss_cons (ps_set (i := 10) scLaw.nd rfl (Or.inr rfl) (pe_call G.GB (hr.mono (by decide)) rfl G.gB G.kB G.bB .nil pass0 (pa_cons (pv 0) pa_nil)))
      (pss_cons (ps_for PassesOwn.never rfl (pi_range1 (by rfl) G.range0 (pa_cons (pe_op op_add pe_int (pe_callB (call_min2 rfl) (by rfl) G.min0 (by decide +kernel) (pa_cons (pe_callB call_len (by rfl) G.len0 PySem.boot_len (pa_cons (pv 0) pa_nil)) (pa_cons pe_int pa_nil)))) pa_nil)) (pg_name (i := 1) scLaw.nd rfl (Or.inl rfl)) hL)
      hTl)), ?_⟩
    refine ⟨_, rfl, a, ns, rfl, hS, hlen, fun d l cc H1 hd hl hcc s1 D1 => ?_⟩
    have W1 : Wd Pt H1 d l cc := ⟨D1, fun p hp => by
      rw [List.mem_singleton.mp hp]
      exact TabS.nil (s1 _ _ hT)⟩
    have hb : ∀ n : Nat, 0 ≤ (if (4 : Int) < (n : Int) then (4 : Int) else (n : Int)) ∧ (if (4 : Int) < (n : Int) then (4 : Int) else (n : Int)) ≤ 4 := fun n => by
      by_cases h4 : (4 : Int) < (n : Int)
      · rw [if_pos h4]
        exact ⟨by decide, by decide⟩
      · rw [if_neg h4]
        omega
    obtain ⟨hb1, hb2⟩ := hb (ns.map V.int).length
    refine ⟨_, rfl, _, _, rfl, .inl ⟨_, s1.seq hS, rfl⟩, _, _, rfl, _, _, rfl, rfl, _, rfl, ?_, ?_, ?_⟩
    · show -(2 ^ 62) ≤ 3 + _
      omega
    · show 3 + _ < 2 ^ 62
      omega
    refine for_range (lo := 0) (n := _) (fun i σ H' => Slots d σ ∧ Wd Pt H' d l cc) ⟨⟨_, _, _, _, _, _, _, _, _, _, _, _, _, _, _, _, rfl⟩, W1⟩ ?_ ?_
    · rintro i σ H2 hi ⟨⟨x0, x1, x2, x3, x4, x5, x6, x7, x8, x9, x11, x12, x13, x14, x15, x16, rfl⟩, W2⟩
      exact rL _ _ _ d l cc ⟨_, _, _, _, _, _, _, _, _, _, _, _, _, _, _, _, rfl⟩ W2 fun σ' H' hs W' => ⟨hs, W'⟩
    · rintro σ H2 ⟨hs, W2⟩
      exact rT _ _ _ d l cc hs W2 fun H' => q H'
end
end K01

set_option Elab.async false
set_option linter.all false
set_option maxRecDepth 100000
set_option maxHeartbeats 0
namespace K01
open PySem PySem.Spec PyProof.Rows L2 Dr Xv LamX
/-! ### the head: facts by names, the run -/
def dd (x : Str) (st : Stmt) : He.DefD := ⟨(x, none), x, x, defArgs st, defBody st, defScope st, [], []⟩
def fn : List He.DefD := [dd "law" sLaw, dd "_law_begun" sBegun, dd "_law_blend" sBlend, dd "_law_take" sTake, dd "_law_pick" sPick, dd "_law_caught" sCaught, dd "_law_some_row" sSome, dd "_law_woven" sLWov,
  dd "is_number" sNum, dd "is_within" sWithin, dd "are_numbers" sNums, dd "is_number_list" sNumL, dd "is_row" sIsRow, dd "check_row" sChk, dd "row_spread" sSpread, dd "row_section" sSect, dd "row_woven" sWoven,
  ⟨("TooMany", some "__init__"), "__init__", "TooMany.__init__", defArgs sInit, defBody sInit, defScope sInit, [], []⟩]
def fa : List He.Fa := [.glo "law", .glo "_law_begun", .glo "_law_blend", .glo "_law_take", .glo "_law_pick", .glo "_law_caught", .glo "_law_some_row", .glo "_law_woven", .glo "is_number", .glo "is_within", .glo "are_numbers", .glo "is_number_list", .glo "is_row", .glo "check_row", .glo "row_spread", .glo "row_section", .glo "row_woven",
  .glo "SeriesError", .glo "BadNumber", .glo "BadRow", .glo "TooMany", .int "LONGEST_ROW" 3001, .int "MOST_ROWS" 360,
  .free "abs", .free "int", .free "bool", .free "all", .free "len", .free "list", .free "tuple", .free "isinstance", .free "min", .free "range", .free "enumerate"]
abbrev R : PySem.W.OpenRow := PySem.W.OpenLaw.row PySem.Challenge.rw_etasure_k01_rows_spread_cut_and_woven
abbrev ga (K : PySem.W.Frag) (x : Str) : Addr := He.ga K x
def up (K : PySem.W.Frag) (x : Str) : List Value := .ref (ga K x) :: .ref (ga K "SeriesError") :: veT
def upS (K : PySem.W.Frag) : List Value := .ref (ga K "SeriesError") :: veT
def ext (K : PySem.W.Frag) : Bool := clsB K (ga K "SeriesError") (upS K) && (clsB K (ga K "BadNumber") (up K "BadNumber") && (clsB K (ga K "BadRow") (up K "BadRow") && (clsB K (ga K "TooMany") (up K "TooMany") &&
  (PySem.W.excIn K (ga K "BadNumber") veT "ValueError.__new__" && (PySem.W.excIn K (ga K "BadRow") veT "ValueError.__new__" &&
  (He.eqO (PySem.W.specialIn K (.builtin "object.__class__") "__get__") (some (some (.builtin "getset_descriptor.__get__"))) && (eqB (PySem.W.takesIn K (.builtin "object.__class__")) (some true) && (oexB K (ga K "TooMany") &&
  (He.eqO (PySem.W.findIn K (.ref (ga K "TooMany")) "__setattr__") (some (some (.builtin "object.__setattr__"))) && (He.eqO (PySem.W.findIn K (.ref (ga K "TooMany")) "__init__") (some (some (.ref (He.ma K (ga K "TooMany") "__init__")))) && (eqV2 (PySem.W.typeIn K (.ref (He.ma K (ga K "TooMany") "__init__"))) (some (.type "function")) &&
  (He.eqO (PySem.W.findIn K (.ref (ga K "TooMany")) "most") (some none) && (PySem.W.readsIn K (ga K "SeriesError") (.type "type") && (He.eqO (PySem.W.specialIn K (.ref (ga K "SeriesError")) "__getattribute__") (some (some (.builtin "type.__getattribute__"))) && cfB (PySem.W.findCls K (.ref (ga K "SeriesError")) (.type "type") "__init__")))))))))))))))
def ob (s : PySem.W.SharedT) : AlE := obsE fa fn ext 4 (HandSHeadRun.getT s)
theorem ob_eq (s : PySem.W.SharedT) : ob s = (hookE fa fn ext 4).obs s.abs := by
  have e : HandSHeadRun.getT s = s.abs.heap.get? := funext (HandSHeadRun.getT_eq s)
  show obsE fa fn ext 4 (HandSHeadRun.getT s) = obsE fa fn ext 4 s.abs.heap.get?
  rw [e]
def loose : List PySem.Str := (List.map Str.ofString ["SeriesError", "BadNumber", "BadRow", "TooMany", "is_number", "is_within", "are_numbers", "is_number_list", "LONGEST_ROW", "MOST_ROWS", "is_row", "check_row", "row_spread", "row_section", "row_woven", "_law_begun", "_law_blend", "_law_take", "_law_pick", "_law_caught", "_law_some_row", "_law_woven"])
theorem txt_of {K : PySem.W.Frag} {h : Heap} {mg : Str → Option Value} (X : K.In h) (G : h.Ns mainGlobals mg) (c : He.SaysD fa fn K) (e : ext K = true) : Txt K mg (ga K "SeriesError") (ga K "BadNumber") (ga K "BadRow") (ga K "TooMany") (He.ma K (ga K "TooMany") "__init__") := by
  unfold ext at e
  simp only [Bool.and_eq_true] at e
  obtain ⟨e1, e2, e3, e4, e5, e6, e7, e8, e9, e10, e11, e12, e13, e14, e15, e16⟩ := e
  have cS := clsB_ok e1
  have cN := clsB_ok e2
  have cR := clsB_ok e3
  have cT := clsB_ok e4
  have ne : ∀ x, up K x ≠ [] := fun x z => by cases z
  have neS : upS K ≠ [] := fun z => by cases z
  have hasT : ∀ (x : Str) (v : Value), veT.contains v = true → (up K x).contains v = true := fun x v hv => by
    unfold up
    rw [List.contains_cons, List.contains_cons, hv, Bool.or_true, Bool.or_true]
  have hasS : ∀ v : Value, veT.contains v = true → (upS K).contains v = true := fun v hv => by
    unfold upS
    rw [List.contains_cons, hv, Bool.or_true]
  have e7' := He.eqO_ok e7
  have e8' : PySem.W.takesIn K (.builtin "object.__class__") = some true := of_decide_eq_true e8
  have xS := cS.excC neS (hasS _ rfl) (hasS _ rfl) e7' e8'
  have xN := cN.excC (ne _) (hasT _ _ rfl) (hasT _ _ rfl) e7' e8'
  have xR := cR.excC (ne _) (hasT _ _ rfl) (hasT _ _ rfl) e7' e8'
  have xT := cT.excC (ne _) (hasT _ _ rfl) (hasT _ _ rfl) e7' e8'
  have subS : ∀ x, (up K x).contains (.ref (ga K "SeriesError")) = true := fun x => by
    unfold up
    rw [List.contains_cons, List.contains_cons]
    simp
  have ex : ∀ x, ClsOk K (ga K x) (up K x) → PySem.W.exmOne K (.ref (ga K x)) (.ref (ga K "SeriesError")) = some true := fun x cx => PySem.W.exm_ref xS.hs xS.hd cS.ty (by rw [cx.sub (ne x), subS x])
  have kit : ∀ x, ClsOk K (ga K x) (up K x) → PySem.W.kitOne K (.ref (ga K x)) (.ref (ga K x)) = some true := fun x cx => cx.kit (ne x) cx (by rw [decide_eq_true rfl]; rfl)
  exact { gS := He.glo_ok X G (c.fact 17 (f := .glo "SeriesError") rfl), gN := He.glo_ok X G (c.fact 18 (f := .glo "BadNumber") rfl), gR := He.glo_ok X G (c.fact 19 (f := .glo "BadRow") rfl), gT := He.glo_ok X G (c.fact 20 (f := .glo "TooMany") rfl)
          xN := e5, xR := e6, kN := cN.kp, kR := cR.kp, bN := xN.hs, bR := xR.hs, tN := cN.ty, tR := cR.ty, mN := ex _ cN, mR := ex _ cR, mT := ex _ cT, eN := xN, eR := xR, eT := xT, iN := kit _ cN, iR := kit _ cR, iT := kit _ cT
          ox := ⟨oexB_ok e9, He.eqO_ok e10, xT.hs, cT.ty, cT.kp⟩, iC := He.eqO_ok e11, tI := of_decide_eq_true e12, xf := ⟨xT.hg, xT.hk, xT.hs, xT.hd⟩, no := He.eqO_ok e13
          kS := cS.kp, rS := e14, sS := He.eqO_ok e15, vS := cfB_ok e16 }
theorem run (w : World) : HandSHeadRun.RunEq R (PySem.W.view R.prog [26]) (hookE fa fn ext 4) ob 20000 loose w := by
  intro os
  kernel_rfl
end K01

set_option Elab.async false
set_option linter.all false
set_option maxRecDepth 100000
set_option maxHeartbeats 0
namespace K01
open PySem PySem.Spec PyProof.Rows L2 Dr Xv LamX
theorem facts {P : Program} {w : World} {K : PySem.W.Frag} {h : Heap} {mg : Str → Option Value} {f : Addr} (X : K.In h) (G : h.Ns mainGlobals mg) (hfa : mg ("law" : Str) = some (.ref f)) (c : He.SaysD fa fn K) (ex : ext K = true) :
    ∃ fd, (∀ (s : Shared) (v : Value), BindsTo s fd ⟨[v], []⟩ [("script", v)]) ∧ ∀ base : Heap, K.In base → base.Ns mainGlobals mg → TabB base mg (He.cT K lawD).1 (He.cT K lawD).2 → FnOk P w K mg base CX0 10 f fd ["script"] (spLaw K (He.cT K lawD).2) := by
  obtain ⟨fd, F⟩ := c.def_ 0 (d := dd "law" sLaw) rfl
  obtain ⟨fdB, FB⟩ := c.def_ 1 (d := dd "_law_begun" sBegun) rfl
  obtain ⟨fdL, FL⟩ := c.def_ 2 (d := dd "_law_blend" sBlend) rfl
  obtain ⟨fdT, FT⟩ := c.def_ 3 (d := dd "_law_take" sTake) rfl
  obtain ⟨fdP, FP⟩ := c.def_ 4 (d := dd "_law_pick" sPick) rfl
  obtain ⟨fdC, FC⟩ := c.def_ 5 (d := dd "_law_caught" sCaught) rfl
  obtain ⟨fdS, FS⟩ := c.def_ 6 (d := dd "_law_some_row" sSome) rfl
  obtain ⟨fdW, FW⟩ := c.def_ 7 (d := dd "_law_woven" sLWov) rfl
  obtain ⟨fd8, F8⟩ := c.def_ 8 (d := dd "is_number" sNum) rfl
  obtain ⟨fd9, F9⟩ := c.def_ 9 (d := dd "is_within" sWithin) rfl
  obtain ⟨fd10, F10⟩ := c.def_ 10 (d := dd "are_numbers" sNums) rfl
  obtain ⟨fd11, F11⟩ := c.def_ 11 (d := dd "is_number_list" sNumL) rfl
  obtain ⟨fd12, F12⟩ := c.def_ 12 (d := dd "is_row" sIsRow) rfl
  obtain ⟨fd13, F13⟩ := c.def_ 13 (d := dd "check_row" sChk) rfl
  obtain ⟨fd14, F14⟩ := c.def_ 14 (d := dd "row_spread" sSpread) rfl
  obtain ⟨fd15, F15⟩ := c.def_ 15 (d := dd "row_section" sSect) rfl
  obtain ⟨fd16, F16⟩ := c.def_ 16 (d := dd "row_woven" sWoven) rfl
  obtain ⟨fdI, FI⟩ := c.def_ 17 rfl
  have e := hfa.symm.trans (He.glo_ok X G (c.fact 0 (f := .glo "law") rfl))
  cases e
  have gB := He.glo_ok X G (c.fact 1 (f := .glo "_law_begun") rfl)
  have gL := He.glo_ok X G (c.fact 2 (f := .glo "_law_blend") rfl)
  have gT := He.glo_ok X G (c.fact 3 (f := .glo "_law_take") rfl)
  have gP := He.glo_ok X G (c.fact 4 (f := .glo "_law_pick") rfl)
  have gC := He.glo_ok X G (c.fact 5 (f := .glo "_law_caught") rfl)
  have gS := He.glo_ok X G (c.fact 6 (f := .glo "_law_some_row") rfl)
  have gW := He.glo_ok X G (c.fact 7 (f := .glo "_law_woven") rfl)
  have g8 := He.glo_ok X G (c.fact 8 (f := .glo "is_number") rfl)
  have g9 := He.glo_ok X G (c.fact 9 (f := .glo "is_within") rfl)
  have g10 := He.glo_ok X G (c.fact 10 (f := .glo "are_numbers") rfl)
  have g11 := He.glo_ok X G (c.fact 11 (f := .glo "is_number_list") rfl)
  have g12 := He.glo_ok X G (c.fact 12 (f := .glo "is_row") rfl)
  have g13 := He.glo_ok X G (c.fact 13 (f := .glo "check_row") rfl)
  have g14 := He.glo_ok X G (c.fact 14 (f := .glo "row_spread") rfl)
  have g15 := He.glo_ok X G (c.fact 15 (f := .glo "row_section") rfl)
  have g16 := He.glo_ok X G (c.fact 16 (f := .glo "row_woven") rfl)
  obtain ⟨tL, gLR⟩ := He.int_ok X G (c.fact 21 (f := .int "LONGEST_ROW" 3001) rfl)
  obtain ⟨tM, gMR⟩ := He.int_ok X G (c.fact 22 (f := .int "MOST_ROWS" 360) rfl)
  have abs0 := He.free_ok X G (c.fact 23 (f := .free "abs") rfl)
  have int0 := He.free_ok X G (c.fact 24 (f := .free "int") rfl)
  have bool0 := He.free_ok X G (c.fact 25 (f := .free "bool") rfl)
  have all0 := He.free_ok X G (c.fact 26 (f := .free "all") rfl)
  have len0 := He.free_ok X G (c.fact 27 (f := .free "len") rfl)
  have list0 := He.free_ok X G (c.fact 28 (f := .free "list") rfl)
  have tuple0 := He.free_ok X G (c.fact 29 (f := .free "tuple") rfl)
  have isi0 := He.free_ok X G (c.fact 30 (f := .free "isinstance") rfl)
  have min0 := He.free_ok X G (c.fact 31 (f := .free "min") rfl)
  have range0 := He.free_ok X G (c.fact 32 (f := .free "range") rfl)
  have enum0 := He.free_ok X G (c.fact 33 (f := .free "enumerate") rfl)
  have T := txt_of X G c ex
  have b := FunD.bindsA (ps := ["script"]) F fun _ _ _ _ _ _ us hl => match us, hl with | [_], _ => rfl
  have bB : L2.Binds K fdB ["script"] [] := FB.bindsN fun _ _ _ _ _ _ us hl => match us, hl with | [_], _ => rfl
  have bT : L2.Binds K fdT ["draw", "size"] [] := FT.bindsN fun _ _ _ _ _ _ us hl => match us, hl with | [_, _], _ => rfl
  have bP : L2.Binds K fdP ["draw", "some"] [] := FP.bindsN fun _ _ _ _ _ _ us hl => match us, hl with | [_, _], _ => rfl
  have bS : L2.Binds K fdS ["draw", "most"] [] := FS.bindsN fun _ _ _ _ _ _ us hl => match us, hl with | [_, _], _ => rfl
  have bW : L2.Binds K fdW ["rows"] [] := FW.bindsN fun _ _ _ _ _ _ us hl => match us, hl with | [_], _ => rfl
  have b8 : L2.Binds K fd8 ["thing"] [] := F8.bindsN fun _ _ _ _ _ _ us hl => match us, hl with | [_], _ => rfl
  have b9 : L2.Binds K fd9 ["thing", "least", "greatest"] [] := F9.bindsN fun _ _ _ _ _ _ us hl => match us, hl with | [_, _, _], _ => rfl
  have b10 : L2.Binds K fd10 ["things"] [] := F10.bindsN fun _ _ _ _ _ _ us hl => match us, hl with | [_], _ => rfl
  have b11 : L2.Binds K fd11 ["thing"] [] := F11.bindsN fun _ _ _ _ _ _ us hl => match us, hl with | [_], _ => rfl
  have b12 : L2.Binds K fd12 ["thing"] [] := F12.bindsN fun _ _ _ _ _ _ us hl => match us, hl with | [_], _ => rfl
  have b13 : L2.Binds K fd13 ["row"] [] := F13.bindsN fun _ _ _ _ _ _ us hl => match us, hl with | [_], _ => rfl
  have b14 : L2.Binds K fd14 ["row", "m"] [] := F14.bindsN fun _ _ _ _ _ _ us hl => match us, hl with | [_, _], _ => rfl
  have b15 : L2.Binds K fd15 ["row", "m", "t"] [] := F15.bindsN fun _ _ _ _ _ _ us hl => match us, hl with | [_, _, _], _ => rfl
  have b16 : L2.Binds K fd16 ["rows"] [] := F16.bindsN fun _ _ _ _ _ _ us hl => match us, hl with | [_], _ => rfl
  have h14 : KBinds K fd14 ["row", "m"] ["m", "row"] gR gR := kbR F14 (by decide) fun _ _ _ _ _ _ ws hl => match ws, hl with | [_, _], _ => rfl
  have h15 : KBinds K fd15 ["row", "m", "t"] ["t", "m", "row"] gR gR := kbR F15 (by decide) fun _ _ _ _ _ _ ws hl => match ws, hl with | [_, _, _], _ => rfl
  have h16 : KBinds K fd16 ["rows"] ["rows"] gR gR := kbR F16 (by decide) fun _ _ _ _ _ _ ws hl => match ws, hl with | [_], _ => rfl
  refine ⟨fd, fun s v => b s [v] rfl, fun base _ _ TB => ?_⟩
  have GT : FnOk P w K mg base CX0 2 _ fdT ["draw", "size"] spTake := ok_take FT int0 FL gL
  have GP : FnOk P w K mg base CX0 3 _ fdP ["draw", "some"] (spPick K) := ok_pick FP len0 GT bT gT FT.kp
  have G8 : FnOk P w K mg base CX0 1 _ fd8 ["thing"] spNum := ok_num F8 isi0 int0 bool0
  have G9 := ok_within F9 G8 b8 g8 F8.kp
  have G10 := ok_nums F10 all0 G8 b8 g8 F8.kp
  have G11 := ok_numL F11 isi0 list0 tuple0 G10 b10 g10 F10.kp
  have G12 := ok_isRow F12 len0 gLR G11 b11 g11 F11.kp
  have G13 := ok_chk F13 T G12 b12 g12 F12.kp
  have G14 := ok_spread F14 T FI len0 enum0 gLR gMR G13 b13 g13 F13.kp G9 b9 g9 F9.kp
  have G15 := ok_sect F15 T len0 list0 gMR G13 b13 g13 F13.kp G9 b9 g9 F9.kp
  have G16 := ok_woven F16 T FI len0 isi0 list0 tuple0 min0 range0 enum0 gLR gMR G13 b13 g13 F13.kp
  have hc : fd.code = .ref (He.cT K lawD).1 := by
    obtain ⟨oc, od, dV, kV, doc, pm, an, cdv, ct, osl, rfl, lk, hcd, _, _⟩ := F.ex
    obtain ⟨c0, rfl⟩ := He.codeIn_ref hcd
    have z := He.codeOf_eq (p := lawD) (c := c0) lk rfl
    show Value.ref c0 = Value.ref (He.codeOf K lawD)
    rw [z]
  exact ok_law F hc { fb := _, ft := _, fp := _, fs := _, fw := _, fsp := _, fse := _, fwo := _, fc := _, fdb := _, fdt := _, fdp := _, fds := _, fdw := _, fdsp := _, fdse := _, fdwo := _, fdc := _
                      GB := ok_begun FB abs0, bB := bB, gB := gB, kB := FB.kp, GT := GT, bT := bT, gT := gT, kT := FT.kp, GP := GP, bP := bP, gP := gP, kP := FP.kp, GS := ok_some FS range0 GT bT gT FT.kp, bS := bS, gS := gS, kS := FS.kp
                      GW := ok_lwov FW len0, bW := bW, gW := gW, kW := FW.kp, GSp := G14, bSp := b14, hSp := h14, gSp := g14, kSp := F14.kp, GSe := G15, bSe := b15, hSe := h15, gSe := g15, kSe := F15.kp, GWo := G16, bWo := b16, hWo := h16, gWo := g16, kWo := F16.kp
                      FC := FC, gC := gC, isi0 := isi0, len0 := len0, range0 := range0, min0 := min0, enum0 := enum0, tuple0 := tuple0 } T TB
end K01
open PySem PySem.W PySem.Calls PyProof.Rows
theorem PySem.Challenge.cw_etasure_k01_rows_spread_cut_and_woven_holds : PySem.Challenge.rw_etasure_k01_rows_spread_cut_and_woven.Holds := by
  w_on; o_law
  refine HandSHeadRun.head_any (r := OpenLaw.row PySem.Challenge.rw_etasure_k01_rows_spread_cut_and_woven) (q := view (OpenLaw.row PySem.Challenge.rw_etasure_k01_rows_spread_cut_and_woven).prog [26]) (H := Xv.hookE K01.fa K01.fn K01.ext 4) (ob := K01.ob) (M := 20000) (loose := K01.loose) (d := HandSHeadRun.topDef (OpenLaw.row PySem.Challenge.rw_etasure_k01_rows_spread_cut_and_woven).prog 26) (kwd := []) K01.ob_eq
    (by kernel_rfl) (fun s => by kernel_rfl) K01.run (by kernel_rfl) (by kernel_rfl) (by kernel_rfl) (by rfl) (by first | assumption | decide +kernel) (by decide +kernel) ⟨rfl, rfl, rfl, rfl, rfl, by decide +kernel⟩ ?hw ?hc
  case hw => w_witness2
  case hc =>
    refine LamX.walk_ofTsE (l := PySem.Challenge.rw_etasure_k01_rows_spread_cut_and_woven) (n := 63) (k := 10) (x := "script") (CX := fun _ => L2.CX0) rfl (by decide) (by kernel_rfl) ⟨rfl, by decide, by decide⟩ ?F (fun _ _ _ _ _ h => h)
    intro w mg fa h Y G hmg0
    obtain ⟨K, KX, c⟩ := Y
    have hmg : mg ("law" : PySem.Str) = some (.ref fa) := by
      have e : (HandSHeadRun.topDef (OpenLaw.row PySem.Challenge.rw_etasure_k01_rows_spread_cut_and_woven).prog 26).name = ("law" : PySem.Str) := by kernel_rfl
      rw [← e]
      exact hmg0
    obtain ⟨fd, hb, hF⟩ := K01.facts (P := (PySem.Challenge.rw_etasure_k01_rows_spread_cut_and_woven).prog) (w := w) KX G hmg c.d c.more
    refine ⟨K, KX, fd, [He.cT K Xv.lawD], K01.spLaw K (He.cT K Xv.lawD).2, fun p hp => ?_, fun p hp => ?_, fun p hp => ?_, hb, fun H a ns hl _ hT hS => ⟨a, ns, rfl, hS, by omega, hT _ (List.mem_singleton.mpr rfl), fun _ => rfl⟩, fun base hK hN hTB => hF base hK hN (hTB _ (List.mem_singleton.mpr rfl))⟩
    · rw [List.mem_singleton.mp hp]
      exact c.empty
    · rw [List.mem_singleton.mp hp]
      exact c.out
    · rw [List.mem_singleton.mp hp]
      exact PySem.W.codeHd_of_K KX c.hd
